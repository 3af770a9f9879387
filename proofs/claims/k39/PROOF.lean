import PyProof.Rows.All
import Wide.All
import OpenK.AllK
import Wide.FinOn
import Lean
import PyProof.EqAt
import PyProof.EqKinds
import PyProof.TupleCall
import PyProof.SetKind
import PyProof.Rows.SortShell
import PyProof.SetRoads
import PyProof.ListNew
import PyProof.CollectWalk
import PyProof.Rows.SetFrom
import PyProof.NeKinds
import PyProof.IsiHeapPairs
import PyProof.IsiNone
import PyProof.IsiPairs
import PyProof.ZipIter
import PyProof.Draws
import PyProof.WalksMore
import PyProof.EnumMake
import PyProof.EnumFor
import PyProof.ListRange
import PyProof.RangeFor
import PyProof.DictUpdate
import PyProof.DictItemsLoops
import PyProof.DictWalks
import PyProof.DictIter
import PyProof.P3Eq
import PyProof.P3In
import PyProof.NeData
import KE.KTryMore
import PyProof.ExcArgsOwn
import PyProof.StrOps2
import PyProof.TupleKey
import PyProof.DictFindH
import PyProof.MeetsDict
import PyProof.Rows.RuleN_abs
import PySem.Challenge.RW_fenlevel_k39_whole_numbers_are_given_onc
set_option linter.all false
def YAa:=@PySem.wpAny_bind
def YAb:=@PySem.Heap.get?_push_of_some
def YAc:=@List.length_map
def YAd:=@List.getElem?_eq_some_iff
def YAe:=@PySem.wpAny_pure
def YAf:=@List.mem_cons_of_mem
def YAg:=@List.map_cons
def YAh:=@List.getElem?_set_self
def YAi:=@List.getElem?_set_ne
def YAj:=@PySem.Heap.lt_size
def YAk:=@List.getElem?_eq_getElem
def YAl:=@List.size_toArray
def YAm:=@Nat.le_refl
def YAn:=@PySem.Heap.get?_push_size
def YAo:=@Nat.lt_of_lt_of_le
def YAp:=@List.length_append
def YAq:=@decide_eq_false
def YAr:=@Nat.ne_of_lt
def YAs:=@List.mem_cons_self
def YAt:=@List.getElem?_map
def YAu:=@List.mem_cons
def YAv:=@List.map_eq_cons_iff
def YAw:=@List.getElem?_cons_succ
def YAx:=@PySem.W.mg_of
def YAy:=@decide_eq_true
def YAz:=@List.length_cons
def YAA:=@Bool.and_eq_true
def YAB:=@Nat.le_trans
def YAC:=@List.not_mem_nil
def YAD:=@List.mem_append_right
def YAE:=@PySem.wpAny_callSpecial?_slot
def YAF:=@List.mem_singleton
def YAG:=@List.filterMap_cons
def YAH:=@List.map_map
def YAI:=@List.lookup_cons
def YAJ:=@PyProof.Rows.slot_tuple_getitem
def YAK:=@List.map_nil
def YAL:=@beq_eq_false_iff_ne
def YAM:=@List.nodup_cons
def YAN:=@PySem.wpAny_newObj_type
def YAO:=@Ne.symm
def YAP:=@PySem.wpAny_field
def YAQ:=@PySem.sizeLine_eq
def YAR:=@List.append_nil
def YAS:=@List.mem_map
def YAT:=@PySem.wpAny_mono
def YAU:=@Int.emod_lt_of_pos
def YAV:=@List.mem_append
def YAW:=@List.map_append
def YAX:=@PySem.wpAny_call_entry
def YAY:=@PySem.mem_of_lookup
def YAZ:=@of_decide_eq_true
def YA0:=@List.length_range
def YA1:=@PySem.F.slot_dict_keyiterator_next
def YA2:=@Nat.lt_irrefl
def YA3:=@PySem.wpAny_holding
def YA4:=@Bool.false_ne_true
def YA5:=@PySem.wpAny_Call_Name_kw
def YA6:=@List.getElem?_replicate
def YA7:=@Bool.false_eq_true
def YA8:=@PySem.F.plainAttrs_list
def YA9:=@PySem.W.segRun_of
def YBa:=@Array.length_toList
def YBb:=@List.replicate_succ
def YBc:=@List.getElem?_append_left
def YBd:=@PySem.wpAny_seqItems
def YBe:=@Array.getElem?_eq_getElem
def YBf:=@PySem.Heap.get?_update_self
def YBg:=@Int.emod_nonneg
def YBh:=@PySem.wpAny_setField_rec
def YBi:=@PySem.wpAny_typeNameOfWhole_keyiter
def YBj:=@List.getElem_mem
def YBk:=@Int.eq_ofNat_of_zero_le
def YBl:=@List.flatten_cons
def YBm:=@List.length_zip
def YBn:=@PySem.Heap.get?_update_other
def YBo:=@PyProof.Rows.boot_list
def YBp:=@List.getElem?_append_right
def YBq:=@PySem.F.slot_tuple_iterator_next
def YBr:=@PySem.Heap.size_push
def YBs:=@List.drop_eq_getElem_cons
def YBt:=@PySem.wpAny_truthy_bool
def YBu:=@Int.toNat_natCast
def YBv:=@Nat.zero_le
def YBw:=@List.map_singleton
def YBx:=@Nat.ne_of_gt
def YBy:=@PyProof.Rows.callWith_type1
def YBz:=@Array.getElem?_toList
def YBA:=@List.find?_cons
def YBB:=@PySem.F.slot_zip_next
def YBC:=@Nat.min_self
def YBD:=@List.contains_iff_mem
def YBE:=@if_false
def YBF:=@List.mem_append_left
def YBG:=@List.all_eq_true
def YBH:=@List.filter_cons
def YBI:=@PySem.Heap.SameBut.update
def YBJ:=@List.map_eq_nil_iff
def YBK:=@PySem.F.args_tuple_add_2
def YBL:=@PySem.F.slot_list_append
def YBM:=@PySem.F.type_list_append
def YBN:=@PySem.wpAny_passesOwn
def YBO:=@PySem.F.entry_tuple_add
def YBP:=@List.length_set
def YBQ:=@PySem.Obj.data_mapFields
def YBR:=@or_false
def YBS:=@PySem.F.slot_tuple_add
def YBT:=@PyProof.Rows.boot_dict
def YBU:=@if_true
def YBV:=@List.append_assoc
def YBW:=@PySem.wpAny_pyIter_list
def YBX:=@List.length_singleton
def YBY:=@Nat.lt_succ_self
def YBZ:=@Nat.min_le_right
def YB0:=@PySem.wpAny_isInstance
def YB1:=@Nat.le_add_right
def YB2:=@PySem.wpAny_updateSeq_pair
def YB3:=@Bool.and_eq_true_iff
def YB4:=@List.forall_mem_cons
def YB5:=@PySem.wpAny_standAt
def YB6:=@List.any_cons
def YB7:=@PySem.wpAny_onRaise
def YB8:=@PySem.wpAny_attempt
def YB9:=@PySem.wpAny_rule
def YCa:=@beq_iff_eq
def YCb:=@PySem.wpAny_execs_nil
def YCc:=@PySem.W.plainGet_of
def YCd:=@PySem.W.callWith_K0
def YCe:=@List.nil_append
def YCf:=@List.forIn_cons
def YCg:=@List.map_congr_left
def YCh:=@PyProof.Rows.assignInOrder_cons
def YCi:=@List.mem_filterMap
def YCj:=@PySem.W.callWith_K
def YCk:=@PySem.wpAny_typeOf
def YCl:=@List.mem_range
def YCm:=@PySem.wpAny_setField
def YCn:=@PySem.wpAny_Name
def YCo:=@PySem.F.args_zip_next_1
def YCp:=@Option.some.injEq
def YCq:=@Nat.lt_succ_of_lt
def YCr:=@PySem.wpAny_dictEntries
def YCs:=@List.length_take
def YCt:=@PySem.noFill_tuple_add
def YCu:=@List.zipIdx_cons
def YCv:=@PySem.F.entry_zip_next
def YCw:=@List.drop_length
def YCx:=@List.mem_filter
def YCy:=@PySem.codeAny_mono
def YCz:=@List.of_mem_zip
def YCA:=@PySem.wpAny_specialOf
def YCB:=@List.zipIdx_nil
def YCC:=@Option.map_some
def YCD:=@PySem.wpAny_dictEpoch
def YCE:=@PySem.wpAny_updateSeq
def YCF:=@decide_false
def YCG:=@Int.ediv_nonneg
def YCH:=@PySem.call_meets
def YCI:=@List.forIn_nil
def YCJ:=@PySem.isSubtype_stop
def YCK:=@Nat.mul_le_mul
def YCL:=@PySem.wpAny_letGo
set_option Elab.async false
set_option linter.all false
set_option maxRecDepth 100000
namespace L2
open PySem PySem.Spec PyProof.Rows
abbrev Key:=Sum Int Str
def zjS:Key->Value->Bool
 | .inl k,v=>Value.isInt k v
 | .inr x,v=>Value.isStrOf x v
def keyH (w:World):Key->Int
 | .inl k=>hashInt k
 | .inr x=>hashStr w x
theorem zaZ:∀ {k:Key} {v:Value},zjS k v = true->(∃ i t,k = Sum.inl i/\v = Value.int i t)\/(∃ x t,k = Sum.inr x/\v = Value.str x t)
 | .inl i,v,h=>by
  obtain ⟨t,e⟩:=Value.isInt_shape (k:=i) (v:=v) h;exact .inl ⟨i,t,rfl,e⟩
 | .inr x,v,h=>by
  obtain ⟨t,e⟩:=Value.isStrOf_shape (x:=x) (v:=v) h;exact .inr ⟨x,t,rfl,e⟩
theorem zlU (i:Int) (t:Tok):zjS (.inl i) (.int i t) = true:=by simp [zjS,Value.isInt]
theorem zf8 (x:Str) (t:Tok):zjS (.inr x) (.str x t) = true:=by simp [zjS,Value.isStrOf]
theorem zso (a b:Int):decide ((Sum.inl a:Key) = Sum.inl b) = (a == b):=by
 by_cases e:a = b
 ·subst e;simp
 ·have h:¬ (Sum.inl a:Key) = Sum.inl b:=λq=>e (Sum.inl.inj q);rw [YAq h];exact (YAL.mpr e).symm
theorem zrs (a b:Str):decide ((Sum.inr a:Key) = Sum.inr b) = decide (a = b):=by
 by_cases e:a = b
 ·subst e;simp
 ·have h:¬ (Sum.inr a:Key) = Sum.inr b:=λq=>e (Sum.inr.inj q);rw [YAq h,YAq e]
theorem zri (a:Int) (b:Str):decide ((Sum.inl a:Key) = Sum.inr b) = false:=YAq (λq=>nomatch q)
theorem zsA (a:Str) (b:Int):decide ((Sum.inr a:Key) = Sum.inl b) = false:=YAq (λq=>nomatch q)
def zaS (prog:Program) (w:World):PySem.KeyKind prog w Key where
 is:=zjS
 hash:=keyH w
 inj:=λv a b ha hb=>by
  rcases zaZ ha with ⟨i,t,rfl,rfl⟩ | ⟨x,t,rfl,rfl⟩
  ·rcases zaZ hb with ⟨j,u,rfl,e⟩ | ⟨y,u,rfl,e⟩
   ·injection e with e1 _;rw [e1]
   ·exact nomatch e
  ·rcases zaZ hb with ⟨j,u,rfl,e⟩ | ⟨y,u,rfl,e⟩
   ·exact nomatch e
   ·injection e with e1 _;rw [e1]
 byValue:=λk v h=>by
  rcases zaZ h with ⟨i,t,rfl,rfl⟩ | ⟨x,t,rfl,rfl⟩ <;> rfl
 pyHash:=λhv h=>by
  rcases zaZ hv with ⟨i,t,rfl,rfl⟩ | ⟨x,t,rfl,rfl⟩
  ·exact wpAny_pyHash_int h
  ·exact wpAny_pyHash_str h
 eqBool:=λhu hv h=>by
  rcases zaZ hu with ⟨i,t,rfl,rfl⟩ | ⟨x,t,rfl,rfl⟩
  ·rcases zaZ hv with ⟨j,u,rfl,rfl⟩ | ⟨y,u,rfl,rfl⟩
   ·rw [zso] at h;exact wpAny_eqBool_int h
   ·rw [zri] at h;exact SeqAt.EqAt.int_str i t y u _ _ _ _ h
  ·rcases zaZ hv with ⟨j,u,rfl,rfl⟩ | ⟨y,u,rfl,rfl⟩
   ·rw [zsA] at h;exact SeqAt.EqAt.str_int x t j u _ _ _ _ h
   ·rw [zrs] at h;exact wpAny_eqBool_str h
 «strs»:=λk x t v h=>by
  rcases zaZ h with ⟨i,u,rfl,e⟩ | ⟨y,u,rfl,e⟩
  ·exact nomatch e
  ·injection e with e1 _
   subst e1;cases v <;> rfl
theorem zjM (prog:Program) (w:World) (i:Int) (t:Tok):(zaS prog w).is (.inl i) (.int i t) = true:=zlU i t
theorem zjo (prog:Program) (w:World) (x:Str) (t:Tok):(zaS prog w).is (.inr x) (.str x t) = true:=zf8 x t
inductive V where
 | non | bl (b:Bool) | int (i:Int) | str (x:Str) | byt (b:Array UInt8) | flt (b:UInt64) | ref (a:Addr) | ty (n:String)
 deriving DecidableEq
def RelV:V->Value->Prop
 | .non,u=>u = Value.none
 | .bl b,u=>u = Value.bool b
 | .int i,u=>∃ t,u = Value.int i t
 | .str x,u=>∃ t,u = Value.str x t
 | .byt b,u=>∃ t,u = Value.bytes b t
 | .flt b,u=>∃ t,u = Value.float b t
 | .ref a,u=>u = Value.ref a
 | .ty n,u=>u = Value.type n
abbrev Vals:List V->List Value->Prop:=Paired RelV
theorem Vals.length {xs:List V} {us:List Value} (r:Vals xs us):xs.length = us.length:=Paired.length r
theorem Vals.get:∀ {xs:List V} {us:List Value} {i:Nat} {x:V},Vals xs us->xs[i]? = some x->∃ u,us[i]? = some u/\RelV x u
 | _,_,_,_,.nil,e=>by simp at e
 | _,_,0,_,.cons r _,e=>by simp at e;subst e;exact ⟨_,rfl,r⟩
 | _,_,i + 1,x,.cons _ t,e=>by
  obtain ⟨u,h1,h2⟩:=Vals.get (i:=i) (x:=x) t (by simpa using e);exact ⟨u,by simpa using h1,h2⟩
theorem Vals.set  (r:RelV x u):∀ {xs:List V} {us:List Value} (i:Nat),Vals xs us->Vals (xs.set i x) (us.set i u)
 | _,_,_,.nil=>.nil
 | _,_,0,.cons _ t=>.cons r t
 | _,_,i + 1,.cons q t=>.cons q (Vals.set r i t)
theorem Vals.append:∀ {xs ys:List V} {us ws:List Value},Vals xs us->Vals ys ws->Vals (xs ++ ys) (us ++ ws)
 | _,_,_,_,.nil,s=>s
 | _,_,_,_,.cons r t,s=>.cons r (Vals.append t s)
theorem Vals.take:∀ {xs:List V} {us:List Value} (n:Nat),Vals xs us->Vals (xs.take n) (us.take n)
 | _,_,0,_=>.nil
 | _,_,_ + 1,.nil=>.nil
 | _,_,n + 1,.cons r t=>.cons r (Vals.take n t)
theorem Vals.drop:∀ {xs:List V} {us:List Value} (n:Nat),Vals xs us->Vals (xs.drop n) (us.drop n)
 | _,_,0,r=>r
 | _,_,_ + 1,.nil=>.nil
 | _,_,n + 1,.cons _ t=>Vals.drop n t
def RelO:Option V->Option Value->Prop
 | some v,some u=>RelV v u
 | none,none=>True
 | _,_=>False
def KV {κ:Type}:List (κ × V)->List (κ × Value)->Prop:=Paired λ(p:κ × V) (q:κ × Value)=>p.1 = q.1/\RelV p.2 q.2
def kV:Key->V
 | .inl i=>.int i
 | .inr x=>.str x
inductive HO where
 /-- a list -/
 | lst (xs:List V)
 /-- a tuple (never changes) -/
 | tup (xs:List V)
 /-- a dict whose keys are ints and texts;one whose keys are tuples of ints and texts (the empty one is both) -/
 | dK (kvs:List (Key × V)) | dT (kvs:List (List Key × V))
 /-- a set of ints: its members,its size -/
 | set (S:Int->Bool) (n:Nat)
 /-- an instance of the class at C,its dict at dx,its attributes -/
 | ins (C dx:Addr) (fs:List (Str × V))
 /-- the dict of the instance at x -/
 | own (x:Addr)
 /-- the dict of an exception -/
 | xd (fs:List (Str × V))
 /-- a bound method,f of x -/
 | met (f x:Addr)
 /-- a range object lo,lo + 1,.. below hi -/
 | rng (lo hi:Int)
 /-- a thing that is known to the object (the script;a dict while a loop walks it): read,never written while it is so -/
 | frz (o:Obj) (u:HO)
 /-- a code object's table -/
 | tbl (ps:Array Value)
 /-- any other thing,by what is true of its one object (a def of one's own: SetO a S n:=HO.ext λh=>..) -/
 | ext (φ:Heap->Prop)
abbrev Hp:=Addr->Option HO
def upd (H:Hp) (a:Addr) (o:HO):Hp:=λb=>if b = a then some o else H b
theorem zae  : upd H a o a = some o:=by unfold upd;rw [if_pos rfl]
theorem upd_ne  (h:b ≠ a):upd H a o b = H b:=by unfold upd;rw [if_neg h]
theorem zjp  : upd (upd H a o) a u = upd H a u:=by
 funext b;unfold upd;split <;> rfl
theorem ztr {H:Hp} {a b:Addr} {o u:HO} (h:H a = some o) (h':H b = some u) (d:o ≠ u):a ≠ b:=by
 intro e;subst e;rw [h] at h';exact d (Option.some.inj h')
theorem zaw {H:Hp} {a b:Addr} {o:HO} (h:H a = some o) (h':H b = none):a ≠ b:=by
 intro e;subst e;rw [h] at h';cases h'
section
variable (P:Program) (w:World)
def ObjOk (H:Hp) (h:Heap) (a:Addr):HO->Prop
 | .lst xs=>xs.length <= sizeLine/\∃ (its:List Value) (n:Nat),Vals xs its/\h.get? a = some { cls:=.type "list",data:=.seq its.toArray n }
 | .tup xs=>xs.length <= sizeLine/\∃ its:List Value,Vals xs its/\IsTup h a its.toArray
 | .dK kvs=>kvs.length <= sizeLine/\(a == sysModules) = false/\∃ vs,KV kvs vs/\h.DictOf (zaS P w) a vs
 | .dT kvs=>kvs.length <= sizeLine/\(a == sysModules) = false/\∃ xs:List (List Key × Addr × Value),
   Paired (λ(p:List Key × V) (q:List Key × Addr × Value)=>p.1 = q.1/\H q.2.1 = some (.tup (p.1.map kV))/\RelV p.2 q.2.2) kvs xs /\
   ∃ o es ep,h.get? a = some o/\o.ExactDict/\o.data = .dict es ep/\es.toList = xs.map (entryOfKey (tupleKind (zaS P w)))/\(xs.map (·.1)).Nodup
 | .set S n=>h.SetOf (intKind P w) a S n
 | .ins C dx fs=>H dx = some (.own a)/\fs.length <= 1000/\dx ≠ a/\h.get? a = some (PySem.W.instObj C dx) /\
   ∃ mA,h.Ns1 dx mA/\(∀ f,RelO (fs.lookup f) (mA f))/\PySem.Within mA (fs.map (·.1))
 | .own _=>∃ o,h.get? a = some o
 | .xd fs=>∃ mA,h.Ns1 a mA/\∀ f,RelO (fs.lookup f) (mA f)
 | .rng lo hi=>∃ t u v,h.get? a = some { cls:=.type "range",data:=.fields #[.int lo t,.int hi u,.int 1 v] }
 | .frz o u=>h.get? a = some o/\ObjOk H h a u
 | .tbl ps=>h.get? a = some { cls:=.none,data:=.fields ps }
 | .met f x=>h.get? a = some (PySem.W.methodObj (.ref f) (.ref x))
 | .ext φ=>φ h/\(∃ o,h.get? a = some o)/\∀ h1 h2:Heap,φ h1->(∀ o,h1.get? a = some o->h2.get? a = some o)->φ h2
def HOk (H:Hp) (h:Heap):Prop:=∀ a o,H a = some o->ObjOk P w H h a o
end
section
variable {P:Program} {w:World} {H H':Hp} {h h':Heap} {a:Addr} {o:HO}
theorem ObjOk.lt (x:ObjOk P w H h a o):a < h.objs.size:=by
 cases o with
 | lst xs=>obtain ⟨_,_,_,_,e⟩:=x;exact YAj e
 | tup xs=>obtain ⟨_,_,_,p⟩:=x;exact p.lt
 | dK kvs=>obtain ⟨_,_,_,_,o,_,_,e,_⟩:=x;exact YAj e
 | dT kvs=>obtain ⟨_,_,_,_,o,_,_,e,_⟩:=x;exact YAj e
 | set S n=>obtain ⟨o,_,_,_,e,_⟩:=x;exact YAj e
 | ins C dx fs=>obtain ⟨_,_,_,e,_⟩:=x;exact YAj e
 | own y=>obtain ⟨_,e⟩:=x;exact YAj e
 | xd fs=>obtain ⟨_,⟨_,_,_,e,_⟩,_⟩:=x;exact YAj e
 | rng lo hi=>obtain ⟨_,_,_,e⟩:=x;exact YAj e
 | frz ob u=>obtain ⟨e,_⟩:=x;exact YAj e
 | tbl ps=>exact YAj (show h.get? a = some _ from x)
 | met f y=>exact YAj (show h.get? a = some _ from x)
 | ext φ=>obtain ⟨_,⟨_,e⟩,_⟩:=x;exact YAj e
theorem Paired.mapP {α β:Type} {F G:α->β->Prop}:∀ {l₁:List α} {l₂:List β},Paired F l₁ l₂->(∀ a b,F a b->G a b)->Paired G l₁ l₂
 | _,_,.nil,_=>.nil
 | _,_,.cons r t,f=>.cons (f _ _ r) (Paired.mapP t f)
theorem ObjOk.stay (x:ObjOk P w H h a o) (k:∀ b u,(b = a\/H b = some (.own a))->h.get? b = some u->h'.get? b = some u)
  (ho:∀ b,H b = some (.own a)->H' b = some (.own a)) (ht:∀ b xs,H b = some (.tup xs)->H' b = some (.tup xs)):ObjOk P w H' h' a o:=by
 induction o with
 | lst xs=>obtain ⟨z,its,n,r,e⟩:=x;exact ⟨z,its,n,r,k _ _ (.inl rfl) e⟩
 | tup xs=>obtain ⟨z,its,r,ob,e,c⟩:=x;exact ⟨z,its,r,ob,k _ _ (.inl rfl) e,c⟩
 | dK kvs=>obtain ⟨z,y,vs,r,ob,es,ep,e,c⟩:=x;exact ⟨z,y,vs,r,ob,es,ep,k _ _ (.inl rfl) e,c⟩
 | dT kvs=>
  obtain ⟨z,y,xs,r,ob,es,ep,e,c⟩:=x;exact ⟨z,y,xs,Paired.mapP r λp q z=>⟨z.1,ht _ _ z.2.1,z.2.2⟩,ob,es,ep,k _ _ (.inl rfl) e,c⟩
 | set S n=>obtain ⟨ob,es,ep,t,e,c⟩:=x;exact ⟨ob,es,ep,t,k _ _ (.inl rfl) e,c⟩
 | ins C dx fs=>
  obtain ⟨d,z,ne,e,mA,⟨od,es,ep,e2,c⟩,r⟩:=x;exact ⟨ho _ d,z,ne,k _ _ (.inl rfl) e,mA,⟨od,es,ep,k _ _ (.inr d) e2,c⟩,r⟩
 | own y=>obtain ⟨ob,e⟩:=x;exact ⟨ob,k _ _ (.inl rfl) e⟩
 | xd fs=>obtain ⟨mA,⟨od,es,ep,e,c⟩,r⟩:=x;exact ⟨mA,⟨od,es,ep,k _ _ (.inl rfl) e,c⟩,r⟩
 | rng lo hi=>obtain ⟨t,u,v,e⟩:=x;exact ⟨t,u,v,k _ _ (.inl rfl) e⟩
 | frz ob u ih=>obtain ⟨e,q⟩:=x;exact ⟨k _ _ (.inl rfl) e,ih q⟩
 | tbl ps=>
  have e:h.get? a = some { cls:=.none,data:=.fields ps }:=x;show h'.get? a = some { cls:=.none,data:=.fields ps };exact k a _ (.inl rfl) e
 | met f y=>
  have e:h.get? a = some (PySem.W.methodObj (.ref f) (.ref y)):=x;show h'.get? a = some (PySem.W.methodObj (.ref f) (.ref y));exact k a _ (.inl rfl) e
 | ext φ=>obtain ⟨p,⟨o,e⟩,st⟩:=x;exact ⟨st _ _ p λo q=>k _ _ (.inl rfl) q,⟨o,k _ _ (.inl rfl) e⟩,st⟩
theorem HOk.lt (x:HOk P w H h) (e:H a = some o):a < h.objs.size:=(x a o e).lt
theorem HOk.fresh (x:HOk P w H h) (e:h.objs.size <= a):H a = none:=by
 cases q:H a with
 | none=>rfl
 | some u=>exact absurd (YAo (x.lt q) e) (YA2 _)
theorem HOk.kept (x:HOk P w H h) (k:∀ b u,h.get? b = some u->h'.get? b = some u):HOk P w H h':=λa o e=>
 (x a o e).stay (λb u _ q=>k b u q) (λ_ q=>q) λ_ _ q=>q
theorem HOk.laid (x:HOk P w H h) (k:∀ b u,h.get? b = some u->h'.get? b = some u) (hp:h.objs.size <= a) (new:ObjOk P w (upd H a o) h' a o):HOk P w (upd H a o) h':=λb u e=>by
 have hn:=x.fresh hp;by_cases hb:b = a
 ·subst hb;rw [zae] at e;cases e;exact new
 ·rw [upd_ne hb] at e;exact (x b u e).stay (λc v _ q=>k c v q) (λc q=>by rw [upd_ne (zaw q hn)];exact q) λc xs q=>by rw [upd_ne (zaw q hn)];exact q
end
def Rd (H:Hp) (a:Addr) (u:HO):Prop:=H a = some u\/∃ o,H a = some (.frz o u)
theorem Rd.ok {P:Program} {w:World} {H:Hp} {h:Heap} {a:Addr} {u:HO} (r:Rd H a u) (x:HOk P w H h):ObjOk P w H h a u:=by
 rcases r with r | ⟨o,r⟩
 ·exact x a u r
 ·obtain ⟨_,q⟩:=x a _ r;exact q
def Mut:Option HO->Prop
 | some (.lst _)=>True
 | some (.dK _)=>True
 | some (.dT _)=>True
 | some (.set _ _)=>True
 | some (.ins _ _ _)=>True
 | some (.ext _)=>True
 | _=>False
section
variable {P:Program} {w:World} {H:Hp} {h h':Heap} {x e:Addr} {o':HO}
theorem HOk.write (ok:HOk P w H h) (mu:Mut (H x)) (he:e = x\/H e = some (.own x)) (k:∀ b u,b ≠ e->h.get? b = some u->h'.get? b = some u) (heo:∃ u,h'.get? e = some u)
  (new:ObjOk P w (upd H x o') h' x o'):HOk P w (upd H x o') h':=λb u q=>by
 have nown:∀ c y,H c = some (.own y)->c ≠ x:=λc y r z=>by subst z;rw [r] at mu;exact mu
 have ntup:∀ c xs,H c = some (.tup xs)->c ≠ x:=λc xs r z=>by subst z;rw [r] at mu;exact mu
 by_cases hb:b = x
 ·subst hb;rw [zae] at q;cases q;exact new
 ·rw [upd_ne hb] at q;by_cases hbe:b = e
  ·have q':H b = some (.own x):=by
    rcases he with z | z
    ·exact absurd (hbe.trans z) hb
    ·rw [hbe];exact z
   rw [q] at q';cases q';obtain ⟨v,hv⟩:=heo;exact ⟨v,by rw [hbe];exact hv⟩
  ·refine (ok b u q).stay (λc v hc r=>k c v ?_ r) (λc r=>by rw [upd_ne (nown c b r)];exact r) λc xs r=>by rw [upd_ne (ntup c xs r)];exact r
   rcases hc with rfl | hc
   ·exact hbe
   ·rintro rfl;rcases he with z | z
    ·exact nown c b hc z
    ·rw [hc] at z;cases z;exact hb rfl
end
structure Un (fs ex:List Addr) (H H':Hp) (h h':Heap):Prop where
 keep:∀ b o,h.get? b = some o->H b = none->b ∉ fs->b ∉ ex->h'.get? b = some o
 slot:∀ b o,h.get? b = some o->H b = none->b ∈ fs->b ∉ ex->∃ sl,h'.get? b = some { o with slots:=sl }
 free:∀ b o,h.get? b = some o->H b = none->b ∉ ex->H' b = none
 there:∀ b o,h.get? b = some o->b ∉ ex->∃ o',h'.get? b = some o'
 tups:∀ b xs,H b = some (.tup xs)->H' b = some (.tup xs)
 frzs:∀ b o u,H b = some (.frz o u)->H' b = some (.frz o u)
 tbls:∀ b ps,H b = some (.tbl ps)->∃ more,H' b = some (.tbl (ps ++ more))
section
variable {fs fs' ex ex':List Addr} {H H1 H2:Hp} {h h1 h2 h':Heap} {a x e:Addr} {o:HO}
theorem Un.any (u:Un fs ex H H1 h h1) {b:Addr} {ob:Obj} (q:h.get? b = some ob) (n:H b = none) (hx:b ∉ ex):∃ sl,h1.get? b = some { ob with slots:=sl }:=by
 by_cases hb:b ∈ fs
 ·exact u.slot b ob q n hb hx
 ·exact ⟨ob.slots,u.keep b ob q n hb hx⟩
theorem Un.kept (k:∀ b u,h.get? b = some u->h'.get? b = some u):Un fs ex H H h h':=
 ⟨λb ob q _ _ _=>k b ob q,λb ob q _ _ _=>⟨ob.slots,k b ob q⟩,λ_ _ _ n _=>n,λb ob q _=>⟨ob,k b ob q⟩,λ_ _ q=>q,λ_ _ _ q=>q,λ_ ps q=>⟨#[],by rw [q];simp⟩⟩
theorem Un.refl:Un fs ex H H h h:=Un.kept λ_ _ q=>q
theorem Un.laid (k:∀ b u,h.get? b = some u->h'.get? b = some u) (hp:h.objs.size <= a) (hn:H a = none):Un fs ex H (upd H a o) h h' where
 keep:=λb u q _ _ _=>k b u q
 slot:=λb u q _ _ _=>⟨u.slots,k b u q⟩
 free:=λb u q n _=>by rw [upd_ne (YAr (YAo (YAj q) hp))];exact n
 there:=λb u q _=>⟨u,k b u q⟩
 tups:=λb xs q=>by rw [upd_ne (zaw q hn)];exact q
 frzs:=λb u xs q=>by rw [upd_ne (zaw q hn)];exact q
 tbls:=λb ps q=>⟨#[],by rw [upd_ne (zaw q hn),q];simp⟩
theorem Un.write (mu:Mut (H x)) (he:e = x\/H e = some (.own x)) (k:∀ b u,b ≠ e->h.get? b = some u->h'.get? b = some u) (heo:∃ u,h'.get? e = some u):Un fs ex H (upd H x o) h h':=by
 have hx:∀ b,H b = none->b ≠ x:=λb n z=>by subst z;rw [n] at mu;exact mu
 have hb:∀ b,H b = none->b ≠ e:=λb n z=>by
  subst z;rcases he with r | r
  ·exact hx b n r
  ·rw [n] at r;cases r
 have hm:∀ b u,H b = some u->¬ Mut (some u)->b ≠ x:=λb u q nm z=>by subst z;rw [q] at mu;exact nm mu
 refine ⟨λb u q n _ _=>k b u (hb b n) q,λb u q n _ _=>⟨u.slots,k b u (hb b n) q⟩,λb u q n _=>by rw [upd_ne (hx b n)];exact n,λb u q _=>?_,
  λb xs q=>by rw [upd_ne (hm b _ q λz=>z)];exact q,λb u xs q=>by rw [upd_ne (hm b _ q λz=>z)];exact q,λb ps q=>⟨#[],by rw [upd_ne (hm b _ q λz=>z),q];simp⟩⟩
 by_cases hbe:b = e
 ·subst hbe;exact heo
 ·exact ⟨u,k b u hbe q⟩
end
def trk (h:Heap) (H:Hp):List Addr:=(List.range h.objs.size).filter λa=>(H a).isSome
def hidT (h:Heap) (H:Hp):Heap:=PySem.W.hideAll h (trk h H)
theorem zm0 (h:Heap) (H:Hp):(hidT h H).objs.size = h.objs.size:=PySem.W.hideAll_size _ _
theorem znW {h:Heap} {H:Hp} {b:Addr} {o:Obj} (e:h.get? b = some o) (n:H b = none):(hidT h H).get? b = some o:=
 PySem.W.hideAll_get _ e λhm=>by
  have q:(H b).isSome = true:=(YCx.mp hm).2;rw [n] at q;simp at q
theorem zpX {h:Heap} {H:Hp} {b:Addr} {o:Obj} (e:(hidT h H).get? b = some o):h.get? b = some o/\H b = none:=by
 have e':h.get? b = some o:=PySem.W.of_hideAll (trk h H) e;refine ⟨e',?_⟩;cases q:H b with
 | none=>rfl
 | some x=>
  have hm:b ∈ trk h H:=YCx.mpr ⟨YCl.mpr (YAj e'),by simp [q]⟩;have z:(hidT h H).get? b = none:=PySem.W.hideAll_none (trk h H) hm;rw [z] at e;cases e
structure Mod (K:PySem.W.Frag) (mg:Str->Option Value) (base:Heap):Prop where
 kin:K.In base
 glob:base.Ns mainGlobals mg
 blt:∃ mb,base.Ns builtinsNs mb/\∀ x:Str,x ≠ "__name__" -> mb x = bootBuiltins x
 nolimit:base.NoLimit
structure Cx where
 prog:Program
 w:World
 K:PySem.W.Frag
 mg:Str->Option Value
 base:Heap
 A:Around
 N:List Str
 s₀:Shared
 H₀:Hp
 env:Env
 outer:List Env
 stack:List Env
 ex:List Addr
 fn:Str->Bool
 calm:Bool
 pn:List (Addr × Obj)
 xe:Value->Shared->Prop
def frs (l:List Env):List Addr:=l.filterMap (·.frame)
abbrev Cx.fs (X:Cx):List Addr:=frs X.outer
def Vis (sc:Scope) (x:Str):Prop:=sc.names.lookup x = some .local\/sc.names.lookup x = some .cell\/sc.names.lookup x = some .free
def Loc (sc:Scope) (x:Str):Prop:=sc.names.lookup x = some .local\/sc.names.lookup x = some .cell
def Look (env:Env) (h:Heap) (m:Str->Option Value) (x:Str) (u:Value):Prop:=
 (env.kindOf x = some .local/\m x = some u)\/((env.kindOf x = some .cell\/env.kindOf x = some .free)/\∃ c,env.cells.lookup x = some c/\h.IsCell c (some u))
structure Cx.Ok (X:Cx):Prop where
 mod:Mod X.K X.mg X.base
 kind:X.env.scope.kind = .function
 glob:X.env.globals = mainGlobals
 blt:X.env.builtins = builtinsNs
 above:X.s₀.heap.objs.size <= X.env.locals
 inj:∀ x y c,X.env.cells.lookup x = some c->X.env.cells.lookup y = some c->x = y
 has:∀ x,(X.env.kindOf x = some .cell\/X.env.kindOf x = some .free)->∃ c,X.env.cells.lookup x = some c
 cab:∀ x c,X.fn x = true->X.env.cells.lookup x = some c->X.s₀.heap.objs.size <= c
 hd:X.calm = true->X.A.handled = none
 frames:X.A.frames = some X.stack
 stk:X.stack = X.outer\/(X.stack = X.env :: X.outer/\X.env.frame = some X.env.locals)
 exf:∀ b ∈ X.ex,b ≠ X.env.locals/\∀ x c,X.env.cells.lookup x = some c->c ≠ b
 bs:∀ b o,X.base.get? b = some o->X.s₀.heap.get? b = some o/\X.H₀ b = none
 bsz:X.base.objs.size <= X.s₀.heap.objs.size
 noex:∀ b o,X.base.get? b = some o->b ∉ X.ex
 exfs:∀ b ∈ X.ex,b ∉ X.fs
 funs:X.s₀.heap.FunFrames X.base X.outer
 frf:∀ b ∈ X.fs,X.H₀ b = none
structure Inv (X:Cx) (pins:List (Addr × Obj)) (σ:List (Option V)) (H:Hp) (s:Shared):Prop where
 ok:X.Ok
 os:s.os = X.s₀.os
 bare:AllBare s.gens
 base:Un X.fs X.ex X.H₀ H X.s₀.heap s.heap
 loc:∃ m,s.heap.Ns X.env.locals m/\∀ (i:Nat) (x:Str) (v:V),X.N[i]? = some x->σ[i]? = some (some v)->Vis X.env.scope x->∃ u,RelV v u/\Look X.env s.heap m x u
 cell:∀ x c,X.env.cells.lookup x = some c->∃ v,s.heap.IsCell c v
 free:H X.env.locals = none
 freeC:∀ x c,X.env.cells.lookup x = some c->H c = none
 pin:∀ p ∈ X.pn ++ pins,s.heap.get? p.1 = some p.2/\H p.1 = none/\p.1 ≠ X.env.locals/\p.1 ∉ X.fs/\∀ v,p.2.data ≠ .cell v
 hok:HOk X.prog X.w H s.heap
 len:σ.length = X.N.length
section
variable {X:Cx} {pins:List (Addr × Obj)} {σ:List (Option V)} {H H':Hp} {s:Shared} {h':Heap}
theorem Cx.Ok.nofr (ok:X.Ok)  (e:X.base.get? b = some o):b ∉ X.fs:=λhb=>by
 have:=(ok.funs.mem hb).1
 rw [e] at this;cases this
theorem Inv.bs (I:Inv X pins σ H s):∀ b o,X.base.get? b = some o->s.heap.get? b = some o/\H b = none:=λb o e=>
 ⟨I.base.keep b o (I.ok.bs b o e).1 (I.ok.bs b o e).2 (I.ok.nofr e) (I.ok.noex b o e),I.base.free b o (I.ok.bs b o e).1 (I.ok.bs b o e).2 (I.ok.noex b o e)⟩
theorem Inv.bk (I:Inv X pins σ H s):∀ b o,X.base.get? b = some o->s.heap.get? b = some o:=λb o e=>(I.bs b o e).1
theorem Inv.mod (I:Inv X pins σ H s):Mod X.K X.mg X.base:=I.ok.mod
theorem Inv.kIn (I:Inv X pins σ H s):X.K.In s.heap:=I.ok.mod.kin.keeps I.bk
theorem Inv.lt (I:Inv X pins σ H s):X.env.locals < s.heap.objs.size:=let ⟨_,hn,_⟩:=I.loc;hn.lt
theorem Inv.sz (I:Inv X pins σ H s):X.s₀.heap.objs.size <= s.heap.objs.size:=YAB I.ok.above (Nat.le_of_lt I.lt)
theorem Inv.nofs (I:Inv X pins σ H s) (h:s.heap.objs.size <= a):a ∉ X.fs:=λhb=>by
 obtain ⟨_,o,ho,_⟩:=I.ok.funs.mem hb;exact absurd (YAo (YAj ho) (YAB I.sz h)) (YA2 _)
theorem Inv.cne (I:Inv X pins σ H s):∀ x c,X.env.cells.lookup x = some c->c ≠ X.env.locals:=λx c e z=>by
 obtain ⟨v,o,ho,hd⟩:=I.cell x c e;obtain ⟨m,⟨o',es,ep,ho',hd',_⟩,_⟩:=I.loc;rw [z,ho'] at ho;cases ho;rw [hd'] at hd;cases hd
theorem Inv.funs (I:Inv X pins σ H s):s.heap.FunFrames X.base X.outer:=by
 have all:∀ (l:List Env),(∀ b ∈ frs l,b ∈ X.fs)->X.s₀.heap.FunFrames X.base l->s.heap.FunFrames X.base l:=by
  intro l
  induction l with
  | nil=>intro _ _;trivial
  | cons env r ih=>
   intro hs hl;obtain ⟨hk,⟨L,o,hf,hn,ho,hd⟩,hr⟩:=hl;have hL:L ∈ X.fs:=hs L (by unfold frs;rw [YAG,hf];exact YAs);obtain ⟨sl,e⟩:=I.base.slot L o ho (I.ok.frf L hL) hL λz=>I.ok.exfs L z hL;exact ⟨hk,⟨L,_,hf,hn,e,hd⟩,ih (λb hb=>hs b (by unfold frs;rw [YAG,hf];exact YAf _ hb)) hr⟩
 exact all X.outer (λ_ hb=>hb) I.ok.funs
theorem Inv.stack (I:Inv X pins σ H s):s.heap.FunFrames X.base X.stack:=by
 rcases I.ok.stk with e | ⟨e,hf⟩
 ·rw [e];exact I.funs
 ·rw [e];obtain ⟨m,hn,_⟩:=I.loc;refine .cons (by rw [I.ok.kind];decide) hf hn ?_ I.funs;exact Heap.get?_none_of_le (YAB I.ok.bsz I.ok.above)
theorem Inv.stkSub (I:Inv X pins σ H s):∀ b ∈ frs X.stack,b ∈ X.env.locals :: X.fs:=λb hb=>by
 rcases I.ok.stk with e | ⟨e,hf⟩
 ·rw [e] at hb;exact YAf _ hb
 ·rw [e] at hb;unfold frs at hb;rw [YAG,hf] at hb;exact hb
theorem Inv.stkFree (I:Inv X pins σ H s):∀ b ∈ frs X.stack,H b = none:=λb hb=>by
 rcases YAu.mp (I.stkSub b hb) with e | hb
 ·rw [e];exact I.free
 ·obtain ⟨_,o,ho,_⟩:=I.ok.funs.mem hb;exact I.base.free b o ho (I.ok.frf b hb) λz=>I.ok.exfs b z hb
theorem Inv.step {g':Array GenState} {t':Nat} {d':Drawn} {ch:List Addr} (I:Inv X pins σ H s)
  (hch:∀ b ∈ ch,(b ∈ X.ex\/X.s₀.heap.objs.size <= b)/\b ≠ X.env.locals/\(∀ x c,X.env.cells.lookup x = some c->c ≠ b)/\∀ p ∈ X.pn ++ pins,p.1 ≠ b)
  (keep:∀ b o,b ≠ X.env.locals->b ∉ X.fs->b ∉ ch->s.heap.get? b = some o->H b = none->h'.get? b = some o)
  (slot:∀ b o,b ≠ X.env.locals->b ∈ X.fs->b ∉ ch->s.heap.get? b = some o->H b = none->∃ sl,h'.get? b = some { o with slots:=sl }) (free:∀ b o,b ∉ ch->s.heap.get? b = some o->H b = none->H' b = none)
  (there:∀ b o,b ∉ ch->s.heap.get? b = some o->∃ o',h'.get? b = some o')
  (tups:∀ b xs,H b = some (.tup xs)->H' b = some (.tup xs)) (frzs:∀ b o u,H b = some (.frz o u)->H' b = some (.frz o u)) (tbls:∀ b ps,H b = some (.tbl ps)->∃ more,H' b = some (.tbl (ps ++ more)))
  (ns:∀ m,s.heap.Ns X.env.locals m->h'.Ns X.env.locals m) (hok:HOk X.prog X.w H' h') (hg:AllBare g') :
  Inv X pins σ H' { s with heap:=h',gens:=g',drawn:=d',toks:=t' }:=by
 have neL:∀ b o,X.s₀.heap.get? b = some o->b ≠ X.env.locals:=λb o e=>YAr (YAo (YAj e) I.ok.above);have neC:∀ b o,X.s₀.heap.get? b = some o->b ∉ X.ex->b ∉ ch:=λb o e hx hb=>by
  rcases (hch b hb).1 with z | z
  ·exact hx z
  ·exact absurd (YAo (YAj e) z) (YA2 _)
 have cellK:∀ x c,X.env.cells.lookup x = some c->∀ v,s.heap.IsCell c v->h'.IsCell c v:=λx c e v ⟨o,ho,hd⟩=>by
  have nch:c ∉ ch:=λz=>(hch c z).2.2.1 x c e rfl;by_cases hc:c ∈ X.fs
  ·obtain ⟨sl,q⟩:=slot c o (I.cne x c e) hc nch ho (I.freeC x c e);exact ⟨_,q,hd⟩
  ·exact ⟨o,keep c o (I.cne x c e) hc nch ho (I.freeC x c e),hd⟩
 refine ⟨I.ok,I.os,hg,⟨λb o e n hb hx=>?_,λb o e n hb hx=>?_,λb o e n hx=>?_,λb o e hx=>?_,λb xs e=>tups b xs (I.base.tups b xs e),λb o xs e=>frzs b o xs (I.base.frzs b o xs e),λb ps e=>?_⟩,?_,λx c e=>?_,?_,λx c e=>?_,λp hp=>?_,hok,I.len⟩
 ·exact keep b o (neL b o e) hb (neC b o e hx) (I.base.keep b o e n hb hx) (I.base.free b o e n hx)
 ·obtain ⟨sl,e1⟩:=I.base.slot b o e n hb hx;obtain ⟨sl',e2⟩:=slot b _ (neL b o e) hb (neC b o e hx) e1 (I.base.free b o e n hx);exact ⟨sl',e2⟩
 ·obtain ⟨o',e1⟩:=I.base.there b o e hx;exact free b o' (neC b o e hx) e1 (I.base.free b o e n hx)
 ·obtain ⟨o',e1⟩:=I.base.there b o e hx;exact there b o' (neC b o e hx) e1
 ·obtain ⟨m1,e1⟩:=I.base.tbls b ps e;obtain ⟨m2,e2⟩:=tbls b _ e1;exact ⟨m1 ++ m2,by rw [e2,Array.append_assoc]⟩
 ·obtain ⟨m,hn,hl⟩:=I.loc;refine ⟨m,ns m hn,λi x v e1 e2 e3=>?_⟩;obtain ⟨u,r,l⟩:=hl i x v e1 e2 e3;refine ⟨u,r,?_⟩;rcases l with l | ⟨k,c,e,z⟩
  ·exact .inl l
  ·exact .inr ⟨k,c,e,cellK x c e _ z⟩
 ·obtain ⟨v,z⟩:=I.cell x c e;exact ⟨v,cellK x c e v z⟩
 ·obtain ⟨m,⟨o,_,_,ho,_⟩,_⟩:=I.loc;exact free _ o (λz=>(hch _ z).2.1 rfl) ho I.free
 ·obtain ⟨v,o,ho,hd⟩:=I.cell x c e;exact free c o (λz=>(hch c z).2.2.1 x c e rfl) ho (I.freeC x c e)
 ·obtain ⟨e,n,ne,nf,d⟩:=I.pin p hp;have nch:p.1 ∉ ch:=λz=>(hch p.1 z).2.2.2 p hp rfl;exact ⟨keep p.1 p.2 ne nf nch e n,free p.1 p.2 nch e n,ne,nf,d⟩
theorem Inv.un {t':Nat} (I:Inv X pins σ H s) (u:Un X.fs [] H H' s.heap h') (hok:HOk X.prog X.w H' h'):Inv X pins σ H' { s with heap:=h',toks:=t' }:=by
 obtain ⟨m,⟨o,es,ep,ho,r⟩,_⟩:=id I.loc;obtain ⟨sl,hL⟩:=u.any ho I.free (by simp);exact I.step (g':=s.gens) (d':=s.drawn) (ch:=[]) (λ_ z=>nomatch z) (λb o _ hb _ e n=>u.keep b o e n hb (by simp)) (λb o _ hb _ e n=>u.slot b o e n hb (by simp)) (λb o _ e n=>u.free b o e n (by simp)) (λb o _ e=>u.there b o e (by simp)) u.tups u.frzs u.tbls (λm' hm=>by
  obtain ⟨o',es',ep',ho',r'⟩:=hm;rw [ho] at ho';cases ho';exact ⟨_,es',ep',hL,r'⟩) hok I.bare
theorem Inv.call {g':Array GenState} {t':Nat} {d':Drawn} {ch:List Addr} (I:Inv X pins σ H s) (u:Un (frs X.stack) ch H H' s.heap h') (hok:HOk X.prog X.w H' h') (hg:AllBare g')
  (hch:∀ b ∈ ch,(b ∈ X.ex\/X.s₀.heap.objs.size <= b)/\b ≠ X.env.locals/\(∀ x c,X.env.cells.lookup x = some c->c ≠ b)/\∀ p ∈ X.pn ++ pins,p.1 ≠ b) :
  Inv X pins σ H' { s with heap:=h',gens:=g',drawn:=d',toks:=t' }:=by
 obtain ⟨m,⟨o,es,ep,ho,r⟩,_⟩:=id I.loc;obtain ⟨sl,hL⟩:=u.any ho I.free λz=>(hch _ z).2.1 rfl;exact I.step (ch:=ch) hch (λb o hL hb hc e n=>u.keep b o e n (λz=>(YAu.mp (I.stkSub b z)).elim hL hb) hc) (λb o _ _ hc e n=>u.any e n hc) (λb o hc e n=>u.free b o e n hc) (λb o hc e=>u.there b o e hc) u.tups u.frzs u.tbls (λm' hm=>by
  obtain ⟨o',es',ep',ho',r'⟩:=hm;rw [ho] at ho';cases ho';exact ⟨_,es',ep',hL,r'⟩) hok hg
theorem Inv.turned {t':Nat} {it:Addr} (I:Inv X pins σ H s) (k:∀ b o,b ≠ it->s.heap.get? b = some o->h'.get? b = some o) (hn:H it = none) (hL:it ≠ X.env.locals)
  (h1:it ∈ X.ex\/X.s₀.heap.objs.size <= it) (h2:∀ x c,X.env.cells.lookup x = some c->c ≠ it) (h3:∀ p ∈ X.pn ++ pins,p.1 ≠ it):Inv X pins σ H { s with heap:=h',toks:=t' }:=by
 have nit:∀ b u,H b = some u->b ≠ it:=λb u e z=>by rw [z,hn] at e;cases e
 refine I.step (g':=s.gens) (d':=s.drawn) (ch:=[it]) (λb hb=>?_) (λb o _ _ hc e _=>k b o (λz=>hc (by simp [z])) e) (λb o _ _ hc e _=>⟨o.slots,k b o (λz=>hc (by simp [z])) e⟩) (λ_ _ _ _ n=>n)
  (λb o hc e=>⟨o,k b o (λz=>hc (by simp [z])) e⟩) (λ_ _ e=>e) (λ_ _ _ e=>e) (λb ps e=>⟨#[],by rw [e];simp⟩) (λm hm=>?_) (λb u e=>?_) I.bare
 ·have e:b = it:=by simpa using hb
  subst e;exact ⟨h1,hL,h2,h3⟩
 ·obtain ⟨o,es,ep,ho,r⟩:=hm;exact ⟨o,es,ep,k _ o (YAO hL) ho,r⟩
 ·refine (I.hok b u e).stay (λc v hc q=>k c v ?_ q) (λ_ q=>q) λ_ _ q=>q;rcases hc with z | z
  ·rw [z];exact nit b u e
  ·exact nit c _ z
theorem Inv.tok (I:Inv X pins σ H s) (t:Nat):Inv X pins σ H { s with toks:=t }:=I.un (h':=s.heap) (t':=t) Un.refl I.hok
theorem Inv.kept {t':Nat} (I:Inv X pins σ H s) (k:∀ b u,s.heap.get? b = some u->h'.get? b = some u):Inv X pins σ H { s with heap:=h',toks:=t' }:=I.un (Un.kept k) (I.hok.kept k)
theorem Inv.laid {a:Addr} {o:HO} {t':Nat} (I:Inv X pins σ H s) (k:∀ b u,s.heap.get? b = some u->h'.get? b = some u) (hp:s.heap.objs.size <= a) (new:ObjOk X.prog X.w (upd H a o) h' a o) :
  Inv X pins σ (upd H a o) { s with heap:=h',toks:=t' }:=I.un (Un.laid k hp (I.hok.fresh hp)) (I.hok.laid k hp new)
theorem Inv.write {x e:Addr} {o:HO} {t':Nat} (I:Inv X pins σ H s) (mu:Mut (H x)) (he:e = x\/H e = some (.own x)) (k:∀ b u,b ≠ e->s.heap.get? b = some u->h'.get? b = some u) (heo:∃ u,h'.get? e = some u)
  (new:ObjOk X.prog X.w (upd H x o) h' x o):Inv X pins σ (upd H x o) { s with heap:=h',toks:=t' }:=I.un (Un.write mu he k heo) (I.hok.write mu he k heo new)
theorem Inv.weak (I:Inv X pins σ H s) (hl:σ'.length = σ.length) (w:∀ (i:Nat) v,σ'[i]? = some (some v)->σ[i]? = some (some v)):Inv X pins σ' H s:=
 ⟨I.ok,I.os,I.bare,I.base,let ⟨m,hn,hl'⟩:=I.loc;⟨m,hn,λi x v e1 e2 e3=>hl' i x v e1 (w i v e2) e3⟩,I.cell,I.free,I.freeC,I.pin,I.hok,hl.trans I.len⟩
theorem Inv.pins_of (I:Inv X pins σ H s) (h:∀ p ∈ pins',s.heap.get? p.1 = some p.2/\H p.1 = none/\p.1 ≠ X.env.locals/\p.1 ∉ X.fs/\∀ v,p.2.data ≠ .cell v):Inv X pins' σ H s:=
 ⟨I.ok,I.os,I.bare,I.base,I.loc,I.cell,I.free,I.freeC,λp hp=>(YAV.mp hp).elim (λz=>I.pin p (YBF _ z)) (h p),I.hok,I.len⟩
theorem zk0 {N:List Str} (hN:N.Nodup) {i j:Nat} {x:Str} (a:N[i]? = some x) (b:N[j]? = some x):i = j:=by
 obtain ⟨h1,e1⟩:=YAd.mp a;obtain ⟨h2,e2⟩:=YAd.mp b;exact (List.getElem_inj hN).mp (e1.trans e2.symm)
theorem zib {M:Model} {A:Around} {E:Value->Shared->Prop} {i:Nat} {x:Str} {v:V} {u:Value} {Q:Unit->Shared->Prop} (I:Inv X pins σ H s) (hN:X.N.Nodup) (hi:X.N[i]? = some x) (hx:Loc X.env.scope x) (r:RelV v u)
  (h:∀ s',Inv X pins (σ.set i (some v)) H s'->(∃ a,Heap.SameBut a s.heap s'.heap/\(a = X.env.locals\/X.env.cells.lookup x = some a))->Q () s') (hf:X.fn x = true\/X.env.scope.names.lookup x = some .local:=by first | exact .inl rfl | exact .inr rfl | assumption):wpAny M A (storeName X.env x u) Q E s:=by
 obtain ⟨m,hn,hl⟩:=id I.loc;have hcls:(X.env.scope.kind == .class || (X.env.scope.kind == .module && X.env.locals != X.env.globals)) = false:=by rw [I.ok.kind];rfl
 have hiσ:i < σ.length:=by rw [I.len];exact (YAd.mp hi).1
 have cne:=I.cne;have tracked:∀ {a:Addr} {h':Heap},(∃ o,s.heap.get? a = some o/\H a = none)->Heap.SameBut a s.heap h'->HOk X.prog X.w H h':=λ{a h'} ha hs b ob e=>by
  obtain ⟨_,_,hfree⟩:=ha;refine (I.hok b ob e).stay (λc w' hc q=>(hs.2 c ?_).trans q) (λ_ q=>q) λ_ _ q=>q;rintro rfl;rcases hc with rfl | hc
  ·rw [hfree] at e;cases e
  ·rw [hfree] at hc;cases hc
 rcases hx with hk | hk
 ·refine wpAny_storeName_local hk hn (λh' hn' hs=>?_) hcls;obtain ⟨oL,_,_,hoL,_⟩:=id hn;refine h _ ⟨I.ok,I.os,I.bare,⟨λb o e n hb hx=>?_,λb o e n hb hx=>?_,I.base.free,λb o e hx=>?_,I.base.tups,I.base.frzs,I.base.tbls⟩,⟨_,hn',λj y v' e1 e2 e3=>?_⟩,λy c e=>?_,I.free,I.freeC,λp hp=>?_,tracked ⟨oL,hoL,I.free⟩ hs,by simpa using I.len⟩ ⟨_,hs,.inl rfl⟩
  ·exact (hs.2 b (YAr (YAo (YAj e) I.ok.above))).trans (I.base.keep b o e n hb hx)
  ·obtain ⟨sl,e1⟩:=I.base.slot b o e n hb hx;exact ⟨sl,(hs.2 b (YAr (YAo (YAj e) I.ok.above))).trans e1⟩
  ·obtain ⟨o',e1⟩:=I.base.there b o e hx;exact ⟨o',(hs.2 b (YAr (YAo (YAj e) I.ok.above))).trans e1⟩
  ·by_cases hj:j = i
   ·subst hj;rw [hi] at e1;cases e1;rw [YAh hiσ] at e2;cases e2;exact ⟨u,r,.inl ⟨hk,by simp⟩⟩
   ·rw [YAi (YAO hj)] at e2;obtain ⟨u',r',q⟩:=hl j y v' e1 e2 e3;refine ⟨u',r',?_⟩;rcases q with ⟨k,e⟩ | ⟨k,c,e,z⟩
    ·refine .inl ⟨k,?_⟩
     have:y ≠ x:=λe=>hj (zk0 hN e1 (e ▸ hi))
     simp [this,e]
    ·exact .inr ⟨k,c,e,z.sameBut hs (cne y c e)⟩
  ·obtain ⟨w',z⟩:=I.cell y c e;exact ⟨w',z.sameBut hs (cne y c e)⟩
  ·obtain ⟨e,n,ne,nf,d⟩:=I.pin p hp;exact ⟨(hs.2 p.1 ne).trans e,n,ne,nf,d⟩
 ·have hfn:X.fn x = true:=by
   rcases hf with z | z
   ·exact z
   ·rw [z] at hk;cases hk
  obtain ⟨c,hc⟩:=I.ok.has x (.inl hk);obtain ⟨w',z⟩:=I.cell x c hc;refine wpAny_storeName_cell I.ok.kind hk hc z (λh' hc' hs=>?_);obtain ⟨oc,hoc,hocd⟩:=id z;refine h { s with heap:=h' } ⟨I.ok,I.os,I.bare,⟨λb o e n hb hx=>?_,λb o e n hb hx=>?_,I.base.free,λb o e hx=>?_,I.base.tups,I.base.frzs,I.base.tbls⟩,⟨m,hn.sameBut hs (YAO (cne x c hc)),λj y v' e1 e2 e3=>?_⟩,λy c' e=>?_,I.free,I.freeC,λp hp=>?_,tracked ⟨oc,hoc,I.freeC x c hc⟩ hs,by simpa using I.len⟩ ⟨c,hs,.inr hc⟩
  ·exact (hs.2 b (YAr (YAo (YAj e) (I.ok.cab x c hfn hc)))).trans (I.base.keep b o e n hb hx)
  ·obtain ⟨sl,e1⟩:=I.base.slot b o e n hb hx;exact ⟨sl,(hs.2 b (YAr (YAo (YAj e) (I.ok.cab x c hfn hc)))).trans e1⟩
  ·obtain ⟨o',e1⟩:=I.base.there b o e hx;exact ⟨o',(hs.2 b (YAr (YAo (YAj e) (I.ok.cab x c hfn hc)))).trans e1⟩
  ·by_cases hj:j = i
   ·subst hj;rw [hi] at e1;cases e1;rw [YAh hiσ] at e2;cases e2;exact ⟨u,r,.inr ⟨.inl hk,c,hc,hc'⟩⟩
   ·rw [YAi (YAO hj)] at e2;obtain ⟨u',r',q⟩:=hl j y v' e1 e2 e3;refine ⟨u',r',?_⟩;rcases q with q | ⟨k,c',e,z'⟩
    ·exact .inl q
    ·refine .inr ⟨k,c',e,z'.sameBut hs ?_⟩;rintro rfl;exact hj (zk0 hN e1 (I.ok.inj _ _ _ e hc ▸ hi))
  ·by_cases hcc:c' = c
   ·subst hcc;exact ⟨_,hc'⟩
   ·obtain ⟨w2,z2⟩:=I.cell y c' e;exact ⟨w2,z2.sameBut hs hcc⟩
  ·obtain ⟨e,n,ne,nf,d⟩:=I.pin p hp;refine ⟨(hs.2 p.1 ?_).trans e,n,ne,nf,d⟩;intro q;rw [q,hoc] at e;have q':oc = p.2:=Option.some.inj e;exact d w' (by rw [<- q'];exact hocd)
theorem zfC {M:Model} {A:Around} {E:Value->Shared->Prop} {i:Nat} {x:Str} {v:V} {u:Value} {Q:Unit->Shared->Prop} (I:Inv X pins σ H s) (hN:X.N.Nodup) (hi:X.N[i]? = some x) (hx:Loc X.env.scope x) (r:RelV v u)
  (h:∀ s',Inv X pins (σ.set i (some v)) H s'->Q () s') (hf:X.fn x = true\/X.env.scope.names.lookup x = some .local:=by first | exact .inl rfl | exact .inr rfl | assumption):wpAny M A (storeName X.env x u) Q E s:=
 zib I hN hi hx r (λs' I' _=>h s' I') hf
theorem Inv.call'  (I:Inv X pins σ H s) (ho:s'.os = s.os) (u:Un (frs X.stack) ch H H' s.heap s'.heap) (hok:HOk X.prog X.w H' s'.heap) (hg:AllBare s'.gens)
  (hch:∀ b ∈ ch,(b ∈ X.ex\/X.s₀.heap.objs.size <= b)/\b ≠ X.env.locals/\(∀ x c,X.env.cells.lookup x = some c->c ≠ b)/\∀ p ∈ X.pn ++ pins,p.1 ≠ b):Inv X pins σ H' s':=by
 obtain ⟨h',g',d',t',o'⟩:=s';have e:o' = s.os:=ho;subst e;exact I.call (g':=g') (t':=t') (d':=d') u hok hg hch
end
abbrev XK:=Value->Option Addr->Hp->Prop
abbrev St:=List (Option V)
abbrev VK:=V->Hp->Prop
abbrev TE:=St->Hp->VK->Prop
abbrev TT:=St->Hp->(Bool->Hp->Prop)->Prop
abbrev TA:=St->Hp->(List V->Hp->Prop)->Prop
structure Ends where
 nx:St->Hp->Prop
 rt:VK
 bk:St->Hp->Prop:=λ_ _=>False
 ct:St->Hp->Prop:=λ_ _=>False
abbrev TS:=Ends->St->Hp->Prop
def EP (X:Cx) (pins:List (Addr × Obj)) (σ:St) (Q:VK) (u:Value) (s':Shared):Prop:=∃ v H',Inv X pins σ H' s'/\RelV v u/\Q v H'
def TP (X:Cx) (pins:List (Addr × Obj)) (σ:St) (Q:Bool->Hp->Prop) (b:Bool) (s':Shared):Prop:=∃ H',Inv X pins σ H' s'/\Q b H'
def AP (X:Cx) (pins:List (Addr × Obj)) (σ:St) (Q:List V->Hp->Prop) (us:List Value) (s':Shared):Prop:=∃ vs H',Inv X pins σ H' s'/\Vals vs us/\Q vs H'
def SP (X:Cx) (pins:List (Addr × Obj)) (D:Ends) (f:Flow) (s':Shared):Prop:=
 match f with
 | .next=>∃ σ' H',Inv X pins σ' H' s'/\D.nx σ' H'
 | .brk=>∃ σ' H',Inv X pins σ' H' s'/\D.bk σ' H'
 | .cont=>∃ σ' H',Inv X pins σ' H' s'/\D.ct σ' H'
 | .ret u=>∃ v σ' H',Inv X pins σ' H' s'/\RelV v u/\D.rt v H'
def PE (X:Cx) (e:Expr) (t:TE):Prop:=
 ∀ (pins:List (Addr × Obj)) (s:Shared) (σ:St) (H:Hp) (Q:VK),Inv X pins σ H s->t σ H Q->wpAny (model X.prog X.w) X.A (eval e X.env) (EP X pins σ Q) X.xe s
def PT (X:Cx) (e:Expr) (t:TT):Prop:=
 ∀ (pins:List (Addr × Obj)) (s:Shared) (σ:St) (H:Hp) (Q:Bool->Hp->Prop),Inv X pins σ H s->t σ H Q->wpAny (model X.prog X.w) X.A (isTrue e X.env (eval e X.env)) (TP X pins σ Q) X.xe s
def PW (X:Cx) (e:Expr) (t:TT):Prop:=
 ∀ (whole:Sem Value) (pins:List (Addr × Obj)) (s:Shared) (σ:St) (H:Hp) (Q:Bool->Hp->Prop),Inv X pins σ H s->t σ H Q->wpAny (model X.prog X.w) X.A (isTrue e X.env whole) (TP X pins σ Q) X.xe s
theorem PW.pt {X:Cx} {e:Expr} {t:TT} (h:PW X e t):PT X e t:=h _
def PA (X:Cx) (es:List Expr) (t:TA):Prop:=
 ∀ (pos:Pos) (pins:List (Addr × Obj)) (s:Shared) (σ:St) (H:Hp) (Q:List V->Hp->Prop),Inv X pins σ H s->t σ H Q->wpAny (model X.prog X.w) X.A (spliced (backTo pos (starEach es X.env))) (AP X pins σ Q) X.xe s
def PS (X:Cx) (st:Stmt) (t:TS):Prop:=
 ∀ (pins:List (Addr × Obj)) (s:Shared) (σ:St) (H:Hp) (D:Ends),Inv X pins σ H s->t D σ H->wpAny (model X.prog X.w) X.A (exec st X.env) (SP X pins D) X.xe s
def PSs (X:Cx) (st:List Stmt) (t:TS):Prop:=
 ∀ (pins:List (Addr × Obj)) (s:Shared) (σ:St) (H:Hp) (D:Ends),Inv X pins σ H s->t D σ H->wpAny (model X.prog X.w) X.A (execs st X.env) (SP X pins D) X.xe s
theorem thn {α:Type} {t:Sem α} {Q Q':α->Shared->Prop} {M:Model} {A:Around} {E:Value->Shared->Prop} {s:Shared} (h:wpAny M A t Q E s) (hQ:∀ a s,Q a s->Q' a s):wpAny M A t Q' E s:=YAT h hQ λ_ _ x=>x
section
variable {X:Cx}
def tVar (i:Nat):TE:=λσ H Q=>∃ v,σ[i]? = some (some v)/\Q v H
def tC (v:V):TE:=λ_ H Q=>Q v H
theorem zbf  (hN:X.N[i]? = some x) (hv:Vis X.env.scope x) (hd:(x == ("__debug__" : Str)) = false:=by decide) (hcd:(x == ("__classdict__" : Str)) = false:=by decide):PE X (.Name x pos) (tVar i):=by
 intro pins s σ H Q I h;obtain ⟨v,e,h⟩:=h;obtain ⟨m,hn,hl⟩:=I.loc;obtain ⟨u,r,l⟩:=hl i x v hN e hv;have fin:EP X pins σ Q u s:=⟨v,H,I,r,h⟩;rcases l with ⟨hk,hm⟩ | ⟨hk,c,hc,hcell⟩
 ·exact YCn (wpAny_loadName_local I.ok.kind hk hn hm fin) hd
 ·rcases hk with hk | hk
  ·exact YCn (wpAny_loadName_cell I.ok.kind hk hc hcell fin) hd
  ·exact YCn (wpAny_loadName_free I.ok.kind hk hc hcell fin hcd) hd
theorem zaW {i j pos}:PE X (.Constant (.int i) j pos) (tC (.int i)):=λ_ _ _ H _ I h=>wpAny_Constant_int ⟨.int i,H,I.tok _,⟨_,rfl⟩,h⟩
theorem ztJ {b j pos}:PE X (.Constant (.bool b) j pos) (tC (.bl b)):=λ_ _ _ H _ I h=>Constant_bool ⟨.bl b,H,I,rfl,h⟩
theorem zsP {j pos}:PE X (.Constant .none j pos) (tC .non):=λ_ _ _ H _ I h=>Constant_none ⟨.non,H,I,rfl,h⟩
theorem zo7 {x j pos}:PE X (.Constant (.str x) j pos) (tC (.str x)):=λ_ _ _ H _ I h=>Calls.Constant_str ⟨.str x,H,I.tok _,⟨_,rfl⟩,h⟩
def Gl (X:Cx) (x:Str):Prop:=X.env.kindOf x = some .globalImplicit
theorem zes {E:Value->Shared->Prop} {pins:List (Addr × Obj)} {s:Shared} {σ:St} {H:Hp} {x:Str} {u:Value} {pos:Pos} {Q:Value->Shared->Prop} (I:Inv X pins σ H s) (hg:Gl X x) (hm:X.mg x = some u) (h:Q u s)
  (hd:(x == ("__debug__" : Str)) = false:=by decide):wpAny (model X.prog X.w) X.A (eval (.Name x pos) X.env) Q E s:=
 Calls.Name_function_global I.ok.kind hg (Calls.loadGlobal_global (by rw [I.ok.glob];exact I.mod.glob.keeps I.bk) hm h) hd
theorem ziR {E:Value->Shared->Prop} {pins:List (Addr × Obj)} {s:Shared} {σ:St} {H:Hp} {x:Str} {u:Value} {pos:Pos} {Q:Value->Shared->Prop} (I:Inv X pins σ H s) (hg:Gl X x) (hm:X.mg x = none) (hv:bootBuiltins x = some u) (h:Q u s)
  (hn:x ≠ "__name__" := by decide) (hd:(x == ("__debug__" : Str)) = false:=by decide):wpAny (model X.prog X.w) X.A (eval (.Name x pos) X.env) Q E s:=by
 obtain ⟨mb,h1,h2⟩:=I.mod.blt;exact Calls.Name_function_global I.ok.kind hg (Calls.loadGlobal_builtin (by rw [I.ok.glob];exact I.mod.glob.keeps I.bk) hm (by rw [I.ok.blt];exact h1.keeps I.bk) ((h2 x hn).trans hv) h) hd
theorem zmD   (hg:Gl X x) (hm:X.mg x = some u) (r:RelV v u) (hd:(x == ("__debug__" : Str)) = false:=by decide):PE X (.Name x pos) (tC v):=
 λ_ _ _ H _ I h=>zes I hg hm ⟨v,H,I,r,h⟩ hd
theorem zqD   (hg:Gl X x) (hm:X.mg x = none) (hv:bootBuiltins x = some u) (r:RelV v u) (hn:x ≠ "__name__" := by decide) (hd:(x == ("__debug__" : Str)) = false:=by decide):PE X (.Name x pos) (tC v):=
 λ_ _ _ H _ I h=>ziR I hg hm hv ⟨v,H,I,r,h⟩ hn hd
variable {a b:Expr} {ta tb:TE} {pos:Pos}
def PC (X:Cx) (op:CmpOp) (a b:Expr) (t:TE):Prop:=
 ∀ (pins:List (Addr × Obj)) (s:Shared) (σ:St) (H:Hp) (Q:VK),Inv X pins σ H s->t σ H Q ->
  wpAny (model X.prog X.w) X.A (eval a X.env) (λv s₁=>wpAny (model X.prog X.w) X.A (eval b X.env) (λu s₂=>wpAny (model X.prog X.w) X.A (compareOp op v u) (EP X pins σ Q) X.xe s₂) X.xe s₁) X.xe s
theorem zko (b:Expr) {op:CmpOp} (h:op ≠ .In) (h2:op ≠ .NotIn):behindInMarks op b = false:=by
 have e1:(op == CmpOp.In) = false:=by cases op <;> first | rfl | exact absurd rfl h
 have e2:(op == CmpOp.NotIn) = false:=by cases op <;> first | rfl | exact absurd rfl h2
 cases b <;> simp [behindInMarks,e1,e2]
def tIsN (ta:TE):TE:=λσ H Q=>ta σ H λx H1=>Q (.bl (decide (x = .non))) H1
def zth (ta:TE):TE:=λσ H Q=>ta σ H λx H1=>Q (.bl (!decide (x = .non))) H1
theorem RelV.none_iff {x:V} {v:Value} (r:RelV x v):(v == Value.none) = decide (x = .non):=by
 cases x with
 | non=>cases r;rfl
 | bl _=>cases r;rfl
 | int _=>obtain ⟨t,rfl⟩:=r;rfl
 | str _=>obtain ⟨t,rfl⟩:=r;rfl
 | byt _=>obtain ⟨t,rfl⟩:=r;rfl
 | flt _=>obtain ⟨t,rfl⟩:=r;rfl
 | ref _=>cases r;rfl
 | ty _=>cases r;rfl
theorem zo9 {j pos'} (ha:PE X a ta):PC X .Is a (.Constant .none j pos') (tIsN ta):=by
 intro pins s σ H Q I h;refine thn (ha pins s σ H _ I h) λv s1 ⟨x,H1,I1,r1,q1⟩=>?_;exact Constant_none (is_none_gen ⟨.bl _,H1,I1,by rw [r1.none_iff];rfl,q1⟩)
theorem zpW {j pos'} (ha:PE X a ta):PC X .IsNot a (.Constant .none j pos') (zth ta):=by
 intro pins s σ H Q I h;refine thn (ha pins s σ H _ I h) λv s1 ⟨x,H1,I1,r1,q1⟩=>?_;exact Constant_none (isnot_none_gen ⟨.bl _,H1,I1,by rw [r1.none_iff];rfl,q1⟩)
def tB (t:TE):TT:=λσ H Q=>t σ H λx H1=>∃ c,x = .bl c/\Q c H1
theorem zrn  (h:PC X op a b t) (h1:behindInMarks op b = false:=by first | exact zko _ (by decide) (by decide) | rfl):PE X (.Compare a [op] [b] pos) t:=λpins s σ H Q I hw=>wpAny_Compare1 (h pins s σ H Q I hw) h1
theorem zpc {op:CmpOp} {t:TE} (h:PC X op a b t) (h1:behindInMarks op b = false:=by first | exact zko _ (by decide) (by decide) | rfl):PT X (.Compare a [op] [b] pos) (tB t):=by
 intro pins s σ H Q I hw;refine wpAny_isTrue_Compare1 (thn (h pins s σ H _ I hw) λv s1 h1=>thn h1 λu s2 h2=>thn h2 λc s3 ⟨x,H1,I1,r1,q1⟩=>?_) h1;obtain ⟨d,rfl,q⟩:=q1;cases r1;exact YBt ⟨H1,I1,q⟩
variable {tA tB':TT} {rest:List Expr}
def tAnd (t u:TT):TT:=λσ H Q=>t σ H λc H1=>if c = true then u σ H1 Q else Q false H1
def tOr (t u:TT):TT:=λσ H Q=>t σ H λc H1=>if c = true then Q true H1 else u σ H1 Q
def tNot (t:TT):TT:=λσ H Q=>t σ H λc H1=>Q (!c) H1
theorem zmy (ha:PT X a tA):PW X (.BoolOp .And [a] pos) tA:=by
 intro wh pins s σ H Q I h;refine isTrue_and (thn (ha pins s σ H Q I h) λc s1 e=>?_);cases c with
 | true=>exact isTrue_and_nil e
 | false=>exact e
theorem zrz (ha:PT X a tA):PW X (.BoolOp .Or [a] pos) tA:=by
 intro wh pins s σ H Q I h;refine isTrue_or (thn (ha pins s σ H Q I h) λc s1 e=>?_);cases c with
 | false=>exact isTrue_or_nil e
 | true=>exact e
theorem zpi (ha:PT X a tA) (hb:PW X (.BoolOp .And (b :: rest) pos) tB'):PW X (.BoolOp .And (a :: b :: rest) pos) (tAnd tA tB'):=by
 intro wh pins s σ H Q I h;refine isTrue_and (thn (ha pins s σ H _ I h) λc s1 ⟨H1,I1,q1⟩=>?_);cases c with
 | true=>exact hb wh pins s1 σ H1 Q I1 q1
 | false=>exact ⟨H1,I1,q1⟩
theorem zs7 (ha:PT X a tA) (hb:PW X (.BoolOp .Or (b :: rest) pos) tB'):PW X (.BoolOp .Or (a :: b :: rest) pos) (tOr tA tB'):=by
 intro wh pins s σ H Q I h;refine isTrue_or (thn (ha pins s σ H _ I h) λc s1 ⟨H1,I1,q1⟩=>?_);cases c with
 | true=>exact ⟨H1,I1,q1⟩
 | false=>exact hb wh pins s1 σ H1 Q I1 q1
theorem zmE (ha:PT X a tA):PT X (.UnaryOp .Not a pos) (tNot tA):=by
 intro pins s σ H Q I h;exact isTrue_not (ha pins s σ H (λc H1=>Q (!c) H1) I h)
def ztb (ta tb:TE):TE:=λσ H Q=>ta σ H λx H1=>∃ c,x = .bl c/\if c = true then tb σ H1 Q else Q (.bl false) H1
theorem zrk {op} (h:PE X a t):PE X (.BoolOp op [a] pos) t:=λpins s σ H Q I hw=>BoolOp_one (h pins s σ H Q I hw)
theorem zsD (ha:PE X a ta) (hb:PE X (.BoolOp .And (b :: rest) pos) tb):PE X (.BoolOp .And (a :: b :: rest) pos) (ztb ta tb):=by
 intro pins s σ H Q I h;refine BoolOp_and (thn (ha pins s σ H _ I h) λv s1 ⟨x,H1,I1,r1,q1⟩=>?_);obtain ⟨c,rfl,q1⟩:=q1;cases r1;refine YBt ?_;cases c with
 | true=>exact hb pins s1 σ H1 Q I1 q1
 | false=>exact ⟨.bl false,H1,I1,rfl,q1⟩
def tIf (t:TT) (ta tb:TE):TE:=λσ H Q=>t σ H λc H1=>if c = true then ta σ H1 Q else tb σ H1 Q
theorem znY {c:Expr} (hc:PT X c tA) (ha:PE X a ta) (hb:PE X b tb):PE X (.IfExp c a b pos) (tIf tA ta tb):=by
 intro pins s σ H Q I h;refine wpAny_IfExp (thn (hc pins s σ H _ I h) λd s1 ⟨H1,I1,q1⟩=>?_);cases d with
 | true=>exact ha pins s1 σ H1 Q I1 q1
 | false=>exact hb pins s1 σ H1 Q I1 q1
end
def SqL (K:PySem.W.Frag) (H:Hp) (a:Addr) (xs:List V):Prop:=
 Rd H a (.lst xs) \/
  ∃ (o:Obj) (its:Array Value) (n:Nat),K.lookup a = some o/\o.cls = .type "list" /\ o.dict = none/\o.data = .seq its n/\its.size <= sizeLine/\Vals xs its.toList
def SqT (K:PySem.W.Frag) (H:Hp) (a:Addr) (xs:List V):Prop:=
 Rd H a (.tup xs) \/
  ∃ (o:Obj) (its:Array Value) (n:Nat),K.lookup a = some o/\o.cls = .type "tuple" /\ o.data = .seq its n/\its.size <= sizeLine/\Vals xs its.toList
def absV:Value->Option V
 | .none=>some .non
 | .bool b=>some (.bl b)
 | .int i _=>some (.int i)
 | .str x _=>some (.str x)
 | .bytes b _=>some (.byt b)
 | .float b _=>some (.flt b)
 | .ref a=>some (.ref a)
 | .type n=>some (.ty n)
 | _=>none
theorem RelV.abs  (r:RelV x u):absV u = some x:=by
 cases x with
 | non=>cases r;rfl
 | bl _=>cases r;rfl
 | int _=>obtain ⟨t,rfl⟩:=r;rfl
 | str _=>obtain ⟨t,rfl⟩:=r;rfl
 | byt _=>obtain ⟨t,rfl⟩:=r;rfl
 | flt _=>obtain ⟨t,rfl⟩:=r;rfl
 | ref _=>cases r;rfl
 | ty _=>cases r;rfl
theorem RelV.inj {x y:V} {u:Value} (r:RelV x u) (q:RelV y u):x = y:=Option.some.inj (r.abs.symm.trans q.abs)
theorem Vals.inj:∀ {xs ys:List V} {us:List Value},Vals xs us->Vals ys us->xs = ys
 | _,_,_,.nil,.nil=>rfl
 | _,_,_,.cons r t,.cons r' t'=>by rw [r.inj r',Vals.inj t t']
section
variable {X:Cx} {pins:List (Addr × Obj)} {σ:St} {H:Hp} {s:Shared} {a:Addr} {xs ys:List V}
theorem SqL.of {K:PySem.W.Frag} (h:H a = some (.lst xs)):SqL K H a xs:=.inl (.inl h)
theorem SqT.of {K:PySem.W.Frag} (h:H a = some (.tup xs)):SqT K H a xs:=.inl (.inl h)
theorem Inv.list (I:Inv X pins σ H s) (h:SqL X.K H a xs):∃ its:List Value,Vals xs its/\PlainL s.heap a its.toArray/\xs.length <= sizeLine:=by
 rcases h with h | ⟨o,its,n,hk,hc,hd,hs,hz,r⟩
 ·obtain ⟨z,its,n,r,e⟩:=h.ok I.hok;exact ⟨its,r,⟨_,n,e,rfl,rfl,rfl⟩,z⟩
 ·refine ⟨its.toList,r,⟨o,n,I.kIn a o hk,hc,hd,by simpa using hs⟩,?_⟩;have e:=r.length;simp only [YBa] at e;omega
theorem Inv.tuple (I:Inv X pins σ H s) (h:SqT X.K H a xs):∃ its:List Value,Vals xs its/\IsTup s.heap a its.toArray/\xs.length <= sizeLine:=by
 rcases h with h | ⟨o,its,n,hk,hc,hs,hz,r⟩
 ·obtain ⟨z,its,r,p⟩:=h.ok I.hok;exact ⟨its,r,p,z⟩
 ·refine ⟨its.toList,r,⟨o,I.kIn a o hk,hc,n,by simpa using hs⟩,?_⟩;have e:=r.length;simp only [YBa] at e;omega
theorem Inv.list_inj (I:Inv X pins σ H s) (h:SqL X.K H a xs) (h':SqL X.K H a ys):xs = ys:=by
 obtain ⟨its,r,⟨o,n,e,_,_,d⟩,_⟩:=I.list h;obtain ⟨its',r',⟨o',n',e',_,_,d'⟩,_⟩:=I.list h';rw [e] at e';cases e';rw [d] at d';injection d' with d1 _
 have:its = its':=by simpa using congrArg Array.toList d1
 subst this;exact r.inj r'
theorem Inv.tuple_inj (I:Inv X pins σ H s) (h:SqT X.K H a xs) (h':SqT X.K H a ys):xs = ys:=by
 obtain ⟨its,r,⟨o,e,_,n,d⟩,_⟩:=I.tuple h;obtain ⟨its',r',⟨o',e',_,n',d'⟩,_⟩:=I.tuple h';rw [e] at e';cases e';rw [d] at d';injection d' with d1 _
 have:its = its':=by simpa using congrArg Array.toList d1
 subst this;exact r.inj r'
end
abbrev Cx.wish (X:Cx) (E:Value->Shared->Prop):Cx:={ X with xe:=E }
abbrev Cx.nox (X:Cx):Cx:=X.wish λ_ _=>False
theorem Cx.Ok.wish {X:Cx} (ok:X.Ok) (E:Value->Shared->Prop):(X.wish E).Ok:=
 ⟨ok.mod,ok.kind,ok.glob,ok.blt,ok.above,ok.inj,ok.has,ok.cab,ok.hd,ok.frames,ok.stk,ok.exf,ok.bs,ok.bsz,ok.noex,ok.exfs,ok.funs,ok.frf⟩
theorem Cx.Ok.unwish {X:Cx} {E:Value->Shared->Prop} (ok:(X.wish E).Ok):X.Ok:=
 ⟨ok.mod,ok.kind,ok.glob,ok.blt,ok.above,ok.inj,ok.has,ok.cab,ok.hd,ok.frames,ok.stk,ok.exf,ok.bs,ok.bsz,ok.noex,ok.exfs,ok.funs,ok.frf⟩
section
variable {X:Cx} {pins:List (Addr × Obj)} {σ:St} {H:Hp} {s:Shared} {E:Value->Shared->Prop}
theorem Inv.wish (I:Inv X pins σ H s) (E:Value->Shared->Prop):Inv (X.wish E) pins σ H s:=⟨I.ok.wish E,I.os,I.bare,I.base,I.loc,I.cell,I.free,I.freeC,I.pin,I.hok,I.len⟩
theorem Inv.unwish (I:Inv (X.wish E) pins σ H s):Inv X pins σ H s:=⟨I.ok.unwish,I.os,I.bare,I.base,I.loc,I.cell,I.free,I.freeC,I.pin,I.hok,I.len⟩
theorem SP.unwish  (h:SP (X.wish E) pins D f s'):SP X pins D f s':=by
 cases f with
 | next=>obtain ⟨σ',H',I,q⟩:=h;exact ⟨σ',H',I.unwish,q⟩
 | brk=>obtain ⟨σ',H',I,q⟩:=h;exact ⟨σ',H',I.unwish,q⟩
 | cont=>obtain ⟨σ',H',I,q⟩:=h;exact ⟨σ',H',I.unwish,q⟩
 | ret u=>obtain ⟨v,σ',H',I,r,q⟩:=h;exact ⟨v,σ',H',I.unwish,r,q⟩
theorem PE.nox  (h:PE X.nox e t):PE X e t:=λpins s σ H Q I hw=>
 YAT (h pins s σ H Q (I.wish _) hw) (λ_ _ ⟨v,H',I',r,q⟩=>⟨v,H',I'.unwish,r,q⟩) λ_ _ z=>False.elim z
theorem PT.nox  (h:PT X.nox e t):PT X e t:=λpins s σ H Q I hw=>
 YAT (h pins s σ H Q (I.wish _) hw) (λ_ _ ⟨H',I',q⟩=>⟨H',I'.unwish,q⟩) λ_ _ z=>False.elim z
theorem PSs.nox {st:List Stmt} {t:TS} (h:PSs X.nox st t):PSs X st t:=λpins s σ H D I hw=>
 YAT (h pins s σ H D (I.wish _) hw) (λ_ _ q=>q.unwish) λ_ _ z=>False.elim z
end
section
variable {X:Cx} {st:Stmt} {rest:List Stmt} {t u:TS} {e:Expr} {te:TE} {pos:Pos}
def zsX:TS:=λD σ H=>D.nx σ H
def tSeq (t u:TS):TS:=λD σ H=>t { D with nx:=u D } σ H
theorem zfI:PSs X [] zsX:=λ_ _ σ H _ I h=>YCb ⟨σ,H,I,h⟩
theorem zaL (h1:PS X st t) (h2:PSs X rest u):PSs X (st :: rest) (tSeq t u):=by
 intro pins s σ H D I h;refine wpAny_execs_cons (thn (h1 pins s σ H { D with nx:=u D } I h) λf s1 q=>?_);cases f with
 | next=>
  obtain ⟨σ',H',I',q⟩:=q;exact h2 pins s1 σ' H' D I' q
 | ret v=>exact q
 | brk=>exact q
 | cont=>exact q
theorem zdC (h1:PS X st t):PSs X [st] t:=by
 intro pins s σ H D I h;refine wpAny_execs_cons (thn (h1 pins s σ H D I h) λf s1 q=>?_);cases f with
 | next=>exact YCb q
 | ret v=>exact q
 | brk=>exact q
 | cont=>exact q
theorem Inv.quiet {pins:List (Addr × Obj)} {σ:St} {H:Hp} {s:Shared} (I:Inv X pins σ H s):interactive X.env = false:=by simp [interactive,I.ok.kind]
def ztt (te:TE):TS:=λD σ H=>te σ H λ_ H1=>D.nx σ H1
theorem zfR (he:PE X e te) (hs:swapsWith e none pos.line X.env = pure false:=by rfl):PS X (.Expr e pos) (ztt te):=by
 intro pins s σ H D I h;exact wpAny_Expr_any (thn (he pins s σ H _ I h) λv s1 ⟨x,H1,I1,r1,q1⟩=>⟨σ,H1,I1,q1⟩) I.quiet hs
def tRet (te:TE):TS:=λD σ H=>te σ H D.rt
theorem zgf (he:PE X e te):PS X (.Return (some e) pos) (tRet te):=by
 intro pins s σ H D I h;exact wpAny_Return_some (thn (he pins s σ H _ I h) λv s1 ⟨x,H1,I1,r1,q1⟩=>⟨x,σ,H1,I1,r1,q1⟩)
def tIfS (c:TT) (t u:TS):TS:=λD σ H=>c σ H λb H1=>if b = true then t D σ H1 else u D σ H1
theorem zjO {c:Expr} {a b:List Stmt} {tc:TT} (hc:PT X c tc) (ha:PSs X a t) (hb:PSs X b u):PS X (.If c a b pos) (tIfS tc t u):=by
 intro pins s σ H D I h;refine wpAny_If (thn (hc pins s σ H _ I h) λd s1 ⟨H1,I1,q1⟩=>?_);cases d with
 | true=>exact ha pins s1 σ H1 D I1 q1
 | false=>exact hb pins s1 σ H1 D I1 q1
end
abbrev TG:=V->St->Hp->(St->Hp->Prop)->Prop
abbrev TGs:=List V->St->Hp->(St->Hp->Prop)->Prop
def PG (X:Cx) (target:Expr) (t:TG):Prop:=
 ∀ (pins:List (Addr × Obj)) (s:Shared) (σ:St) (H:Hp) (v:V) (u:Value) (Q:St->Hp->Prop),Inv X pins σ H s->RelV v u->t v σ H Q ->
  wpAny (model X.prog X.w) X.A (assign target X.env u) (λ_ s'=>∃ σ' H',Inv X pins σ' H' s'/\Q σ' H') X.xe s
def PGs (X:Cx) (ts:List Expr) (t:TGs):Prop:=
 ∀ (pins:List (Addr × Obj)) (s:Shared) (σ:St) (H:Hp) (vs:List V) (us:List Value) (Q:St->Hp->Prop),Inv X pins σ H s->Vals vs us->t vs σ H Q ->
  wpAny (model X.prog X.w) X.A (assignInOrder ((assignEach ts X.env).map (·.2)) us) (λ_ s'=>∃ σ' H',Inv X pins σ' H' s'/\Q σ' H') X.xe s
abbrev TSet:=V->V->V->Hp->(Hp->Prop)->Prop
def PSet (X:Cx) (t:TSet):Prop:=
 ∀ (pins:List (Addr × Obj)) (s:Shared) (σ:St) (H:Hp) (o i v:V) (ov iv u:Value) (Q:Hp->Prop),Inv X pins σ H s->RelV o ov->RelV i iv->RelV v u->t o i v H Q ->
  wpAny (model X.prog X.w) X.A (setItem ov iv u) (λ_ s'=>∃ H',Inv X pins σ H' s'/\Q H') X.xe s
abbrev TIp:=V->V->Hp->VK->Prop
def PIp (X:Cx) (op:Operator) (t:TIp):Prop:=
 ∀ (pins:List (Addr × Obj)) (s:Shared) (σ:St) (H:Hp) (x y:V) (v u:Value) (Q:VK),Inv X pins σ H s->RelV x v->RelV y u->t x y H Q ->
  wpAny (model X.prog X.w) X.A (inplaceOp op v u) (EP X pins σ Q) X.xe s
section
variable {X:Cx} {pos:Pos}
def ziM (i:Nat):TG:=λv σ H Q=>Q (σ.set i (some v)) H
theorem zqI  (hN:X.N.Nodup) (hi:X.N[i]? = some x) (hx:Loc X.env.scope x) (hf:X.fn x = true\/X.env.scope.names.lookup x = some .local:=by first | exact .inl rfl | exact .inr rfl | assumption):PG X (.Name x pos) (ziM i):=by
 intro pins s σ H v u Q I r h;exact wpAny_assign_Name (zfC I hN hi hx r (λs' I'=>⟨_,H,I',h⟩) hf)
def gNil:TGs:=λvs σ H Q=>vs = []/\Q σ H
def zob (t:TG) (u:TGs):TGs:=λvs σ H Q=>∃ v r,vs = v :: r/\t v σ H λσ' H'=>u r σ' H' Q
theorem zb0:PGs X [] gNil:=by
 intro pins s σ H vs us Q I r h;obtain ⟨e,h⟩:=h;subst e;cases r;exact assignInOrder_nil ⟨σ,H,I,h⟩
theorem zat {e:Expr} {es:List Expr} {t:TG} {u:TGs} (h1:PG X e t) (h2:PGs X es u)
  (hs:(assignEach (e :: es) X.env).map (·.2) = assign e X.env :: (assignEach es X.env).map (·.2):=by rfl):PGs X (e :: es) (zob t u):=by
 intro pins s σ H vs us Q I r h;obtain ⟨v,vr,e1,h⟩:=h;subst e1;cases r with
 | cons r rr=>
  rw [hs];refine YCh (thn (h1 pins s σ H _ _ _ I r h) λ_ s1 ⟨σ1,H1,I1,q1⟩=>?_);exact h2 pins s1 σ1 H1 _ _ Q I1 rr q1
def gTup (K:PySem.W.Frag) (n:Nat) (t:TGs):TG:=λv σ H Q=>∃ a xs,v = .ref a/\SqT K H a xs/\xs.length = n/\t xs σ H Q
theorem zr5   (hc:X.calm = true) (h:PGs X es t)
  (hn:(assignEach es X.env).length = n:=by rfl) (hst:(assignEach es X.env).findIdx? (·.1) = none:=by rfl):PG X (.Tuple es k pos) (gTup X.K n t):=by
 intro pins s σ H v u Q I r hw;obtain ⟨a,xs,e1,hq,hl,hw⟩:=hw;subst e1;cases r;obtain ⟨its,rv,ht,hz⟩:=I.tuple hq;refine assign_Tuple_tuple (I.ok.hd hc) ht (by simp [hn,<- hl,rv.length]) hst λh' hx=>?_;have I1:Inv X pins σ H { s with heap:=h' }:=I.kept (t':=s.toks) λb o e=>hx b o (YAr (YAj e)) e;exact h pins _ σ H xs _ Q I1 (by simpa using rv) hw
def gSub (to ti:TE) (t:TSet):TG:=λv σ H Q=>to σ H λo H1=>ti σ H1 λi H2=>t o i v H2 λH3=>Q σ H3
theorem zkS {o i:Expr} {to ti:TE} {t:TSet} (ho:PE X o to) (hi:PE X i ti) (hs:PSet X t)
  (ha:∀ v,assign (.Subscript o i pos) X.env v = (do
   let ov <- holding [v] (eval o X.env)
   let iv <- holding [v,ov] (eval i X.env)
   standAt pos
   holding [v,ov,iv] (setItem ov iv v)
   release [v,ov,iv] []):=by intro _;rfl):PG X (.Subscript o i pos) (gSub to ti t):=by
 intro pins s σ H v u Q I r h;rw [ha];refine YAa (YA3 (thn (ho pins s σ H _ I h) λov s1 ⟨x,H1,I1,r1,q1⟩=>?_));refine YAa (YA3 (thn (hi pins s1 σ H1 _ I1 q1) λiv s2 ⟨y,H2,I2,r2,q2⟩=>?_));refine YAa (YB5 (YAa (YA3 (thn (hs pins s2 σ H2 x y v ov iv u _ I2 r1 r2 r q2) λ_ s3 ⟨H3,I3,q3⟩=>?_))));exact wpAny_release ⟨σ,H3,I3,q3⟩
def tAsg (te:TE) (g:TG):TS:=λD σ H=>te σ H λx H1=>g x σ H1 D.nx
theorem zgL {tg e:Expr} {te:TE} {g:TG} (he:PE X e te) (hg:PG X tg g) (hs:swapsWithSole [tg] e pos.line X.env = pure false:=by rfl) (hw:swappedStores [tg] e X.env = pure none:=by rfl)
  (h1:(assignEach [tg] X.env).map (·.2) = [assign tg X.env]:=by rfl):PS X (.Assign [tg] e pos) (tAsg te g):=by
 intro pins s σ H D I h;refine wpAny_Assign_stores (thn (he pins s σ H _ I h) λv s1 ⟨x,H1,I1,r1,q1⟩=>?_) hs hw;rw [h1];exact thn (hg pins s1 σ H1 x v _ I1 r1 q1) λ_ s2 q=>q
theorem zdx {i:Nat} {x:Str} {e:Expr} {te:TE} {pos':Pos} (hN:X.N.Nodup) (hi:X.N[i]? = some x) (hx:Loc X.env.scope x) (he:PE X e te) (hs:swapsWith e (some (.Name x pos')) pos.line X.env = pure false:=by rfl) (hf:X.fn x = true\/X.env.scope.names.lookup x = some .local:=by first | exact .inl rfl | exact .inr rfl | assumption) :
  PS X (.Assign [.Name x pos'] e pos) (tAsg te (ziM i)):=by
 intro pins s σ H D I h;refine wpAny_Assign_Name (thn (he pins s σ H _ I h) λv s1 ⟨y,H1,I1,r1,q1⟩=>?_) hs;exact zfC I1 hN hi hx r1 (λs2 I2=>⟨_,H1,I2,q1⟩) hf
def tPar (i j:Nat) (ta:TA):TS:=λD σ H=>ta σ H λvs H1=>∃ v w,vs = [v,w]/\D.nx ((σ.set i (some v)).set j (some w)) H1
theorem zrA {i j:Nat} {x y:Str} {a b:Expr} {ta:TA} {px py pt:Pos} {kt k2 pt2} (hc:X.calm = true) (hN:X.N.Nodup) (hi:X.N[i]? = some x) (hj:X.N[j]? = some y) (hij:i ≠ j)
  (hx:X.env.scope.names.lookup x = some .local) (hy:X.env.scope.names.lookup y = some .local) (ha:PA X [a,b] ta)
  (hw:swappedStores [.Tuple [.Name x px,.Name y py] kt pt] (.Tuple [a,b] k2 pt2) X.env = pure (some [x,y]))
  (hs:swapsWithSole [.Tuple [.Name x px,.Name y py] kt pt] (.Tuple [a,b] k2 pt2) pos.line X.env = pure false:=by rfl) :
  PS X (.Assign [.Tuple [.Name x px,.Name y py] kt pt] (.Tuple [a,b] k2 pt2) pos) (tPar i j ta):=by
 intro pins s σ H D I h;rw [exec_Assign_arm];refine YAa (YB5 ?_);rw [hs];refine YAa (YAe ?_);rw [if_neg (by decide)];refine YAa (Tuple_ (thn (ha _ pins s σ H _ I h) λus s1 ⟨vs,H1,I1,r1,q1⟩=>?_));obtain ⟨v,w,e1,q1⟩:=q1;subst e1;obtain ⟨u1,u2,rfl,rv,rw'⟩:∃ u1 u2,us = [u1,u2]/\RelV v u1/\RelV w u2:=by
  cases r1 with
  | cons p q=>
   cases q with
   | cons p' q'=>
    cases q';exact ⟨_,_,rfl,p,p'⟩
 refine YAN ?_ (by show 2 <= sizeLine;decide);have I2:Inv X pins σ H1 { s1 with heap:=s1.heap.push { cls:=.type "tuple",data:=.seq [u1,u2].toArray } }:=I1.kept (t':=s1.toks) λb o e=>YAb _ e;rw [hw];refine YAa (YAe ?_);show wpAny (model X.prog X.w) X.A (do rule "assign.swapped-stores"; let items <- unpackItems (.ref s1.heap.objs.size) 2 none;assignInOrder [λv=>bindName X.env y v,λv=>bindName X.env x v] items.reverse;pure Flow.next) _ _ _;refine YAa (YB9 (YAa (unpackItems_tuple (items:=#[u1,u2]) (I.ok.hd hc) (IsTup.new s1.heap _) λh' hx'=>?_)));have I3:=I2.kept (h':=h') (t':=s1.toks) λb o e=>hx' b o (YAr (YAj e)) e;show wpAny _ _ (assignInOrder [λv=>bindName X.env y v,λv=>bindName X.env x v] [u2,u1] >>= λ_=>pure Flow.next) _ _ _;refine YAa (YCh (wpAny_bindName (zfC I3 hN hj (.inl hy) rw' (λs2 I4=>?_) (.inr hy))));refine YCh (wpAny_bindName (zfC I4 hN hi (.inl hx) rv (λs3 I5=>assignInOrder_nil (YAe ?_)) (.inr hx)));rw [List.set_comm _ _ (YAO hij)] at I5;exact ⟨_,H1,I5,q1⟩
def ztG (to ti te:TE) (tget:V->V->Hp->VK->Prop) (tip:TIp) (tset:TSet):TS:=λD σ H=>to σ H λo H1=>ti σ H1 λi H2=>tget o i H2 λx H3=>te σ H3 λy H4=>tip x y H4 λz H5=>tset o i z H5 λH6=>D.nx σ H6
def PGet (X:Cx) (t:V->V->Hp->VK->Prop):Prop:=
 ∀ (pins:List (Addr × Obj)) (s:Shared) (σ:St) (H:Hp) (o i:V) (ov iv:Value) (Q:VK),Inv X pins σ H s->RelV o ov->RelV i iv->t o i H Q ->
  wpAny (model X.prog X.w) X.A (getItem ov iv) (EP X pins σ Q) X.xe s
theorem zpQ {o i e:Expr} {to ti te:TE} {tget:V->V->Hp->VK->Prop} {tip:TIp} {tset:TSet} {op:Operator} {tpos:Pos} (ho:PE X o to) (hi:PE X i ti) (hg:PGet X tget) (he:PE X e te) (hp:PIp X op tip) (hs:PSet X tset)
  (ha:∀ ov iv new,augStore i ov iv new = (do holding [new,ov,iv] (setItem ov iv new);release [new,ov,iv] [];pure .next):=by intros;rfl):PS X (.AugAssign (.Subscript o i tpos) op e pos) (ztG to ti te tget tip tset):=by
 intro pins s σ H D I h;refine wpAny_AugAssign_SubscriptAny (thn (ho pins s σ H _ I h) λov s1 ⟨x1,H1,I1,r1,q1⟩=>?_) ha;refine thn (hi pins s1 σ H1 _ I1 q1) λiv s2 ⟨x2,H2,I2,r2,q2⟩=>?_;refine thn (hg pins s2 σ H2 x1 x2 ov iv _ I2 r1 r2 q2) λold s3 ⟨x3,H3,I3,r3,q3⟩=>?_;refine thn (he pins s3 σ H3 _ I3 q3) λv s4 ⟨x4,H4,I4,r4,q4⟩=>?_;refine thn (hp pins s4 σ H4 x3 x4 old v _ I4 r3 r4 q4) λnew s5 ⟨x5,H5,I5,r5,q5⟩=>?_;exact thn (hs pins s5 σ H5 x1 x2 x5 ov iv new _ I5 r1 r2 r5 q5) λ_ s6 ⟨H6,I6,q6⟩=>⟨σ,H6,I6,q6⟩
def ipI (f:Int->Int->Int):TIp:=λx y H Q=>∃ i j,x = .int i/\y = .int j/\Q (.int (f i j)) H
theorem zr9:PIp X .Add (ipI λi j=>i + j):=by
 intro pins s σ H x y v u Q I r1 r2 h;obtain ⟨i,j,e1,e2,q⟩:=h;subst e1;subst e2;obtain ⟨t,rfl⟩:=r1;obtain ⟨t',rfl⟩:=r2;exact iadd_int ⟨.int _,H,I.tok _,⟨_,rfl⟩,q⟩
end
structure It where
 go:Nat->Hp->Prop
 yld:Nat->Hp->V->Hp->Prop
 stop:Nat->Hp->Prop
def FpOk (X:Cx) (pins:List (Addr × Obj)) (H:Hp) (b:Addr):Prop:=
 H b = none/\b ≠ X.env.locals/\b ∉ X.fs/\(b ∈ X.ex\/X.s₀.heap.objs.size <= b)/\(∀ x c,X.env.cells.lookup x = some c->c ≠ b)/\∀ p ∈ X.pn ++ pins,p.1 ≠ b
theorem Inv.fpOk {X:Cx} {pins:List (Addr × Obj)} {σ:St} {H H':Hp} {s:Shared} {b:Addr} (I:Inv X pins σ H s) (hb:s.heap.objs.size <= b) (hn:H' b = none):FpOk X pins H' b:=by
 refine ⟨hn,YBx (YAo I.lt hb),I.nofs hb,.inr (YAB I.sz hb),λx c e z=>?_,λp hp z=>?_⟩
 ·obtain ⟨v,q⟩:=I.cell x c e;exact absurd (YAo q.lt (by rw [z];exact hb)) (YA2 _)
 ·exact absurd (YAo (YAj (I.pin p hp).1) (by rw [z];exact hb)) (YA2 _)
structure Turn (P:Program) (w:World) (K:PySem.W.Frag) (tg:Expr) (J:It) (fp:List Addr) (it:Addr) (tn:Nat->Heap->Prop):Prop where
 mem:it ∈ fp
 obj:∀ i h,tn i h->∀ b ∈ fp,∃ o,h.get? b = some o/\∀ v,o.data ≠ .cell v
 keep:∀ i h h',tn i h->(∀ b ∈ fp,∀ o,h.get? b = some o->h'.get? b = some o)->tn i h'
 item:∀ (X:Cx),X.prog = P->X.w = w->X.K = K->X.calm = true->∀ (i:Nat) (pins:List (Addr × Obj)) (s:Shared) (σ:St) (H:Hp) (E:Value->Shared->Prop),Inv X pins σ H s->(∀ b ∈ fp,FpOk X pins H b)->tn i s.heap->J.go i H ->
  wpAny (model P w) X.A (pyNext (.ref it)) (λr s1=>∃ u,r = some u /\
   wpAny (model P w) X.A (letOwnedTupleGo tg (.ref it) u) (λ_ s2=>∃ x H',Inv X pins σ H' s2/\RelV x u/\J.yld i H x H'/\tn (i + 1) s2.heap/\∀ b ∈ fp,H' b = none) E s1) E s
 done:∀ (X:Cx),X.prog = P->X.w = w->X.K = K->X.calm = true->∀ (i:Nat) (pins:List (Addr × Obj)) (s:Shared) (σ:St) (H:Hp) (E:Value->Shared->Prop),Inv X pins σ H s->(∀ b ∈ fp,FpOk X pins H b)->tn i s.heap->J.stop i H ->
  wpAny (model P w) X.A (pyNext (.ref it)) (λr s1=>r = none/\Inv X pins σ H s1) E s
 self:∀ (A:Around) (i:Nat) (s:Shared) (Q:Value->Shared->Prop) (E:Value->Shared->Prop),tn i s.heap->Q (.ref it) s->wpAny (model P w) A (pyIter (.ref it)) Q E s
abbrev TI:=St->Hp->(It->Hp->Prop)->Prop
def PIE (X:Cx) (pins:List (Addr × Obj)) (σ:St) (tg:Expr) (R:It->Hp->Prop) (itv:Value) (s2:Shared):Prop:=
 ∃ (it:Addr) (fp:List Addr) (tn:Nat->Heap->Prop) (J:It) (H':Hp),itv = .ref it/\Inv X pins σ H' s2/\Turn X.prog X.w X.K tg J fp it tn/\tn 0 s2.heap/\(∀ b ∈ fp,FpOk X pins H' b)/\R J H'
def PI (X:Cx) (tg iter:Expr) (wi:TI):Prop:=
 ∀ (pins:List (Addr × Obj)) (s:Shared) (σ:St) (H:Hp) (R:It->Hp->Prop),Inv X pins σ H s->wi σ H R ->
  wpAny (model X.prog X.w) X.A (eval iter X.env) (λv s1=>wpAny (model X.prog X.w) X.A (pyIter v) (PIE X pins σ tg R) X.xe s1) X.xe s
theorem zlS      (ho:s.heap.get? it = some o) (hc:o.cls = .type n) (hd:o.data = .fields vs)
    (hn:["enumerate","zip","dict_itemiterator","dict_reverseitemiterator","odict_iterator","itertools.zip_longest","itertools.pairwise"].contains n = false) (hQ:Q () s):wpAny M A (letOwnedTupleGo tg (.ref it) u) Q E s:=by
  unfold letOwnedTupleGo;cases tg <;> first
    | exact YAe hQ
    | (cases u <;> first
        | exact YAe hQ
        | (refine YAa (wpAny_load ho ?_)
           rw [hc,hd];show wpAny M A (if (["enumerate","zip","dict_itemiterator","dict_reverseitemiterator","odict_iterator","itertools.zip_longest","itertools.pairwise"].contains n && vs[0]? == some (rawInt _)) = true then _ else _) Q E s;rw [if_neg (by intro h;rw [hn,Bool.false_and] at h;cases h)];exact YAe hQ))
def Itl (K:PySem.W.Frag) (a:Addr):It:=
 ⟨λi H=>∃ xs x,SqL K H a xs/\xs[i]? = some x,λi H x H'=>H' = H/\∀ xs,SqL K H a xs->xs[i]? = some x,λi H=>∃ xs,SqL K H a xs/\xs.length <= i⟩
def Itt (K:PySem.W.Frag) (a:Addr):It:=
 ⟨λi H=>∃ xs x,SqT K H a xs/\xs[i]? = some x,λi H x H'=>H' = H/\∀ xs,SqT K H a xs->xs[i]? = some x,λi H=>∃ xs,SqT K H a xs/\xs.length <= i⟩
def Itr (lo:Int) (n:Nat):It:=⟨λi _=>i < n,λi H x H'=>H' = H/\x = .int (lo + i),λi _=>n <= i⟩
theorem znd {P:Program} {w:World} {K:PySem.W.Frag} {tg:Expr} (a it:Addr):Turn P w K tg (Itl K a) [it] it (λi h=>h.IsListIter it a i) where
 mem:=by simp
 obj:=λi h st b hb=>by
  have e:b = it:=by simpa using hb
  subst e;obtain ⟨o,e,c,d⟩:=st;exact ⟨o,e,λv z=>by rw [d] at z;cases z⟩
 keep:=λi h h' st k=>st.at λo e=>k it (by simp) o e
 item:=by
  intro X hP hw hK hc i pins s σ H E I hf st hg;subst hP hw hK;obtain ⟨xs,x,hq,hx⟩:=hg;obtain ⟨its,rv,p,hz⟩:=I.list hq;obtain ⟨u,hu,ru⟩:=rv.get hx;obtain ⟨f0,f1,f2,f3,f4,f5⟩:=hf it (by simp);refine wpAny_pyNext_list_item st p.isList (x:=u) (by simpa using hu) λh' st' sb=>?_;have I1:Inv X pins σ H { s with heap:=h' }:=I.turned (t':=s.toks) (λb o hb e=>(sb.2 b hb).trans e) f0 f1 f3 f4 f5;obtain ⟨o,e,c,d⟩:=id st';exact ⟨u,rfl,zlS (s:={ s with heap:=h' }) e c d (by decide) ⟨x,H,I1,ru,⟨rfl,λys hy=>by rw [I.list_inj hy hq];exact hx⟩,st',λb hb=>(hf b hb).1⟩⟩
 done:=by
  intro X hP hw hK hc i pins s σ H E I hf st hg;subst hP hw hK;obtain ⟨xs,hq,hx⟩:=hg;obtain ⟨its,rv,p,hz⟩:=I.list hq;obtain ⟨f0,f1,f2,f3,f4,f5⟩:=hf it (by simp);have hl:=rv.length;exact wpAny_pyNext_list_end (I.ok.hd hc) st p.isList (by simp;omega) λh' eb=>⟨rfl,I.turned (t':=s.toks) (λb o hb e=>eb b o hb e) f0 f1 f3 f4 f5⟩
 self:=λ_ _ _ _ _ st h=>wpAny_pyIter_listiter st h
theorem zk4 {P:Program} {w:World} {K:PySem.W.Frag} {tg:Expr} (a it:Addr):Turn P w K tg (Itt K a) [it] it (λi h=>h.IsTupleIter it a i) where
 mem:=by simp
 obj:=λi h st b hb=>by
  have e:b = it:=by simpa using hb
  subst e;obtain ⟨o,e,c,d⟩:=st;exact ⟨o,e,λv z=>by rw [d] at z;cases z⟩
 keep:=λi h h' st k=>st.at λo e=>k it (by simp) o e
 item:=by
  intro X hP hw hK hc i pins s σ H E I hf st hg;subst hP hw hK;obtain ⟨xs,x,hq,hx⟩:=hg;obtain ⟨its,rv,p,hz⟩:=I.tuple hq;obtain ⟨u,hu,ru⟩:=rv.get hx;obtain ⟨f0,f1,f2,f3,f4,f5⟩:=hf it (by simp);refine wpAny_pyNext_tuple_item st (show s.heap.IsTuple a its.toArray from p) (x:=u) (by simpa using hu) λh' st' sb=>?_;have I1:Inv X pins σ H { s with heap:=h' }:=I.turned (t':=s.toks) (λb o hb e=>(sb.2 b hb).trans e) f0 f1 f3 f4 f5;obtain ⟨o,e,c,d⟩:=id st';exact ⟨u,rfl,zlS (s:={ s with heap:=h' }) e c d (by decide) ⟨x,H,I1,ru,⟨rfl,λys hy=>by rw [I.tuple_inj hy hq];exact hx⟩,st',λb hb=>(hf b hb).1⟩⟩
 done:=by
  intro X hP hw hK hc i pins s σ H E I hf st hg;subst hP hw hK;obtain ⟨xs,hq,hx⟩:=hg;obtain ⟨its,rv,p,hz⟩:=I.tuple hq;obtain ⟨f0,f1,f2,f3,f4,f5⟩:=hf it (by simp);have hl:=rv.length;exact wpAny_pyNext_tuple_end (I.ok.hd hc) st (show s.heap.IsTuple a its.toArray from p) (by simp;omega) λh' eb=>⟨rfl,I.turned (t':=s.toks) (λb o hb e=>eb b o hb e) f0 f1 f3 f4 f5⟩
 self:=λ_ _ _ _ _ st h=>wpAny_pyIter_tupleiter st h
theorem zlG {P:Program} {w:World} {K:PySem.W.Frag} {tg:Expr} (it:Addr) (lo:Int) (n:Nat):Turn P w K tg (Itr lo n) [it] it (λi h=>IsRangeIter h it (lo + (i:Nat) * 1) ((n:Int) - (i:Nat)) 1) where
 mem:=by simp
 obj:=λi h st b hb=>by
  have e:b = it:=by simpa using hb
  subst e;exact ⟨_,st,λv z=>by
   have z':Data.fields _ = Data.cell v:=z;cases z'⟩
 keep:=λi h h' st k=>k it (by simp) _ st
 item:=by
  intro X hP hw hK hc i pins s σ H E I hf st hg;subst hP hw hK;obtain ⟨f0,f1,f2,f3,f4,f5⟩:=hf it (by simp);have W:=Walks.range (prog:=X.prog) (w:=X.w) (I.ok.hd hc) it lo 1 n;refine W.item i s _ _ hg st λv h' tk hv st' kk=>?_;obtain ⟨t,rfl⟩:=hv;have I1:Inv X pins σ H { s with heap:=h',toks:=tk }:=I.turned (λb o hb e=>kk b o (by simpa using hb) e) f0 f1 f3 f4 f5;refine ⟨_,rfl,zlS (s:={ s with heap:=h',toks:=tk }) (n := "range_iterator") st' rfl rfl (by decide) ⟨.int (lo + i),H,I1,⟨t,?_⟩,⟨rfl,rfl⟩,st',λb hb=>(hf b hb).1⟩⟩;rw [Int.mul_one]
 done:=by
  intro X hP hw hK hc i pins s σ H E I hf st hg;subst hP hw hK;obtain ⟨f0,f1,f2,f3,f4,f5⟩:=hf it (by simp);exact wpAny_pyNext_range_end (I.ok.hd hc) st (by have:n <= i:=hg;omega) λh' eb=>⟨rfl,I.turned (t':=s.toks) (λb o hb e=>eb b o hb e) f0 f1 f3 f4 f5⟩
 self:=λ_ _ _ _ _ st h=>wpAny_pyIter_rangeiter st h
section
variable {X:Cx} {tg:Expr}
theorem zoF {pins:List (Addr × Obj)} {σ:St} {H:Hp} {s:Shared} {R:It->Hp->Prop} {E:Value->Shared->Prop} {lo hi:Int} {t u v:Tok} {tk:Nat} (I:Inv X pins σ H s) (h1:-(2 ^ 62) <= lo) (h2:lo < 2 ^ 62) (h3:-(2 ^ 62) <= hi) (h4:hi < 2 ^ 62)
  (q:R (Itr lo (hi - lo).toNat) H):wpAny (model X.prog X.w) X.A (pyIter (.ref s.heap.objs.size)) (PIE X pins σ tg R) E { s with heap:=s.heap.push { cls:=.type "range",data:=.fields #[.int lo t,.int hi u,.int 1 v] },toks:=tk }:=by
 refine wpAny_pyIter_range (IsRange.new ..) (small_one h1 h2 h3 h4) ?_;have I1:Inv X pins σ H { s with heap:=s.heap.push { cls:=.type "range",data:=.fields #[.int lo t,.int hi u,.int 1 v] },toks:=tk }:=I.kept λb o e=>YAb _ e;refine ⟨(s.heap.push { cls:=.type "range",data:=.fields #[.int lo t,.int hi u,.int 1 v] }).objs.size,[(s.heap.push { cls:=.type "range",data:=.fields #[.int lo t,.int hi u,.int 1 v] }).objs.size],_,_,H,rfl,
  I1.kept (t':=tk) λb o e=>YAb _ e,zlG _ lo (hi - lo).toNat,?_,λb hb=>?_,q⟩
 ·have e1:lo + ((0:Nat):Int) * 1 = lo:=by simp
  have e2:(((hi - lo).toNat:Nat):Int) - ((0:Nat):Int) = Builtin.Range.rangeSize lo hi 1:=by rw [rangeSize_one];split <;> omega
  show IsRangeIter _ _ (lo + ((0:Nat):Int) * 1) ((((hi - lo).toNat:Nat):Int) - ((0:Nat):Int)) 1;rw [e1,e2];exact YAn _ rfl
 ·have e:b = (s.heap.push { cls:=.type "range",data:=.fields #[.int lo t,.int hi u,.int 1 v] }).objs.size:=by simpa using hb
  subst e;exact I1.fpOk (YAm _) (I1.hok.fresh (YAm _))
def ztB (ta:TA):TI:=λσ H R=>ta σ H λvs H1=>∃ j:Int,vs = [.int j]/\-(2 ^ 62) <= j/\j < 2 ^ 62/\R (Itr 0 j.toNat) H1
theorem zm5 {a:Expr} {ta:TA} {p pos:Pos} (hg:Gl X "range") (hm:X.mg "range" = none) (ha:PA X [a] ta) (hs:starEach [a] X.env = [(false,eval a X.env)]:=by rfl):PI X tg (.Call (.Name "range" p) [a] [] pos) (ztB ta):=by
 intro pins s σ H R I h;refine Call_ (ziR I hg hm boot_range (YBy (thn (ha pos pins s σ H _ I h) λus s1 ⟨vs,H1,I1,r1,q1⟩=>?_) hs rfl));obtain ⟨j,e,q1,q2,q⟩:=q1;subst e;cases r1 with
 | cons r rr=>
  cases rr;obtain ⟨t,rfl⟩:=r;exact call_range_1 (zoF I1 (by omega) (by omega) q1 q2 (by simpa using q))
def tFor (wi:TI) (g:TG) (tb:TS):TS:=λD σ H=>wi σ H λJ H1=>∃ W:Nat->Nat->St->Hp->Prop,(∃ m,W 0 m σ H1)/\∀ i m σ H,W i m σ H ->
 (J.stop i H/\D.nx σ H)\/(J.go i H/\∃ N:St->Hp->Prop,(∀ σ' H',N σ' H'->∃ m',m' < m/\W (i + 1) m' σ' H')/\∀ x H',J.yld i H x H'->g x σ H' λσ2 H2=>tb { D with nx:=N,ct:=N,bk:=D.nx } σ2 H2)
def ziQ (fp:List Addr) (h:Heap):List (Addr × Obj):=fp.filterMap λb=>(h.get? b).map λo=>(b,o)
theorem zd0 {fp:List Addr} {h:Heap} {b:Addr} {o:Obj} (hb:b ∈ fp) (e:h.get? b = some o):(b,o) ∈ ziQ fp h:=YCi.mpr ⟨b,hb,by rw [e];rfl⟩
theorem znm  (hp:p ∈ ziQ fp h):p.1 ∈ fp/\h.get? p.1 = some p.2:=by
 obtain ⟨b,hb,e⟩:=YCi.mp hp;cases q:h.get? b with
 | none=>rw [q] at e;cases e
 | some o=>
  rw [q] at e;have e':(b,o) = p:=Option.some.inj e;subst e';exact ⟨hb,q⟩
theorem Inv.pinned {pins:List (Addr × Obj)} {σ:St} {H:Hp} {s:Shared} {fp:List Addr} (I:Inv X pins σ H s) (hf:∀ b ∈ fp,FpOk X pins H b) (ho:∀ b ∈ fp,∃ o,s.heap.get? b = some o/\∀ v,o.data ≠ .cell v):Inv X (pins ++ ziQ fp s.heap) σ H s:=
 I.pins_of λp hp=>(YAV.mp hp).elim (λz=>I.pin p (YAD _ z)) λz=>by
  obtain ⟨hb,e⟩:=znm z;obtain ⟨f0,f1,f2,_⟩:=hf p.1 hb;obtain ⟨o,e',d⟩:=ho p.1 hb;rw [e] at e';cases e';exact ⟨e,f0,f1,f2,d⟩
theorem Inv.unpinned {pins pl:List (Addr × Obj)} {σ:St} {H:Hp} {s:Shared} (I:Inv X (pins ++ pl) σ H s):Inv X pins σ H s:=I.pins_of λp hp=>I.pin p (YAD _ (YBF _ hp))
theorem zpl {iter:Expr} {body:List Stmt} {wi:TI} {g:TG} {tb:TS} {pos:Pos} (hp:PassesOwn (model X.prog X.w) X.A X.env X.xe) (hc:X.calm = true) (hi:PI X tg iter wi) (hg:PG X tg g) (hb:PSs X body tb)
  (hs:∀ x,foldedSetIterable iter X.env x = pure x:=by intro _;rfl):PS X (.For tg iter body [] pos) (tFor wi g tb):=by
 intro pins s σ H D I h;refine wpAny_For (thn (hi pins s σ H _ I h) λv s1 h1=>thn h1 λitv s2 h2=>?_) hs;obtain ⟨it,fp,tn,J,H2,e,I2,T,st2,f2,W,⟨m0,w0⟩,turn⟩:=h2;subst e
 -- what stays true of the iterator's objects through the loop
 have stat:∀ {H':Hp},(∀ b ∈ fp,H' b = none)->∀ b ∈ fp,FpOk X pins H' b:=λhn b hb=>⟨hn b hb,(f2 b hb).2⟩;refine codeAny_forLoop_any (λn s'=>∃ i σ' H',Inv X pins σ' H' s'/\tn i s'.heap/\(∀ b ∈ fp,H' b = none)/\W i n σ' H') ?_ m0 ⟨0,σ,H2,I2,st2,λb hb=>(f2 b hb).1,w0⟩;rintro n s3 ⟨i,σ3,H3,I3,st3,fr3,w3⟩;rcases turn i n σ3 H3 w3 with ⟨stop,qn⟩ | ⟨go,N,hN,step⟩
 ·refine YBN hp (thn (T.done X rfl rfl rfl hc i pins s3 σ3 H3 X.xe I3 (stat fr3) st3 stop) λr s4 ⟨hr,I4⟩=>?_);subst hr;exact YCb ⟨σ3,H3,I4,qn⟩
 ·refine YBN hp (thn (T.item X rfl rfl rfl hc i pins s3 σ3 H3 X.xe I3 (stat fr3) st3 go) λr s4 ⟨u,hr,h4⟩=>?_);subst hr;refine YBN hp (thn h4 λ_ s5 ⟨x,H5,I5,r5,y5,st5,fr5⟩=>?_);have I5':=I5.pinned (stat fr5) (T.obj _ _ st5);refine YBN hp (thn (hg _ s5 σ3 H5 x u _ I5' r5 (step x H5 y5)) λ_ s6 ⟨σ6,H6,I6,q6⟩=>?_);refine YBN hp (thn (hb _ s6 σ6 H6 _ I6 q6) λf s7 q7=>?_);have again:∀ {σ7:St} {H7:Hp},Inv X (pins ++ ziQ fp s5.heap) σ7 H7 s7->N σ7 H7->∃ m,m < n/\∃ i σ' H',Inv X pins σ' H' s7/\tn i s7.heap/\(∀ b ∈ fp,H' b = none)/\W i m σ' H':=λ{σ7 H7} I7 n7=>by
   obtain ⟨m',hm,w7⟩:=hN σ7 H7 n7;refine ⟨m',hm,i + 1,σ7,H7,I7.unpinned,T.keep _ _ _ st5 λb hb o e=>(I7.pin (b,o) (YAD _ (YAD _ (zd0 hb e)))).1,λb hb=>?_,w7⟩;obtain ⟨o,e,d⟩:=T.obj _ _ st5 b hb;exact (I7.pin (b,o) (YAD _ (YAD _ (zd0 hb e)))).2.1
  cases f with
  | next=>obtain ⟨σ7,H7,I7,n7⟩:=q7;exact again I7 n7
  | cont=>obtain ⟨σ7,H7,I7,n7⟩:=q7;exact again I7 n7
  | brk=>obtain ⟨σ7,H7,I7,q7⟩:=q7;exact ⟨σ7,H7,I7.unpinned,q7⟩
  | ret v=>obtain ⟨x7,σ7,H7,I7,r7,q7⟩:=q7;exact ⟨x7,σ7,H7,I7.unpinned,r7,q7⟩
end
abbrev R2:=V->V->Hp->VK->Prop
def OpR (X:Cx) (f:Value->Value->Sem Value) (r:R2):Prop:=
 ∀ (pins:List (Addr × Obj)) (s:Shared) (σ:St) (H:Hp) (x y:V) (v u:Value) (Q:VK),Inv X pins σ H s->RelV x v->RelV y u->r x y H Q ->
  wpAny (model X.prog X.w) X.A (f v u) (EP X pins σ Q) X.xe s
def UnR (X:Cx) (f:Value->Sem Value) (r:V->Hp->VK->Prop):Prop:=
 ∀ (pins:List (Addr × Obj)) (s:Shared) (σ:St) (H:Hp) (x:V) (v:Value) (Q:VK),Inv X pins σ H s->RelV x v->r x H Q ->
  wpAny (model X.prog X.w) X.A (f v) (EP X pins σ Q) X.xe s
def CallR (X:Cx) (f:Value) (r:List V->Hp->VK->Prop):Prop:=
 ∀ (pins:List (Addr × Obj)) (s:Shared) (σ:St) (H:Hp) (xs:List V) (us:List Value) (Q:VK),Inv X pins σ H s->Vals xs us->r xs H Q ->
  wpAny (model X.prog X.w) X.A (call f us) (EP X pins σ Q) X.xe s
def TruR (X:Cx) (r:V->Hp->(Bool->Hp->Prop)->Prop):Prop:=
 ∀ (pins:List (Addr × Obj)) (s:Shared) (σ:St) (H:Hp) (x:V) (v:Value) (Q:Bool->Hp->Prop),Inv X pins σ H s->RelV x v->r x H Q ->
  wpAny (model X.prog X.w) X.A (truthy v) (TP X pins σ Q) X.xe s
def tOp (r:R2) (ta tb:TE):TE:=λσ H Q=>ta σ H λx H1=>tb σ H1 λy H2=>r x y H2 Q
def tUn (r:V->Hp->VK->Prop) (ta:TE):TE:=λσ H Q=>ta σ H λx H1=>r x H1 Q
def rI (C:Int->Int->Prop) (g:Int->Int->V):R2:=λx y H Q=>∃ i j,x = .int i/\y = .int j/\C i j/\Q (g i j) H
def rI0 (g:Int->Int->V):R2:=λx y H Q=>∃ i j,x = .int i/\y = .int j/\Q (g i j) H
def rU (g:Int->V):V->Hp->VK->Prop:=λx H Q=>∃ i,x = .int i/\Q (g i) H
section
variable {X:Cx} {a b c:Expr} {ta tb tc:TE} {pos:Pos}
theorem binT (ha:PE X a ta) (hb:PE X b tb) {pins:List (Addr × Obj)} {s:Shared} {σ:St} {H:Hp} {R:V->V->Hp->Prop} (I:Inv X pins σ H s)
  (h:ta σ H λx H1=>tb σ H1 λy H2=>R x y H2) {Q:Value->Shared->Prop} {f:Value->Value->Sem Value}
  (hf:∀ v u s2 x y H2,Inv X pins σ H2 s2->RelV x v->RelV y u->R x y H2->wpAny (model X.prog X.w) X.A (f v u) Q X.xe s2) :
  wpAny (model X.prog X.w) X.A (eval a X.env) (λv s₁=>wpAny (model X.prog X.w) X.A (eval b X.env) (λu s₂=>wpAny (model X.prog X.w) X.A (f v u) Q X.xe s₂) X.xe s₁) X.xe s:=by
 refine thn (ha pins s σ H _ I h) λv s1 ⟨x,H1,I1,r1,q1⟩=>?_;refine thn (hb pins s1 σ H1 _ I1 q1) λu s2 ⟨y,H2,I2,r2,q2⟩=>?_;exact hf v u s2 x y H2 I2 r1 r2 q2
theorem zdX {op:Operator} {r:R2} (ho:OpR X (binaryOp op) r) (ha:PE X a ta) (hb:PE X b tb):PE X (.BinOp a op b pos) (tOp r ta tb):=by
 intro pins s σ H Q I h;exact wpAny_BinOp (binT ha hb I h λv u s2 x y H2 I2 rx ry q=>ho pins s2 σ H2 x y v u Q I2 rx ry q)
theorem zti {op:UnaryOp} {r:V->Hp->VK->Prop} (ho:UnR X (unaryOp op) r) (ha:PE X a ta):PE X (.UnaryOp op a pos) (tUn r ta):=by
 intro pins s σ H Q I h;exact UnaryOp_ (thn (ha pins s σ H _ I h) λv s1 ⟨x,H1,I1,r1,q1⟩=>ho pins s1 σ H1 x v Q I1 r1 q1)
theorem opI {f:Value->Value->Sem Value} {C:Int->Int->Prop} {g:Int->Int->Int}
  (rule:∀ (i j:Int) (t u:Tok) (s:Shared) (Q:Value->Shared->Prop) (E:Value->Shared->Prop),C i j->Q (.int (g i j) s.toks) { s with toks:=s.toks + 1 }->wpAny (model X.prog X.w) X.A (f (.int i t) (.int j u)) Q E s) :
  OpR X f (rI C λi j=>.int (g i j)):=by
 intro pins s σ H x y v u Q I rx ry h;obtain ⟨i,j,rfl,rfl,hc,q⟩:=h;obtain ⟨t,rfl⟩:=rx;obtain ⟨t',rfl⟩:=ry;exact rule i j t t' s _ _ hc ⟨.int (g i j),H,I.tok _,⟨_,rfl⟩,q⟩
theorem opI0 {f:Value->Value->Sem Value} {g:Int->Int->Int}
  (rule:∀ (i j:Int) (t u:Tok) (s:Shared) (Q:Value->Shared->Prop) (E:Value->Shared->Prop),Q (.int (g i j) s.toks) { s with toks:=s.toks + 1 }->wpAny (model X.prog X.w) X.A (f (.int i t) (.int j u)) Q E s) :
  OpR X f (rI0 λi j=>.int (g i j)):=by
 intro pins s σ H x y v u Q I rx ry h;obtain ⟨i,j,rfl,rfl,q⟩:=h;obtain ⟨t,rfl⟩:=rx;obtain ⟨t',rfl⟩:=ry;exact rule i j t t' s _ _ ⟨.int (g i j),H,I.tok _,⟨_,rfl⟩,q⟩
theorem opB0 {f:Value->Value->Sem Value} {g:Int->Int->Bool}
  (rule:∀ (i j:Int) (t u:Tok) (s:Shared) (Q:Value->Shared->Prop) (E:Value->Shared->Prop),Q (.bool (g i j)) s->wpAny (model X.prog X.w) X.A (f (.int i t) (.int j u)) Q E s) :
  OpR X f (rI0 λi j=>.bl (g i j)):=by
 intro pins s σ H x y v u Q I rx ry h;obtain ⟨i,j,rfl,rfl,q⟩:=h;obtain ⟨t,rfl⟩:=rx;obtain ⟨t',rfl⟩:=ry;exact rule i j t t' s _ _ ⟨.bl (g i j),H,I,rfl,q⟩
def CDiv (i j:Int):Prop:=0 < j/\j < 1073741824
def CPow (i j:Int):Prop:=0 <= j/\j <= 1000000/\i.natAbs < 2 ^ 64
def CMul (i j:Int):Prop:=(-(2 ^ 64) < i/\i < 2 ^ 64)\/(-(2 ^ 64) < j/\j < 2 ^ 64)
theorem CMul.ok {i j:Int} (h:CMul i j):IntMulOk i j:=by
 rcases h with ⟨h1,h2⟩ | ⟨h1,h2⟩
 ·exact .of_left (intBits_le_64 h1 h2)
 ·exact .of_right (intBits_le_64 h1 h2)
theorem op_add:OpR X (binaryOp .Add) (rI0 λi j=>.int (i + j)):=opI0 λ_ _ _ _ _ _ _ q=>add_int q
theorem zsp:OpR X (binaryOp .Sub) (rI0 λi j=>.int (i - j)):=opI0 λ_ _ _ _ _ _ _ q=>sub_int q
theorem op_mul:OpR X (binaryOp .Mult) (rI CMul λi j=>.int (i * j)):=opI λ_ _ _ _ _ _ _ hc q=>mul_int q hc.ok
theorem zqc:OpR X (binaryOp .FloorDiv) (rI CDiv λi j=>.int (i / j)):=opI λi j _ _ _ _ _ hc q=>by
 have h1:(0:Int) < j:=hc.1;have h2:j < 1073741824:=hc.2;exact floordiv_int (by omega) (by rw [Int.fdiv_eq_ediv_of_nonneg i (by omega)];exact q) (.inl (PyProof.noPylong_small (by omega)))
theorem zgK:OpR X (binaryOp .Mod) (rI (λ_ j=>0 < j) λi j=>.int (i % j)):=opI λi j _ _ _ _ _ hc q=>by
 have h1:(0:Int) < j:=hc;exact mod_int' (by omega) (by rw [Int.fmod_eq_emod_of_nonneg i (by omega)];exact q)
theorem zo0:OpR X (binaryOp .Pow) (rI CPow λi j=>.int (i ^ j.toNat)):=opI λ_ _ _ _ _ _ _ hc q=>pow_int_small hc.1 hc.2.1 hc.2.2 q
theorem unI {f:Value->Sem Value} {g:Int->Int}
  (rule:∀ (i:Int) (t:Tok) (s:Shared) (Q:Value->Shared->Prop) (E:Value->Shared->Prop),Q (.int (g i) s.toks) { s with toks:=s.toks + 1 }->wpAny (model X.prog X.w) X.A (f (.int i t)) Q E s) :
  UnR X f (rU λi=>.int (g i)):=by
 intro pins s σ H x v Q I rx h;obtain ⟨i,rfl,q⟩:=h;obtain ⟨t,rfl⟩:=rx;exact rule i t s _ _ ⟨.int (g i),H,I.tok _,⟨_,rfl⟩,q⟩
theorem zq5:UnR X (unaryOp .USub) (rU λi=>.int (-i)):=unI λ_ _ _ _ _ q=>neg_int q
end
section
variable {X:Cx} {a b c:Expr} {ta tb tc:TE} {pos:Pos}
theorem zrO    (I:Inv X pins σ H s) (q:Q (.bl k) H) (e:k = k'):EP X pins σ Q (.bool k') s:=by
 subst e;exact ⟨.bl k,H,I,rfl,q⟩
theorem zrG:OpR X (compareOp .Lt) (rI0 λi j=>.bl (decide (i < j))):=opB0 λ_ _ _ _ _ _ _ q=>lt_int q
theorem zsE:OpR X (compareOp .LtE) (rI0 λi j=>.bl (decide (i <= j))):=opB0 λ_ _ _ _ _ _ _ q=>le_int q
theorem zrX:OpR X (compareOp .Gt) (rI0 λi j=>.bl (decide (j < i))):=opB0 λ_ _ _ _ _ _ _ q=>gt_int q
theorem zrh:OpR X (compareOp .GtE) (rI0 λi j=>.bl (decide (j <= i))):=opB0 λ_ _ _ _ _ _ _ q=>ge_int q
theorem zm4:OpR X (compareOp .In) (λx y H Q=>∃ i j,x = .str i/\y = .str j/\Q (.bl (!(Builtin.Str.occurrences j i 0 j.length 1).isEmpty)) H):=by
 intro pins s σ H x y v u Q I rx ry h;obtain ⟨i,j,rfl,rfl,q⟩:=h;obtain ⟨t,rfl⟩:=rx;obtain ⟨t',rfl⟩:=ry;exact in_str (zrO I q rfl)
theorem OpR.or {f:Value->Value->Sem Value} {r r':R2} (h:OpR X f r) (h':OpR X f r'):OpR X f (λx y H Q=>r x y H Q\/r' x y H Q):=by
 intro pins s σ H x y v u Q I rx ry q;rcases q with q | q
 ·exact h pins s σ H x y v u Q I rx ry q
 ·exact h' pins s σ H x y v u Q I rx ry q
theorem zeb (b:Expr) (h:op ≠ .In:=by decide) (h2:op ≠ .NotIn:=by decide):behindInMarks op b = false:=by
 have e1:(op == CmpOp.In) = false:=by cases op <;> first | rfl | exact absurd rfl h
 have e2:(op == CmpOp.NotIn) = false:=by cases op <;> first | rfl | exact absurd rfl h2
 cases b <;> simp [behindInMarks,e1,e2]
theorem zqL  (ho:OpR X (compareOp op) r) (ha:PE X a ta) (hb:PE X b tb) (hm:behindInMarks op b = false):PE X (.Compare a [op] [b] pos) (tOp r ta tb):=by
 intro pins s σ H Q I h;exact wpAny_Compare1 (binT ha hb I h λv u s2 x y H2 I2 rx ry q=>ho pins s2 σ H2 x y v u Q I2 rx ry q) hm
def zsj (t:TE):TT:=λσ H Q=>t σ H λx H'=>∃ k,x = .bl k/\Q k H'
theorem zhN {op:CmpOp} {r:R2} (ho:OpR X (compareOp op) r) (ha:PE X a ta) (hb:PE X b tb) (hm:behindInMarks op b = false):PT X (.Compare a [op] [b] pos) (zsj (tOp r ta tb)):=by
 intro pins s σ H Q I h;refine wpAny_isTrue_Compare1 (thn (ha pins s σ H _ I h) λv s1 ⟨x,H1,I1,r1,q1⟩=>thn (hb pins s1 σ H1 _ I1 q1) λu s2 ⟨y,H2,I2,r2,q2⟩=>
  thn (ho pins s2 σ H2 x y v u _ I2 r1 r2 q2) λc s3 ⟨z,H3,I3,r3,k,e,q3⟩=>?_) hm
 subst e;cases r3;exact YBt ⟨H3,I3,q3⟩
def zo3 (r r':R2) (ta tb tc:TE):TE:=λσ H Q=>ta σ H λx H1=>tb σ H1 λy H2=>r x y H2 λz H3=>∃ k,z = .bl k /\
 (if k = true then tc σ H3 λw' H4=>r' y w' H4 Q else Q (.bl false) H3)
theorem zoz {op op':CmpOp} {r r':R2} (ho:OpR X (compareOp op) r) (ho':OpR X (compareOp op') r') (ha:PE X a ta) (hb:PE X b tb) (hc:PE X c tc)
  (hm:lastMarks [op,op'] [b,c] = false:=by with_unfolding_all rfl):PE X (.Compare a [op,op'] [b,c] pos) (zo3 r r' ta tb tc):=by
 intro pins s σ H Q I h;refine Compare_chain (thn (ha pins s σ H _ I h) λv s1 ⟨x,H1,I1,r1,q1⟩=>chain_link (thn (hb pins s1 σ H1 _ I1 q1) λu s2 ⟨y,H2,I2,r2,q2⟩=>
  thn (ho pins s2 σ H2 x y v u _ I2 r1 r2 q2) λd s3 ⟨z,H3,I3,r3,k,e,q3⟩=>?_)) hm
 subst e;cases r3;refine YBt ?_;cases k with
 | false=>exact ite_ff ⟨.bl false,H3,I3,rfl,q3⟩
 | true=>exact ite_tt (chain_last (thn (hc pins s3 σ H3 _ I3 q3) λw' s4 ⟨z',H4,I4,r4,q4⟩=>ho' pins s4 σ H4 y z' u w' Q I4 r2 r4 q4))
def TruV (K:PySem.W.Frag) (x:V) (H:Hp) (k:Bool):Prop:=
 match x with
 | .non=>k = false
 | .bl b=>k = b
 | .int i=>k = (i != 0)
 | .str y=>y.length <= sizeLine/\k = ((y.length:Int) != 0)
 | .byt y=>y.size <= sizeLine/\k = ((y.size:Int) != 0)
 | .ref p=>(∃ xs,SqL K H p xs/\k = !xs.isEmpty)\/(∃ xs,SqT K H p xs/\k = !xs.isEmpty)\/∃ kvs,H p = some (.dK kvs)/\k = !kvs.isEmpty
 | _=>False
theorem zlx {κ:Type} {kvs:List (κ × V)} {vs:List (κ × Value)} (r:KV kvs vs):(!vs.isEmpty) = !kvs.isEmpty:=by
 cases r <;> rfl
theorem zgN {xs:List V} {its:List Value} (r:Vals xs its):(!its.toArray.isEmpty) = !xs.isEmpty:=by
 cases r <;> simp
theorem zfo:(sizeLine:Nat) < 2 ^ 63:=by rw [YAQ];decide
theorem zsh:TruR X (λx H Q=>∃ k,TruV X.K x H k/\Q k H):=by
 intro pins s σ H x v Q I rx h;obtain ⟨k,e,q⟩:=h;have hl:=zfo;have hs:sizeLine = 16777216:=YAQ;cases x with
 | non=>
  cases rx;have e':k = false:=e;subst e';exact truthy_none ⟨H,I,q⟩
 | bl b=>
  cases rx;have e':k = b:=e;subst e';exact YBt ⟨H,I,q⟩
 | int i=>
  obtain ⟨t,rfl⟩:=rx;have e':k = (i != 0):=e;subst e';exact PySem.P.truthy_int ⟨H,I,q⟩
 | str y=>
  obtain ⟨t,rfl⟩:=rx;obtain ⟨hy,e'⟩:y.length <= sizeLine/\k = ((y.length:Int) != 0):=e;subst e';exact PySem.P.truthy_str (by omega) ⟨H,I.tok _,q⟩
 | byt y=>
  obtain ⟨t,rfl⟩:=rx;obtain ⟨hy,e'⟩:y.size <= sizeLine/\k = ((y.size:Int) != 0):=e;subst e';exact PySem.W.truthy_bytes (by omega) ⟨H,I.tok _,q⟩
 | ref p=>
  cases rx;have e':(∃ xs,SqL X.K H p xs/\k = !xs.isEmpty)\/(∃ xs,SqT X.K H p xs/\k = !xs.isEmpty)\/∃ kvs,H p = some (.dK kvs)/\k = !kvs.isEmpty:=e;rcases e' with ⟨xs,hx,e'⟩ | ⟨xs,hx,e'⟩ | ⟨kvs,hx,e'⟩
  ·subst e';obtain ⟨its,r,pl,hz⟩:=I.list hx;have hlen:=r.length;exact wpAny_truthy_list pl.isList (by simp only [YAl];omega) ⟨H,I.tok _,by rw [zgN r];exact q⟩
  ·subst e';obtain ⟨its,r,pl,hz⟩:=I.tuple hx;have hlen:=r.length;exact truthy_tuple pl (by simp only [YAl];omega) ⟨H,I.tok _,by rw [zgN r];exact q⟩
  ·subst e';obtain ⟨hz,hS,vs,r,m⟩:kvs.length <= sizeLine/\(p == sysModules) = false/\∃ vs,KV kvs vs/\s.heap.DictOf (zaS X.prog X.w) p vs:=I.hok p _ hx;have hlen:kvs.length = vs.length:=Paired.length r;exact wpAny_truthy_dict hS m (by omega) ⟨H,I.tok _,by rw [zlx r];exact q⟩
 | _=>exact (show False from e).elim
theorem zfx (ha:PE X a ta) (he:∀ whole,isTrue a X.env whole = (do let v <- whole;standAt a.pos;holding [v] (truthy v))) :
  PT X a (λσ H Q=>ta σ H λx H'=>∃ k,TruV X.K x H' k/\Q k H'):=by
 intro pins s σ H Q I h;exact isTrue_plain (thn (ha pins s σ H _ I h) λv s1 ⟨x,H1,I1,r1,q1⟩=>zsh pins s1 σ H1 x v Q I1 r1 q1) (he _)
theorem zla:OpR X (binaryOp .Add) (λx y H Q=>∃ i j,x = .str i/\y = .str j/\i.length + j.length <= sizeLine/\Q (.str (i ++ j)) H):=by
 intro pins s σ H x y v u Q I rx ry h;obtain ⟨i,j,rfl,rfl,hz,q⟩:=h;obtain ⟨t,rfl⟩:=rx;obtain ⟨t',rfl⟩:=ry;exact add_str (λt' tk=>⟨.str (i ++ j),H,I.tok _,⟨_,rfl⟩,q⟩) hz
theorem zft  (r:Vals [x] us):∃ u,us = [u]/\RelV x u:=by
 cases r with
 | cons r1 r2=>cases r2;exact ⟨_,rfl,r1⟩
theorem zrH  (r:Vals [x,y] us):∃ u w',us = [u,w']/\RelV x u/\RelV y w':=by
 cases r with
 | cons r1 r2=>
  cases r2 with
  | cons r3 r4=>cases r4;exact ⟨_,_,rfl,r1,r3⟩
theorem call_int1:CallR X (.type "int") (λxs H Q=>(∃ i,xs = [.int i]/\Q (.int i) H)\/∃ k,xs = [.bl k]/\Q (.int (if k then 1 else 0)) H):=by
 intro pins s σ H xs us Q I r h;rcases h with ⟨i,rfl,q⟩ | ⟨k,rfl,q⟩
 ·obtain ⟨u,rfl,t,rfl⟩:=zft r;exact call_int_int ⟨.int i,H,I,⟨_,rfl⟩,q⟩
 ·obtain ⟨u,rfl,r1⟩:=zft r;cases r1;exact call_int_bool ⟨.int (if k then 1 else 0),H,I.tok _,⟨_,rfl⟩,q⟩
end
structure ObjM (h:Heap) (x dx C:Addr) (mA:Str->Option Value):Prop where
 obj:h.get? x = some (PySem.W.instObj C dx)
 ns:h.Ns1 dx mA
 ne:dx ≠ x
theorem zm6 {h:Heap} {dx:Addr} {mA:Str->Option Value} (n:h.Ns1 dx mA):∃ od,h.get? dx = some od/\∀ name,PySem.W.lookIn name od = some (mA name):=by
 obtain ⟨o,es,ep,ho,hd,hk,_,hm⟩:=n;refine ⟨o,ho,λname=>?_⟩;have e:=hm name;unfold nsFind findBy at e;rw [<- Array.find?_toList] at e;unfold PySem.W.lookIn;rw [hd];dsimp only;split
 ·rename_i y q
  rw [q] at e;exact congrArg some e
 ·rename_i q
  rw [q] at e;have a:es.toList.any (·.refKey) = false:=by
   rw [List.any_eq_false];intro y hy;obtain ⟨z,t,hkey⟩:=hk y (Array.mem_toList_iff.mp hy);simp [DictEntry.refKey,hkey]
  have a':¬ es.toList.any (·.refKey) = true:=by rw [a];exact YA4
  rw [if_neg a'];exact congrArg some e
theorem ObjM.look  (I:ObjM h x dx C mA):∃ od,PySem.W.InstAt h x (PySem.W.instObj C dx) C (some od)/\∀ name,PySem.W.lookIn name od = some (mA name):=
 let ⟨od,ho,hl⟩:=zm6 I.ns
 ⟨od,⟨I.obj,rfl,rfl,ho⟩,hl⟩
section
variable {prog:Program} {w:World} {A:Around} {E:Value->Shared->Prop} {s:Shared} {K:PySem.W.Frag} {x dx C f:Addr} {mA:Str->Option Value} {name:Str} {v:Value}
theorem zqZ  (X:K.In s.heap) (I:ObjM s.heap x dx C mA) (hg:PySem.W.plainGet K C name = true) (hh:PySem.W.hasDictIn K C = true)
  (ha:PySem.W.findIn K (.ref C) name = some none) (hv:mA name = some v) (hv':PySem.W.handedIn v = true) (h:Q v { s with toks:=s.toks + 1 }) :
  wpAny (model prog w) A (getAttr (.ref x) name expr) Q E s:=by
 obtain ⟨od,J,hl⟩:=I.look;exact PySem.W.get_value X J (YCc hg).1 (PySem.W.findObj_own hh ha rfl (by rw [hl,hv])) hv' h
theorem zoh  (X:K.In s.heap) (I:ObjM s.heap x dx C mA) (hg:PySem.W.plainGet K C name = true)
  (hf:PySem.W.findIn K (.ref C) name = some (some (.ref f))) (ht:PySem.W.isFn K (.ref f) = true) (hv:mA name = none) (h:Q (.ref f,[.ref x]) s) :
  wpAny (model prog w) A (getMethod (.ref x) name pl) Q E s:=by
 obtain ⟨od,J,hl⟩:=I.look;exact PySem.W.method_fn X J (YCc hg).1 (YCc hg).2 hf (YCa.mp ht) (by show (PySem.W.lookIn name od).map (·.isSome) = some false;rw [hl,hv];rfl) h
theorem zp1  (X:K.In s.heap) (I:ObjM s.heap x dx C mA)
  (hs:PySem.W.findIn K (.ref C) "__setattr__" = some (some (.builtin "object.__setattr__"))) (hp:PySem.W.plainOver K C = true) (ht:PySem.W.takerIn K C name = some none) (hh:PySem.W.hasDictIn K C = true)
  (hw:PySem.Within mA ns) (hsz:ns.length <= sizeLine)
  (h:∀ h',ObjM h' x dx C (λy=>if y = name then some v else mA y)->Heap.SameBut dx s.heap h'->Q () { s with heap:=h',toks:=s.toks + 2 }) :
  wpAny (model prog w) A (setAttr (.ref x) name v) Q E s:=by
 obtain ⟨od,J,hl⟩:=I.look;refine PySem.W.set_plain X J hs (PySem.W.osa_open (s:={ s with toks:=s.toks + 1 }) (r:=none) X J hp ht λb=>?_);obtain ⟨cd,hc,hd'⟩:=PySem.W.any_some hh;have hx:s.heap.get? x = some ⟨.ref C,some dx,.plain,#[]⟩:=I.obj;refine YAa (YAe (YAa (YAa (wpAny_loadPart hx (YAa (PySem.W.Looks.here (s:={ s with toks:=s.toks + 1 }) (PySem.W.looks_clsIn X hc) ?_))))));rw [hd'];refine YAe (a:=some dx) (YAa (YAe (YAa ?_)));refine wpAny_nsSet1 (s:={ s with toks:=s.toks + 1 }) I.ns λh' hn2 hs2=>?_;obtain ⟨oD,esD,epD,hoD,hdD,hcD⟩:=hn2.count (PySem.Within.cons name v hw);refine YAa (wpAny_lookBehind hoD (by rw [hdD];exact pastItsLine_dict (YAB hcD (by rw [YAz];omega))) ?_);exact YAe (h _ ⟨(hs2.2 _ (YAO I.ne)).trans I.obj,hn2,I.ne⟩ hs2)
theorem znF  (X:K.In s.heap) (hm:PySem.W.makesIn K C = true)
  (hi:PySem.W.findIn K (.ref C) "__init__" = some (some (.ref f))) (hf:PySem.W.typeIn K (.ref f) = some (.type "function"))
  (h:codeAny (model prog w) (A.under (.builtin "type.__call__" ⟨.ref C :: vs,kw⟩)) (.call (.ref f) ⟨.ref (s.heap.objs.size + 1) :: vs,kw⟩) (PySem.W.InitBack (s.heap.objs.size + 1) R)
   { s with heap:=(s.heap.push PySem.W.emptyDict).push (PySem.W.instObj C s.heap.objs.size) }) :
  codeAny (model prog w) A (.call (.ref C) ⟨vs,kw⟩) R s:=by
 obtain ⟨hh,g,d,t,os⟩:=s;exact PySem.W.make_core (PySem.W.makes_of X hm) (PySem.W.looks_findIn X hi) (λself=>PySem.W.bind_fn X self hf) (.inl rfl) h
end
def putF (f:Str) (v:V):List (Str × V)->List (Str × V)
 | []=>[(f,v)]
 | (g,x) :: r=>if g = f then (g,v) :: r else (g,x) :: putF f v r
theorem zgt (f g:Str) (v:V):∀ fs:List (Str × V),(putF f v fs).lookup g = if g = f then some v else fs.lookup g
 | []=>by
  show List.lookup g [(f,v)] = _;by_cases h:g = f
  ·have hb:(g == f) = true:=YCa.mpr h;simp only [List.lookup,hb,if_pos h]
  ·have hb:(g == f) = false:=YAL.mpr h;simp only [List.lookup,hb,if_neg h]
 | (k,x) :: r=>by
  have ih:=zgt f g v r;rw [show putF f v ((k,x) :: r) = (if k = f then (k,v) :: r else (k,x) :: putF f v r) from rfl];by_cases hk:k = f
  ·rw [if_pos hk];by_cases h:g = k
   ·have hb:(g == k) = true:=YCa.mpr h;simp only [List.lookup,hb,if_pos (h.trans hk)]
   ·have hb:(g == k) = false:=YAL.mpr h;simp only [List.lookup,hb,if_neg (λe:g = f=>h (e.trans hk.symm))]
  ·rw [if_neg hk];by_cases h:g = k
   ·have hb:(g == k) = true:=YCa.mpr h;simp only [List.lookup,hb,if_neg (λe:g = f=>hk (h.symm.trans e))]
   ·have hb:(g == k) = false:=YAL.mpr h;simp only [List.lookup,hb];exact ih
theorem zge (f:Str) (v:V):∀ fs:List (Str × V),f ∈ (putF f v fs).map (·.1)/\∀ g,g ∈ fs.map (·.1)->g ∈ (putF f v fs).map (·.1)
 | []=>⟨by simp [putF],λg h=>by simp at h⟩
 | (k,x) :: r=>by
  obtain ⟨i1,i2⟩:=zge f v r;rw [show putF f v ((k,x) :: r) = (if k = f then (k,v) :: r else (k,x) :: putF f v r) from rfl];by_cases hk:k = f
  ·rw [if_pos hk];subst hk;exact ⟨by simp,λg h=>by simpa using h⟩
  ·rw [if_neg hk];refine ⟨?_,λg h=>?_⟩
   ·rw [YAg];exact YAf _ i1
   ·rw [YAg] at h ⊢;rcases YAu.mp h with e | e
    ·exact YAu.mpr (.inl e)
    ·exact YAf _ (i2 g e)
theorem zgi (f:Str) (v:V):∀ fs:List (Str × V),(putF f v fs).length <= fs.length + 1
 | []=>by simp [putF]
 | (k,x) :: r=>by
  have ih:=zgi f v r;rw [show putF f v ((k,x) :: r) = (if k = f then (k,v) :: r else (k,x) :: putF f v r) from rfl];by_cases hk:k = f
  ·rw [if_pos hk,YAz,YAz];omega
  ·rw [if_neg hk,YAz,YAz];omega
theorem RelO.some_of  (r:RelO (some v) o):∃ u,o = some u/\RelV v u:=by
 cases o with
 | none=>exact (show False from r).elim
 | some u=>exact ⟨u,rfl,r⟩
theorem RelO.none_of (r:RelO none o):o = none:=by
 cases o with
 | none=>rfl
 | some u=>exact (show False from r).elim
theorem zl6  (r:RelV v u):PySem.W.handedIn u = true:=by
 cases v with
 | non=>cases (show u = Value.none from r);rfl
 | bl b=>cases (show u = Value.bool b from r);rfl
 | int i=>obtain ⟨t,e⟩:=(show ∃ t,u = Value.int i t from r);cases e;rfl
 | str x=>obtain ⟨t,e⟩:=(show ∃ t,u = Value.str x t from r);cases e;rfl
 | byt b=>obtain ⟨t,e⟩:=(show ∃ t,u = Value.bytes b t from r);cases e;rfl
 | flt b=>obtain ⟨t,e⟩:=(show ∃ t,u = Value.float b t from r);cases e;rfl
 | ref a=>cases (show u = Value.ref a from r);rfl
 | ty n=>cases (show u = Value.type n from r);rfl
section
variable {P:Program} {w:World} {H H':Hp} {h h':Heap} {a C dx:Addr} {fs fs':List (Str × V)}
theorem zjN (hok:HOk P w H h) (e:H a = some (.ins C dx fs)):∃ mA,ObjM h a dx C mA/\(∀ f,RelO (fs.lookup f) (mA f))/\PySem.Within mA (fs.map (·.1))/\fs.length <= 1000/\H dx = some (.own a):=by
 obtain ⟨d,z,ne,ob,mA,n,r,q⟩:=(show ObjOk P w H h a (.ins C dx fs) from hok a _ e);exact ⟨mA,⟨ob,n,ne⟩,r,q,z,d⟩
end
structure Cls (K:PySem.W.Frag) (C:Addr):Prop where
 pg:PySem.W.plainGet K C Str.empty = true
 hd:PySem.W.hasDictIn K C = true
 po:PySem.W.plainOver K C = true
 sa:PySem.W.findIn K (.ref C) "__setattr__" = some (some (.builtin "object.__setattr__"))
theorem Cls.get {K:PySem.W.Frag} {C:Addr} (c:Cls K C) (f:Str):PySem.W.plainGet K C f = true:=c.pg
def NoAttr (K:PySem.W.Frag) (C:Addr) (f:Str):Prop:=PySem.W.findIn K (.ref C) f = some none
theorem NoAttr.taker {K:PySem.W.Frag} {C:Addr} {f:Str} (n:NoAttr K C f):PySem.W.takerIn K C f = some none:=by
 unfold PySem.W.takerIn;rw [show PySem.W.findIn K (.ref C) f = some none from n];rfl
structure Meth (K:PySem.W.Frag) (C:Addr) (m:Str) (f:Addr):Prop where
 at_:PySem.W.findIn K (.ref C) m = some (some (.ref f))
 fn:PySem.W.isFn K (.ref f) = true
 kp:PySem.W.keepIn K (.ref f) = true
section
variable {X:Cx} {pins:List (Addr × Obj)} {σ:St} {H:Hp} {s:Shared} {a C dx:Addr} {fs:List (Str × V)} {f:Str} {v:V} {A:Around} {E:Value->Shared->Prop}
theorem zlp {b:Bool} {Q:Value->Shared->Prop} (I:Inv X pins σ H s) (e:H a = some (.ins C dx fs)) (c:Cls X.K C) (n:NoAttr X.K C f) (l:fs.lookup f = some v)
  (h:∀ u s',Inv X pins σ H s'->RelV v u->Q u s'):wpAny (model X.prog X.w) A (getAttr (.ref a) f b) Q E s:=by
 obtain ⟨mA,O,r,_,_,_⟩:=zjN I.hok e;obtain ⟨u,hu,ru⟩:=RelO.some_of (v:=v) (o:=mA f) (by rw [<- l];exact r f);exact zqZ I.kIn O (c.get f) c.hd n hu (zl6 ru) (h u _ (I.tok _) ru)
theorem zgQ {m:Str} {g:Addr} {pl:Sem Bool} {Q:Value × List Value->Shared->Prop} (I:Inv X pins σ H s) (e:H a = some (.ins C dx fs)) (c:Cls X.K C) (k:Meth X.K C m g) (l:fs.lookup m = none)
  (h:Q (.ref g,[.ref a]) s):wpAny (model X.prog X.w) A (getMethod (.ref a) m pl) Q E s:=by
 obtain ⟨mA,O,r,_,_,_⟩:=zjN I.hok e;have hn:mA m = none:=RelO.none_of (by rw [<- l];exact r m);exact zoh I.kIn O (c.get m) k.at_ k.fn hn h
theorem zlg {y:V} {u:Value} {Q:Unit->Shared->Prop} (I:Inv X pins σ H s) (e:H a = some (.ins C dx fs)) (c:Cls X.K C) (n:NoAttr X.K C f) (hl:fs.length < 1000) (ry:RelV y u)
  (h:∀ s',Inv X pins σ (upd H a (.ins C dx (putF f y fs))) s'->Q () s'):wpAny (model X.prog X.w) A (setAttr (.ref a) f u) Q E s:=by
 obtain ⟨mA,O,r,wi,_,ho⟩:=zjN I.hok e;have hz:(fs.map (·.1)).length <= sizeLine:=by rw [YAc,YAQ];omega
 refine zp1 I.kIn O c.sa c.po n.taker c.hd wi hz λh' O' sb=>h _ ?_;have hd:∃ o,h'.get? dx = some o:=let ⟨o,_,_,e',_⟩:=O'.ns;⟨o,e'⟩
 refine I.write (x:=a) (e:=dx) (by rw [e];exact True.intro) (.inr ho) (λb q hb z=>(sb.2 b hb).trans z) hd ?_;refine ⟨by rw [upd_ne O.ne];exact ho,?_,O.ne,O'.obj,_,O'.ns,λg=>?_,λg hg=>?_⟩
 ·have:=zgi f y fs;omega
 ·show RelO ((putF f y fs).lookup g) (if g = f then some u else mA g);rw [zgt];by_cases q:g = f
  ·rw [if_pos q,if_pos q];exact ry
  ·rw [if_neg q,if_neg q];exact r g
 ·by_cases q:g = f
  ·rw [q];exact (zge f y fs).1
  ·refine (zge f y fs).2 g (wi g λz=>hg ?_);show (if g = f then some u else mA g) = none;rw [if_neg q];exact z
theorem Inv.made (I:Inv X pins σ H s):Inv X pins σ (upd (upd H s.heap.objs.size (.own (s.heap.objs.size + 1))) (s.heap.objs.size + 1) (.ins C s.heap.objs.size []))
  { s with heap:=(s.heap.push PySem.W.emptyDict).push (PySem.W.instObj C s.heap.objs.size) }:=by
 have e1:(s.heap.push PySem.W.emptyDict).get? s.heap.objs.size = some PySem.W.emptyDict:=YAn s.heap rfl;have e2:((s.heap.push PySem.W.emptyDict).push (PySem.W.instObj C s.heap.objs.size)).get? (s.heap.objs.size + 1) = some (PySem.W.instObj C s.heap.objs.size):=by
  have:=YAn (s.heap.push PySem.W.emptyDict) (o:=PySem.W.instObj C s.heap.objs.size) rfl
  rwa [YBr] at this
 have e3:(s.heap.push PySem.W.emptyDict).Ns s.heap.objs.size (λ_=>none):=⟨PySem.W.emptyDict,#[],_,e1,rfl,(λe he=>absurd he (by simp)),λ_=>rfl⟩;have I1:=I.laid (a:=s.heap.objs.size) (o:=.own (s.heap.objs.size + 1)) (h':=s.heap.push PySem.W.emptyDict) (t':=s.toks) (λb u q=>YAb _ q) (YAm _) ⟨_,e1⟩;refine I1.laid (a:=s.heap.objs.size + 1) (o:=.ins C s.heap.objs.size []) (t':=s.toks) (λb u q=>YAb _ q) (Nat.le_of_eq (YBr _ _)) ?_;have ne:s.heap.objs.size ≠ s.heap.objs.size + 1:=YAr (YBY _);refine ⟨by rw [upd_ne ne,zae],YBv _,ne,e2,λ_=>none,(Heap.Ns1.of_empty e3).at λo q=>YAb _ q,λ_=>True.intro,λy hy=>absurd rfl hy⟩
theorem zpS {prog:Program} {w:World} {env:Env} {e:Expr} {f:Str} {pos:Pos} {s:Shared} {Q:Value->Shared->Prop} (hb:attributeBase e f env (eval e env) = eval e env)
  (h:wpAny (model prog w) A (eval e env) (λo s₁=>wpAny (model prog w) A (getAttr o f true) Q E s₁) E s):wpAny (model prog w) A (eval (.Attribute e f pos) env) Q E s:=
 Attribute_any_ h (by rw [arm_eval_Attribute,hb])
end
def tFld (K:PySem.W.Frag) (ta:TE) (f:Str):TE:=λσ H Q=>ta σ H λx H1=>∃ a C dx fs v,x = .ref a/\H1 a = some (.ins C dx fs)/\Cls K C/\NoAttr K C f/\fs.lookup f = some v/\Q v H1
def sFld (K:PySem.W.Frag) (ta tv:TE) (f:Str):TS:=λD σ H=>tv σ H λy H1=>ta σ H1 λx H2=>∃ a C dx fs,x = .ref a/\H2 a = some (.ins C dx fs)/\Cls K C/\NoAttr K C f/\fs.length < 1000 /\
 D.nx σ (upd H2 a (.ins C dx (putF f y fs)))
def InOp (X:Cx) (op:Operator) (rd:V->V->Hp->VK->Prop):Prop:=
 ∀ (pins:List (Addr × Obj)) (s:Shared) (σ:St) (H:Hp) (x y:V) (u v:Value) (Q:VK),Inv X pins σ H s->RelV x u->RelV y v->rd x y H Q->wpAny (model X.prog X.w) X.A (inplaceOp op u v) (EP X pins σ Q) X.xe s
section
variable {X:Cx} {o e value:Expr} {f:Str} {pos pos' tpos:Pos} {ta tv:TE}
theorem zgr (he:PE X e ta) (hb:attributeBase e f X.env (eval e X.env) = eval e X.env):PE X (.Attribute e f pos) (tFld X.K ta f):=by
 intro pins s σ H Q I h;refine zpS hb (thn (he pins s σ H _ I h) λu s1 ⟨x,H1,I1,rx,a,C,dx,fs,v,ex,ea,c,n,l,q⟩=>?_);subst ex;obtain rfl:u = Value.ref a:=rx;exact zlp I1 ea c n l λu' s2 I2 ru=>⟨v,H1,I2,ru,q⟩
theorem zsC (ha:PE X o ta) (hv:PE X value tv) (hs:swapsWith value (some (.Attribute o f pos')) pos.line X.env = pure false):PS X (.Assign [.Attribute o f pos'] value pos) (sFld X.K ta tv f):=by
 intro pins s σ H D I h;refine plainObj_wpAny_Assign_Attribute (thn (hv pins s σ H _ I h) λu s1 ⟨y,H1,I1,ry,q⟩=>thn (ha pins s1 σ H1 _ I1 q) λov s2 ⟨x,H2,I2,rx,a,C,dx,fs,ex,ea,c,n,l,q2⟩=>?_) hs;subst ex;obtain rfl:ov = Value.ref a:=rx;exact zlg I2 ea c n l ry λs3 I3=>⟨σ,_,I3,q2⟩
def rAdd:V->V->Hp->VK->Prop:=λx y H Q=>∃ i j,x = .int i/\y = .int j/\Q (.int (i + j)) H
theorem zrT:InOp X .Add rAdd:=by
 rintro pins s σ H x y u v Q I rx ry ⟨i,j,rfl,rfl,q⟩;obtain ⟨t,rfl⟩:=(show ∃ t,u = Value.int i t from rx);obtain ⟨t',rfl⟩:=(show ∃ t',v = Value.int j t' from ry);exact PyProof.Rows.iadd_int ⟨.int (i + j),H,I.tok _,⟨_,rfl⟩,q⟩
end
structure Room (k:Nat) (A:Around):Prop where
 hd:A.handled = none
 dp:A.depth + 3 * k + 5 < recursionLimit
 un:A.units + 16 * k + 200 < cLine
theorem Room.mono  (r:Room k A) (h:j <= k):Room j A:=⟨r.hd,by have:=r.dp;omega,by have:=r.un;omega⟩
theorem Room.deeper {k:Nat} {A:Around} (r:Room (k + 1) A) (env:Env):Room k (A.deeper env):=
 ⟨r.hd,by have:=r.dp;show A.depth + 1 + 3 * k + 5 < _;omega,by have:=r.un;show A.units + 3 + 16 * k + 200 < _;omega⟩
theorem zle {A:Around} {C:Addr} {us:List Value} {kw:List (Str × Value)}:(A.under (.builtin "type.__call__" ⟨.ref C :: us,kw⟩)).depth = A.depth + 1:=by
 first | rfl | simp [Around.under,Code.weight,Code.isCreation,Code.isGuard,Code.isCaller,Code.frames,Code.isFrame,guardIds]
theorem zlA {A:Around} {C:Addr} {us:List Value} {kw:List (Str × Value)}:(A.under (.builtin "type.__call__" ⟨.ref C :: us,kw⟩)).units = A.units + 1:=by
 first | rfl | simp [Around.under,Code.cUnits,Code.frames,Code.isFrame]
theorem Room.make  (r:Room (k + 1) A) (C:Addr) (us:List Value) (kw:List (Str × Value)):Room k (A.under (.builtin "type.__call__" ⟨.ref C :: us,kw⟩)):=
 ⟨r.hd,by have:=r.dp;rw [zle];omega,by have:=r.un;rw [zlA];omega⟩
theorem Room.depth {k:Nat} {A:Around} (r:Room k A):A.depth < recursionLimit:=by have:=r.dp;omega
theorem Room.units  (r:Room k A):A.units + 64 < cLine:=by have:=r.un;omega
def tNil:TA:=λ_ H Q=>Q [] H
def ztc (ta:TE) (tr:TA):TA:=λσ H Q=>ta σ H λx H1=>tr σ H1 λxs H2=>Q (x :: xs) H2
section
variable {X:Cx} {e:Expr} {es:List Expr} {te:TE} {t:TA} {pos:Pos}
theorem zbn:PA X [] tNil:=λ_ _ _ _ H Q I h=>Calls.spliced_nil ⟨[],H,I,.nil,h⟩
theorem zaD (ha:PE X e te) (hr:PA X es t) (hs:starEach (e :: es) X.env = (false,eval e X.env) :: starEach es X.env:=by rfl):PA X (e :: es) (ztc te t):=by
 intro pos pins s σ H Q I h;rw [hs];show wpAny _ _ (spliced ((false,eval e X.env) :: backTo pos (starEach es X.env))) _ _ s;refine Calls.spliced_cons (thn (ha pins s σ H _ I h) λu s1 ⟨x,H1,I1,r1,q1⟩=>?_);exact thn (hr pos pins s1 σ H1 _ I1 q1) λus s2 ⟨xs,H2,I2,r2,q2⟩=>⟨x :: xs,H2,I2,.cons r1 r2,q2⟩
def tTup (t:TA):TE:=λσ H Q=>t σ H λxs H1=>xs.length <= sizeLine/\∀ p,H1 p = none->Q (.ref p) (upd H1 p (.tup xs))
def tLst (t:TA):TE:=λσ H Q=>t σ H λxs H1=>xs.length <= sizeLine/\∀ p,H1 p = none->Q (.ref p) (upd H1 p (.lst xs))
theorem zoW {x1} (h:PA X es t):PE X (.Tuple es x1 pos) (tTup t):=by
 intro pins s σ H Q I hq;refine wpAny_Tuple_spliced (thn (h pos pins s σ H _ I hq) λus s1 ⟨xs,H1,I1,r,z,q⟩=>⟨by rw [<- r.length];exact z,?_⟩);have hf:H1 s1.heap.objs.size = none:=I1.hok.fresh (YAm _);refine ⟨.ref s1.heap.objs.size,upd H1 s1.heap.objs.size (.tup xs),I1.laid (t':=s1.toks) (λb u e=>YAb _ e) (YAm _) ?_,rfl,q _ hf⟩;exact ⟨z,us,r,⟨_,YAn _ rfl,rfl,_,rfl⟩⟩
theorem zpq (h:PA X es t):PE X (.List es pos) (tLst t):=by
 intro pins s σ H Q I hq;refine wpAny_List_spliced (thn (h pos pins s σ H _ I hq) λus s1 ⟨xs,H1,I1,r,z,q⟩=>⟨by rw [<- r.length];exact z,?_⟩);have hf:H1 s1.heap.objs.size = none:=I1.hok.fresh (YAm _);refine ⟨.ref s1.heap.objs.size,upd H1 s1.heap.objs.size (.lst xs),I1.laid (t':=s1.toks) (λb u e=>YAb _ e) (YAm _) ?_,rfl,q _ hf⟩;exact ⟨z,us,0,r,YAn _ rfl⟩
end
abbrev Sp:=List V->Hp->VK->XK->Prop
abbrev CXT:=List Env->Hp->Shared->XK->Value->Shared->Prop
structure Env0 (P:Program) (w:World) (K:PySem.W.Frag) (mg:Str->Option Value) (base:Heap) (A:Around) (outer:List Env) (s:Shared) (H:Hp):Prop where
 frames:A.frames = some outer
 mod:Mod K mg base
 bs:∀ b o,base.get? b = some o->s.heap.get? b = some o/\H b = none
 bsz:base.objs.size <= s.heap.objs.size
 funs:s.heap.FunFrames base outer
 frf:∀ b ∈ frs outer,H b = none
 hok:HOk P w H s.heap
 bare:AllBare s.gens
def CE (outer:List Env) (P:Program) (w:World) (H:Hp) (s:Shared) (Q:VK) (u:Value) (s':Shared):Prop:=
 ∃ v H',s'.os = s.os/\AllBare s'.gens/\Un (frs outer) [] H H' s.heap s'.heap/\HOk P w H' s'.heap/\RelV v u/\Q v H'
def CR (CX:CXT) (outer:List Env) (P:Program) (w:World) (H:Hp) (s:Shared) (Q:VK) (E:XK) (r:Result) (s':Shared):Prop:=
 match r with
 | .ok (.ret u)=>CE outer P w H s Q u s'
 | .ok _=>False
 | .error e=>CX outer H s E e s'
structure FnOk (P:Program) (w:World) (K:PySem.W.Frag) (mg:Str->Option Value) (base:Heap) (CX:CXT) (k:Nat) (f:Addr) (fd:FuncData) (ps:List Str) (sp:Sp):Prop where
 len:∀ vs H Q E,sp vs H Q E->vs.length = ps.length
 run:∀ (A:Around) (outer:List Env) (s:Shared) (H:Hp) (args:Args) (us:List Value) (vs:List V) (Q:VK) (E:XK),Room k A->Env0 P w K mg base A outer s H->BindsTo s fd args (ps.zip us)->Vals vs us->sp vs H Q E ->
  codeAny (model P w) A (.call (.ref f) args) (CR CX outer P w H s Q E) s
theorem FnOk.imp {P:Program} {w:World} {K:PySem.W.Frag} {mg:Str->Option Value} {base:Heap} {CX:CXT} {k:Nat} {f:Addr} {fd:FuncData} {ps:List Str} {sp sp':Sp} (F:FnOk P w K mg base CX k f fd ps sp)
  (h:∀ vs H Q E,sp' vs H Q E->sp vs H Q E):FnOk P w K mg base CX k f fd ps sp':=
 ⟨λvs H Q E q=>F.len vs H Q E (h _ _ _ _ q),λA outer s H args us vs Q E hr he hb hv hs=>F.run A outer s H args us vs Q E hr he hb hv (h _ _ _ _ hs)⟩
theorem Env0.make {P:Program} {w:World} {K:PySem.W.Frag} {mg:Str->Option Value} {base:Heap} {A:Around} {outer:List Env} {s:Shared} {H:Hp} (e:Env0 P w K mg base A outer s H) (C:Addr) (us:List Value) (kw:List (Str × Value)) :
  Env0 P w K mg base (A.under (.builtin "type.__call__" ⟨.ref C :: us,kw⟩)) outer s H:=⟨by first | exact e.frames | (simpa [Around.under,Code.envs,Code.isFrame,pushEnvs] using e.frames),e.mod,e.bs,e.bsz,e.funs,e.frf,e.hok,e.bare⟩
section
variable {X:Cx} {pins:List (Addr × Obj)} {σ:St} {H:Hp} {s s':Shared}
theorem Inv.env0 (I:Inv X pins σ H s):Env0 X.prog X.w X.K X.mg X.base X.A X.stack s H:=
 ⟨I.ok.frames,I.ok.mod,I.bs,YAB I.ok.bsz I.sz,I.stack,I.stkFree,I.hok,I.bare⟩
theorem Inv.after  (I:Inv X pins σ H s) (h:CE X.stack X.prog X.w H s Q u s'):EP X pins σ Q u s':=by
 obtain ⟨v,H',os,bare,un,hok,r,q⟩:=h;obtain ⟨hh,g,d,t,os'⟩:=s';obtain rfl:os' = s.os:=os;exact ⟨v,H',I.call (h':=hh) (g':=g) (d':=d) (t':=t) (ch:=[]) un hok bare (λb z=>absurd z (by simp)),r,q⟩
end
def zsf (sp:Sp) (dvs:List V) (E:XK) (t:TA):TE:=λσ H Q=>t σ H λvs H1=>sp (vs ++ dvs) H1 Q E
def zoG (C:Addr) (m:Str) (sp:Sp) (dvs:List V) (E:XK) (ta:TE) (t:TA):TE:=λσ H Q=>ta σ H λx H1=>∃ a dx fs,x = .ref a/\H1 a = some (.ins C dx fs)/\fs.lookup m = none /\
 t σ H1 λvs H2=>sp (x :: (vs ++ dvs)) H2 Q E
def zs4 (C:Addr) (sp:Sp) (dvs:List V) (E:XK) (t:TA):TE:=λσ H Q=>t σ H λvs H1=>∀ x dx,H1 x = none->H1 dx = none->dx ≠ x ->
 sp (.ref x :: (vs ++ dvs)) (upd (upd H1 dx (.own x)) x (.ins C dx [])) (λv H2=>v = .non/\Q (.ref x) H2) E
def Binds (K:PySem.W.Frag) (fd:FuncData) (ps:List Str) (ds:List Value):Prop:=
 ∀ (s:Shared) (us:List Value),K.In s.heap->(us ++ ds).length = ps.length->BindsTo s fd ⟨us,[]⟩ (ps.zip (us ++ ds))
theorem Binds.all {K:PySem.W.Frag} {fd:FuncData} {ps:List Str} (h:∀ us:List Value,us.length = ps.length->bindArgs fd ⟨us,[]⟩ = pure (ps.zip us)):Binds K fd ps []:=λs us _ hl=>by
 rw [YAR] at hl ⊢;exact .of_eq (h us hl)
def zbp (CX:CXT) (X:Cx) (E:XK):Prop:=∀ (pins:List (Addr × Obj)) (σ:St) (H:Hp) (s:Shared) (e:Value) (s':Shared),Inv X pins σ H s->CX X.stack H s E e s'->X.xe e s'
section
variable {X:Cx} {CX:CXT} {k:Nat} {f C:Addr} {fd:FuncData} {ps:List Str} {sp:Sp} {dvs:List V} {ds:List Value} {E:XK} {x m:Str} {p pos apos:Pos} {e o:Expr} {es:List Expr} {ta:TE} {t:TA}
theorem ziu {pins:List (Addr × Obj)} {σ:St} {H:Hp} {s:Shared} {Q:VK} {us:List Value} {vs:List V} (F:FnOk X.prog X.w X.K X.mg X.base CX k f fd ps sp) (hr:Room k X.A) (hb:Binds X.K fd ps ds) (hd:Vals dvs ds) (hx:zbp CX X E)
  (I:Inv X pins σ H s) (r:Vals vs us) (h:sp (vs ++ dvs) H Q E):wpAny (model X.prog X.w) X.A (call (.ref f) us) (EP X pins σ Q) X.xe s:=by
 have r2:Vals (vs ++ dvs) (us ++ ds):=r.append hd;have hl:(us ++ ds).length = ps.length:=by rw [<- r2.length];exact F.len _ _ _ _ h
 refine wpAny_call (YCy (F.run X.A X.stack s H ⟨us,[]⟩ (us ++ ds) (vs ++ dvs) Q E hr I.env0 (hb s us I.kIn hl) r2 h) λr s' hq=>?_);cases r with
 | error e=>exact hx pins σ H s e s' I hq
 | ok fl=>
  cases fl with
  | ret u=>exact I.after hq
  | next=>exact False.elim hq
  | brk=>exact False.elim hq
  | cont=>exact False.elim hq
theorem zdL (F:FnOk X.prog X.w X.K X.mg X.base CX k f fd ps sp) (hr:Room k X.A) (hg:Gl X x) (hm:X.mg x = some (.ref f)) (hk:PySem.W.keepIn X.K (.ref f) = true) (hb:Binds X.K fd ps ds) (hd:Vals dvs ds) (hx:zbp CX X E)
  (ha:PA X (e :: es) t) (hdb:(x == ("__debug__" : Str)) = false:=by decide) (he:starEach (e :: es) X.env = (false,eval e X.env) :: starEach es X.env:=by rfl) (hpl:(backTo pos (starEach es X.env)).any (·.1) = false:=by rfl) :
  PE X (.Call (.Name x p) (e :: es) [] pos) (zsf sp dvs E t):=by
 intro pins s σ H Q I h;refine YA5 (zes I hg hm ?_ hdb);refine YCj (h₀:=X.base) I.ok.mod.kin hk (thn (ha pos pins s σ H _ I h) λus s1 ⟨vs,H1,I1,r,q⟩=>⟨I1.kIn,?_⟩) he hpl;exact ziu F hr hb hd hx I1 r q
theorem zoe (F:FnOk X.prog X.w X.K X.mg X.base CX k f fd ps sp) (hr:Room k X.A) (hg:Gl X x) (hm:X.mg x = some (.ref f)) (hk:PySem.W.keepIn X.K (.ref f) = true) (hb:Binds X.K fd ps ds) (hd:Vals dvs ds) (hx:zbp CX X E)
  (hdb:(x == ("__debug__" : Str)) = false:=by decide):PE X (.Call (.Name x p) [] [] pos) (zsf sp dvs E tNil):=by
 intro pins s σ H Q I h;refine YA5 (zes I hg hm ?_ hdb);exact YCd I.kIn hk (ziu (us:=[]) F hr hb hd hx I .nil h)
theorem zpI (he:PE X o ta) (c:Cls X.K C) (hm:Meth X.K C m f) (F:FnOk X.prog X.w X.K X.mg X.base CX k f fd ps sp) (hr:Room k X.A) (hb:Binds X.K fd ps ds) (hd:Vals dvs ds) (hx:zbp CX X E) (ha:PA X (e :: es) t)
  (hst:starEach (e :: es) X.env = (false,eval e X.env) :: starEach es X.env:=by rfl) (hpl:(backTo pos (starEach es X.env)).any (·.1) = false:=by rfl)
  (ht:eval (.Call (.Attribute o m apos) (e :: es) [] pos) X.env = (do
   let ov <- eval o X.env
   standAt apos.atName
   let (f,first) <- holding [ov] (getMethod ov m pl)
   callWith pos f first (backTo pos (starEach (e :: es) X.env)) (backToKw pos (keywordEach [] X.env))):=by rfl) :
  PE X (.Call (.Attribute o m apos) (e :: es) [] pos) (zoG C m sp dvs E ta t):=by
 intro pins s σ H Q I h;refine PySem.W.methodCall_KW (pl:=pl) (thn (he pins s σ H _ I h) λu s1 ⟨x,H1,I1,rx,a,dx,fs,ex,ea,l,q⟩=>?_) ht;subst ex;obtain rfl:u = Value.ref a:=rx;refine zgQ I1 ea c hm l ?_;refine YCj (first:=[.ref a]) (h₀:=X.base) I.ok.mod.kin hm.kp (thn (ha pos pins s1 σ H1 _ I1 q) λus s2 ⟨vs,H2,I2,r,q2⟩=>⟨I2.kIn,?_⟩) hst hpl;exact ziu (us:=.ref a :: us) (vs:=.ref a :: vs) F hr hb hd hx I2 (.cons rfl r) q2
theorem zkQ (he:PE X o ta) (c:Cls X.K C) (hm:Meth X.K C m f) (F:FnOk X.prog X.w X.K X.mg X.base CX k f fd ps sp) (hr:Room k X.A) (hb:Binds X.K fd ps ds) (hd:Vals dvs ds) (hx:zbp CX X E)
  (ht:eval (.Call (.Attribute o m apos) [] [] pos) X.env = (do
   let ov <- eval o X.env
   standAt apos.atName
   let (f,first) <- holding [ov] (getMethod ov m pl)
   callWith pos f first (backTo pos (starEach [] X.env)) (backToKw pos (keywordEach [] X.env))):=by rfl) :
  PE X (.Call (.Attribute o m apos) [] [] pos) (zoG C m sp dvs E ta tNil):=by
 intro pins s σ H Q I h;refine PySem.W.methodCall_KW (pl:=pl) (thn (he pins s σ H _ I h) λu s1 ⟨x,H1,I1,rx,a,dx,fs,ex,ea,l,q⟩=>?_) ht;subst ex;obtain rfl:u = Value.ref a:=rx;refine zgQ I1 ea c hm l ?_;exact YCd (first:=[.ref a]) I1.kIn hm.kp (ziu (us:=[.ref a]) (vs:=[.ref a]) F hr hb hd hx I1 (.cons rfl .nil) q)
structure Mk (K:PySem.W.Frag) (C f:Addr):Prop where
 makes:PySem.W.makesIn K C = true
 init:PySem.W.findIn K (.ref C) "__init__" = some (some (.ref f))
 fn:PySem.W.isFn K (.ref f) = true
 kp:PySem.W.keepIn K (.ref C) = true
theorem zop    (M:Mk X.K C f) (F:FnOk X.prog X.w X.K X.mg X.base CX k f fd ps sp) (hr:Room (k + 1) X.A) (hb:Binds X.K fd ps ds) (hd:Vals dvs ds)
  (hx:zbp CX X E) (I:Inv X pins σ H s) (r:Vals vs us)
  (h:∀ x dx,H x = none->H dx = none->dx ≠ x->sp (.ref x :: (vs ++ dvs)) (upd (upd H dx (.own x)) x (.ins C dx [])) (λv H2=>v = .non/\Q (.ref x) H2) E) :
  wpAny (model X.prog X.w) X.A (call (.ref C) us) (EP X pins σ Q) X.xe s:=by
 have hq:=h (s.heap.objs.size + 1) s.heap.objs.size (I.hok.fresh (Nat.le_succ _)) (I.hok.fresh (YAm _)) (YAr (YBY _));have I2:=Inv.made (C:=C) I;have r2:Vals (V.ref (s.heap.objs.size + 1) :: (vs ++ dvs)) (Value.ref (s.heap.objs.size + 1) :: (us ++ ds)):=.cons rfl (r.append hd);have hl:(Value.ref (s.heap.objs.size + 1) :: us ++ ds).length = ps.length:=by
  have e:=r2.length;rw [F.len _ _ _ _ hq] at e;exact e.symm
 refine wpAny_call (znF (f:=f) I.kIn M.makes M.init (YCa.mp M.fn) (YCy (F.run _ X.stack _ _ ⟨Value.ref (s.heap.objs.size + 1) :: us,[]⟩ (Value.ref (s.heap.objs.size + 1) :: (us ++ ds)) _ _ E (hr.make C us [])
  (I2.env0.make C us []) (hb _ (Value.ref (s.heap.objs.size + 1) :: us) I2.kIn hl) r2 hq) λr s' hq'=>?_))
 cases r with
 | error e=>exact hx pins σ _ _ e s' I2 hq'
 | ok fl=>
  cases fl with
  | ret u=>
   obtain ⟨v,H',I3,rv,ev,q3⟩:=I2.after hq';subst ev;exact ⟨rv,⟨V.ref (s.heap.objs.size + 1),H',I3,rfl,q3⟩⟩
  | next=>exact False.elim hq'
  | brk=>exact False.elim hq'
  | cont=>exact False.elim hq'
theorem zn2 (M:Mk X.K C f) (F:FnOk X.prog X.w X.K X.mg X.base CX k f fd ps sp) (hr:Room (k + 1) X.A) (hg:Gl X x) (hm:X.mg x = some (.ref C)) (hb:Binds X.K fd ps ds) (hd:Vals dvs ds) (hx:zbp CX X E)
  (hdb:(x == ("__debug__" : Str)) = false:=by decide):PE X (.Call (.Name x p) [] [] pos) (zs4 C sp dvs E tNil):=by
 intro pins s σ H Q I h;refine YA5 (zes I hg hm ?_ hdb);exact YCd I.kIn M.kp (zop (us:=[]) M F hr hb hd hx I .nil h)
end
structure FnScope (N P:List Str) (sc:Scope):Prop where
 kind:sc.kind = .function
 co:sc.isCoroutine = false
 gen:sc.isGenerator = false
 nd:N.Nodup
 pre:N.take P.length = P
 par:∀ x ∈ P,sc.names.lookup x = some .local\/sc.names.lookup x = some .cell
 nofree:∀ y ∈ sc.names,y.2 ≠ .free
theorem zia {kindOf:Str->Option NameKind} {x:Str}:∀ {binds:List (Str × Value)} {m:Str->Option Value},(∀ v,(x,v) ∉ binds)->bindL kindOf binds m x = m x
 | [],_,_=>rfl
 | (n,v) :: r,m,h=>by
  unfold bindL;rw [zia λw hw=>h w (YAf _ hw)];split
  ·have:x ≠ n:=by rintro rfl;exact h v YAs
   simp [this]
  ·rfl
theorem zh1 {kindOf:Str->Option NameKind} {x:Str}:∀ {binds:List (Str × Value)} {m:Str->Option Value},(∀ v,(x,v) ∉ binds)->bindC kindOf binds m x = m x
 | [],_,_=>rfl
 | (n,v) :: r,m,h=>by
  unfold bindC;rw [zh1 λw hw=>h w (YAf _ hw)];split
  ·rfl
  ·have:x ≠ n:=by rintro rfl;exact h v YAs
   simp [this]
theorem zhV {kindOf:Str->Option NameKind} {x:Str} {v:Value}:∀ {P:List Str} {vs:List Value} {i:Nat} {m:Str->Option Value},P.Nodup->P[i]? = some x->vs[i]? = some v->kindOf x = some .local ->
  bindL kindOf (P.zip vs) m x = some v
 | [],_,_,_,_,h,_,_=>by simp at h
 | _ :: _,[],_,_,_,_,h,_=>by simp at h
 | p :: P,w :: vs,0,m,nd,h1,h2,hk=>by
  simp at h1 h2;subst h1;subst h2;show bindL kindOf ((p,w) :: P.zip vs) m p = _;unfold bindL;rw [zia λv hv=>(YAM.mp nd).1 (YCz hv).1,if_pos hk]
  simp
 | p :: P,w :: vs,i + 1,m,nd,h1,h2,hk=>by
  show bindL kindOf ((p,w) :: P.zip vs) m x = _;unfold bindL;exact zhV (i:=i) (YAM.mp nd).2 (by simpa using h1) (by simpa using h2) hk
theorem ziV {kindOf:Str->Option NameKind} {x:Str} {v:Value}:∀ {P:List Str} {vs:List Value} {i:Nat} {m:Str->Option Value},P.Nodup->P[i]? = some x->vs[i]? = some v->kindOf x ≠ some .local ->
  bindC kindOf (P.zip vs) m x = some v
 | [],_,_,_,_,h,_,_=>by simp at h
 | _ :: _,[],_,_,_,_,h,_=>by simp at h
 | p :: P,w :: vs,0,m,nd,h1,h2,hk=>by
  simp at h1 h2;subst h1;subst h2;show bindC kindOf ((p,w) :: P.zip vs) m p = _;unfold bindC;rw [zh1 λv hv=>(YAM.mp nd).1 (YCz hv).1,if_neg hk]
  simp
 | p :: P,w :: vs,i + 1,m,nd,h1,h2,hk=>by
  show bindC kindOf ((p,w) :: P.zip vs) m x = _;unfold bindC;exact ziV (i:=i) (YAM.mp nd).2 (by simpa using h1) (by simpa using h2) hk
def zen (N:List Str) (vs:List V):St:=vs.map some ++ List.replicate (N.length - vs.length) none
def cxOf (CX:CXT) (P:Program) (w:World) (K:PySem.W.Frag) (mg:Str->Option Value) (base:Heap) (N:List Str) (qual:Str) (scope:Scope) (f:Addr) (cd:Value) (A:Around) (outer:List Env) (s:Shared) (H:Hp) (E:XK):Cx where
 prog:=P
 w:=w
 K:=K
 mg:=mg
 base:=base
 A:=A.deeper (envOfC qual scope s.heap.objs.size f cd)
 N:=N
 s₀:=s
 H₀:=H
 env:=envOfC qual scope s.heap.objs.size f cd
 outer:=outer
 stack:=envOfC qual scope s.heap.objs.size f cd :: outer
 ex:=[]
 calm:=true
 fn:=λ_=>true
 pn:=[]
 xe:=λe s'=>wpAny (model P w) (A.deeper (envOfC qual scope s.heap.objs.size f cd)) (leaving (envOfC qual scope s.heap.objs.size f cd) e) (λ_ s''=>CX outer H s E e s'') (λe' s''=>CX outer H s E e' s'') s'
theorem zkG {sc:Scope} {n:Nat} {x:Str} (h:sc.names.lookup x = some .cell):∃ c,(cellsFrom n sc.names []).lookup x = some c:=by
 have q:=PySem.W.cellsFrom_some sc.names n [] (.inl h);exact Option.isSome_iff_exists.mp q
theorem znj {CX:CXT} {P:Program} {w:World} {K:PySem.W.Frag} {mg:Str->Option Value} {base:Heap} {N ps:List Str} {qual:Str} {scope:Scope} {f:Addr} {cd:Value} {A:Around} {outer:List Env} {s s1:Shared} {H:Hp} {E:XK} {us:List Value} {vs:List V}
  (S:FnScope N ps scope) (hd:A.handled = none) (e0:Env0 P w K mg base A outer s H) (hl:vs.length = ps.length) (r:Vals vs us)
  (x:InCallC s s.heap.objs.size (bindL (envOfC qual scope s.heap.objs.size f cd).kindOf (ps.zip us) λ_=>none) (cellsFrom (s.heap.objs.size + 1) scope.names []) (bindC (envOfC qual scope s.heap.objs.size f cd).kindOf (ps.zip us) λ_=>none) s1) :
  Inv (cxOf CX P w K mg base N qual scope f cd A outer s H E) [] (zen N vs) H s1:=by
 have hpl:ps.length <= N.length:=by have:=congrArg List.length S.pre;rw [YCs] at this;omega
 obtain ⟨h1,tk,rfl,hk⟩:=x.done;have noA:∀ b:Addr,b ∉ (cxOf CX P w K mg base N qual scope f cd A outer s H E).ex:=λb z=>absurd (show b ∈ ([]:List Addr) from z) (by simp);refine ⟨⟨e0.mod,S.kind,rfl,rfl,YAm _,λy z c h1 h2=>?_,λy hy=>?_,λy c _ h=>?_,λ_=>hd,Around.frames_deeper e0.frames,.inr ⟨rfl,rfl⟩,λb z=>absurd z (noA b),e0.bs,e0.bsz,λb _ _=>noA b,λb z=>absurd z (noA b),e0.funs,e0.frf⟩,
  rfl,e0.bare,Un.kept hk,⟨_,x.toInCall.ns,λi y v h1 h2 h3=>?_⟩,λy c h=>⟨_,x.cell y c h⟩,e0.hok.fresh (YAm _),λy c h=>?_,λp hp=>absurd (show p ∈ ([]:List (Addr × Obj)) from hp) (by simp),e0.hok.kept hk,?_⟩
 ·exact name_of_addr x.apart (YAY h1) (YAY h2)
 ·have hy:scope.names.lookup y = some .cell\/scope.names.lookup y = some .free:=hy;rcases hy with hy | hy
  ·exact zkG hy
  ·exact absurd rfl (S.nofree _ (YAY hy))
 ·exact Nat.le_of_lt (x.above y c (YAY h))
 ·have hi:i < vs.length:=by
   unfold zen at h2;by_cases hi:i < vs.length
   ·exact hi
   ·rw [YBp (by simpa using hi)] at h2;rw [YA6] at h2;split at h2 <;> cases h2
  have ha:vs[i]? = some v:=by
   unfold zen at h2;rw [YBc (by simpa using hi),YAt] at h2;cases e:vs[i]? with
   | none=>rw [e] at h2;cases h2
   | some a=>rw [e] at h2;cases h2;rfl
  obtain ⟨u,hu,rv⟩:=r.get ha;have hp:ps[i]? = some y:=by
   rw [<- S.pre,List.getElem?_take_of_lt (by omega)];exact h1
  have ndP:ps.Nodup:=by rw [<- S.pre];exact S.nd.sublist (List.take_sublist _ _)
  refine ⟨u,rv,?_⟩;rcases S.par y (List.mem_of_getElem? hp) with k | k
  ·exact .inl ⟨k,zhV ndP hp hu k⟩
  ·obtain ⟨c,e⟩:=zkG (n:=s.heap.objs.size + 1) k;refine .inr ⟨.inl k,c,e,?_⟩;have q:=x.cell y c e;rw [ziV ndP hp hu (by show scope.names.lookup y ≠ _;rw [k];decide)] at q;exact q
 ·exact e0.hok.fresh (Nat.le_of_lt (x.above y c (YAY h)))
 ·unfold zen;show _ = N.length;rw [YAp,YAc,List.length_replicate];omega
theorem zn5 {CX:CXT} {P:Program} {w:World} {K:PySem.W.Frag} {mg:Str->Option Value} {base:Heap} {k:Nat} {f:Addr} {name qual:Str} {params:Arguments} {body:List Stmt} {scope:Scope} {dV kV doc pm cdv ct oc:Value} {an od:Option Addr}
  {osl:Array (Option Value)} {N ps:List Str} {sp:Sp} (lk:K.lookup f = some ⟨oc,od,.func (PySem.W.fnOf name qual params body scope dV kV doc pm an cdv ct),osl⟩) (hcd:PySem.W.codeIn K cdv qual = true) (S:FnScope N ps scope)
  (len:∀ vs H Q E,sp vs H Q E->vs.length = ps.length)
  (hbody:∀ (A:Around) (outer:List Env) (s:Shared) (H:Hp) (vs:List V) (Q:VK) (E:XK),Room k (A.deeper (envOfC qual scope s.heap.objs.size f cdv))->sp vs H Q E ->
   ∃ t,PSs (cxOf CX P w K mg base N qual scope f cdv A outer s H E) body t/\t { nx:=λ_ H'=>Q .non H',rt:=Q } (zen N vs) H) :
  FnOk P w K mg base CX (k + 1) f (PySem.W.fnOf name qual params body scope dV kV doc pm an cdv ct) ps sp:=by
 refine ⟨len,λA outer s H args us vs Q E hr e0 hb r hsp=>?_⟩;have hl:=len _ _ _ _ hsp;have KX:K.In s.heap:=e0.mod.kin.keeps λb o e=>(e0.bs b o e).1;have lim:s.heap.NoLimit:=e0.mod.nolimit.keeps λb o e=>(e0.bs b o e).1;have hkind:∀ y ∈ ps.zip us,scope.names.lookup y.1 = some .local\/(scope.names.lookup y.1 = some .cell/\((cellsFrom (s.heap.objs.size + 1) scope.names []).lookup y.1).isSome = true):=λ⟨n,v⟩ hy=>by
  rcases S.par n (YCz hy).1 with q | q
  ·exact .inl q
  ·exact .inr ⟨q,PySem.W.cellsFrom_some _ _ _ (.inl q)⟩
 refine codeAny_call_function hr.depth (KX _ _ lk) rfl S.co S.gen rfl (PySem.W.codeRec_of KX hcd) (hb _ _ _ _ ?_);refine wpAny_newFunctionEnv_cells S.kind hkind λenv he s1 x=>?_;subst he;refine ⟨lim.keeps x.toInCall.keep,codeAny_func ?_⟩;obtain ⟨t,ht,hq⟩:=hbody A outer s H vs Q E (hr.deeper _) hsp;have I:Inv (cxOf CX P w K mg base N qual scope f cdv A outer s H E) [] (zen N vs) H s1:=znj S hr.hd e0 hl r x;refine YAT (ht [] s1 (zen N vs) H _ I hq) (λfl s' hs=>?_) λe s' hs=>hs;have fin:∀ {σ':St} {H':Hp} {v:V} {u:Value},Inv (cxOf CX P w K mg base N qual scope f cdv A outer s H E) [] σ' H' s'->RelV v u->Q v H'->CE outer P w H s Q u s':=
  λ{σ' H' v u} J rv q=>⟨v,H',J.os,J.bare,J.base,J.hok,rv,q⟩
 cases fl with
 | ret u=>
  obtain ⟨v,σ',H',J,rv,q⟩:=hs;exact fin J rv q
 | next=>
  obtain ⟨σ',H',J,q⟩:=hs;exact fin (v:=V.non) (u:=Value.none) J rfl q
 | brk=>
  obtain ⟨_,_,_,q⟩:=hs;exact False.elim q
 | cont=>
  obtain ⟨_,_,_,q⟩:=hs;exact False.elim q
section
variable {X:Cx} {x:Str} {p pos:Pos} {e:Expr} {es:List Expr} {t:TA} {id T:String} {r:List V->Hp->VK->Prop}
def tCB (r:List V->Hp->VK->Prop) (t:TA):TE:=λσ H Q=>t σ H λvs H1=>r vs H1 Q
theorem zhz (hc:CallR X (.builtin id) r) (hg:Gl X x) (hm:X.mg x = none) (hv:bootBuiltins x = some (.builtin id)) (ha:PA X (e :: es) t) (hn:x ≠ "__name__" := by decide) (hdb:(x == ("__debug__" : Str)) = false:=by decide)
  (he:starEach (e :: es) X.env = (false,eval e X.env) :: starEach es X.env:=by rfl) (hpl:(backTo pos (starEach es X.env)).any (·.1) = false:=by rfl):PE X (.Call (.Name x p) (e :: es) [] pos) (tCB r t):=by
 intro pins s σ H Q I h;refine YA5 (ziR I hg hm hv ?_ hn hdb);exact PyProof.Rows.callWith_builtin1 (thn (ha pos pins s σ H _ I h) λus s1 ⟨vs,H1,I1,r1,q1⟩=>hc pins s1 σ H1 vs us Q I1 r1 q1) he hpl
theorem zcd (hc:CallR X (.type T) r) (hg:Gl X x) (hm:X.mg x = none) (hv:bootBuiltins x = some (.type T)) (ha:PA X (e :: es) t) (hn:x ≠ "__name__" := by decide) (hdb:(x == ("__debug__" : Str)) = false:=by decide)
  (he:starEach (e :: es) X.env = (false,eval e X.env) :: starEach es X.env:=by rfl) (hpl:(backTo pos (starEach es X.env)).any (·.1) = false:=by rfl):PE X (.Call (.Name x p) (e :: es) [] pos) (tCB r t):=by
 intro pins s σ H Q I h;refine YA5 (ziR I hg hm hv ?_ hn hdb);exact YBy (thn (ha pos pins s σ H _ I h) λus s1 ⟨vs,H1,I1,r1,q1⟩=>hc pins s1 σ H1 vs us Q I1 r1 q1) he hpl
end
end L2
namespace HT
open PySem PyProof.Rows
section
variable {prog:Program} {w:World} {A:Around} {E:Value->Shared->Prop} {s:Shared}
theorem cat_tup  (ht:IsTup s.heap t vs.toArray) (hb:IsTup s.heap b ws.toArray) (hv:vs ≠ [])
  (h1:ws = []->Q (.ref t) s) (h2:ws ≠ []->Q (.ref s.heap.objs.size) { s with heap:=s.heap.push { cls:=.type "tuple",data:=.seq (vs ++ ws).toArray } })
  (hsz:vs.length + ws.length <= sizeLine):wpAny (model prog w) A (binaryOp .Add (.ref t) (.ref b)) Q E s:=by
 obtain ⟨⟨cls,dd,data,sl⟩,ho,hc,n,hd⟩:=id ht;obtain ⟨⟨cls2,dd2,data2,sl2⟩,ho2,hc2,n2,hd2⟩:=id hb;simp only at hc hd hc2 hd2;subst hc hd hc2 hd2;have e:vs.toArray ++ ws.toArray = (vs ++ ws).toArray:=by simp
 by_cases hw:ws = []
 ·exact concat_meets ⟨_,ho,rfl⟩ ⟨_,ho2,rfl⟩ YCt seq_tuple_add YBS YBO (YBK _ _)
   (tuple_addW1 t b vs.toArray ws.toArray n n2 dd dd2 sl sl2 (by simpa using hv) (by simp [hw])) ⟨ho,ho2,h1 hw⟩
 ·refine concat_meets ⟨_,ho,rfl⟩ ⟨_,ho2,rfl⟩ YCt seq_tuple_add YBS YBO (YBK _ _)
   (tuple_addW2 t b vs.toArray ws.toArray n n2 dd dd2 sl sl2 (by simpa using hv) (by simpa using hw) (by rw [YAl,YAl];exact hsz)) ⟨ho,ho2,?_⟩
  rw [e];exact h2 hw
def sIx (n d:Nat):Option Int->Nat
 | none=>d
 | some v=>if v < 0 then (v + (n:Int)).toNat else min v.toNat n
theorem sIx_none (n d:Nat):sIx n d none = d:=rfl
theorem sIx_nat (n d k:Nat):sIx n d (some (k:Int)) = min k n:=by
 show (if (k:Int) < 0 then ((k:Int) + (n:Int)).toNat else min (k:Int).toNat n) = min k n;rw [if_neg (by omega),YBu]
theorem zkp (n d:Nat) (hd:d <= n) (o:Option Int):sIx n d o <= n:=by
 cases o with
 | none=>exact hd
 | some v=>
  show (if v < 0 then (v + (n:Int)).toNat else min v.toNat n) <= n;by_cases hv:v < 0
  ·rw [if_pos hv];omega
  ·rw [if_neg hv];exact YBZ _ _
theorem zlW (v:Int) (n d:Nat):(if v < 0 then max (v + (n:Int)) 0 else min v (n:Int)) = ((sIx n d (some v):Nat):Int):=by
 show (if v < 0 then max (v + (n:Int)) 0 else min v (n:Int)) = (((if v < 0 then (v + (n:Int)).toNat else min v.toNat n):Nat):Int);by_cases hv:v < 0
 ·simp only [if_pos hv];omega
 ·simp only [if_neg hv];omega
theorem zlj (lo hi:Option Int) (n:Nat):Builtin.Slice.sliceAdjust lo hi 1 (n:Int) = (((sIx n 0 lo:Nat):Int),((sIx n n hi:Nat):Int)):=by
 have h1:¬ ((1:Int) < 0):=by omega
 unfold Builtin.Slice.sliceAdjust;simp only [h1,YBE];refine Prod.ext ?_ ?_
 ·cases lo with
  | none=>rfl
  | some v=>exact zlW v n 0
 ·cases hi with
  | none=>rfl
  | some v=>exact zlW v n n
theorem zlC (i j:Nat):Builtin.Slice.slicePlaces (i:Int) (j:Int) 1 = j - i:=by
 unfold Builtin.Slice.slicePlaces;have h1:(1:Int) > 0:=by omega
 simp only [h1,YBU,Int.ediv_one];split <;> omega
theorem zgG {v:Value} {o:Option Int} {Q:Option Int->Shared->Prop} (p:IsPart v o) (h:Q o s):wpAny (model prog w) A (Builtin.Slice.slicePartIndex v) Q E s:=by
 cases p with
 | none=>exact slicePart_none h
 | int i t=>exact slicePart_int h
theorem zdw {sl:Addr} {vl vu:Value} {lo hi:Option Int} {n:Nat} {Q:Int × Int × Nat->Shared->Prop} (hs:s.heap.IsSliceOf sl vl vu .none) (pl:IsPart vl lo) (pu:IsPart vu hi)
  (h:Q (((sIx n 0 lo:Nat):Int),1,sIx n n hi - sIx n 0 lo) s):wpAny (model prog w) A (Builtin.Slice.sliceApplied (.ref sl) (pure (n:Int))) Q E s:=by
 obtain ⟨os,hos,hcs,hds⟩:=id hs;unfold Builtin.Slice.sliceApplied Builtin.Slice.sliceFields;refine YAa (YAa (YAP hos hds (x:=vl) rfl (YAa (YAP hos hds (x:=vu) rfl (YAa (YAP hos hds (x:=.none) rfl (YAe ?_)))))));refine YAa (slicePart_none ?_);show wpAny _ _ (if ((1:Int) == 0) = true then _ else _) _ _ s;rw [if_neg (by decide)];refine YAa (zgG pl (YAa (zgG pu (YAa (YAe ?_)))));show wpAny _ _ (match Builtin.Slice.sliceAdjust lo hi 1 (n:Int) with | (lo,hi)=>pure (lo,(1:Int),Builtin.Slice.slicePlaces lo hi 1)) _ _ s;rw [zlj lo hi n];show wpAny _ _ (pure (((sIx n 0 lo:Nat):Int),(1:Int),Builtin.Slice.slicePlaces ((sIx n 0 lo:Nat):Int) ((sIx n n hi:Nat):Int) 1)) _ _ s;rw [zlC];exact YAe h
theorem zn0 (xs:Array Value) (i k:Nat):((List.range k).filterMap λ(m:Nat)=>xs[((i:Int) + (m:Int) * 1).toNat]?).toArray = ((xs.toList.drop i).take k).toArray:=by
 have e:(λ(m:Nat)=>xs[((i:Int) + (m:Int) * 1).toNat]?) = λm=>xs[i + m]?:=by
  funext m
  have:((i:Int) + (m:Int) * 1).toNat = i + m:=by omega
  rw [this]
 rw [e]
 have:=pick_run xs i k
 rw [List.filterMap_map] at this;have e2:((λx=>xs[x]?) ∘ λx=>i + x) = λm=>xs[i + m]?:=rfl;rw [e2] at this;rw [this]
theorem getItem_tuple_cut {t sl:Addr} {items:Array Value} {vl vu:Value} {lo hi:Option Int} {Q:Value->Shared->Prop} (ht:IsTup s.heap t items) (hs:s.heap.IsSliceOf sl vl vu .none) (pl:IsPart vl lo) (pu:IsPart vu hi)
  (hw:¬ (sIx items.size 0 lo = 0/\sIx items.size items.size hi = items.size))
  (h:Q (.ref s.heap.objs.size) { s with heap:=s.heap.push { cls:=.type "tuple",data:=.seq ((items.toList.drop (sIx items.size 0 lo)).take (sIx items.size items.size hi - sIx items.size 0 lo)).toArray } })
  (hsz:items.size <= sizeLine):wpAny (model prog w) A (getItem (.ref t) (.ref sl)) Q E s:=by
 have htake:sizeOk (.seq ((items.toList.drop (sIx items.size 0 lo)).take (sIx items.size items.size hi - sIx items.size 0 lo)).toArray):=by
  show ((items.toList.drop (sIx items.size 0 lo)).take (sIx items.size items.size hi - sIx items.size 0 lo)).toArray.size <= sizeLine;rw [YAl,YCs,List.length_drop,YBa];omega
 have hj:sIx items.size items.size hi <= items.size:=zkp _ _ (YAm _) hi;obtain ⟨os,hos,hcs,hds⟩:=id hs;have hTs:s.TypeIs (.ref sl) "slice" := ⟨os,hos,hcs⟩;unfold getItem
 try with_reducible refine YA3 ?_
 first | refine YAa (YAe ?_) | skip
 refine YAa (wpAny_sequenceKey ht.typeIs (by decide) ?_);refine YAa (YAE (name:=Str.ofString "__getitem__") ht.typeIs YAJ
  (YAX YAJ ht.typeIs entry_tuple_getitem ?_ (args_tuple_getitem _ _)))
 show wpAny _ _ (Builtin.Tuple.tupleItemsOf (.ref t) >>= _) _ _ s;refine YAa (tupleItemsOf_ ht ?_);refine YAa (YCk hTs ?_);rw [if_pos (by decide)];refine YAa (zdw hs pl pu ?_);have hno:¬ ((((sIx items.size 0 lo:Nat):Int) == 0 && (1:Int) == 1 && (sIx items.size items.size hi - sIx items.size 0 lo) == items.size) = true):=by
  intro q;rw [YAA,YAA] at q;have q1:((sIx items.size 0 lo:Nat):Int) = 0:=eq_of_beq q.1.1;have q2:sIx items.size items.size hi - sIx items.size 0 lo = items.size:=eq_of_beq q.2;exact hw ⟨by omega,by omega⟩
 show wpAny _ _ (if (((sIx items.size 0 lo:Nat):Int) == 0 && (1:Int) == 1 && (sIx items.size items.size hi - sIx items.size 0 lo) == items.size) = true then _ else _) _ _ s;rw [if_neg hno,zn0];first
  | exact YAa (m:=Builtin.Tuple.tupleExact _) (YAN (YAe ⟨_,rfl,YAe h⟩) htake)
  | exact YAa (m:=Builtin.Tuple.tupleExact _) (YAN (YAa (YAe (YAe ⟨_,rfl,YAe h⟩))) htake)
  | exact YAa (YAa (m:=Builtin.Tuple.tupleExact _) (YAN (YAe (YAe ⟨_,rfl,YAe h⟩)) htake))
  | exact YAa (YAa (m:=Builtin.Tuple.tupleExact _) (YAN (YAe ⟨_,rfl,YAe h⟩) htake))
end
end HT
namespace L2
open PySem PySem.Spec PyProof.Rows
abbrev TO:=St->Hp->(Option Int->Hp->Prop)->Prop
def PO (X:Cx) (e:Option Expr) (t:TO):Prop:=
 ∀ (pins:List (Addr × Obj)) (s:Shared) (σ:St) (H:Hp) (Q:Option Int->Hp->Prop),Inv X pins σ H s->t σ H Q ->
  wpAny (model X.prog X.w) X.A (evalPart e X.env) (λu s'=>∃ o H',Inv X pins σ H' s'/\IsPart u o/\Q o H') X.xe s
def zqf:TO:=λ_ H Q=>Q none H
def zto (t:TE):TO:=λσ H Q=>t σ H λx H1=>∃ i,x = .int i/\Q (some i) H1
section
variable {X:Cx} {e:Expr} {te:TE} {lo hi:Option Expr} {tl th:TO} {pos p2:Pos}
theorem zlY:PO X none zqf:=by
 intro pins s σ H Q I h;rw [evalPart_none];exact YAe ⟨none,H,I,.none,h⟩
theorem zni (h:PE X e te):PO X (some e) (zto te):=by
 intro pins s σ H Q I hw;rw [evalPart_some];refine thn (h pins s σ H _ I hw) λu s1 ⟨x,H1,I1,r1,q1⟩=>?_;obtain ⟨i,rfl,q⟩:=q1;obtain ⟨t,rfl⟩:=r1;exact ⟨some i,H1,I1,.int i t,q⟩
def SlR (X:Cx) (r:V->Option Int->Option Int->Hp->VK->Prop):Prop:=
 ∀ (pins:List (Addr × Obj)) (s:Shared) (σ:St) (H:Hp) (x:V) (v vl vu:Value) (lo hi:Option Int) (sl:Addr) (Q:VK),Inv X pins σ H s->RelV x v->s.heap.IsSliceOf sl vl vu .none->IsPart vl lo->IsPart vu hi->r x lo hi H Q ->
  ∃ T id,typeLookup (.type T) "__getitem__" = pure (some (.builtin id))/\s.TypeIs v T/\wpAny (model X.prog X.w) X.A (getItem v (.ref sl)) (EP X pins σ Q) X.xe s
theorem SlR.or {r r':V->Option Int->Option Int->Hp->VK->Prop} (h:SlR X r) (h':SlR X r'):SlR X (λx lo hi H Q=>r x lo hi H Q\/r' x lo hi H Q):=by
 intro pins s σ H x v vl vu lo hi sl Q I rx hs pl pu q;rcases q with q | q
 ·exact h pins s σ H x v vl vu lo hi sl Q I rx hs pl pu q
 ·exact h' pins s σ H x v vl vu lo hi sl Q I rx hs pl pu q
def tSl (r:V->Option Int->Option Int->Hp->VK->Prop) (te:TE) (tl th:TO):TE:=λσ H Q=>te σ H λx H1=>tl σ H1 λl H2=>th σ H2 λu H3=>r x l u H3 Q
theorem zkl (hr:SlR X r) (he:PE X e te) (hl:PO X lo tl) (hu:PO X hi th):PE X (.Subscript e (.Slice lo hi none p2) pos) (tSl r te tl th):=by
 intro pins s σ H Q I h;refine Subscript_ (thn (he pins s σ H _ I h) λv s1 ⟨x,H1,I1,r1,q1⟩=>?_);refine wpAny_Slice (thn (hl pins s1 σ H1 _ I1 q1) λvl s2 ⟨l,H2,I2,pl,q2⟩=>thn (hu pins s2 σ H2 _ I2 q2) λvu s3 ⟨u,H3,I3,pu,q3⟩=>?_);rw [evalPart_none];refine YAe ?_;have I4:Inv X pins σ H3 { s3 with heap:=s3.heap.push { cls:=.type "slice",data:=.fields #[vl,vu,.none] } }:=I3.kept (t':=s3.toks) λb ob q=>YAb _ q;obtain ⟨T,id,hT,ht,hg⟩:=hr pins { s3 with heap:=s3.heap.push { cls:=.type "slice",data:=.fields #[vl,vu,.none] } } σ H3 x v vl vu l u s3.heap.objs.size Q I4 r1 (Heap.IsSliceOf.new ..) pl pu q3;show wpAny (model X.prog X.w) X.A (subscriptTail e (.Slice lo hi none p2) v (.ref s3.heap.objs.size)) (EP X pins σ Q) X.xe { s3 with heap:=s3.heap.push { cls:=.type "slice",data:=.fields #[vl,vu,.none] } };exact tail_any (ops:=[.ref s3.heap.objs.size,v]) ht hT hg (by with_unfolding_all rfl)
def cutV (xs:List V) (lo hi:Option Int):List V:=(xs.drop (HT.sIx xs.length 0 lo)).take (HT.sIx xs.length xs.length hi - HT.sIx xs.length 0 lo)
theorem zgj (xs:List V) (lo hi:Option Int):(cutV xs lo hi).length <= xs.length:=by
 unfold cutV;rw [YCs,List.length_drop];omega
def rSlT (K:PySem.W.Frag):V->Option Int->Option Int->Hp->VK->Prop:=λx lo hi H Q=>∃ a xs,x = .ref a/\SqT K H a xs /\
 ¬ (HT.sIx xs.length 0 lo = 0/\HT.sIx xs.length xs.length hi = xs.length)/\∀ p,H p = none->Q (.ref p) (upd H p (.tup (cutV xs lo hi)))
theorem zrQ:SlR X (rSlT X.K):=by
 intro pins s σ H x v vl vu lo hi sl Q I rx hs pl pu h;obtain ⟨a,xs,rfl,hx,hw,q⟩:=h;cases rx;obtain ⟨its,r,ht,hz⟩:=I.tuple hx;have hlen:its.toArray.size = xs.length:=by rw [YAl];exact r.length.symm
 refine ⟨"tuple",_,YAJ.lookup,ht.typeIs,?_⟩;refine HT.getItem_tuple_cut ht hs pl pu (by rw [hlen];exact hw) ?_ (by rw [hlen];exact hz);rw [hlen];refine ⟨.ref s.heap.objs.size,_,I.laid (t':=s.toks) (o:=.tup (cutV xs lo hi)) (λb ob q=>YAb _ q) (YAm _) ?_,rfl,q _ (I.hok.fresh (YAm _))⟩;exact ⟨YAB (zgj xs lo hi) hz,_,(r.drop (HT.sIx xs.length 0 lo)).take (HT.sIx xs.length xs.length hi - HT.sIx xs.length 0 lo),IsTup.new _ _⟩
def ztv (K:PySem.W.Frag):R2:=λx y H Q=>∃ a b xs ys,x = .ref a/\y = .ref b/\SqT K H a xs/\SqT K H b ys/\xs ≠ []/\xs.length + ys.length <= sizeLine /\
 (ys = []->Q (.ref a) H)/\(ys ≠ []->∀ p,H p = none->Q (.ref p) (upd H p (.tup (xs ++ ys))))
theorem Vals.nil_iff  (r:Vals xs us):us = [] ↔ xs = []:=by
 cases r with
 | nil=>simp
 | cons _ _=>simp
theorem zqQ:OpR X (binaryOp .Add) (ztv X.K):=by
 intro pins s σ H x y v u Q I rx ry h;obtain ⟨a,b,xs,ys,rfl,rfl,ha,hb,hx,hz,q1,q2⟩:=h;cases rx;cases ry;obtain ⟨its,r1,p1,_⟩:=I.tuple ha;obtain ⟨its2,r2,p2,_⟩:=I.tuple hb;refine HT.cat_tup p1 p2 (λz=>hx (r1.nil_iff.mp z)) (λz=>⟨.ref a,H,I,rfl,q1 (r2.nil_iff.mp z)⟩) (λz=>?_) (by rw [<- r1.length,<- r2.length];exact hz);refine ⟨.ref s.heap.objs.size,_,I.laid (t':=s.toks) (o:=.tup (xs ++ ys)) (λb ob q=>YAb _ q) (YAm _) ?_,rfl,q2 (λw=>z (r2.nil_iff.mpr w)) _ (I.hok.fresh (YAm _))⟩;exact ⟨by rw [YAp];exact hz,_,r1.append r2,IsTup.new _ _⟩
end
def ixN (n:Nat) (i:Int):Option Nat:=if 0 <= i then (if i < n then some i.toNat else none) else if -(n:Int) <= i then some (i + n).toNat else none
def atI {α:Type} (xs:List α) (i:Int):Option α:=(ixN xs.length i).bind λj=>xs[j]?
theorem zmz  (h:ixN n i = some j):seqIndex? i n = some j/\j < n/\-(n:Int) <= i/\i < n:=by
 unfold ixN at h;by_cases h0:0 <= i
 ·rw [if_pos h0] at h;by_cases h1:i < n
  ·rw [if_pos h1] at h;have e:i.toNat = j:=Option.some.inj h;exact ⟨by rw [seqIndex_of h0 h1,e],by omega,by omega,h1⟩
  ·rw [if_neg h1] at h;cases h
 ·rw [if_neg h0] at h;by_cases h1:-(n:Int) <= i
  ·rw [if_pos h1] at h;have e:(i + n).toNat = j:=Option.some.inj h;exact ⟨by rw [seqIndex_neg (by omega) h1,e],by omega,h1,by omega⟩
  ·rw [if_neg h1] at h;cases h
theorem zjZ {α:Type} {xs:List α} {i:Int} {v:α} (h:atI xs i = some v):∃ j,seqIndex? i xs.length = some j/\xs[j]? = some v/\j < xs.length/\-(xs.length:Int) <= i/\i < xs.length:=by
 unfold atI at h;cases e:ixN xs.length i with
 | none=>rw [e] at h;cases h
 | some j=>
  rw [e] at h;obtain ⟨h1,h2,h3,h4⟩:=zmz e;exact ⟨j,h1,h,h2,h3,h4⟩
theorem zar {α:Type} {xs:List α} {j:Nat} {v:α} (h:xs[j]? = some v):atI xs (j:Int) = some v:=by
 have hj:j < xs.length:=(YAd.mp h).1;have e:ixN xs.length (j:Int) = some j:=by
  unfold ixN;rw [if_pos (by omega),if_pos (by omega)];simp
 unfold atI;rw [e];exact h
def zjq (b:Expr):Prop:=∀ o i,subscripted b false o i = operate [o,i] (getItem o i)
def IxR (X:Cx) (r:R2):Prop:=
 ∀ (value slice:Expr) (pins:List (Addr × Obj)) (s:Shared) (σ:St) (H:Hp) (x y:V) (v u:Value) (Q:VK),Inv X pins σ H s->RelV x v->RelV y u->r x y H Q ->
  subscripted slice false v u = operate [v,u] (getItem v u)->wpAny (model X.prog X.w) X.A (subscriptTail value slice v u) (EP X pins σ Q) X.xe s
def MtR (X:Cx) (id:String) (r:V->List V->Hp->VK->Prop):Prop:=
 ∀ (pins:List (Addr × Obj)) (s:Shared) (σ:St) (H:Hp) (x:V) (xs:List V) (v:Value) (us:List Value) (Q:VK),Inv X pins σ H s->RelV x v->Vals xs us->r x xs H Q ->
  wpAny (model X.prog X.w) X.A (call (.builtin id) (v :: us)) (EP X pins σ Q) X.xe s
section
variable {X:Cx} {a b:Expr} {ta tb:TE} {pos:Pos}
theorem IxR.or {r r':R2} (h:IxR X r) (h':IxR X r'):IxR X (λx y H Q=>r x y H Q\/r' x y H Q):=by
 intro value slice pins s σ H x y v u Q I rx ry q hs;rcases q with q | q
 ·exact h value slice pins s σ H x y v u Q I rx ry q hs
 ·exact h' value slice pins s σ H x y v u Q I rx ry q hs
theorem zf1 (hr:IxR X r) (ha:PE X a ta) (hb:PE X b tb) (hs:zjq b):PE X (.Subscript a b pos) (tOp r ta tb):=by
 intro pins s σ H Q I h;exact Subscript_ (binT ha hb I h λv u s2 x y H2 I2 rx ry q=>hr a b pins s2 σ H2 x y v u Q I2 rx ry q (hs _ _))
def rIxL (K:PySem.W.Frag):R2:=λx y H Q=>∃ p xs i v,x = .ref p/\y = .int i/\SqL K H p xs/\atI xs i = some v/\Q v H
def rIxT (K:PySem.W.Frag):R2:=λx y H Q=>∃ p xs i v,x = .ref p/\y = .int i/\SqT K H p xs/\atI xs i = some v/\Q v H
def rIxS:R2:=λx y H Q=>∃ z i c,x = .str z/\y = .int i/\z.length <= sizeLine/\atI z.cps.toList i = some c/\Q (.str ⟨#[c]⟩) H
theorem ix_list:IxR X (rIxL X.K):=by
 intro value slice pins s σ H x y v u Q I rx ry h hs;obtain ⟨p,xs,i,z,rfl,rfl,hq,he,q⟩:=h;cases rx;obtain ⟨t,rfl⟩:=ry;obtain ⟨its,r,pl,hz⟩:=I.list hq;obtain ⟨j,h1,h2,h3,h4,h5⟩:=zjZ he;obtain ⟨w,ew,rw'⟩:=r.get h2;have hl:=r.length;have hn:=zfo;have fin:EP X pins σ Q w s:=⟨z,H,I,rw',q⟩;by_cases h0:0 <= i
 ·have hj:i.toNat = j:=by
   rw [seqIndex_of h0 h5] at h1;exact Option.some.inj h1
  exact item_listR pl.isList h0 (by omega) (by rw [hj];simpa using ew) fin hs
 ·have hj:(i + (its.toArray.size:Int)).toNat = j:=by
   rw [seqIndex_neg (by omega) h4] at h1;rw [YAl,<- hl];exact Option.some.inj h1
  exact subscriptTail_builtinR (x:=w) pl.isList.typeIs slot_list_getitem.lookup
   (wpAny_getItem_list_neg (Q:=λr s'=>r = w/\EP X pins σ Q r s') pl.isList (by omega) (by rw [YAl] <;> omega) (by omega) (by rw [hj];simpa using ew) ⟨rfl,fin⟩) hs
theorem ix_tup:IxR X (rIxT X.K):=by
 intro value slice pins s σ H x y v u Q I rx ry h hs;obtain ⟨p,xs,i,z,rfl,rfl,hq,he,q⟩:=h;cases rx;obtain ⟨t,rfl⟩:=ry;obtain ⟨its,r,pl,hz⟩:=I.tuple hq;obtain ⟨j,h1,h2,h3,h4,h5⟩:=zjZ he;obtain ⟨w,ew,rw'⟩:=r.get h2;have hl:=r.length;have hn:=zfo;have fin:EP X pins σ Q w s:=⟨z,H,I,rw',q⟩;exact subscriptTail_builtinR (x:=w) pl.typeIs slot_tuple_getitem.lookup
  (getItem_tuple (j:=j) (Q:=λr s'=>r = w/\EP X pins σ Q r s') pl (by omega) (by omega) (by rw [YAl,<- hl];exact h1) (by simpa using ew) ⟨rfl,fin⟩) hs
theorem zsz:IxR X rIxS:=by
 intro value slice pins s σ H x y v u Q I rx ry h hs;obtain ⟨z,i,c,rfl,rfl,hz,he,q⟩:=h;obtain ⟨t,rfl⟩:=rx;obtain ⟨t',rfl⟩:=ry;obtain ⟨j,h1,h2,h3,h4,h5⟩:=zjZ he;have hl:z.cps.toList.length = z.length:=by simp [Str.length]
 rw [hl] at h1 h4 h5;have hn:=zfo;exact tail_any (typeIs_str s z t) slot_str_getitem.lookup (getItem_str (c:=c) (by
  have e1:decide (i < -(2 ^ 63:Int)) = false:=YAq (by omega);have e2:decide (i ≥ 2 ^ 63) = false:=YAq (by omega);rw [e1,e2,Bool.or_false]) (by rw [h1];simpa using h2) ⟨.str ⟨#[c]⟩,H,I.tok _,⟨_,rfl⟩,q⟩) hs
def rIx (K:PySem.W.Frag):R2:=λx y H Q=>rIxL K x y H Q\/rIxT K x y H Q\/rIxS x y H Q
theorem zpx:IxR X (rIx X.K):=ix_list.or (ix_tup.or zsz)
theorem zln (its:List Value) (n j:Nat) (u:Value):Obj.mapSeq (·.setIfInBounds j u) { cls:=.type "list",data:=.seq its.toArray n } = { cls:=.type "list",data:=.seq (its.set j u).toArray n }:=by
 simp [Obj.mapSeq]
theorem Inv.lst {pins:List (Addr × Obj)} {σ:St} {H:Hp} {s:Shared} {p:Addr} {xs:List V} (I:Inv X pins σ H s) (h:H p = some (.lst xs)) :
  ∃ (its:List Value) (n:Nat),Vals xs its/\s.heap.get? p = some { cls:=.type "list",data:=.seq its.toArray n }/\xs.length <= sizeLine:=by
 obtain ⟨z,its,n,r,e⟩:=I.hok p _ h;exact ⟨its,n,r,e,z⟩
theorem Inv.lstUpd {pins:List (Addr × Obj)} {σ:St} {H:Hp} {s:Shared} {p:Addr} {xs ys:List V} {its its':List Value} {n n':Nat} {f:Obj->Obj} (I:Inv X pins σ H s) (h:H p = some (.lst xs))
  (ho:s.heap.get? p = some { cls:=.type "list",data:=.seq its.toArray n }) (hf:f { cls:=.type "list",data:=.seq its.toArray n } = { cls:=.type "list",data:=.seq its'.toArray n' }) (r:Vals ys its') (hz:ys.length <= sizeLine) (t:Nat) :
  Inv X pins σ (upd H p (.lst ys)) { s with heap:=s.heap.update p f,toks:=t }:=by
 have e:(s.heap.update p f).get? p = some { cls:=.type "list",data:=.seq its'.toArray n' }:=by
  rw [YBf f ho (by rw [hf] <;> rfl),hf]
 refine I.write (x:=p) (e:=p) (by rw [h];trivial) (.inl rfl) (λb u hb q=>(YBn _ _ (YAO hb)).trans q) ⟨_,e⟩ ?_;exact ⟨hz,its',n',r,e⟩
def zs2:V->V->V->Hp->(Hp->Prop)->Prop:=λo i v H Q=>∃ p xs k j,o = .ref p/\i = .int k/\H p = some (.lst xs)/\ixN xs.length k = some j/\Q (upd H p (.lst (xs.set j v)))
theorem zeG:PSet X zs2:=by
 intro pins s σ H o i v ov iv u Q I ro ri rv h;obtain ⟨p,xs,k,j,rfl,rfl,hp,hj,q⟩:=h;cases ro;obtain ⟨t,rfl⟩:=ri;obtain ⟨its,n,r,ho,hz⟩:=I.lst hp;obtain ⟨h1,h2,h3,h4⟩:=zmz hj;have hl:=r.length;have hn:=zfo;have I':Inv X pins σ (upd H p (.lst (xs.set j v))) { s with heap:=s.heap.update p (Obj.mapSeq (·.setIfInBounds j u)) }:=
  I.lstUpd hp ho (zln its n j u) (r.set rv j) (by rw [YBP];exact hz) s.toks
 by_cases h0:0 <= k
 ·have hk:k.toNat = j:=by
   rw [seqIndex_of h0 h4] at h1;exact Option.some.inj h1
  exact PySem.W.ki_setAt ho h0 (by omega) (by rw [YAl,<- hl];exact h4) (by rw [hk];exact ⟨_,I',q⟩)
 ·have hk:(k + (its.toArray.size:Int)).toNat = j:=by
   rw [seqIndex_neg (by omega) h3] at h1;rw [YAl,<- hl];exact Option.some.inj h1
  exact PySem.W.ki_setBack ho (by omega) (by rw [YAl,<- hl];exact h3) (by omega) (by rw [hk];exact ⟨_,I',q⟩)
theorem zi6 (lo hi:Option Int) (n:Nat):(sliceBounds lo hi none n).1 = ((HT.sIx n 0 lo:Nat):Int)/\(sliceBounds lo hi none n).2.1 = ((HT.sIx n n hi:Nat):Int)/\(sliceBounds lo hi none n).2.2 = 1:=by
 refine ⟨?_,?_,rfl⟩
 ·cases lo with
  | none=>simp [sliceBounds,HT.sIx]
  | some i=>
   simp only [sliceBounds,HT.sIx,Option.getD_none,show (1:Int) > 0 by decide,YBU];by_cases h:i < 0
   ·simp only [h,YBU] <;> omega
   ·simp only [h,YBE] <;> omega
 ·cases hi with
  | none=>simp [sliceBounds,HT.sIx]
  | some i=>
   simp only [sliceBounds,HT.sIx,Option.getD_none,show (1:Int) > 0 by decide,YBU];by_cases h:i < 0
   ·simp only [h,YBU] <;> omega
   ·simp only [h,YBE] <;> omega
theorem zhy (its:List Value) (lo hi:Option Int):slicePick its.toArray lo hi none = ((its.drop (HT.sIx its.length 0 lo)).take (HT.sIx its.length its.length hi - HT.sIx its.length 0 lo)).toArray:=by
 obtain ⟨h1,h2,h3⟩:=zi6 lo hi its.toArray.size;unfold slicePick;rw [h1,h2,h3];simp only [sliceRange_one,pick_run,YAl] <;> rfl
def rSlL (K:PySem.W.Frag):V->Option Int->Option Int->Hp->VK->Prop:=λx lo hi H Q=>∃ a xs,x = .ref a/\SqL K H a xs/\∀ p,H p = none->Q (.ref p) (upd H p (.lst (cutV xs lo hi)))
theorem sl_list:SlR X (rSlL X.K):=by
 intro pins s σ H x v vl vu lo hi sl Q I rx hs pl pu h;obtain ⟨a,xs,rfl,hx,q⟩:=h;cases rx;obtain ⟨its,r,ht,hz⟩:=I.list hx;have hlen:=r.length;refine ⟨"list",_,slot_list_getitem.lookup,ht.isList.typeIs,?_⟩;refine wpAny_getItem_list_slice ht.isList hs pl pu .none (by simp) ?_ (by rw [YAl] <;> omega);rw [zhy,<- hlen];refine ⟨.ref s.heap.objs.size,_,I.laid (t':=s.toks) (o:=.lst (cutV xs lo hi)) (λb ob q=>YAb _ q) (YAm _) ?_,rfl,q _ (I.hok.fresh (YAm _))⟩;exact ⟨YAB (zgj xs lo hi) hz,_,0,(r.drop (HT.sIx xs.length 0 lo)).take (HT.sIx xs.length xs.length hi - HT.sIx xs.length 0 lo),YAn _ rfl⟩
theorem zhT:OpR X (compareOp .NotIn) (λx y H Q=>∃ i j,x = .str i/\y = .str j/\Q (.bl (!(!(Builtin.Str.occurrences j i 0 j.length 1).isEmpty))) H):=by
 intro pins s σ H x y v u Q I rx ry h;obtain ⟨i,j,rfl,rfl,q⟩:=h;obtain ⟨t,rfl⟩:=rx;obtain ⟨t',rfl⟩:=ry;exact notIn_str ⟨.bl _,H,I,rfl,q⟩
theorem call_len_seq:CallR X (.builtin "len") (λxs H Q=>∃ p ys,xs = [.ref p]/\(SqL X.K H p ys\/SqT X.K H p ys)/\Q (.int ys.length) H):=by
 intro pins s σ H xs us Q I r h;obtain ⟨p,ys,rfl,hq,q⟩:=h;obtain ⟨u,rfl,rx⟩:=zft r;cases rx;have hn:=zfo;rcases hq with hq | hq
 ·obtain ⟨its,r',pl,hz⟩:=I.list hq;have hlen:=r'.length;exact Calls.call_len_list pl.isList (by simp only [YAl] <;> omega) ⟨.int ys.length,H,I.tok _,⟨s.toks + 1,by rw [YAl,hlen]⟩,q⟩
 ·obtain ⟨its,r',pl,hz⟩:=I.tuple hq;have hlen:=r'.length;exact len_tuple pl (by simp only [YAl] <;> omega) ⟨.int ys.length,H,I.tok _,⟨s.toks + 1,by rw [YAl,hlen]⟩,q⟩
theorem ziC:CallR X (.builtin "len") (λxs H Q=>∃ z,xs = [.str z]/\z.length <= sizeLine/\Q (.int z.length) H):=by
 intro pins s σ H xs us Q I r h;obtain ⟨z,rfl,hz,q⟩:=h;obtain ⟨u,rfl,t,rfl⟩:=zft r;have hn:=zfo;exact len_str (by omega) ⟨.int z.length,H,I.tok _,⟨_,rfl⟩,q⟩
theorem CallR.or {f:Value} {r r':List V->Hp->VK->Prop} (h:CallR X f r) (h':CallR X f r'):CallR X f (λxs H Q=>r xs H Q\/r' xs H Q):=by
 intro pins s σ H xs us Q I rs q;rcases q with q | q
 ·exact h pins s σ H xs us Q I rs q
 ·exact h' pins s σ H xs us Q I rs q
theorem zdI:CallR X (.type "list") (λxs H Q=>∃ p ys,xs = [.ref p]/\(SqL X.K H p ys\/SqT X.K H p ys)/\∀ l,H l = none->Q (.ref l) (upd H l (.lst ys))):=by
 intro pins s σ H xs us Q I r h;obtain ⟨p,ys,rfl,hq,q⟩:=h;obtain ⟨u,rfl,rx⟩:=zft r;cases rx;have fin:∀ (its:List Value),Vals ys its->ys.length <= sizeLine->∀ (h':Heap) (c':Nat),(∀ b o',s.heap.get? b = some o'->h'.get? b = some o') ->
   h'.get? s.heap.objs.size = some { cls:=.type "list",dict:=none,data:=.seq its.toArray c',slots:=#[] }->EP X pins σ Q (.ref s.heap.objs.size) { s with heap:=h' }:=λits r' hz h' c' kp e=>
  ⟨.ref s.heap.objs.size,_,I.laid (t':=s.toks) kp (YAm _) (show ObjOk X.prog X.w _ h' _ (.lst ys) from ⟨hz,its,c',r',e⟩),rfl,q _ (I.hok.fresh (YAm _))⟩
 rcases hq with hq | hq
 ·obtain ⟨its,r',pl,hz⟩:=I.list hq;have hlen:=r'.length;obtain ⟨o,ho,hc,n,hd⟩:=pl.isList;exact call_list_seq p (.inl rfl) ho hc hd (λh' c' kp e=>fin its r' hz h' c' kp e) (by simp only [YAl] <;> omega)
 ·obtain ⟨its,r',pl,hz⟩:=I.tuple hq;have hlen:=r'.length;obtain ⟨o,ho,hc,n,hd⟩:=pl;exact call_list_seq p (.inr rfl) ho hc hd (λh' c' kp e=>fin its r' hz h' c' kp e) (by simp only [YAl] <;> omega)
theorem zhr:CallR X (.type "tuple") (λxs H Q=>∃ p ys,xs = [.ref p]/\((SqL X.K H p ys/\∀ l,H l = none->Q (.ref l) (upd H l (.tup ys)))\/(SqT X.K H p ys/\Q (.ref p) H))):=by
 intro pins s σ H xs us Q I r h;obtain ⟨p,ys,rfl,h⟩:=h;obtain ⟨u,rfl,rx⟩:=zft r;cases rx;rcases h with ⟨hq,q⟩ | ⟨hq,q⟩
 ·obtain ⟨its,r',pl,hz⟩:=I.list hq;have hlen:=r'.length;refine call_tuple_list pl.isList (λh' kp=>?_) (by simp only [YAl] <;> omega);have I1:Inv X pins σ H { s with heap:=h' }:=I.kept (t':=s.toks) kp;have I2:Inv X pins σ (upd H h'.objs.size (.tup ys)) { s with heap:=h'.push { cls:=.type "tuple",data:=.seq its.toArray } }:=
   I1.laid (t':=s.toks) (λb o e=>YAb _ e) (YAm _) (show ObjOk X.prog X.w _ _ _ (.tup ys) from ⟨hz,its,r',IsTup.new _ _⟩)
  exact ⟨.ref h'.objs.size,_,I2,rfl,q _ (I1.hok.fresh (YAm _))⟩
 ·obtain ⟨its,r',pl,hz⟩:=I.tuple hq;exact call_tuple_same pl ⟨.ref p,H,I,rfl,q⟩
def tyV (K:PySem.W.Frag) (T:String) (x:V) (H:Hp):Prop:=match x with
 | .str _=>T = "str"
 | .int _=>T = "int"
 | .ref p=>(T = "list" /\ ∃ xs,SqL K H p xs)\/(T = "tuple" /\ ∃ o,K.lookup p = some o/\o.cls = .type "tuple" /\ o.dict = none) \/
   (T = "dict" /\ ((∃ kvs,H p = some (.dK kvs))\/∃ kvs,H p = some (.dT kvs)))\/(T = "set" /\ ∃ S n,H p = some (.set S n))
 | _=>False
theorem zoT    (I:Inv X pins σ H s) (r:RelV x v) (ty:tyV X.K T x H) :
  s.TypeIs v T/\∀ a,v = .ref a->∃ ob,s.heap.get? a = some ob/\ob.dict = none:=by
 cases x with
 | str z=>
  obtain ⟨t,rfl⟩:=r;cases (show T = "str" from ty);exact ⟨typeIs_str s z t,λ_ e=>nomatch e⟩
 | int i=>
  obtain ⟨t,rfl⟩:=r;cases (show T = "int" from ty);exact ⟨typeIs_int s i t,λ_ e=>nomatch e⟩
 | ref p=>
  cases r;rcases ty with ⟨rfl,xs,hq⟩ | ⟨rfl,o,hk,hc,hd⟩ | ⟨rfl,hk⟩ | ⟨rfl,S,n,hk⟩
  ·obtain ⟨its,_,pl,_⟩:=I.list hq;refine ⟨pl.isList.typeIs,λa e=>?_⟩;cases e;obtain ⟨o,n,e,c,hd,_⟩:=pl;exact ⟨o,e,hd⟩
  ·refine ⟨⟨o,I.kIn p o hk,hc⟩,λa e=>?_⟩;cases e;exact ⟨o,I.kIn _ o hk,hd⟩
  ·have z:∃ o,s.heap.get? p = some o/\o.ExactDict:=by
    rcases hk with ⟨kvs,hk⟩ | ⟨kvs,hk⟩
    ·obtain ⟨_,_,_,_,o,_,_,e,ex,_⟩:=I.hok p _ hk;exact ⟨o,e,ex⟩
    ·obtain ⟨_,_,_,_,o,_,_,e,ex,_⟩:=I.hok p _ hk;exact ⟨o,e,ex⟩
   obtain ⟨o,e,ex⟩:=z;refine ⟨⟨o,e,ex.1⟩,λa e2=>?_⟩;cases e2;exact ⟨o,e,ex.2.1⟩
  ·obtain ⟨o,_,_,_,e,ex,_⟩:=I.hok p _ hk;refine ⟨⟨o,e,ex.1⟩,λa e2=>?_⟩;cases e2;exact ⟨o,e,ex.2.1⟩
 | _=>exact False.elim ty
def tBM0 (K:PySem.W.Frag) (T:String) (r:V->List V->Hp->VK->Prop) (to:TE):TE:=λσ H Q=>to σ H λx H1=>tyV K T x H1/\r x [] H1 Q
def tBM (K:PySem.W.Frag) (T:String) (r:V->List V->Hp->VK->Prop) (to:TE) (t:TA):TE:=λσ H Q=>to σ H λx H1=>tyV K T x H1/\t σ H1 λxs H2=>r x xs H2 Q
variable {o e:Expr} {es:List Expr} {to:TE} {t:TA} {name:Str} {apos cpos:Pos} {T id:String} {r:V->List V->Hp->VK->Prop}
theorem zpt (pa:PlainAttrs T) (slot:Slot T name id) (hty:typeOf (.builtin id) = pure (.type "method_descriptor")) (hm:MtR X id r) (ho:PE X o to)
  (hbase:attributeBase o name X.env (eval o X.env) = eval o X.env:=by rfl) (hline:(apos.endLine == cpos.line) = true:=by rfl):PE X (.Call (.Attribute o name apos) [] [] cpos) (tBM0 X.K T r to):=by
 intro pins s σ H Q I h;refine wpAny_Call_method0_late hbase hline (thn (ho pins s σ H _ I h) λv s1 ⟨x,H1,I1,r1,ty,q1⟩=>?_);obtain ⟨h1,h2⟩:=zoT I1 r1 ty;exact ⟨T,id,pa,slot,hty,h1,h2,Calls.callWith_builtin rfl (PySem.evalArgs_none (hm pins s1 σ H1 x [] v [] Q I1 r1 .nil q1))⟩
theorem zmL (pa:PlainAttrs T) (slot:Slot T name id) (hty:typeOf (.builtin id) = pure (.type "method_descriptor")) (hm:MtR X id r) (ho:PE X o to) (ha:PA X (e :: es) t)
  (hbase:attributeBase o name X.env (eval o X.env) = eval o X.env:=by rfl)
  (hfew:((backTo cpos (starEach (e :: es) X.env)).all (λx=>!x.1) && (backToKw cpos (keywordEach [] X.env)).all (λx=>x.1.isSome)
   && decide ((e :: es).length + ([]:List Keyword).length + (if ([]:List Keyword).isEmpty then 0 else 1) < 30)) = true:=by rfl)
  (hline:(apos.endLine == cpos.line) = true:=by rfl) (hs:starEach (e :: es) X.env = (false,eval e X.env) :: starEach es X.env:=by rfl) (hplain:(backTo cpos (starEach es X.env)).any (·.1) = false:=by rfl) :
  PE X (.Call (.Attribute o name apos) (e :: es) [] cpos) (tBM X.K T r to t):=by
 intro pins s σ H Q I h;refine wpAny_Call_method_late hbase hfew hline rfl (thn (ho pins s σ H _ I h) λv s1 ⟨x,H1,I1,r1,ty,q1⟩=>?_);obtain ⟨h1,h2⟩:=zoT I1 r1 ty;refine ⟨T,id,pa,slot,hty,h1,h2,?_⟩;have hA:=ha cpos pins s1 σ H1 _ I1 q1;rw [hs] at hA ⊢;refine Calls.callWith_builtin (by show (false || (backTo cpos (starEach es X.env)).any (·.1)) = false;rw [hplain] <;> rfl) (Calls.evalArgs_plain ?_);exact thn hA λus s2 ⟨vs,H2,I2,r2,q2⟩=>hm pins s2 σ H2 x vs v us Q I2 r1 r2 q2
end
def MtM (X:Cx) (id:String) (r:V->List V->Hp->VK->Prop):Prop:=
 ∀ (pins:List (Addr × Obj)) (s:Shared) (σ:St) (H:Hp) (x:V) (xs:List V) (v:Value) (us:List Value) (Q:VK),Inv X pins σ H s->RelV x v->Vals xs us->r x xs H Q ->
  wpAny (model X.prog X.w) X.A (call (.builtin id) (v :: us)) (EP X pins σ Q) X.xe s
theorem Vals.one:∀ {x:V} {us:List Value},Vals [x] us->∃ u,us = [u]/\RelV x u
 | _,_,.cons r .nil=>⟨_,rfl,r⟩
theorem Vals.zero:∀ {us:List Value},Vals [] us->us = []
 | _,.nil=>rfl
theorem Vals.dropLast {xs:List V} {us:List Value} (h:Vals xs us):Vals xs.dropLast us.dropLast:=by
 induction h with
 | nil=>exact .nil
 | cons r t ih=>
  cases t with
  | nil=>exact .nil
  | cons q t'=>exact .cons r ih
theorem Vals.rep  (h:Vals xs us):∀ k:Nat,Vals (List.replicate k xs).flatten (List.replicate k us).flatten
 | 0=>.nil
 | k + 1=>by
  rw [YBb,YBb,YBl,YBl];exact Vals.append h (Vals.rep h k)
theorem zlw {α:Type} (l:List α):l.eraseIdx (l.length - 1) = l.dropLast:=by
 induction l with
 | nil=>rfl
 | cons a r ih=>
  cases r with
  | nil=>rfl
  | cons b r=>
   have e:(a :: b :: r).length - 1 = ((b :: r).length - 1) + 1:=by
    have h1:(a :: b :: r).length = r.length + 2:=rfl;have h2:(b :: r).length = r.length + 1:=rfl;omega
   rw [e,List.eraseIdx_cons_succ,ih]
   all_goals rfl
theorem ziY (its:List Value):∀ (k:Nat) (acc:List Value),
  List.foldl (λx1 x2=>x1 ++ x2) acc.toArray (List.replicate k its.toArray) = (acc ++ (List.replicate k its).flatten).toArray
 | 0,acc=>by simp
 | k + 1,acc=>by
  have e:acc.toArray ++ its.toArray = (acc ++ its).toArray:=by simp
  have e2:(acc ++ its) ++ (List.replicate k its).flatten = acc ++ (List.replicate (k + 1) its).flatten:=by
   rw [YBb,YBl,YBV]
  rw [<- e2,<- ziY its k (acc ++ its),<- e,YBb,List.foldl_cons]
section
variable {X:Cx} {pins:List (Addr × Obj)} {σ:St} {H:Hp} {s:Shared} {l b:Addr} {xs ys zs:List V}
theorem Inv.lset {its its':List Value} {n:Nat} {f:Array Value->Array Value} {t':Nat} (I:Inv X pins σ H s) (hH:H l = some (.lst xs))
  (e:s.heap.get? l = some { cls:=.type "list",data:=.seq its.toArray n }) (hf:f its.toArray = its'.toArray) (hv:Vals ys its') (hz:ys.length <= sizeLine) :
  Inv X pins σ (upd H l (.lst ys)) { s with heap:=s.heap.update l (Obj.mapSeq f),toks:=t' }:=by
 have q:=PySem.IsL.update e f;rw [hf] at q;refine I.write (x:=l) (e:=l) (by rw [hH];exact trivial) (.inl rfl) (λb' u hb hu=>(YBn s.heap (Obj.mapSeq f) (YAO hb)).trans hu) ⟨_,q⟩ ?_;exact ⟨hz,its',_,hv,q⟩
theorem Inv.lnew  (I:Inv X pins σ H s) (hv:Vals ys its) (hz:ys.length <= sizeLine) :
  Inv X pins σ (upd H s.heap.objs.size (.lst ys)) { s with heap:=s.heap.push { cls:=.type "list",data:=.seq its.toArray },toks:=t' }:=
 I.laid (λ_ _ q=>YAb _ q) (YAm _) ⟨hz,its,0,hv,YAn _ rfl⟩
theorem Inv.fresh (I:Inv X pins σ H s):H s.heap.objs.size = none:=I.hok.fresh (YAm _)
theorem Inv.lstM (I:Inv X pins σ H s) (hH:H l = some (.lst xs)):xs.length <= sizeLine/\∃ (its:List Value) (n:Nat),Vals xs its/\xs.length = its.length/\s.heap.get? l = some { cls:=.type "list",data:=.seq its.toArray n }:=by
 obtain ⟨z,its,n,r,e⟩:=I.hok l _ hH;exact ⟨z,its,n,r,r.length,e⟩
theorem znN {n:Nat} (h:n <= sizeLine):Builtin.List.listTooLong n = false:=by
 unfold Builtin.List.listTooLong;exact YAq (by omega)
end
section
variable {X:Cx}
def zpV:V->List V->Hp->VK->Prop:=λx vs H Q=>∃ l xs y,x = .ref l/\vs = [y]/\H l = some (.lst xs)/\xs.length < sizeLine/\Q .non (upd H l (.lst (xs ++ [y])))
theorem zeS:MtM X "list.append" zpV:=by
 intro pins s σ H x vs v us Q I rx rv h;obtain ⟨l,xs,y,rfl,rfl,hH,hz,q⟩:=h;cases rx;obtain ⟨u,rfl,ru⟩:=rv.one;obtain ⟨z,its,n,r,hl,e⟩:=I.lstM hH;refine YCH F.slot_list_append ⟨_,e,rfl⟩ F.entry_list_append (F.args_list_append_2 _ _) (PySem.list_append l its.toArray n u (by rw [YAl];omega)) ⟨e,?_⟩;refine ⟨.non,_,I.lset (its':=its ++ [u]) hH e (by simp) (r.append (.cons ru .nil)) ?_,rfl,q⟩;rw [YAp,YBX];omega
def rPop:V->List V->Hp->VK->Prop:=λx vs H Q=>∃ l xs y,x = .ref l/\vs = []/\H l = some (.lst xs)/\xs[xs.length - 1]? = some y/\Q y (upd H l (.lst xs.dropLast))
theorem zpo:MtM X "list.pop" rPop:=by
 intro pins s σ H x vs v us Q I rx rv h;obtain ⟨l,xs,y,rfl,rfl,hH,hy,q⟩:=h;cases rx;have hus:=rv.zero;subst hus;obtain ⟨z,its,n,r,hl,e⟩:=I.lstM hH;obtain ⟨u,hu,ru⟩:=r.get hy;have hy':its.toArray[its.toArray.size - 1]? = some u:=by
  show its.toArray[its.length - 1]? = some u;rw [<- YBz,<- hl];exact hu
 refine YCH F.slot_list_pop ⟨_,e,rfl⟩ F.entry_list_pop (F.args_list_pop_1 _) (MeetsSeq.list_pop_last l its.toArray n u hy' (by rw [YAl];omega)) ⟨e,?_⟩;refine ⟨y,_,I.lset (its':=its.dropLast) hH e ?_ r.dropLast ?_,ru,q⟩
 ·show its.toArray.eraseIdxIfInBounds (its.toArray.size - 1) = its.dropLast.toArray;rw [YAl,List.eraseIdxIfInBounds_toArray,zlw]
 ·rw [List.length_dropLast];omega
def rCat:R2:=λx y H Q=>∃ l b xs zs,x = .ref l/\y = .ref b/\H l = some (.lst xs)/\H b = some (.lst zs)/\xs.length + zs.length <= sizeLine/\∀ p,H p = none->Q (.ref p) (upd H p (.lst (xs ++ zs)))
theorem op_cat:OpR X (binaryOp .Add) rCat:=by
 intro pins s σ H x y v u Q I rx ry h;obtain ⟨l,b,xs,zs,rfl,rfl,hH,hB,hz,q⟩:=h;cases rx;cases ry;obtain ⟨z,its,n,r,hl,e⟩:=I.lstM hH;obtain ⟨z2,its2,n2,r2,hl2,e2⟩:=I.lstM hB;refine PySem.P.add_list e e2 ?_ (by rw [YAl,YAl];omega);have ea:its.toArray ++ its2.toArray = (its ++ its2).toArray:=by simp
 rw [ea];exact ⟨.ref _,_,I.lnew (t':=s.toks) (r.append r2) (by rw [YAp];omega),rfl,q _ I.fresh⟩
def rRep:R2:=λx y H Q=>∃ l k xs,x = .ref l/\y = .int k/\H l = some (.lst xs)/\-(2 ^ 63) <= k/\k < 2 ^ 63/\xs.length * k.toNat <= sizeLine /\
 ∀ p,H p = none->Q (.ref p) (upd H p (.lst (List.replicate k.toNat xs).flatten))
theorem zqa {α:Type} (xs:List α) (k:Nat):(List.replicate k xs).flatten.length = k * xs.length:=by
 induction k with
 | zero=>simp
 | succ k ih=>rw [YBb,YBl,YAp,ih,Nat.succ_mul,Nat.add_comm]
theorem zsL:OpR X (binaryOp .Mult) rRep:=by
 intro pins s σ H x y v u Q I rx ry h;obtain ⟨l,k,xs,rfl,rfl,hH,h1,h2,hz,q⟩:=h;cases rx;obtain ⟨t,rfl⟩:=ry;obtain ⟨z,its,n,r,hl,e⟩:=I.lstM hH;have hlen:its.toArray.size * k.toNat <= sizeLine:=by rw [YAl,<- hl];exact hz
 have hcap:¬ its.toArray.size * k.toNat > (2 ^ 63 - 1) / 8:=by
  have:(sizeLine:Nat) <= (2 ^ 63 - 1) / 8:=by decide
  omega
 have hfit:¬ (!Builtin.List.listFitsIndex k) = true:=by
  rw [fitsIndex_both h1 h2];exact YA4
 have hlong:¬ Builtin.List.listTooLong (its.toArray.size * k.toNat) = true:=by
  rw [znN hlen];exact YA4
 have hnew:List.foldl (λx1 x2=>x1 ++ x2) #[] (List.replicate (if its.toArray.isEmpty = true then 0 else k.toNat) its.toArray) = (List.replicate k.toNat its).flatten.toArray:=by
  have f0:∀ m:Nat,List.foldl (λx1 x2=>x1 ++ x2) #[] (List.replicate m its.toArray) = (List.replicate m its).flatten.toArray:=λm=>by
   have:=ziY its m []
   rw [YCe] at this;exact this
  rw [f0];cases its with
  | nil=>simp
  | cons a r'=>rw [if_neg (by simp)]
 refine wpAny_binaryOp_repeat_ref (T := "list") (U := "int") (by decide) ⟨_,e,rfl⟩ (λs'=>typeIs_int s' k t) noFill_list_mul F.fills_int_mul F.slot_int_rmul repeat_list F.slot_int_index.lookup
  (YCH F.slot_int_rmul (typeIs_int s k t) F.entry_int_rmul (F.args_int_rmul_2 _ _) (int___rmul___int_list k t l its.toArray n)
   ⟨e,rfl,⟨_,e,rfl⟩,YCH F.slot_list_mul ⟨_,e,rfl⟩ F.entry_list_mul (F.args_list_mul_2 _ _) (AutoListH.list___mul___list_int_3 l its.toArray n k t hfit hcap hlong) ⟨e,?_⟩⟩)
 rw [hnew];exact ⟨.ref _,_,I.lnew (t':=s.toks) (r.rep k.toNat) (by rw [zqa,Nat.mul_comm];exact hz),rfl,q _ I.fresh⟩
end
end L2
namespace Att
open PySem PySem.W PySem.Calls PyProof.Rows
theorem zfG {P:Params} {h:Heap}:∀ (ns:List Int) (vs:List Value),WellAll P h vs (ns.map WData.int)->IntsAre vs ns:=by
 intro ns
 induction ns with
 | nil=>
  intro vs w;rw [YAK] at w;cases w;exact .nil
 | cons n ns ih=>
  intro vs w;rw [YAg] at w;cases w with
  | cons a b=>
   cases a;exact .cons _ _ (ih _ b)
theorem zlZ {l:OpenLaw} {n:Nat} (hn:l.most = some n) {P:Params} {h:Heap} {args:List WData} {vals:List Value}
  (hpre:l.row.toRowW.claim.pre args = true) (hwl:WellAll P h vals args) :
  ∃ a vs ns,vals = [Value.ref a]/\args = [WData.list (ns.map WData.int)]/\h.get? a = some { cls:=.type "list",data:=.seq vs.toArray }/\IntsAre vs ns/\ns.length <= n:=by
 have hsh:WShape.hasAll [] args [.list .int] = true:=(pre_splitW hpre).1;have hc:l.pre.holds [] { args:=args } = true:=(pre_splitW hpre).2;obtain ⟨d,r,rfl,h1,h2⟩:=hasAllW_cons hsh;obtain rfl:=hasAllW_nil h2;obtain ⟨xs,rfl,h3⟩:=hasW_list h1;obtain ⟨ns,rfl⟩:=items_int h3;have hlen:ns.length <= n:=by
  unfold OpenLaw.pre at hc;have h4:(WTm.not (.lt (.lit (.int (n:Int))) (.len (.arg 0)))).holds [] { args:=[.list (ns.map .int)] } = true:=by
   have h4:=(holds_andW hc).1;rw [hn] at h4;exact h4
  have h5:=condW_of h4 (w_not (w_lt w_lit (w_len_list (w_arg rfl))));rw [YAc] at h5;refine Nat.le_of_not_lt λq=>?_;have q':(n:Int) < ((ns.length:Nat):Int):=by omega
  first
   | (rw [YAy q'] at h5;exact absurd h5 (by decide))
   | (simp at h5;omega)
 cases hwl with
 | cons w1 w2=>
  cases w2;cases w1 with
  | list ho hall=>exact ⟨_,_,ns,rfl,rfl,ho,zfG ns _ hall,hlen⟩
theorem znq (l:OpenLaw) (args:List WData):l.row.toRowW.claim.post args (.bool true) args = true:=
 postW_of (r:=l.row.toRowW) (X:=(true == true))
  (show WShape.has [] (.bool true) .bool = true by first | rfl | decide | simp [WShape.has,WShape.arms,WShape.armsAll])
  (show (WTm.eq .res (.lit (.bool true))).value [] { args:=args,res:=some (.bool true),after:=args } = some (.bool (true == true)) from w_eq_bool (w_res rfl) w_lit) rfl
theorem attach_call {l:OpenLaw} {n:Nat} {q:Program} {loose:List Str} {XP:(Str->Option Value)->Heap->Prop} {YP:World->Heap->Prop} {d:DefRec}
  (hn:l.most = some n) (hdf:d.params.defaults = [])
  (call:∀ (w:World) (s₀ s₁:Shared) (mg mb:Str->Option Value) (fa:Addr) (o:Obj) (pm cd doc:Value) (a:Addr) (vs:List Value) (ns:List Int),
   Ground q loose [] XP w s₀ mg mb s₁.heap->YP w s₁.heap ->
   s₁.heap.get? fa = some o->o.data = .func (docDef d.name d.params d.body d.scope pm cd doc)->s₁.heap.CodeRec cd d.name->mg d.name = some (.ref fa) ->
   s₁.heap.get? a = some { cls:=.type "list",data:=.seq vs.toArray }->IntsAre vs ns->ns.length <= n->s₁.gens = #[] ->
   codeAny (model l.prog w) callerA (.call (.ref fa) ⟨[.ref a],[]⟩) (λr s'=>r = .ok (.ret (.bool true))/\OldK s₁.heap s'.heap/\s'.os = s₁.os/\AllBare s'.gens) s₁) :
  WalkO q loose XP YP l.row.toRowW d [] (λf vs=>PySem.call f vs):=by
 intro w s₀ s₁ mg mb G Y fa o pm cd doc dV kV ho hd hcd hD hmg hg args vals as hpre hlay hrd hwl hlo;obtain rfl:dV = .none:=Dflts.none hD hdf;obtain rfl:kV = .none:=Dflts.noKw hD;obtain ⟨a,vs,ns,rfl,rfl,hobj,hints,hlen⟩:=zlZ hn hpre hwl;refine enter_call (YCy (call w s₀ s₁ mg mb fa o pm cd doc a vs ns G Y ho (fd_plain hd) hcd hmg hobj hints hlen hg) λr s' hq=>?_);obtain ⟨rfl,h2,h3,h4⟩:=hq;exact ⟨.inl ⟨.bool true,.bool true,[],rfl,λ_=>rfl,.bool true,znq l _,λ_=>⟨List.Pairwise.nil,λ_ hm=>(nomatch hm)⟩⟩,h2,h3,h4⟩
end Att
namespace L2
open PySem PySem.Spec PyProof.Rows
theorem zh9:∀ {vs:List Value} {ns:List Int},IntsAre vs ns->Vals (ns.map V.int) vs
 | _,_,.nil=>.nil
 | _,_,.cons n t h=>.cons ⟨t,rfl⟩ (zh9 h)
def Only (H:Hp):Prop:=∀ b,H b = none\/∃ o xs,H b = some (.frz o (.lst xs))
theorem znK {P:Program} {w:World} {K:PySem.W.Frag} {mg mb:Str->Option Value} {CX:CXT} {k:Nat} {fa a:Addr} {fd:FuncData} {x:Str} {sp:Sp} {s₁:Shared} {vs:List Value} {ns:List Int}
  (KX:K.In s₁.heap) (hns:s₁.heap.Ns mainGlobals mg) (hb:s₁.heap.Ns builtinsNs mb) (hbb:∀ x:Str,x ≠ "__name__" -> mb x = bootBuiltins x) (hlim:s₁.heap.NoLimit) (hg:s₁.gens = #[])
  (ha:s₁.heap.get? a = some { cls:=.type "list",data:=.seq vs.toArray }) (hi:IntsAre vs ns) (hl:ns.length <= sizeLine) (hr:Room k callerA)
  (F:∀ base:Heap,K.In base->base.Ns mainGlobals mg->FnOk P w K mg base CX k fa fd [x] sp) (hbind:∀ (s:Shared) (u:Value),BindsTo s fd ⟨[u],[]⟩ [(x,u)])
  (hsp:∀ H:Hp,Only H->SqL K H a (ns.map V.int)->sp [.ref a] H (λv _=>v = .bl true) λ_ _ _=>False)
  (hCX:∀ H e s',CX [] H s₁ (λ_ _ _=>False) e s'->False) :
  codeAny (model P w) callerA (.call (.ref fa) ⟨[.ref a],[]⟩) (λr s'=>r = .ok (.ret (.bool true))/\OldK s₁.heap s'.heap/\s'.os = s₁.os/\AllBare s'.gens) s₁:=by
 have rv:=zh9 hi;have lenV:=hi.length
 -- from an abstract heap in which nothing but the script may be tracked
 have core:∀ H:Hp,Only H->SqL K H a (ns.map V.int)->HOk P w H s₁.heap->(∀ b,H b ≠ none->b = a)->(H a ≠ none->K.lookup a = none) ->
   codeAny (model P w) callerA (.call (.ref fa) ⟨[.ref a],[]⟩) (λr s'=>r = .ok (.ret (.bool true))/\OldK s₁.heap s'.heap/\s'.os = s₁.os/\AllBare s'.gens) s₁:=by
  intro H hO hS hok hA hK;have base_of:∀ {b:Addr} {o:Obj},s₁.heap.get? b = some o->H b = none->(hidT s₁.heap H).get? b = some o:=λe n=>znW e n;have noA:∀ {b:Addr} {o:Obj} {es:Array DictEntry} {ep:Nat},s₁.heap.get? b = some o->o.data = .dict es ep->H b = none:=λ{b o es ep} e d=>by
   cases q:H b with
   | none=>rfl
   | some u=>
    have e':b = a:=hA b (by rw [q];simp);subst e';rw [ha] at e;cases e;have d':Data.seq vs.toArray _ = Data.dict es ep:=d;cases d'
  have nsK:∀ {b:Addr} {m:Str->Option Value},s₁.heap.Ns b m->(hidT s₁.heap H).Ns b m:=λ{b m} ⟨o,es,ep,e,d,r⟩=>⟨o,es,ep,base_of e (noA e d),d,r⟩;have hKb:K.In (hidT s₁.heap H):=λb o e=>base_of (KX b o e) (by
   cases q:H b with
   | none=>rfl
   | some u=>
    have e':b = a:=hA b (by rw [q];simp);subst e';rw [hK (by rw [q];simp)] at e;cases e)
  have hM:Mod K mg (hidT s₁.heap H):=⟨hKb,nsK hns,⟨mb,nsK hb,hbb⟩,let ⟨mc,h1,h2⟩:=hlim;⟨mc,nsK h1,h2⟩⟩;have e0:Env0 P w K mg (hidT s₁.heap H) callerA [] s₁ H:=⟨rfl,hM,λb o e=>zpX e,Nat.le_of_eq (zm0 _ _),trivial,λb hb=>absurd (show b ∈ ([]:List Addr) from hb) (by simp),hok,.of_eq hg⟩;refine YCy ((F _ hKb (nsK hns)).run callerA [] s₁ H ⟨[.ref a],[]⟩ [.ref a] [.ref a] _ _ hr e0 (hbind s₁ (.ref a)) (.cons rfl .nil) (hsp H hO hS)) λr s' h=>?_;cases r with
  | error e=>exact (hCX H e s' h).elim
  | ok fl=>
   cases fl with
   | next=>exact False.elim h
   | brk=>exact False.elim h
   | cont=>exact False.elim h
   | ret u=>
    obtain ⟨v,H',os,bare,un,hok',r',q⟩:=h;have q':v = .bl true:=q;subst q';obtain rfl:u = Value.bool true:=r';refine ⟨rfl,OldK.of_keep λb o e=>?_,os,bare⟩;cases q:H b with
    | none=>exact un.keep b o e q (by intro z;exact absurd (show b ∈ ([]:List Addr) from z) (by simp)) (by simp)
    | some u=>
     rcases hO b with z | ⟨ob,xs,z⟩
     ·rw [q] at z;cases z
     ·have z2:=un.frzs b ob _ z;obtain ⟨e1,_⟩:=hok b _ z;obtain ⟨e2,_⟩:=hok' b _ z2;rw [e] at e1;cases e1;exact e2
 cases hk:K.lookup a with
 | some o=>
  -- the script is one of the module's own objects
  have e:=KX a o hk;rw [ha] at e;cases e;refine core (λ_=>none) (λ_=>.inl rfl) (.inr ⟨_,vs.toArray,_,hk,rfl,rfl,rfl,by rw [YAl,lenV];exact hl,by simpa using rv⟩) (λb u z=>by have z':(none:Option HO) = some u:=z;cases z') (λb z=>absurd rfl z) λz=>absurd rfl z
 | none=>
  refine core (λb=>if b = a then some (.frz { cls:=.type "list",data:=.seq vs.toArray } (.lst (ns.map V.int))) else none) (λb=>?_) (.inl (.inr ⟨{ cls:=.type "list",data:=.seq vs.toArray },if_pos rfl⟩)) (λb u z=>?_) (λb z=>?_) λ_=>hk
  ·by_cases hb:b = a
   ·exact .inr ⟨_,_,if_pos hb⟩
   ·exact .inl (if_neg hb)
  ·by_cases hb:b = a
   ·have z':=(if_pos hb).symm.trans z;cases z';subst hb;exact ⟨ha,by rw [YAc];exact hl,vs,_,rv,ha⟩
   ·have z':=(if_neg hb).symm.trans z;cases z'
  ·by_cases hb:b = a
   ·exact hb
   ·exact absurd (if_neg hb) z
theorem zp3 {l:PySem.W.OpenLaw} {n k:Nat} {q:Program} {loose:List Str} {XP:(Str->Option Value)->Heap->Prop} {YP:World->Heap->Prop} {d:DefRec} {K:Params->PySem.W.Frag} {CX:World->CXT} {sp:World->Sp} {x:Str}
  (hn:l.most = some n) (hn2:n <= sizeLine) (hdf:d.params.defaults = []) (hr:Room k callerA)
  (hY:∀ (w:World) (h:Heap),YP w h->(K w.params).In h)
  (F:∀ (w:World) (mg:Str->Option Value) (fa:Addr) (h:Heap),(K w.params).In h->h.Ns mainGlobals mg->mg d.name = some (.ref fa) ->
   ∃ fd:FuncData,(∀ (s:Shared) (u:Value),BindsTo s fd ⟨[u],[]⟩ [(x,u)]) /\
    ∀ base:Heap,(K w.params).In base->base.Ns mainGlobals mg->FnOk l.prog w (K w.params) mg base (CX w) k fa fd [x] (sp w))
  (hsp:∀ (w:World) (H:Hp) (a:Addr) (ns:List Int),ns.length <= n->Only H->SqL (K w.params) H a (ns.map V.int)->sp w [.ref a] H (λv _=>v = .bl true) λ_ _ _=>False)
  (hCX:∀ (w:World) (H:Hp) (s:Shared) (e:Value) (s':Shared),CX w [] H s (λ_ _ _=>False) e s'->False) :
  PySem.W.WalkO q loose XP YP l.row.toRowW d [] (λf vs=>PySem.call f vs):=by
 refine Att.attach_call hn hdf λw s₀ s₁ mg mb fa o pm cd doc a vs ns G Y ho hd hcd hmg hobj hints hlen hg=>?_;have KX:=hY w _ Y;obtain ⟨fd,hb,hF⟩:=F w mg fa _ KX G.T.g hmg;exact znK KX G.T.g G.T.b G.T.builtins G.T.nolimit hg hobj hints (YAB hlen hn2) hr hF hb (λH hO hS=>hsp w H a ns hlen hO hS) λH e s'=>hCX w H s₁ e s'
def zcs (s:Stmt):Arguments:=match s with
 | .FunctionDef _ a _ _ _ _ _ _ _ _=>a
 | _=>{ posonlyargs:=[],args:=[],vararg:=none,kwonlyargs:=[],kw_defaults:=[],kwarg:=none,defaults:=[] }
def zbd (s:Stmt):List Stmt:=match s with
 | .FunctionDef _ _ b _ _ _ _ _ _ _=>b
 | _=>[]
def zak (s:Stmt):Scope:=match s with
 | .FunctionDef _ _ _ _ _ _ sc _ _ _=>sc
 | _=>{ kind:=.function,names:=[],isGenerator:=false,isCoroutine:=false }
abbrev CX0:CXT:=λ_ _ _ _ _ _=>False
abbrev E0:XK:=λ_ _ _=>False
theorem zjT:zbp CX0 X E0:=λ_ _ _ _ _ _ _ h=>h.elim
structure Fun (K:PySem.W.Frag) (x qual:Str) (st:Stmt) (f:Addr) (fd:FuncData):Prop where
 ex:∃ (oc:Value) (od:Option Addr) (kV doc pm:Value) (an:Option Addr) (cdv ct:Value) (osl:Array (Option Value)),
  fd = PySem.W.fnOf x qual (zcs st) (zbd st) (zak st) .none kV doc pm an cdv ct/\K.lookup f = some ⟨oc,od,.func fd,osl⟩/\PySem.W.codeIn K cdv qual = true
 kp:PySem.W.keepIn K (.ref f) = true
section
variable {P:Program} {w:World} {K:PySem.W.Frag} {mg:Str->Option Value} {base:Heap}
theorem Fun.ok {x qual:Str} {st:Stmt} {f:Addr} {fd:FuncData} {N ps:List Str} {k:Nat} {sp:Sp} (F:Fun K x qual st f fd) (S:FnScope N ps (zak st)) (len:∀ vs H Q E,sp vs H Q E->vs.length = ps.length)
  (hbody:∀ (cdv:Value) (A:Around) (outer:List Env) (s:Shared) (H:Hp) (vs:List V) (Q:VK) (E:XK),Room k (A.deeper (envOfC qual (zak st) s.heap.objs.size f cdv))->sp vs H Q E ->
   ∃ t,PSs (cxOf CX0 P w K mg base N qual (zak st) f cdv A outer s H E).nox (zbd st) t/\t { nx:=λ_ H'=>Q .non H',rt:=Q } (zen N vs) H):FnOk P w K mg base CX0 (k + 1) f fd ps sp:=by
 obtain ⟨oc,od,kV,doc,pm,an,cdv,ct,osl,rfl,lk,hcd⟩:=F.ex;refine zn5 lk hcd S len λA outer s H vs Q E hr hsp=>?_;obtain ⟨t,h,q⟩:=hbody cdv A outer s H vs Q E hr hsp;exact ⟨t,h.nox,q⟩
theorem Fun.binds {x qual:Str} {st:Stmt} {f:Addr} {fd:FuncData} {ps:List Str} (F:Fun K x qual st f fd)
  (h:∀ (kV doc pm:Value) (an:Option Addr) (cdv ct:Value) (us:List Value),us.length = ps.length->bindArgs (PySem.W.fnOf x qual (zcs st) (zbd st) (zak st) .none kV doc pm an cdv ct) ⟨us,[]⟩ = pure (ps.zip us)):Binds K fd ps []:=by
 obtain ⟨oc,od,kV,doc,pm,an,cdv,ct,osl,rfl,lk,hcd⟩:=F.ex;exact .all (h kV doc pm an cdv ct)
end
section
variable {X:Cx}
theorem pv (i:Nat)  (hN:X.N[i]? = some x:=by rfl) (hv:Vis X.env.scope x:=by first | exact Or.inl rfl | exact Or.inr (Or.inl rfl) | exact Or.inr (Or.inr rfl)) (hd:(x == ("__debug__" : Str)) = false:=by decide)
  (hcd:(x == ("__classdict__" : Str)) = false:=by decide):PE X (.Name x pos) (tVar i):=zbf hN hv hd hcd
end
theorem ite2 {c A B:Prop} [Decidable c] (h1:c->A) (h2:¬ c->B):if c then A else B:=by
 by_cases h:c
 ·rw [if_pos h];exact h1 h
 ·rw [if_neg h];exact h2 h
def Same (H H':Hp):Prop:=∀ b o,H b = some o->H' b = some o
theorem Same.refl (H:Hp):Same H H:=λ_ _ h=>h
theorem Same.trans {H H1 H2:Hp} (a:Same H H1) (b:Same H1 H2):Same H H2:=λc o h=>b c o (a c o h)
theorem Same.free {H H':Hp} (e:Same H H') {l:Addr} (h:H' l = Option.none):H l = Option.none:=by
 cases q:H l with
 | none=>rfl
 | some o=>
  rw [e l o q] at h;cases h
theorem Same.seq {K:PySem.W.Frag} {H H':Hp} {a:Addr} {xs:List V} (e:Same H H') (h:SqL K H a xs):SqL K H' a xs:=by
 rcases h with (h | ⟨o,h⟩) | h
 ·exact .inl (.inl (e _ _ h))
 ·exact .inl (.inr ⟨o,e _ _ h⟩)
 ·exact .inr h
section
variable {κ:Type} [DecidableEq κ]
def valV (kvs:List (κ × V)) (k:κ):Option V:=(kvs.find? λkv=>decide (kv.1 = k)).map (·.2)
def putK (kvs:List (κ × V)) (k:κ) (v:V):List (κ × V):=
 if (kvs.any λkv=>decide (kv.1 = k)) = true then kvs.map (λkv=>if kv.1 = k then (kv.1,v) else kv) else kvs ++ [(k,v)]
theorem zey {p:κ × V} {r:List (κ × V)} {k:κ} (e:p.1 = k):valV (p :: r) k = some p.2:=by simp [valV,YBA,e]
theorem zeu {p:κ × V} {r:List (κ × V)} {k:κ} (e:¬ p.1 = k):valV (p :: r) k = valV r k:=by simp [valV,YBA,e]
theorem zfw (k:κ):∀ kvs:List (κ × V),(kvs.any λkv=>decide (kv.1 = k)) = (valV kvs k).isSome
 | []=>rfl
 | p :: r=>by
  rw [YB6];by_cases e:p.1 = k
  ·simp only [zey e,YAy e,Bool.true_or,Option.isSome_some]
  ·rw [zeu e,YAq e,Bool.false_or];exact zfw k r
theorem zer (kvs:List (κ × V)) (k:κ) (v:V):(putK kvs k v).length <= kvs.length + 1:=by
 unfold putK;split
 ·rw [YAc];omega
 ·rw [YAp,YAz,List.length_nil];omega
theorem zoE {kvs:List (κ × V)} {k:κ} (v:V) (h:valV kvs k = none):putK kvs k v = kvs ++ [(k,v)]:=by
 unfold putK;rw [zfw,h];exact if_neg (by decide)
theorem RelO.isSome_eq  (r:RelO o u):o.isSome = u.isSome:=by
 cases o with
 | none=>cases u with
  | none=>rfl
  | some _=>exact (show False from r).elim
 | some _=>cases u with
  | none=>exact (show False from r).elim
  | some _=>rfl
theorem KV.val {kvs:List (κ × V)} {vs:List (κ × Value)} (r:KV kvs vs) (k:κ):RelO (valV kvs k) (valueAt vs k):=by
 unfold KV at r
 induction r with
 | nil=>exact True.intro
 | @cons p q ps qs h t ih=>
  obtain ⟨h1,h2⟩:=h;by_cases e:p.1 = k
  ·have e':q.1 = k:=h1.symm.trans e;have b:valueAt (q :: qs) k = some q.2:=by simp [valueAt,YBA,e']
   rw [zey e,b];exact h2
  ·have e':¬ q.1 = k:=λz=>e (h1.trans z);have b:valueAt (q :: qs) k = valueAt qs k:=by simp [valueAt,YBA,e']
   rw [zeu e,b];exact ih
theorem KV.any  (r:KV kvs vs) (k:κ):(kvs.any λkv=>decide (kv.1 = k)) = vs.any λkv=>decide (kv.1 = k):=by
 unfold KV at r
 induction r with
 | nil=>rfl
 | cons h t ih=>rw [YB6,YB6,ih,h.1]
theorem KV.repl  (r:KV kvs vs) (k:κ)  (ry:RelV y u) :
  KV (kvs.map λkv=>if kv.1 = k then (kv.1,y) else kv) (vs.map λkv=>if kv.1 = k then (kv.1,u) else kv):=by
 unfold KV at r ⊢
 induction r with
 | nil=>exact .nil
 | @cons p q ps qs h t ih=>
  rw [YAg,YAg];refine .cons ?_ ih;obtain ⟨h1,h2⟩:=h;by_cases e:p.1 = k
  ·rw [if_pos e,if_pos (h1.symm.trans e)];exact ⟨h1,ry⟩
  ·rw [if_neg e,if_neg (λz=>e (h1.trans z))];exact ⟨h1,h2⟩
theorem KV.put  (r:KV kvs vs) (k:κ)  (ry:RelV y u):KV (putK kvs k y) (stored vs k u):=by
 unfold putK stored;rw [r.any k];by_cases e:(vs.any λkv=>decide (kv.1 = k)) = true
 ·rw [if_pos e,if_pos e];exact r.repl k ry
 ·rw [if_neg e,if_neg e];exact Paired.snoc r ⟨rfl,ry⟩
theorem KV.length  (r:KV kvs vs):kvs.length = vs.length:=Paired.length r
end
theorem zmF   (r:RelV (kV k) u):(zaS P w).is k u = true:=by
 cases k with
 | inl i=>obtain ⟨t,e⟩:=(show ∃ t,u = Value.int i t from r);subst e;exact zjM P w i t
 | inr x=>obtain ⟨t,e⟩:=(show ∃ t,u = Value.str x t from r);subst e;exact zjo P w x t
theorem zih  : ∀ {ks:List Key} {us:List Value},Vals (ks.map kV) us->ItemsAre (zaS P w) ks us
 | [],_,r=>by rw [YAK] at r;cases r;exact .nil
 | k :: ks,_,r=>by
  rw [YAg] at r;cases r with
  | cons h t=>exact .cons (zmF h) (zih t)
abbrev KT (H:Hp):List (List Key × V)->List (List Key × Addr × Value)->Prop:=Paired λp q=>p.1 = q.1/\H q.2.1 = some (.tup (p.1.map kV))/\RelV p.2 q.2.2
theorem KT.val {H:Hp} {kvs:List (List Key × V)} {xs:List (List Key × Addr × Value)} (r:KT H kvs xs) (k:List Key):RelO (valV kvs k) ((atKey xs k).map (·.2)):=by
 induction r with
 | nil=>exact True.intro
 | @cons p q ps qs h t ih=>
  obtain ⟨h1,_,h2⟩:=h;by_cases e:p.1 = k
  ·have e':q.1 = k:=h1.symm.trans e;have b:atKey (q :: qs) k = some q.2:=by simp [atKey,YBA,e']
   rw [zey e,b];exact h2
  ·have e':¬ q.1 = k:=λz=>e (h1.trans z);have b:atKey (q :: qs) k = atKey qs k:=by simp [atKey,YBA,e']
   rw [zeu e,b];exact ih
theorem KT.repl  (r:KT H kvs xs) (k:List Key)  (ry:RelV y u) :
  KT H (kvs.map λkv=>if kv.1 = k then (kv.1,y) else kv) (xs.map (putAt k u)):=by
 induction r with
 | nil=>exact .nil
 | @cons p q ps qs h t ih=>
  rw [YAg,YAg];refine .cons ?_ ih;obtain ⟨h1,h2,h3⟩:=h;unfold putAt;by_cases e:p.1 = k
  ·rw [if_pos e,if_pos (h1.symm.trans e)];exact ⟨h1,h2,ry⟩
  ·rw [if_neg e,if_neg (λz=>e (h1.trans z))];exact ⟨h1,h2,h3⟩
theorem KT.put  (r:KT H kvs xs) (k:List Key)  (hb:H b = some (.tup (k.map kV))) (ry:RelV y u) :
  KT H (putK kvs k y) (storedH xs k b u):=by
 have e:(kvs.any λkv=>decide (kv.1 = k)) = (atKey xs k).isSome:=by
  rw [zfw,(r.val k).isSome_eq,Option.isSome_map]
 unfold putK storedH;rw [e];by_cases q:(atKey xs k).isSome = true
 ·rw [if_pos q,if_pos q];exact r.repl k ry
 ·rw [if_neg q,if_neg q];exact Paired.snoc r ⟨rfl,hb,ry⟩
theorem KT.keeps  (r:KT H kvs xs) (ht:∀ b ys,H b = some (.tup ys)->H' b = some (.tup ys)):KT H' kvs xs:=
 Paired.mapP r λ_ _ z=>⟨z.1,ht _ _ z.2.1,z.2.2⟩
section
variable {P:Program} {w:World} {H:Hp} {h:Heap} {a:Addr}
theorem zro (ok:HOk P w H h) (e:Rd H a u):ObjOk P w H h a u:=e.ok ok
theorem zmM (ok:HOk P w H h) (e:Rd H a (.dK kvs)):kvs.length <= sizeLine/\(a == sysModules) = false/\∃ vs,KV kvs vs/\h.DictOf (zaS P w) a vs:=
 show ObjOk P w H h a (.dK kvs) from zro ok e
theorem zsr (ok:HOk P w H h) (e:H a = some (.dK kvs)):kvs.length <= sizeLine/\(a == sysModules) = false/\∃ vs,KV kvs vs/\h.DictOf (zaS P w) a vs:=zmM ok (.inl e)
theorem zmk (ok:HOk P w H h) (e:H a = some (.tup (ks.map kV))):(tupleKind (zaS P w)).is h ks a:=by
 obtain ⟨_,its,r,o,h1,h2,n,h3⟩:=(show ObjOk P w H h a (.tup (ks.map kV)) from ok a _ e);exact ⟨o,its.toArray,n,h1,h2,h3,by simpa using zih r⟩
theorem zqq (ok:HOk P w H h) (e:Rd H a (.dT kvs)):kvs.length <= sizeLine/\(a == sysModules) = false /\
  ∃ xs,KT H kvs xs/\h.DictOfH (tupleKind (zaS P w)) a xs:=by
 obtain ⟨z,y,xs,r,o,es,ep,h1,h2,h3,h4,h5⟩:=(show ObjOk P w H h a (.dT kvs) from zro ok e);refine ⟨z,y,xs,r,o,es,ep,h1,h2,h3,h4,λx hx=>?_,h5⟩;have all:∀ {l:List (List Key × V)} {m:List (List Key × Addr × Value)},KT H l m->∀ x ∈ m,(tupleKind (zaS P w)).is h x.1 x.2.1:=by
  intro l m q
  induction q with
  | nil=>intro x hx;exact nomatch hx
  | @cons p q ps qs hq t ih=>
   intro x hx;rcases YAu.mp hx with e | hx
   ·subst e;exact zmk ok (by rw [<- hq.1];exact hq.2.1)
   ·exact ih x hx
 exact all r x hx
theorem zte (ok:HOk P w H h) (e:H a = some (.dT kvs)):kvs.length <= sizeLine/\(a == sysModules) = false /\
  ∃ xs,KT H kvs xs/\h.DictOfH (tupleKind (zaS P w)) a xs:=zqq ok (.inl e)
end
def DGet (H:Hp) (a:Addr) (y:V) (r:Option V):Prop:=
 (∃ kvs k,Rd H a (.dK kvs)/\y = kV k/\r = valV kvs k)\/∃ kvs k b,Rd H a (.dT kvs)/\y = .ref b/\H b = some (.tup (k.map kV))/\r = valV kvs k
def DPut (H:Hp) (a:Addr) (y v:V) (H':Hp):Prop:=
 (∃ kvs k,H a = some (.dK kvs)/\y = kV k/\kvs.length < sizeLine/\H' = upd H a (.dK (putK kvs k v))) \/
 ∃ kvs k b,H a = some (.dT kvs)/\y = .ref b/\H b = some (.tup (k.map kV))/\kvs.length < sizeLine/\H' = upd H a (.dT (putK kvs k v))
theorem DGet.k {H:Hp} {a:Addr} {kvs:List (Key × V)} {k:Key} (e:H a = some (.dK kvs)):DGet H a (kV k) (valV kvs k):=.inl ⟨kvs,k,.inl e,rfl,rfl⟩
theorem DPut.k {H:Hp} {a:Addr} {kvs:List (Key × V)} {k:Key} {v:V} (e:H a = some (.dK kvs)) (hl:kvs.length < sizeLine):DPut H a (kV k) v (upd H a (.dK (putK kvs k v))):=.inl ⟨kvs,k,e,rfl,hl,rfl⟩
section
variable {X:Cx} {pins:List (Addr × Obj)} {σ:St} {H:Hp} {s:Shared} {a:Addr} {y v:V} {u r:Value} {o:Option V} {A:Around} {E:Value->Shared->Prop}
theorem Inv.big (I:Inv X pins σ H s):sysModules < s.heap.objs.size:=by
 have h:mainGlobals < s.heap.objs.size:=(I.mod.glob.keeps I.bk).lt;exact Nat.lt_trans (by decide) h
theorem zit (hu:A.units + 1 < cLine) (I:Inv X pins σ H s) (g:DGet H a y (some v)) (ry:RelV y u) (h:∀ w' s',Inv X pins σ H s'->RelV v w'->Q w' s') :
  wpAny (model X.prog X.w) A (getItem (.ref a) u) Q E s:=by
 rcases g with ⟨kvs,k,e,ey,l⟩ | ⟨kvs,k,b,e,ey,eb,l⟩
 ·subst ey;obtain ⟨z,hd,vs,rel,dd⟩:=zmM I.hok e;obtain ⟨w',hw,rw'⟩:=RelO.some_of (v:=v) (o:=valueAt vs k) (by rw [l];exact rel.val k);exact wpAny_getItem_of (zmF ry) dd.mapOf hw (h w' _ (I.tok _) rw')
 ·subst ey;cases (show u = Value.ref b from ry);obtain ⟨z,hd,xs,rel,dd⟩:=zqq I.hok e;obtain ⟨w',hw,rw'⟩:=RelO.some_of (v:=v) (o:=(atKey xs k).map (·.2)) (by rw [l];exact rel.val k);obtain ⟨p,hp,hp2⟩:=Option.map_eq_some_iff.mp hw;refine wpAny_getItem_heap (tupleKind_room_in1 hu) (zmk I.hok eb) dd hp ?_;rw [hp2];exact h w' _ (I.tok _) rw'
theorem zjG  (I:Inv X pins σ H s) (mu:Mut (H a)) (hs:Heap.SameBut a s.heap h') (he:∃ q,h'.get? a = some q) (new:ObjOk X.prog X.w (upd H a ob) h' a ob) :
  Inv X pins σ (upd H a ob) { s with heap:=h',toks:=t' }:=
 I.write (x:=a) (e:=a) mu (.inl rfl) (λb q hb z=>(hs.2 b hb).trans z) he new
theorem zmu    (z:kvs.length <= sizeLine) (hd:(a == sysModules) = false) (rel:KV kvs vs) (dd:h'.DictOf (zaS P w) a vs) :
  ObjOk P w H' h' a (.dK kvs):=⟨z,hd,vs,rel,dd⟩
theorem zi5  (hu:A.units + 1 < cLine) (I:Inv X pins σ H s) (g:DPut H a y v H') (ry:RelV y u) (rv:RelV v r) (h:∀ s',Inv X pins σ H' s'->Q () s') :
  wpAny (model X.prog X.w) A (setItem (.ref a) u r) Q E s:=by
 rcases g with ⟨kvs,k,e,ey,l,eH⟩ | ⟨kvs,k,b,e,ey,eb,l,eH⟩
 ·subst ey eH;obtain ⟨z,hd,vs,rel,dd⟩:=zsr I.hok e;have hz:vs.length <= sizeLine:=by rw [<- rel.length];exact z
  have hl:(putK kvs k v).length <= sizeLine:=by have:=zer kvs k v;omega
  refine wpAny_setItem_pairs (hsz:=hz) (zmF ry) dd λh' dd' hs=>h _ ?_;have he:∃ q,h'.get? a = some q:=let ⟨q,_,_,hq,_⟩:=dd';⟨q,hq⟩
  exact zjG I (by rw [e];exact True.intro) hs he (zmu hl hd (rel.put k rv) dd')
 ·subst ey eH;cases (show u = Value.ref b from ry);obtain ⟨z,hd,xs,rel,dd⟩:=zte I.hok e;have hz:xs.length <= sizeLine:=by rw [<- Paired.length rel];exact z
  have hl:(putK kvs k v).length <= sizeLine:=by have:=zer kvs k v;omega
  refine wpAny_setItem_heap (hsz:=hz) (tupleKind_room_in1 hu) (zmk I.hok eb) dd λh' dd' hs=>h _ ?_;obtain ⟨q,es,ep,hq,h2,h3,h4,_,h5⟩:=dd';refine zjG I (by rw [e];exact True.intro) hs ⟨q,hq⟩ ⟨hl,hd,_,(rel.put k eb rv).keeps λc ys ec=>?_,q,es,ep,hq,h2,h3,h4,h5⟩;rw [upd_ne (ztr ec e (λz=>nomatch z))];exact ec
end
def NoSl (i:Expr):Prop:=∀ ov iv,subscripted i false ov iv = operate [ov,iv] (getItem ov iv)
theorem zmr {prog:Program} {w:World} {A:Around} {E:Value->Shared->Prop} {s:Shared} {env:Env} {value slice:Expr} {pos:Pos} {T id:String} {Q:Value->Shared->Prop}
  (hl:typeLookup (.type T) "__getitem__" = pure (some (.builtin id))) (hs:NoSl slice)
  (h:wpAny (model prog w) A (eval value env) (λo s₁=>wpAny (model prog w) A (eval slice env) (λi s₂=>s₂.TypeIs o T/\wpAny (model prog w) A (getItem o i) Q E s₂) E s₁) E s) :
  wpAny (model prog w) A (eval (.Subscript value slice pos) env) Q E s:=by
 refine Subscript_ (YAT h (λo s₁ h₁=>YAT h₁ (λi s₂ h₂=>?_) λ_ _ x=>x) λ_ _ x=>x);obtain ⟨hT,h₂⟩:=h₂;unfold subscriptTail;refine YAa ?_;rw [getitemInPython_of_ne hT.not_modules];refine YAa (YCA hT hl ?_);have fin:wpAny (model prog w) A (subscripted slice false o i) (λr s₃=>wpAny (model prog w) A (letTemporaryGo value o r >>= λ_=>pure r) Q E s₃) E s₂:=by
  rw [hs o i];exact wpAny_operating (YAT h₂ (λr s₃ h₃=>YAa (wpAny_letTemporaryGo (YAe h₃))) λ_ _ x=>x)
 first
  | exact YAe (YAa fin)
  | exact YAa (YAe (YAa fin))
  | exact YAa fin
theorem zj1     (I:Inv X pins σ H s) (g:DGet H a y o):s.TypeIs (.ref a) "dict" := by
 rcases g with ⟨kvs,k,e,_,_⟩ | ⟨kvs,k,b,e,_,_,_⟩
 ·obtain ⟨_,_,vs,_,dd⟩:=zmM I.hok e;exact dd.typeIs
 ·obtain ⟨_,_,xs,_,dd⟩:=zqq I.hok e;exact dd.typeIs
def zty (td ty:TE):TE:=λσ H Q=>td σ H λx H1=>ty σ H1 λy H2=>∃ a v,x = .ref a/\DGet H2 a y (some v)/\Q v H2
def ztn (td ty tv:TE):TS:=λD σ H=>tv σ H λv H1=>td σ H1 λx H2=>ty σ H2 λy H3=>∃ a H4,x = .ref a/\DPut H3 a y v H4/\D.nx σ H4
def zsS (td ty tv:TE) (rd:V->V->Hp->VK->Prop):TS:=λD σ H=>td σ H λx H1=>ty σ H1 λy H2=>∃ a v,x = .ref a/\DGet H2 a y (some v) /\
 tv σ H2 λy2 H3=>rd v y2 H3 λz H4=>∃ H5,DPut H4 a y z H5/\D.nx σ H5
section
variable {X:Cx} {o i e value:Expr} {pos pos' tpos:Pos} {td ty tv:TE}
theorem zl9 (hu:X.A.units + 1 < cLine) (ho:PE X o td) (hi:PE X i ty) (hs:NoSl i):PE X (.Subscript o i pos) (zty td ty):=by
 intro pins s σ H Q I h;refine zmr PySem.F.slot_dict_getitem.lookup hs (thn (ho pins s σ H _ I h) λu s1 ⟨x,H1,I1,rx,q1⟩=>thn (hi pins s1 σ H1 _ I1 q1) λiv s2 ⟨y,H2,I2,ry,a,v,ex,g,q2⟩=>?_);subst ex;obtain rfl:u = Value.ref a:=rx;exact ⟨zj1 I2 g,zit hu I2 g ry λw' s3 I3 rw'=>⟨v,H2,I3,rw',q2⟩⟩
theorem zjV (hu:X.A.units + 1 < cLine) (ho:PE X o td) (hi:PE X i ty) (hv:PE X value tv) (hs:swapsWith value (some (.Subscript o i pos')) pos.line X.env = pure false) :
  PS X (.Assign [.Subscript o i pos'] value pos) (ztn td ty tv):=by
 intro pins s σ H D I h;refine wpAny_Assign_Subscript (thn (hv pins s σ H _ I h) λr s1 ⟨v,H1,I1,rv,q1⟩=>thn (ho pins s1 σ H1 _ I1 q1) λu s2 ⟨x,H2,I2,rx,q2⟩=>thn (hi pins s2 σ H2 _ I2 q2) λiv s3 ⟨y,H3,I3,ry,a,H4,ex,g,q3⟩=>?_) hs;subst ex;obtain rfl:u = Value.ref a:=rx;exact zi5 hu I3 g ry rv λs4 I4=>⟨σ,H4,I4,q3⟩
theorem zpT  (hu:X.A.units + 1 < cLine) (ho:PE X o td) (hi:PE X i ty) (hv:PE X value tv) (hop:InOp X op rd)
  (ha:∀ ov iv new,augStore i ov iv new = (do holding [new,ov,iv] (setItem ov iv new);release [new,ov,iv] [];pure .next)):PS X (.AugAssign (.Subscript o i tpos) op value pos) (zsS td ty tv rd):=by
 intro pins s σ H D I h;refine wpAny_AugAssign_SubscriptAny (thn (ho pins s σ H _ I h) λu s1 ⟨x,H1,I1,rx,q1⟩=>thn (hi pins s1 σ H1 _ I1 q1) λiv s2 ⟨y,H2,I2,ry,a,v,ex,g,q2⟩=>?_) ha;subst ex;obtain rfl:u = Value.ref a:=rx;refine zit hu I2 g ry λw' s3 I3 rw'=>thn (hv pins s3 σ H2 _ I3 q2) λw2 s4 ⟨y2,H3,I4,ry2,q3⟩=>thn (hop pins s4 σ H3 v y2 w' w2 _ I4 rw' ry2 q3) λw3 s5 ⟨z,H4,I5,rz,H5,g5,q4⟩=>?_;exact zi5 hu I5 g5 ry rz λs6 I6=>⟨σ,H5,I6,q4⟩
end
theorem zkA  (h:Heap) (hb:sysModules < h.objs.size):ObjOk P w H (h.push { cls:=.type "dict",data:=.dict #[] }) h.objs.size (.dK []):=
 ⟨YBv _,YAL.mpr (YAO (YAr hb)),[],.nil,Heap.DictOf.new h⟩
def zsw:TE:=λ_ H Q=>∀ p,H p = none->Q (.ref p) (upd H p (.dK []))
section
variable {X:Cx} {pos:Pos}
theorem zok:PE X (.Dict [] [] pos) zsw:=λpins s σ H Q I h=>
 wpAny_Dict_empty ⟨.ref s.heap.objs.size,_,I.laid (a:=s.heap.objs.size) (o:=.dK []) (t':=s.toks) (λ_ _ q=>YAb _ q) (YAm _) (zkA s.heap I.big),rfl,h _ (I.hok.fresh (YAm _))⟩
end
def zkX:List (TE × TE)->St->Hp->(List (V × V)->Hp->Prop)->Prop
 | [],_,H,Q=>Q [] H
 | (tk,tv) :: r,σ,H,Q=>tk σ H λx H1=>tv σ H1 λy H2=>zkX r σ H2 λps H3=>Q ((x,y) :: ps) H3
abbrev VV:List (V × V)->List (Value × Value)->Prop:=Paired λp q=>RelV p.1 q.1/\RelV p.2 q.2
def PPs (X:Cx) (pos:Pos) (keys:List (Option Expr)) (values:List Expr) (trs:List (TE × TE)):Prop:=
 ∀ (pins:List (Addr × Obj)) (s:Shared) (σ:St) (H:Hp) (Q:List (V × V)->Hp->Prop),Inv X pins σ H s->zkX trs σ H Q ->
  wpAny (model X.prog X.w) X.A (evalPairs (pairTrees keys values X.env pos)) (λvs s'=>∃ ps H',Inv X pins σ H' s'/\VV ps vs/\Q ps H') X.xe s
theorem zqX  : PPs X pos [] [] []:=λpins s σ H Q I h=>pairTrees_nil_walk ⟨[],H,I,.nil,h⟩
theorem zny    (hk:PE X k tk) (hv:PE X v tv) (hr:PPs X pos ks vs trs) :
  PPs X pos (some k :: ks) (v :: vs) ((tk,tv) :: trs):=λpins s σ H Q I h=>
 pairTrees_cons_walk (thn (hk pins s σ H _ I h) λu s1 ⟨x,H1,I1,rx,q1⟩=>thn (hv pins s1 σ H1 _ I1 q1) λw2 s2 ⟨y,H2,I2,ry,q2⟩=>
  thn (hr pins s2 σ H2 _ I2 q2) λws s3 ⟨ps,H3,I3,rel,q3⟩=>⟨(x,y) :: ps,H3,I3,.cons ⟨rx,ry⟩ rel,q3⟩)
def zfl (kvs more:List (Key × V)):List (Key × V):=more.foldl (λacc kv=>putK acc kv.1 kv.2) kvs
theorem KV.merge:∀ {more:List (Key × V)} {rs:List (Key × Value)} {kvs:List (Key × V)} {vs:List (Key × Value)},KV more rs->KV kvs vs->KV (zfl kvs more) (merged vs rs):=by
 intro more rs kvs vs r;unfold KV at r
 induction r generalizing kvs vs with
 | nil=>intro q;exact q
 | @cons p q ps qs h t ih=>
  intro r0;have e:KV (putK kvs p.1 p.2) (stored vs q.1 q.2):=by
   have:=r0.put p.1 h.2
   rw [<- h.1];exact this
  exact ih e
theorem zeP:∀ (more kvs:List (Key × V)),(zfl kvs more).length <= kvs.length + more.length
 | [],kvs=>by show kvs.length <= kvs.length + 0;omega
 | p :: r,kvs=>by
  have h1:=zeP r (putK kvs p.1 p.2);have h2:=zer kvs p.1 p.2;show (zfl (putK kvs p.1 p.2) r).length <= _;rw [YAz];omega
theorem zgY  : ∀ {kvs:List (Key × V)} {ws:List (Value × Value)},VV (kvs.map λkv=>(kV kv.1,kv.2)) ws->∃ rs,Carries (zaS P w) ws rs/\KV kvs rs
 | [],_,r=>by rw [YAK] at r;cases r;exact ⟨[],True.intro,.nil⟩
 | p :: kvs,_,r=>by
  rw [YAg] at r;cases r with
  | @cons a b as bs h t=>
   obtain ⟨rs,c,q⟩:=zgY (P:=P) (w:=w) t;obtain ⟨b1,b2⟩:=b;exact ⟨(p.1,b2) :: rs,⟨zmF h.1,rfl,c⟩,.cons ⟨rfl,h.2⟩ q⟩
def zs1 (trs:List (TE × TE)):TE:=λσ H Q=>∀ p,H p = none->zkX trs σ (upd H p (.dK [])) λps H2=>H2 p = some (.dK [])/\∃ kvs:List (Key × V),ps = kvs.map (λkv=>(kV kv.1,kv.2))/\kvs.length <= 15/\Q (.ref p) (upd H2 p (.dK (zfl [] kvs)))
theorem zqJ   (h:PPs X pos keys values trs) (hall:keys.all (·.isSome) = true) (hl:keys.length = values.length) (h0:keys ≠ [])
  (h15:keys.length <= 15):PE X (.Dict keys values pos) (zs1 trs):=by
 intro pins s σ H Q I q;have hn:=I.hok.fresh (YAm s.heap.objs.size);have I1:=I.laid (a:=s.heap.objs.size) (o:=.dK []) (h':=s.heap.push { cls:=.type "dict",data:=.dict #[] }) (t':=s.toks) (λ_ _ q=>YAb _ q) (YAm _) (zkA s.heap I.big);refine wpAny_Dict_walk (knd:=zaS X.prog X.w) hall hl h0 h15 (thn (h pins _ σ _ _ I1 (q _ hn)) λws s2 ⟨ps,H2,I2,rel,e,kvs,ep,lk,q2⟩=>?_);subst ep;obtain ⟨rs,c,rk⟩:=zgY (P:=X.prog) (w:=X.w) rel;obtain ⟨z,hd,vs0,r0,dd⟩:=zsr I2.hok e;cases r0;refine ⟨rs,c,dd,λh' dd' hs=>⟨.ref s.heap.objs.size,_,?_,rfl,q2⟩⟩;have hz:(zfl [] kvs).length <= sizeLine:=by
  have h1:=zeP kvs [];rw [List.length_nil] at h1;rw [YAQ];omega
 have he:∃ q,h'.get? s.heap.objs.size = some q:=let ⟨q,_,_,hq,_⟩:=dd';⟨q,hq⟩
 exact zjG I2 (by rw [e];exact True.intro) hs he (zmu hz hd (rk.merge .nil) dd')
section
variable {X:Cx} {pins:List (Addr × Obj)} {σ:St} {H:Hp} {s:Shared} {a:Addr} {kvs:List (Key × V)} {A:Around} {E:Value->Shared->Prop}
theorem zn1 (I:Inv X pins σ H s) (e:Rd H a (.dK kvs)) (h:∀ p s',H p = none->Inv X pins σ (upd H p (.dK kvs)) s'->Q (.ref p) s'):wpAny (model X.prog X.w) A (call (.type "dict") [.ref a]) Q E s:=by
 obtain ⟨z,hd,vs,rel,dd⟩:=zmM I.hok e;refine kt_call_dict hd dd (by rw [<- rel.length];exact z) λh' dd' hs=>?_;refine h _ _ (I.hok.fresh (YAm _)) (I.laid (a:=s.heap.objs.size) (o:=.dK kvs) (t':=s.toks) (λb q hq=>?_) (YAm _) (zmu z (YAL.mpr (YAO (YAr I.big))) rel dd'));exact (hs.2 b (YAr (YAj hq))).trans (YAb _ hq)
end
section
variable {κ:Type} [DecidableEq κ]
theorem zqG {kvs:List (κ × V)} {k:κ} {v:V} (h:valV kvs k = some v):k ∈ kvs.map (·.1):=by
 have q:(kvs.any λkv=>decide (kv.1 = k)) = true:=by
  rw [zfw,h]
  all_goals rfl
 obtain ⟨p,hp,e⟩:=List.any_eq_true.mp q;exact YAS.mpr ⟨p,hp,YAZ e⟩
end
end L2
set_option maxHeartbeats 4000000
namespace L2
open PySem PySem.Spec PyProof.Rows
def zsy (σ:St):Option Nat->Option V
 | none=>none
 | some j=>(σ[j]?).join
def zdy (sub:List (Option Nat)) (σ:St):St:=sub.map (zsy σ)
theorem zh8 (sub:List (Option Nat)) (σ:St):(zdy sub σ).length = sub.length:=by unfold zdy;simp
theorem zhU {sub:List (Option Nat)} {σ:St} {i:Nat} {v:V} (h:(zdy sub σ)[i]? = some (some v)):∃ j,sub[i]? = some (some j)/\σ[j]? = some (some v):=by
 unfold zdy at h;rw [YAt] at h;cases e:sub[i]? with
 | none=>rw [e] at h;cases h
 | some o=>
  rw [e] at h;have h':zsy σ o = some v:=Option.some.inj h;cases o with
  | none=>cases h'
  | some j=>
   refine ⟨j,rfl,?_⟩;have h2:(σ[j]?).join = some v:=h';cases e2:σ[j]? with
   | none=>rw [e2] at h2;cases h2
   | some w=>rw [e2] at h2;exact congrArg some h2
def zh6 (N:List Str) (osc sc:Scope) (Nc:List Str) (sub:List (Option Nat)):Bool:=
 decide (sc.kind = .function) && sc.names.all (λy=>decide (y.2 ≠ .cell)) && sc.names.all (λy=>!decide (y.2 = .local) || decide (sc.names.lookup y.1 = some .local)) && decide (sub.length = Nc.length) &&
 (Nc.zip sub).all (λp=>match p.2 with | none=>true | some j=>decide (N[j]? = some p.1) && decide (sc.names.lookup p.1 = some .free)) &&
 sc.names.all (λy=>!decide (y.2 = .free) || (decide (osc.names.lookup y.1 = some .cell) || decide (osc.names.lookup y.1 = some .free)))
structure CompScope (N:List Str) (osc sc:Scope) (Nc:List Str) (sub:List (Option Nat)):Prop where
 kind:sc.kind = .function
 nocell:∀ y ∈ sc.names,y.2 ≠ .cell
 names:∀ y ∈ sc.names,y.2 = .local->sc.names.lookup y.1 = some .local
 len:sub.length = Nc.length
 vis:∀ (i j:Nat) (x:Str),Nc[i]? = some x->sub[i]? = some (some j)->N[j]? = some x/\sc.names.lookup x = some .free
 frees:∀ y ∈ sc.names,y.2 = .free->osc.names.lookup y.1 = some .cell\/osc.names.lookup y.1 = some .free
theorem CompScope.of {N:List Str} {osc sc:Scope} {Nc:List Str} {sub:List (Option Nat)} (h:zh6 N osc sc Nc sub = true):CompScope N osc sc Nc sub:=by
 unfold zh6 at h;simp only [YAA,YBG,decide_eq_true_eq,Bool.or_eq_true,Bool.not_eq_true',decide_eq_false_iff_not] at h;obtain ⟨⟨⟨⟨⟨h1,h2⟩,h3⟩,h4⟩,h5⟩,h6⟩:=h;refine ⟨h1,h2,λy hy e=>(h3 y hy).elim (λz=>absurd e z) id,h4,λi j x e1 e2=>?_,λy hy e=>(h6 y hy).elim (λz=>absurd e z) id⟩;have hz:(Nc.zip sub)[i]? = some (x,some j):=by
  rw [List.getElem?_zip_eq_some];exact ⟨e1,e2⟩
 have q:=h5 (x,some j) (List.mem_of_getElem? hz);simp only [YAA,decide_eq_true_eq] at q;exact q
def clOf (cells:List (Str × Addr)):List (Str × NameKind)->List (Str × Addr)->List (Str × Addr)
 | [],acc=>acc
 | (n,k) :: r,acc=>clOf cells r (if k = .free then (n,(cells.lookup n).getD 0) :: acc else acc)
theorem zhi:∀ (names:List (Str × NameKind)) (acc:List (Str × Addr)),(∀ y ∈ names,y.2 = .free->∃ c,env.cells.lookup y.1 = some c) ->
  (forIn names acc λx r=>match x with | (name,kind)=>if (kind == NameKind.free) = true then do let a <- cellOf env name;pure (ForInStep.yield ((name,a) :: r)) else pure (ForInStep.yield r):Sem (List (Str × Addr))) = pure (clOf env.cells names acc):=by
 intro names
 induction names with
 | nil=>intro acc _;rfl
 | cons y r ih=>
  intro acc h;obtain ⟨n,k⟩:=y;have ih':=ih (if k = .free then (n,(env.cells.lookup n).getD 0) :: acc else acc) λy hy=>h y (YAf _ hy);rw [YCf];by_cases hk:k = .free
  ·subst hk;obtain ⟨c,hc⟩:=h (n,.free) YAs rfl;have e1:cellOf env n = pure c:=by unfold cellOf;rw [hc]
   simp only [beq_self_eq_true,YBU,e1,pure_bind];unfold clOf;rw [hc] at ih' ⊢
   simpa using ih'
  ·have hb:(k == NameKind.free) = false:=by simpa using hk
   simp only [hb,YA7,YBE,pure_bind];unfold clOf;rw [if_neg hk] at ih' ⊢;exact ih'
theorem zoI:∀ (names:List (Str × NameKind)) (acc:List (Str × Addr)),(∀ y ∈ names,y.2 = .free->∃ c,cells.lookup y.1 = some c)->(∀ p ∈ acc,cells.lookup p.1 = some p.2) ->
  ∀ p ∈ clOf cells names acc,cells.lookup p.1 = some p.2:=by
 intro names
 induction names with
 | nil=>intro acc _ h;exact h
 | cons y r ih=>
  intro acc h ha;obtain ⟨n,k⟩:=y;refine ih _ (λy hy=>h y (YAf _ hy)) ?_;by_cases hk:k = .free
  ·rw [if_pos hk];intro p hp;rcases YAu.mp hp with e | e
   ·subst e;obtain ⟨c,hc⟩:=h (n,k) YAs hk;show cells.lookup n = some ((cells.lookup n).getD 0);have hc':cells.lookup n = some c:=hc;rw [hc'];rfl
   ·exact ha p e
  ·rw [if_neg hk];exact ha
theorem zl2  : ∀ (names:List (Str × NameKind)) (acc:List (Str × Addr)),p ∈ acc->p ∈ clOf cells names acc:=by
 intro names
 induction names with
 | nil=>intro acc h;exact h
 | cons y r ih=>
  intro acc h;obtain ⟨n,k⟩:=y;refine ih _ ?_;by_cases hk:k = .free
  ·rw [if_pos hk];exact YAf _ h
  ·rw [if_neg hk];exact h
theorem znZ  : ∀ (names:List (Str × NameKind)) (acc:List (Str × Addr)),(x,NameKind.free) ∈ names->∃ c,(x,c) ∈ clOf cells names acc:=by
 intro names
 induction names with
 | nil=>intro acc h;cases h
 | cons y r ih=>
  intro acc h;obtain ⟨n,k⟩:=y;rcases YAu.mp h with e | e
  ·cases e;refine ⟨(cells.lookup x).getD 0,?_⟩;unfold clOf;refine zl2 _ _ ?_;rw [if_pos rfl];exact YAs
  ·exact ih _ e
theorem zew {α:Type} {x:Str} {c:α}:∀ {l:List (Str × α)},(x,c) ∈ l->∃ d,l.lookup x = some d
 | [],h=>by cases h
 | (y,d) :: r,h=>by
  by_cases e:x = y
  ·subst e;exact ⟨d,by simp [List.lookup]⟩
  ·have hb:(x == y) = false:=YAL.mpr e;rcases YAu.mp h with q | q
   ·cases q;exact absurd rfl e
   ·obtain ⟨d',q'⟩:=zew q;exact ⟨d',by simp only [List.lookup,hb];exact q'⟩
theorem zdG  (h:∀ y ∈ scope.names,y.2 = .free->∃ c,env.cells.lookup y.1 = some c) :
  ∃ cl,closureFor scope env = pure cl/\(∀ x c,cl.lookup x = some c->env.cells.lookup x = some c)/\∀ x,scope.names.lookup x = some .free->∃ c,cl.lookup x = some c:=by
 refine ⟨clOf env.cells scope.names [],?_,λx c e=>?_,λx e=>?_⟩
 ·unfold closureFor;show (forIn scope.names ([]:List (Str × Addr)) (λx r=>match x with | (name,kind)=>if (kind == NameKind.free) = true then do let a <- cellOf env name;pure (ForInStep.yield ((name,a) :: r)) else pure (ForInStep.yield r)) >>= λcs=>pure cs:Sem (List (Str × Addr))) = _;rw [zhi scope.names [] h,pure_bind]
 ·exact zoI scope.names [] h (λp hp=>nomatch hp) (x,c) (YAY e)
 ·obtain ⟨c,hc⟩:=znZ (cells:=env.cells) scope.names [] (YAY e);exact zew hc
theorem zcy {env:Env}:∀ {names:List (Str × NameKind)} {x:Str},names.lookup x = some .free ->
  (names.map λ(n,k)=>if (k == NameKind.free && env.scope.kind == .function && env.kindOf n == some .cell) then (n,NameKind.cell) else (n,k)).lookup x = some .cell \/
  (names.map λ(n,k)=>if (k == NameKind.free && env.scope.kind == .function && env.kindOf n == some .cell) then (n,NameKind.cell) else (n,k)).lookup x = some .free
 | [],_,h=>by simp at h
 | (n,k) :: r,x,h=>by
  have ih:=@zcy env r x;show List.lookup x ((if (k == NameKind.free && env.scope.kind == .function && env.kindOf n == some .cell) = true then (n,NameKind.cell) else (n,k)) :: _) = _\/List.lookup x ((if (k == NameKind.free && env.scope.kind == .function && env.kindOf n == some .cell) = true then (n,NameKind.cell) else (n,k)) :: _) = _;cases hx:x == n with
  | true=>
   simp only [YAI,hx] at h;cases h;by_cases hc:(NameKind.free == NameKind.free && env.scope.kind == .function && env.kindOf n == some .cell) = true
   ·rw [if_pos hc];left;simp only [YAI,hx]
   ·rw [if_neg hc];right;simp only [YAI,hx]
  | false=>
   simp only [YAI,hx] at h;by_cases hc:(k == NameKind.free && env.scope.kind == .function && env.kindOf n == some .cell) = true
   ·rw [if_pos hc];simp only [YAI,hx];exact ih h
   ·rw [if_neg hc];simp only [YAI,hx];exact ih h
theorem zdD {env:Env}:∀ {names:List (Str × NameKind)} {x:Str},(∀ y ∈ names,y.2 ≠ .cell) ->
  ((names.map λ(n,k)=>if (k == NameKind.free && env.scope.kind == .function && env.kindOf n == some .cell) then (n,NameKind.cell) else (n,k)).lookup x = some .cell \/
  (names.map λ(n,k)=>if (k == NameKind.free && env.scope.kind == .function && env.kindOf n == some .cell) then (n,NameKind.cell) else (n,k)).lookup x = some .free)->names.lookup x = some .free
 | [],_,_,h=>by simp at h
 | (n,k) :: r,x,nc,h=>by
  have ih:=@zdD env r x λy hy=>nc y (YAf _ hy);have nk:k ≠ .cell:=nc (n,k) YAs;have h':List.lookup x ((if (k == NameKind.free && env.scope.kind == .function && env.kindOf n == some .cell) = true then (n,NameKind.cell) else (n,k)) :: (r.map λ(n,k)=>if (k == NameKind.free && env.scope.kind == .function && env.kindOf n == some .cell) then (n,NameKind.cell) else (n,k))) = some .cell\/List.lookup x ((if (k == NameKind.free && env.scope.kind == .function && env.kindOf n == some .cell) = true then (n,NameKind.cell) else (n,k)) :: (r.map λ(n,k)=>if (k == NameKind.free && env.scope.kind == .function && env.kindOf n == some .cell) then (n,NameKind.cell) else (n,k))) = some .free:=h;clear h;by_cases hc:(k == NameKind.free && env.scope.kind == .function && env.kindOf n == some .cell) = true
  ·rw [if_pos hc] at h';have kf:k = .free:=by
    rw [YAA,YAA] at hc;exact YCa.mp hc.1.1
   cases hx:x == n with
   | true=>simp only [YAI,hx];rw [kf]
   | false=>simp only [YAI,hx] at h' ⊢;exact ih h'
  ·rw [if_neg hc] at h';cases hx:x == n with
   | true=>
    simp only [YAI,hx] at h' ⊢;rcases h' with e | e
    ·exact absurd (Option.some.inj e) nk
    ·exact e
   | false=>simp only [YAI,hx] at h' ⊢;exact ih h'
def zaU (X:Cx) (Nc:List Str) (scope:Scope) (cl:List (Str × Addr)) (L:Addr) (s₀:Shared) (H₀:Hp) (ex:List Addr):Cx:=
 { X with N:=Nc,s₀:=s₀,H₀:=H₀,env:=compEnvC scope cl L X.env,outer:=X.stack,ex:=ex,fn:=λ_=>false,pn:=[],xe:=λ_ _=>False }
def zj0 (sub:List (Option Nat)) (g:TG):Prop:=∀ v σ H (Q:St->Hp->Prop),g v σ H Q->g v σ H λσ2 H2=>Q σ2 H2/\∀ (i j:Nat),sub[i]? = some (some j)->σ2[i]? = σ[i]?
def zig (sub:List (Option Nat)) (g:TGs):Prop:=∀ v σ H (Q:St->Hp->Prop),g v σ H Q->g v σ H λσ2 H2=>Q σ2 H2/\∀ (i j:Nat),sub[i]? = some (some j)->σ2[i]? = σ[i]?
theorem zqS  (h:sub[i]? = some none):zj0 sub (ziM i):=λv σ H Q q=>by
 refine ⟨q,λk j e=>?_⟩;have ne:i ≠ k:=λz=>by subst z;rw [h] at e;cases e
 rw [YAi ne]
theorem zp6:zig sub gNil:=λ_ _ _ _ ⟨e,q⟩=>⟨e,q,λ_ _ _=>rfl⟩
def ziK (g:TG):Prop:=∀ v σ H (Q Q':St->Hp->Prop),(∀ σ2 H2,Q σ2 H2->Q' σ2 H2)->g v σ H Q->g v σ H Q'
def zgI (g:TGs):Prop:=∀ v σ H (Q Q':St->Hp->Prop),(∀ σ2 H2,Q σ2 H2->Q' σ2 H2)->g v σ H Q->g v σ H Q'
theorem zqs:ziK (ziM i):=λ_ _ _ _ _ f q=>f _ _ q
theorem zqj:zgI gNil:=λ_ _ _ _ _ f ⟨e,q⟩=>⟨e,f _ _ q⟩
theorem zoB  (h1:ziK t) (h2:zgI u):zgI (zob t u):=λv σ H Q Q' f ⟨x,r,e,q⟩=>⟨x,r,e,h1 _ _ _ _ _ (λσ2 H2 z=>h2 _ _ _ _ _ f z) q⟩
theorem zon  (h1:zj0 sub t) (m1:ziK t) (h2:zig sub u) (m2:zgI u):zig sub (zob t u):=λv σ H Q ⟨x,r,e,q⟩=>by
 refine ⟨x,r,e,?_⟩;refine m1 _ _ _ _ _ (λσ2 H2 z=>?_) (h1 _ _ _ _ q);obtain ⟨z,k⟩:=z;refine m2 _ _ _ _ _ (λσ3 H3 y=>?_) (h2 _ _ _ _ z);exact ⟨y.1,λi j e=>(y.2 i j e).trans (k i j e)⟩
def PIfs (X:Cx) (ifs:List Expr) (t:TT):Prop:=
 ∀ (pins:List (Addr × Obj)) (s:Shared) (σ:St) (H:Hp) (Q:Bool->Hp->Prop),Inv X pins σ H s->t σ H Q ->
  wpAny (model X.prog X.w) X.A (forIn ifs true λc r=>if r = true then do let ok <- isTrue c X.env (eval c X.env);pure (ForInStep.yield ok) else pure (ForInStep.yield r)) (TP X pins σ Q) X.xe s
def zs9:TT:=λ_ H Q=>Q true H
theorem pif0:PIfs X [] zs9:=λ_ _ _ H _ I h=>wpAny_tests_nil ⟨H,I,h⟩
theorem pif1  (h:PT X c t):PIfs X [c] t:=λpins s σ H Q I q=>wpAny_tests_one (h pins s σ H Q I q)
def zpA (g:TG) (tc:TT) (te:TE) (σc:St) (l:Addr) (J:It) (H1:Hp) (Q:VK):Prop:=
 ∃ W:Nat->Nat->List V->Hp->Prop,(∃ m,W 0 m [] (upd H1 l (.lst [])))/\∀ i m xs H2,W i m xs H2->H2 l = some (.lst xs) /\
  ((J.stop i H2/\Q (.ref l) H2)\/(J.go i H2/\∃ N:List V->Hp->Prop,(∀ xs' H',N xs' H'->∃ m',m' < m/\W (i + 1) m' xs' H') /\
   ∀ x H',J.yld i H2 x H'->g x σc H' λσ2 H3=>tc σ2 H3 λb H4=>if b = true then te σ2 H4 λy H5=>H5 l = some (.lst xs)/\xs.length < sizeLine/\N (xs ++ [y]) (upd H5 l (.lst (xs ++ [y]))) else N xs H4))
def zma (sub:List (Option Nat)) (wi:TI) (g:TG) (tc:TT) (te:TE):TE:=λσ H Q=>wi σ H λJ H1=>∀ l,H1 l = none->zpA g tc te (zdy sub σ) l J H1 Q
section
variable {X:Cx} {pins:List (Addr × Obj)} {σ:St} {H:Hp} {s:Shared} {scope:Scope} {Nc:List Str} {sub:List (Option Nat)} {elt tg iter:Expr} {ifs:List Expr} {pos:Pos} {g:TG} {tc:TT} {te:TE}
theorem zno {cl:List (Str × Addr)} {fp:List Addr} {it:Addr} {J:It} {tn:Nat->Heap->Prop} (I:Inv X pins σ H s) (hS:CompScope X.N X.env.scope scope Nc sub)
  (hcl:∀ x c,cl.lookup x = some c->X.env.cells.lookup x = some c) (hcl2:∀ x,scope.names.lookup x = some .free->∃ c,cl.lookup x = some c)
  (hf:∀ b ∈ fp,FpOk X pins H b) (hlt:∀ b ∈ fp,b < s.heap.objs.size):(zaU X Nc scope cl s.heap.objs.size s H fp).Ok where
 mod:=I.ok.mod
 kind:=hS.kind
 glob:=I.ok.glob
 blt:=I.ok.blt
 above:=YAm _
 inj:=λx y c e1 e2=>I.ok.inj x y c (hcl x c e1) (hcl y c e2)
 has:=λx h=>hcl2 x (zdD (env:=X.env) hS.nocell h)
 cab:=λx c h=>by cases h
 hd:=I.ok.hd
 frames:=I.ok.frames
 stk:=.inl rfl
 exf:=λb hb=>⟨YAr (hlt b hb),λx c e=>(hf b hb).2.2.2.2.1 x c (hcl x c e)⟩
 bs:=I.bs
 bsz:=YAB I.ok.bsz I.sz
 noex:=λb o e hb=>by
  rcases (hf b hb).2.2.2.1 with z | z
  ·exact I.ok.noex b o e z
  ·exact absurd (YAo (YAj e) (YAB I.ok.bsz z)) (YA2 _)
 exfs:=λb hb hq=>by
  rcases YAu.mp (I.stkSub b hq) with z | z
  ·exact (hf b hb).2.1 z
  ·exact (hf b hb).2.2.1 z
 funs:=I.stack
 frf:=I.stkFree
theorem zim {cl:List (Str × Addr)} {fp:List Addr} {h1:Heap} {t':Nat} {m:Str->Option Value} (I:Inv X pins σ H s) (hS:CompScope X.N X.env.scope scope Nc sub)
  (hcl:∀ x c,cl.lookup x = some c->X.env.cells.lookup x = some c) (hcl2:∀ x,scope.names.lookup x = some .free->∃ c,cl.lookup x = some c)
  (ok:(zaU X Nc scope cl s.heap.objs.size s H fp).Ok) (hn:h1.Ns s.heap.objs.size m) (hk:∀ b o,s.heap.get? b = some o->h1.get? b = some o) :
  Inv (zaU X Nc scope cl s.heap.objs.size s H fp) [] (zdy sub σ) H { s with heap:=h1,toks:=t' } where
 ok:=ok
 os:=rfl
 bare:=I.bare
 base:=Un.kept hk
 loc:=by
  refine ⟨m,hn,λi x v e1 e2 _=>?_⟩;obtain ⟨j,e3,e4⟩:=zhU e2;obtain ⟨e5,e6⟩:=hS.vis i j x e1 e3;obtain ⟨m',_,hl⟩:=I.loc;have hfr:X.env.kindOf x = some .cell\/X.env.kindOf x = some .free:=hS.frees (x,.free) (YAY e6) rfl;obtain ⟨u,r,l⟩:=hl j x v e5 e4 (.inr hfr);refine ⟨u,r,?_⟩;rcases l with ⟨k,_⟩ | ⟨_,c,e,z⟩
  ·rcases hfr with q | q
   ·rw [k] at q;cases q
   ·rw [k] at q;cases q
  ·obtain ⟨c',e'⟩:=hcl2 x e6
   have:=hcl x c' e'
   rw [e] at this;cases this;exact .inr ⟨zcy (env:=X.env) e6,c,e',z.keeps hk⟩
 cell:=λx c e=>by
  obtain ⟨v,z⟩:=I.cell x c (hcl x c e);exact ⟨v,z.keeps hk⟩
 free:=I.hok.fresh (YAm _)
 freeC:=λx c e=>I.freeC x c (hcl x c e)
 pin:=λp hp=>absurd (show p ∈ ([]:List (Addr × Obj)) from hp) (by simp)
 hok:=I.hok.kept hk
 len:=(zh8 sub σ).trans hS.len
theorem zll {cl:List (Str × Addr)} {fp:List Addr} {pinsC:List (Addr × Obj)} {σc:St} {H':Hp} {s':Shared} (I:Inv X pins σ H s) (hf:∀ b ∈ fp,FpOk X pins H b)
  (J:Inv (zaU X Nc scope cl s.heap.objs.size s H fp) pinsC σc H' s'):Inv X pins σ H' s':=
 I.call' (ch:=fp) J.os J.base J.hok J.bare λb hb=>⟨(hf b hb).2.2.2.1,(hf b hb).2.1,(hf b hb).2.2.2.2.1,(hf b hb).2.2.2.2.2⟩
theorem zkH {cl:List (Str × Addr)} {fp:List Addr} {it:Addr} {J:It} {tn:Nat->Heap->Prop} {E:Value->Shared->Prop} {Q:VK} {RR:Value->Addr->Result->Shared->Prop}
  (hc:X.calm = true) (I:Inv X pins σ H s) (hS:CompScope X.N X.env.scope scope Nc sub)
  (hcl:∀ x c,cl.lookup x = some c->X.env.cells.lookup x = some c) (hcl2:∀ x,scope.names.lookup x = some .free->∃ c,cl.lookup x = some c)
  (T:Turn X.prog X.w X.K tg J fp it tn) (st:tn 0 s.heap) (hf:∀ b ∈ fp,FpOk X pins H b)
  (hg:∀ cl L s0 H0 ex,PG (zaU X Nc scope cl L s0 H0 ex) tg g) (gk:zj0 sub g)
  (hi:∀ cl L s0 H0 ex,PIfs (zaU X Nc scope cl L s0 H0 ex) ifs tc) (he:∀ cl L s0 H0 ex,PE (zaU X Nc scope cl L s0 H0 ex) elt te)
  (gm:ziK g) (q:∀ l,H l = none->zpA g tc te (zdy sub σ) l J H Q)
  (hRR:∀ l C H' s' m,Inv X pins σ H' s'->Q (.ref l) H'->s'.heap.Ns C m->s.heap.objs.size <= C->H' C = none->RR (.ref l) C (.ok .next) s') :
  wpAny (model X.prog X.w) X.A (newList []) (λacc s₃=>wpAny (model X.prog X.w) X.A (newFunctionEnv scope X.env.globals cl [] X.env.qual none .none (some X.env)) (λcenv s₄=>
   codeAny (model X.prog X.w) X.A (.compStart (.ListComp elt [⟨tg,iter,ifs,0⟩] scope pos) 0 (.ref it) acc { cenv with scope:=relabel scope X.env }) (RR acc cenv.locals) s₄) E s₃) E s:=by
 have hlt:∀ b ∈ fp,b < s.heap.objs.size:=λb hb=>let ⟨o,e,_⟩:=T.obj _ _ st b hb;YAj e
 have hl0:H s.heap.objs.size = none:=I.hok.fresh (YAm _);obtain ⟨W,⟨m0,w0⟩,turn⟩:=q s.heap.objs.size hl0;refine YAN ?_
 -- the list is laid
 have I3:Inv X pins σ (upd H s.heap.objs.size (.lst [])) { s with heap:=s.heap.push { cls:=.type "list",data:=.seq ([]:List Value).toArray },toks:=s.toks }:=I.lnew (its:=[]) .nil (YBv _);generalize hs3:({ s with heap:=s.heap.push { cls:=.type "list",data:=.seq ([]:List Value).toArray },toks:=s.toks }:Shared) = s3 at I3;have e3:({ s with heap:=s.heap.push { cls:=.type "list",data:=.seq ([]:List Value).toArray } }:Shared) = s3:=hs3;have k3:∀ b o,s.heap.get? b = some o->s3.heap.get? b = some o:=λb o e=>by rw [<- hs3];exact YAb _ e
 have z3:s.heap.objs.size <= s3.heap.objs.size:=by rw [<- hs3];show _ <= (s.heap.push _).objs.size;rw [YBr];exact Nat.le_succ _
 have f3:∀ b ∈ fp,FpOk X pins (upd H s.heap.objs.size (.lst [])) b:=λb hb=>⟨by rw [upd_ne (YAr (hlt b hb))];exact (hf b hb).1,(hf b hb).2⟩;have lt3:∀ b ∈ fp,b < s3.heap.objs.size:=λb hb=>YAo (hlt b hb) z3;have st3:tn 0 s3.heap:=T.keep _ _ _ st λb _ o e=>k3 b o e;refine wpAny_newFunctionEnv hS.nocell (by intro y hy;simp at hy) (λh₁ hns₁ hsb₁=>?_) hS.kind;have k4:∀ b o,s3.heap.get? b = some o->h₁.get? b = some o:=λb o e=>hsb₁.extBut b o (YAr (YAj e)) (YAb _ e);have ok4:=zno (J:=J) (it:=it) (tn:=tn) I3 hS hcl hcl2 f3 lt3;have I4:=zim (t':=s3.toks + ([]:List (Str × Value)).length) I3 hS hcl hcl2 ok4 hns₁ k4;have st4:tn 0 h₁:=T.keep _ _ _ st3 λb _ o e=>k4 b o e
 -- what stays true of the iterator's objects
 have stat:∀ {H':Hp},(∀ b ∈ fp,H' b = none)->∀ b ∈ fp,FpOk (zaU X Nc scope cl s3.heap.objs.size s3 (upd H s.heap.objs.size (.lst [])) fp) [] H' b:=λhn b hb=>
  ⟨hn b hb,(ok4.exf b hb).1,ok4.exfs b hb,.inl hb,(ok4.exf b hb).2,λp hp=>absurd (show p ∈ ([]:List (Addr × Obj)) from hp) (by simp)⟩
 have loop:∀ s₄:Shared,s₄ = { s3 with heap:=h₁,toks:=s3.toks + ([]:List (Str × Value)).length } ->
   codeAny (model X.prog X.w) X.A (.compLoop (.ListComp elt [⟨tg,iter,ifs,0⟩] scope pos) 0 (.ref it) (.ref s.heap.objs.size) (compEnvC scope cl s3.heap.objs.size X.env)) (RR (.ref s.heap.objs.size) s3.heap.objs.size) s₄:=by
  rintro s₄ rfl;refine codeAny_loop rfl (λn s'=>∃ i xs H',Inv (zaU X Nc scope cl s3.heap.objs.size s3 (upd H s.heap.objs.size (.lst [])) fp) [] (zdy sub σ) H' s'/\tn i s'.heap/\(∀ b ∈ fp,H' b = none)/\W i n xs H') ?_ m0
   ⟨0,[],_,I4,st4,λb hb=>(f3 b hb).1,w0⟩
  rintro n s5 ⟨i,xs,H5,I5,st5,fr5,w5⟩;show wpAny _ X.A ((compTurn (.ListComp elt [⟨tg,iter,ifs,0⟩] scope pos) 0 (.ref it) (.ref s.heap.objs.size) (compEnvC scope cl s3.heap.objs.size X.env)).onRaise (λx=>do noteFrame x (compEnvC scope cl s3.heap.objs.size X.env);theTreesLotGoes x)) _ _ s5;refine wpAny_noted ?_;rw [compTurn_list];refine YAa (YB5 (YAa ?_));obtain ⟨hl5,w5⟩:=turn i n xs H5 w5;rcases w5 with ⟨stop,qn⟩ | ⟨go,N,hN,step⟩
  ·refine thn (T.done (zaU X Nc scope cl s3.heap.objs.size s3 (upd H s.heap.objs.size (.lst [])) fp) rfl rfl rfl hc i [] s5 (zdy sub σ) H5 _ I5 (stat fr5) st5 stop) λr s6 ⟨hr,I6⟩=>?_;subst hr;obtain ⟨m6,hn6,_⟩:=I6.loc;exact YAe (hRR _ _ H5 s6 m6 (zll I3 f3 I6) qn hn6 z3 I6.free)
  ·refine thn (T.item (zaU X Nc scope cl s3.heap.objs.size s3 (upd H s.heap.objs.size (.lst [])) fp) rfl rfl rfl hc i [] s5 (zdy sub σ) H5 _ I5 (stat fr5) st5 go) λr s6 ⟨u,hr,h6⟩=>?_;subst hr;refine YAa (thn h6 λ_ s7 ⟨x,H7,I7,r7,y7,st7,fr7⟩=>?_);have I7':=I7.pinned (stat fr7) (T.obj _ _ st7);have again:∀ {σ8:St} {H8:Hp} {ys:List V} {s8:Shared},Inv (zaU X Nc scope cl s3.heap.objs.size s3 (upd H s.heap.objs.size (.lst [])) fp) ([] ++ ziQ fp s7.heap) σ8 H8 s8->(∀ (i j:Nat),sub[i]? = some (some j)->σ8[i]? = (zdy sub σ)[i]?)->N ys H8 ->
     ∃ m,m < n/\∃ i xs H',Inv (zaU X Nc scope cl s3.heap.objs.size s3 (upd H s.heap.objs.size (.lst [])) fp) [] (zdy sub σ) H' s8/\tn i s8.heap/\(∀ b ∈ fp,H' b = none)/\W i m xs H':=λ{σ8 H8 ys s8} I8 k8 n8=>by
    obtain ⟨m',hm,w8⟩:=hN ys H8 n8;refine ⟨m',hm,i + 1,ys,H8,?_,T.keep _ _ _ st7 λb hb o e=>(I8.pin (b,o) (YAD _ (YAD _ (zd0 hb e)))).1,λb hb=>?_,w8⟩
    ·refine I8.unpinned.weak ?_ λk v e=>?_
     ·rw [I8.len];exact (zh8 sub σ).trans hS.len
     ·obtain ⟨j,e1,_⟩:=zhU e;rw [k8 k j e1];exact e
    ·obtain ⟨o,e,d⟩:=T.obj _ _ st7 b hb;exact (I8.pin (b,o) (YAD _ (YAD _ (zd0 hb e)))).2.1
   refine YAa (YAT (hg cl _ s3 _ fp _ s7 (zdy sub σ) H7 x u _ I7' r7 (gk _ _ _ _ (step x H7 y7))) (λ_ s8 ⟨σ8,H8,I8,q8,k8⟩=>?_) λ_ _ z=>False.elim z);refine YAa (YAT (hi cl _ s3 _ fp _ s8 σ8 H8 _ I8 q8) (λok s9 ⟨H9,I9,q9⟩=>?_) λ_ _ z=>False.elim z);cases ok with
   | false=>exact YAe ⟨rfl,again I9 k8 q9⟩
   | true=>
    refine YAa (YAa (YAT (he cl _ s3 _ fp _ s9 σ8 H9 _ I9 q9) (λxv s10 ⟨y,H10,I10,r10,hl10,hz,q10⟩=>?_) λ_ _ z=>False.elim z));refine YAa (YAT (zeS (X:=(zaU X Nc scope cl s3.heap.objs.size s3 (upd H s.heap.objs.size (.lst [])) fp)) _ s10 σ8 H10 (.ref s.heap.objs.size) [y] (.ref s.heap.objs.size) [xv] (λ_ H11=>N (xs ++ [y]) H11) I10 rfl (.cons r10 .nil) ⟨_,xs,y,rfl,rfl,hl10,hz,q10⟩) (λ_ s11 ⟨_,H11,I11,_,q11⟩=>?_) λ_ _ z=>False.elim z);exact YAe (YAe ⟨rfl,again I11 k8 q11⟩)
 exact codeAny_compStart_list (loop _ rfl) (T.self _ 0 _ _ _ st4 (loop _ rfl))
theorem zgH (I:Inv X pins σ H s) (hS:CompScope X.N X.env.scope scope Nc sub):∀ y ∈ scope.names,y.2 = .free->∃ c,X.env.cells.lookup y.1 = some c:=λy hy e=>
 I.ok.has y.1 (hS.frees y hy e)
theorem zn3 (hc:X.calm = true) (hS:CompScope X.N X.env.scope scope Nc sub) (hI:PI X tg iter wi)
  (hg:∀ cl L s0 H0 ex,PG (zaU X Nc scope cl L s0 H0 ex) tg g) (gk:zj0 sub g) (gm:ziK g)
  (hi:∀ cl L s0 H0 ex,PIfs (zaU X Nc scope cl L s0 H0 ex) ifs tc) (he:∀ cl L s0 H0 ex,PE (zaU X Nc scope cl L s0 H0 ex) elt te)
  (hs:∀ x,foldedSetIterable iter X.env x = pure x:=by intro _;rfl):PE X (.ListComp elt [⟨tg,iter,ifs,0⟩] scope pos) (zma sub wi g tc te):=by
 intro pins s σ H Q I h;obtain ⟨cl,hcl0,hcl,hcl2⟩:=zdG (zgH I hS);rw [eval_ListComp];refine wpAny_comprehension_free (use:=none) rfl hs hcl0 hS.kind hS.names ?_;refine thn (hI pins s σ H _ I h) λxv s1 h1=>thn h1 λitv s2 h2=>?_;obtain ⟨it,fp,tn,J,H2,e,I2,T,st2,f2,q⟩:=h2;subst e;refine zkH hc I2 hS hcl hcl2 T st2 f2 hg gk hi he gm q λl C H' s' m I' q' hn hC hfr=>?_;refine ⟨m,hn,λh' sb=>?_⟩;have nL:C ≠ X.env.locals:=YBx (YAo I2.lt hC);refine ⟨.ref l,H',?_,rfl,q'⟩;exact I'.turned (it:=C) (t':=s'.toks) (λb o hb e=>(sb.2 b hb).trans e) hfr nL (.inr (YAB I2.sz hC)) (λx c e z=>by
  obtain ⟨v,w⟩:=I2.cell x c e;exact absurd (YAo w.lt (by rw [z];exact hC)) (YA2 _)) λp hp z=>
  absurd (YAo (YAj (I2.pin p hp).1) (by rw [z];exact hC)) (YA2 _)
theorem zmT   (hc:X.calm = true) (hN:X.N.Nodup) (hiN:X.N[i]? = some y) (hy:X.env.scope.names.lookup y = some .local) (hS:CompScope X.N X.env.scope scope Nc sub) (hI:PI X tg iter wi)
  (hg:∀ cl L s0 H0 ex,PG (zaU X Nc scope cl L s0 H0 ex) tg g) (gk:zj0 sub g) (gm:ziK g)
  (hi:∀ cl L s0 H0 ex,PIfs (zaU X Nc scope cl L s0 H0 ex) ifs tc) (he:∀ cl L s0 H0 ex,PE (zaU X Nc scope cl L s0 H0 ex) elt te)
  (hsw:swapsWith (.ListComp elt [⟨tg,iter,ifs,0⟩] scope pos) (some (.Name y py)) spos.line X.env = pure true:=by rfl)
  (hs:∀ x,foldedSetIterable iter X.env x = pure x:=by intro _;rfl):PS X (.Assign [.Name y py] (.ListComp elt [⟨tg,iter,ifs,0⟩] scope pos) spos) (tAsg (zma sub wi g tc te) (ziM i)):=by
 intro pins s σ H D I h;obtain ⟨cl,hcl0,hcl,hcl2⟩:=zdG (zgH I hS);rw [exec_Assign_Name_used _ _ _ _ hsw];refine YAa (YB5 (YAa ?_));show wpAny _ X.A (do let _ <- comprehension (.ListComp elt [⟨tg,iter,ifs,0⟩] scope pos) scope X.env _ (newList []) false (eval iter X.env) (some (assign (.Name y py) X.env))) _ _ s;refine YAa (YAT (wpAny_comprehension_free (use:=some (assign (.Name y py) X.env)) (Q:=λ_ s'=>SP X pins D .next s') rfl hs hcl0 hS.kind hS.names
  (thn (hI pins s σ H _ I h) λxv s1 h1=>thn h1 λitv s2 h2=>?_)) (λ_ s' hq=>YAe (YAe hq)) λ_ _ e=>e)
 obtain ⟨it,fp,tn,J,H2,e,I2,T,st2,f2,q⟩:=h2;subst e;refine zkH hc I2 hS hcl hcl2 T st2 f2 hg gk hi he gm q λl C H' s' m I' q' hn hC hfr=>?_;have nL:C ≠ X.env.locals:=YBx (YAo I2.lt hC);show wpAny _ X.A (assign (.Name y py) X.env (.ref l)) _ _ _;refine wpAny_assign_Name (zib I' hN hiN (.inl hy) (v:=.ref l) rfl (λs6 I6 ⟨a,sb6,ha⟩=>?_) (.inr hy));have nA:C ≠ a:=λz=>by
  rcases ha with e | e
  ·exact nL (z.trans e)
  ·obtain ⟨v,w⟩:=I2.cell y a e;exact absurd (YAo w.lt (by rw [<- z];exact hC)) (YA2 _)
 refine ⟨m,hn.sameBut sb6 nA,λh' sb=>?_⟩;refine ⟨_,H',I6.turned (it:=C) (t':=s6.toks) (λb o hb e=>(sb.2 b hb).trans e) hfr nL (.inr (YAB I2.sz hC)) (λx c e z=>by
  obtain ⟨v,w⟩:=I2.cell x c e;exact absurd (YAo w.lt (by rw [z];exact hC)) (YA2 _)) (λp hp z=>
  absurd (YAo (YAj (I2.pin p hp).1) (by rw [z];exact hC)) (YA2 _)),q'⟩
end
end L2
set_option maxHeartbeats 1000000
namespace L2
open PySem PyProof.Rows
theorem zpn {M:Model} {A:Around} {E:Value->Shared->Prop} {s:Shared} {α:Type} {c:Prop} [Decidable c] {x y:Sem α} {Q:α->Shared->Prop} (hc:c) (h:wpAny M A x Q E s):wpAny M A (if c then x else y) Q E s:=by rw [if_pos hc];exact h
theorem zgq {M:Model} {A:Around} {E:Value->Shared->Prop} {s:Shared} {α:Type} {c:Prop} [Decidable c] {x y:Sem α} {Q:α->Shared->Prop} (hc:¬ c) (h:wpAny M A y Q E s):wpAny M A (if c then x else y) Q E s:=by rw [if_neg hc];exact h
end L2
namespace L2
open PySem PySem.Spec PyProof.Rows
section
variable {X:Cx}
inductive IsI (K:PySem.W.Frag) (H:Hp):V->String->Bool->Prop
 | bl_bool (b):IsI K H (.bl b) "bool" true
 | bl_int (b):IsI K H (.bl b) "int" true
 | bl_list (b):IsI K H (.bl b) "list" false
 | bl_tuple (b):IsI K H (.bl b) "tuple" false
 | bl_str (b):IsI K H (.bl b) "str" false
 | int_bool (i):IsI K H (.int i) "bool" false
 | int_int (i):IsI K H (.int i) "int" true
 | int_list (i):IsI K H (.int i) "list" false
 | int_tuple (i):IsI K H (.int i) "tuple" false
 | int_str (i):IsI K H (.int i) "str" false
 | non_bool:IsI K H .non "bool" false
 | non_int:IsI K H .non "int" false
 | non_list:IsI K H .non "list" false
 | non_tuple:IsI K H .non "tuple" false
 | non_str:IsI K H .non "str" false
 | str_bool (i):IsI K H (.str i) "bool" false
 | str_int (i):IsI K H (.str i) "int" false
 | str_list (i):IsI K H (.str i) "list" false
 | str_tuple (i):IsI K H (.str i) "tuple" false
 | str_str (i):IsI K H (.str i) "str" true
 | list_bool (p xs):SqL K H p xs->IsI K H (.ref p) "bool" false
 | list_int (p xs):SqL K H p xs->IsI K H (.ref p) "int" false
 | list_list (p xs):SqL K H p xs->IsI K H (.ref p) "list" true
 | list_tuple (p xs):SqL K H p xs->IsI K H (.ref p) "tuple" false
 | list_str (p xs):SqL K H p xs->IsI K H (.ref p) "str" false
 | tuple_bool (p xs):SqT K H p xs->IsI K H (.ref p) "bool" false
 | tuple_int (p xs):SqT K H p xs->IsI K H (.ref p) "int" false
 | tuple_list (p xs):SqT K H p xs->IsI K H (.ref p) "list" false
 | tuple_tuple (p xs):SqT K H p xs->IsI K H (.ref p) "tuple" true
 | tuple_str (p xs):SqT K H p xs->IsI K H (.ref p) "str" false
theorem zov:CallR X (.builtin "isinstance") (λvs H Q=>∃ x T b,vs = [x,.ty T]/\IsI X.K H x T b/\Q (.bl b) H):=by
 intro pins s σ H vs us Q I r h;obtain ⟨x,T,b,rfl,hi,q⟩:=h;obtain ⟨u,w',rfl,rx,ry⟩:=zrH r;cases ry;have f0:EP X pins σ Q (.bool b) s:=⟨.bl b,H,I,rfl,q⟩;have f1:EP X pins σ Q (.bool b) { s with toks:=s.toks + 1 }:=⟨.bl b,H,I.tok _,rfl,q⟩;cases hi with
 | bl_bool=>cases rx;exact IsiPair.bool_bool f0
 | bl_int=>cases rx;exact IsiPair.bool_int f0
 | bl_list=>cases rx;exact IsiPair.bool_list f1
 | bl_tuple=>cases rx;exact IsiPair.bool_tuple f1
 | bl_str=>cases rx;exact IsiPair.bool_str f1
 | int_bool=>obtain ⟨t,rfl⟩:=rx;exact IsiPair.int_bool f1
 | int_int=>obtain ⟨t,rfl⟩:=rx;exact IsiPair.int_int f0
 | int_list=>obtain ⟨t,rfl⟩:=rx;exact IsiPair.int_list f1
 | int_tuple=>obtain ⟨t,rfl⟩:=rx;exact IsiPair.int_tuple f1
 | int_str=>obtain ⟨t,rfl⟩:=rx;exact IsiPair.int_str f1
 | non_bool=>cases rx;exact IsiPair.NoneType_bool f1
 | non_int=>cases rx;exact IsiPair.NoneType_int f1
 | non_list=>cases rx;exact IsiPair.NoneType_list f1
 | non_tuple=>cases rx;exact IsiPair.NoneType_tuple f1
 | non_str=>cases rx;exact IsiPair.NoneType_str f1
 | str_bool=>obtain ⟨t,rfl⟩:=rx;exact IsiPair.str_bool f1
 | str_int=>obtain ⟨t,rfl⟩:=rx;exact IsiPair.str_int f1
 | str_list=>obtain ⟨t,rfl⟩:=rx;exact IsiPair.str_list f1
 | str_tuple=>obtain ⟨t,rfl⟩:=rx;exact IsiPair.str_tuple f1
 | str_str=>obtain ⟨t,rfl⟩:=rx;exact IsiPair.str_str f0
 | list_bool p xs h=>cases rx;obtain ⟨_,_,⟨o,n,e,c,_⟩,_⟩:=I.list h;exact IsiPair.list_bool e c f1
 | list_int p xs h=>cases rx;obtain ⟨_,_,⟨o,n,e,c,_⟩,_⟩:=I.list h;exact IsiPair.list_int e c f1
 | list_list p xs h=>cases rx;obtain ⟨_,_,⟨o,n,e,c,_⟩,_⟩:=I.list h;exact IsiPair.list_list e c f0
 | list_tuple p xs h=>cases rx;obtain ⟨_,_,⟨o,n,e,c,_⟩,_⟩:=I.list h;exact IsiPair.list_tuple e c f1
 | list_str p xs h=>cases rx;obtain ⟨_,_,⟨o,n,e,c,_⟩,_⟩:=I.list h;exact IsiPair.list_str e c f1
 | tuple_bool p xs h=>cases rx;obtain ⟨_,_,⟨o,e,c,_⟩,_⟩:=I.tuple h;exact IsiPair.tuple_bool e c f1
 | tuple_int p xs h=>cases rx;obtain ⟨_,_,⟨o,e,c,_⟩,_⟩:=I.tuple h;exact IsiPair.tuple_int e c f1
 | tuple_list p xs h=>cases rx;obtain ⟨_,_,⟨o,e,c,_⟩,_⟩:=I.tuple h;exact IsiPair.tuple_list e c f1
 | tuple_tuple p xs h=>cases rx;obtain ⟨_,_,⟨o,e,c,_⟩,_⟩:=I.tuple h;exact IsiPair.tuple_tuple e c f0
 | tuple_str p xs h=>cases rx;obtain ⟨_,_,⟨o,e,c,_⟩,_⟩:=I.tuple h;exact IsiPair.tuple_str e c f1
theorem znS {bs:List Bool}:∀ {us:List Value},Vals (bs.map V.bl) us->∀ (i:Nat) v,us[i]? = some v->v = .bool (bs.getD i false):=by
 induction bs with
 | nil=>intro us r i v h;cases r;simp at h
 | cons b bs ih=>
  intro us r i v h;rw [YAg] at r;cases r with
  | cons r1 r2=>
   cases i with
   | zero=>simp at h;subst h;exact r1
   | succ i=>simpa using ih r2 i v (by simpa using h)
theorem zmv (bs:List Bool):((List.range bs.length).all λi=>bs.getD i false) = bs.all id:=by
 induction bs with
 | nil=>rfl
 | cons b bs ih=>
  rw [YAz,List.range_succ_eq_map,List.all_cons,List.all_map,List.all_cons,<- ih];rfl
theorem zlM (hc:X.calm = true):CallR X (.builtin "all") (λvs H Q=>∃ (p:Addr) (bs:List Bool),vs = [.ref p]/\SqL X.K H p (bs.map V.bl)/\Q (.bl (bs.all id)) H):=by
 intro pins s σ H vs us Q I r h;obtain ⟨p,bs,rfl,hq,q⟩:=h;obtain ⟨u,rfl,rx⟩:=zft r;cases rx;obtain ⟨its,r',pl,hz⟩:=I.list hq;have hlen:=r'.length;rw [YAc] at hlen;have hp:p < s.heap.objs.size:=let ⟨o,n,e,_⟩:=pl;YAj e
 refine call_all_walk (YBW pl.isList ?_);refine ⟨s.heap.objs.size,_,[s.heap.objs.size],_,_,_,λi=>bs.getD i false,rfl,Walks.list (A:=X.A.in1) (I.ok.hd hc) _ p (YAr hp) its.toArray,⟨⟨_,YAn _ rfl,rfl,rfl⟩,pl.isList.push _⟩,λi v s' Q' E' hP hQ=>?_,λh' tk hk=>?_⟩
 ·rw [znS r' i v (by simpa using hP)];exact YBt hQ
 ·rw [YAl,<- hlen,zmv];exact ⟨.bl _,H,I.kept λb o e=>hk b o (by simpa using YAr (YAj e)) (YAb _ e),rfl,q⟩
def ztm (i j:Int):Prop:=0 < j/\j < 2 ^ 64
theorem zkF:OpR X (binaryOp .FloorDiv) (rI ztm λi j=>.int (i / j)):=opI λi j _ _ _ _ _ hc q=>by
 have hp:(0:Int) < j:=hc.1;have hl:j.natAbs.log2 < 9000:=by
  have h2:j < 2 ^ 64:=hc.2;have h3:j.natAbs < 2 ^ 64:=by omega
  have h4:j.natAbs.log2 < 64:=(Nat.log2_lt (by omega)).mpr h3;omega
 exact floordiv_int (by omega) (by rw [Int.fdiv_eq_ediv_of_nonneg i (by omega)];exact q) (.inl (PyProof.noPylong_of_log2 hl))
def ztk (K:PySem.W.Frag):V->V->Hp->VK->Prop:=λx y H Q=>∃ (p:Addr) (xs:List V) (j:Nat) (v:V),x = .ref p/\y = .int j/\SqL K H p xs/\xs[j]? = some v/\Q v H
theorem znO:PGet X (ztk X.K):=by
 intro pins s σ H o i ov iv Q I r1 r2 h;obtain ⟨p,xs,j,v,rfl,rfl,hq,he,q⟩:=h;cases r1;obtain ⟨t,rfl⟩:=r2;obtain ⟨its,r,pl,hz⟩:=I.list hq;obtain ⟨u,eu,ru⟩:=r.get he;have hj:j < xs.length:=(YAd.mp he).1;have hn:=zfo;exact wpAny_getItem_list pl.isList (by omega) (by omega) (by simpa using eu) ⟨v,H,I,ru,q⟩
end
section
variable {P:Program} {w:World} {A:Around} {E:Value->Shared->Prop} {s:Shared}
theorem zi3   (ht:s.heap.IsTupleIter it t i) (hl:s.heap.IsTuple t xs) (hx:xs[i]? = some x)
  (q:∀ h',h'.IsTupleIter it t (i + 1)->Heap.SameBut it s.heap h'->Q x { s with heap:=h' }):wpAny (model P w) A (Builtin.SmallTypes.nextOf (.ref it)) Q E s:=by
 obtain ⟨o,e,c,d⟩:=id ht;obtain ⟨ol,el,_,n,dl⟩:=hl;unfold Builtin.SmallTypes.nextOf;refine YAa (YAE (name:=Str.ofString "__next__") ht.typeIs YBq (YAX YBq ht.typeIs F.entry_tuple_iterator_next ?_ (F.args_tuple_iterator_next_1 _)));show wpAny _ _ (field (.ref it) 0 >>= _) _ _ s;refine YAa (YAP e d (x:=.ref t) rfl ?_);show wpAny _ _ (if (Value.ref t == Value.none) = true then _ else _) _ _ s;rw [if_neg (show ¬ ((Value.ref t == Value.none) = true) from YA4)];show wpAny _ _ (field (.ref it) 1 >>= _) _ _ s;refine YAa (YAP e d (x:=.int i 0) rfl ?_);show wpAny _ _ (seqItems? (.ref t) >>= _) _ _ s;refine YAa (YBd el dl ?_);simp only [hx,YBu];refine YAa (YCm e d (by simp) (YAe ⟨x,rfl,YAe (q _ ⟨_,YBf _ e (Obj.isFreed_of_fields (YBQ d _)),(Obj.cls_mapFields ..).trans c,by rw [YBQ d];simp [rawInt]⟩ (YBI ..))⟩))
theorem zir   (hh:A.handled = none) (ht:s.heap.IsTupleIter it t i) (hl:s.heap.IsTuple t xs) (hx:xs[i]? = none)
  (q:∀ h' e,Heap.ExtBut it s.heap h'->(∃ o,h'.get? e = some o/\o.cls = .type "StopIteration")->E (.ref e) { s with heap:=h' }):wpAny (model P w) A (Builtin.SmallTypes.nextOf (.ref it)) Q E s:=by
 obtain ⟨o,e,c,d⟩:=id ht;obtain ⟨ol,el,_,n,dl⟩:=hl;unfold Builtin.SmallTypes.nextOf;refine YAa (YAE (name:=Str.ofString "__next__") ht.typeIs YBq (YAX YBq ht.typeIs F.entry_tuple_iterator_next ?_ (F.args_tuple_iterator_next_1 _)));show wpAny _ _ (field (.ref it) 0 >>= _) _ _ s;refine YAa (YAP e d (x:=.ref t) rfl ?_);show wpAny _ _ (if (Value.ref t == Value.none) = true then _ else _) _ _ s;rw [if_neg (show ¬ ((Value.ref t == Value.none) = true) from YA4)];show wpAny _ _ (field (.ref it) 1 >>= _) _ _ s;refine YAa (YAP e d (x:=.int i 0) rfl ?_);show wpAny _ _ (seqItems? (.ref t) >>= _) _ _ s;refine YAa (YBd el dl ?_);simp only [hx,YBu];refine YAa (YB9 (YAa (YCm e d (by simp) ?_)));show wpAny _ _ (newExc (.type "StopIteration") [] >>= _) _ _ _;refine YAa ?_;simp only [newTuple,newExc];refine YAa (YAN (YAa (m:=firstArgMember _ _) (wpAny_of_eq (a:=Value.none) (by first | rfl | (simp only [firstArgMember];rfl)) (YAN ?_ (by size_fits)))) (by size_fits));simp only [raiseNew];refine YAa (wpAny_handled ?_);first | rw [show A.in1.handled = none from hh] | rw [hh]
 exact YAa (YAe (wpAny_throw (q _ _ (((YBI ..).extBut.push _).push _) ⟨_,YAn _ rfl,rfl⟩)))
end
theorem zjk  (hh:A.handled = none) (it t:Addr) (hne:t ≠ it) (xs:Array Value) :
  Draws P w A it [it,t] xs.size (λi v=>xs[i]? = some v) (λi h=>h.IsTupleIter it t i/\h.IsTuple t xs) where
 live:=λ_ _ st=>let ⟨o,e,_⟩:=st.1;⟨o,e⟩
 frame:=λ_ _ _ st k=>⟨let ⟨o,e,r⟩:=st.1;⟨o,k it (by simp) o e,r⟩,let ⟨o,e,r⟩:=st.2;⟨o,k t (by simp) o e,r⟩⟩
 item:=λi s Q E hi st q=>zi3 st.1 st.2 (x:=xs[i]) (by simp [hi]) λh' a sb=>q _ h' s.toks (by simp [hi]) ⟨a,st.2.extBut sb.extBut hne⟩ sb
 done:=λs Q E st q=>zir hh st.1 st.2 (by simp) q
structure ZAp (z a b i j:Addr) (f g:List Addr):Prop where
 az:a ≠ z
 bz:b ≠ z
 iz:i ≠ z
 jz:j ≠ z
 ab:a ≠ b
 ai:a ≠ i
 aj:a ≠ j
 bi:b ≠ i
 bj:b ≠ j
 ij:i ≠ j
 zf:z ∉ f
 bf:b ∉ f
 jf:j ∉ f
 zg:z ∉ g
 bg:b ∉ g
 ig:i ∉ g
section
variable {P:Program} {w:World} {A:Around} {E:Value->Shared->Prop} {s:Shared} {z a b i j:Addr} {f g:List Addr} {n m k:Nat} {F1 F2:Nat->Value->Prop} {S1 S2:Nat->Heap->Prop}
theorem zbY {h h':Heap} {c:Addr} {l:List Addr} (sb:Heap.SameBut c h h') (hc:c ∉ l):∀ b ∈ l,∀ o,h.get? b = some o->h'.get? b = some o:=λb hb o e=>sb.extBut b o (λz=>hc (z ▸ hb)) e
theorem ziT {u v:Value} {Q:Value->Shared->Prop} (Z:ZAp z a b i j f g) (D1:Draws P w A i f n F1 S1) (D2:Draws P w A j g m F2 S2) (hz:IsZip s.heap z a b .none) (ha:IsPair s.heap a (.ref i) (.ref j)) (hb:IsPair s.heap b u v)
  (s1:S1 k s.heap) (s2:S2 k s.heap) (k1:k < n) (k2:k < m)
  (q:∀ x y h' tk t,F1 k x->F2 k y->t = s.heap.objs.size->IsZip h' z a b (rawInt t)->IsPair h' b x y->S1 (k + 1) h'->S2 (k + 1) h'->IsPair h' t x y ->
   (∀ c o,c ≠ z->c ≠ b->c ≠ i->c ≠ j->s.heap.get? c = some o->h'.get? c = some o)->Q (.ref t) { s with heap:=h',toks:=tk }) :
  wpAny (model P w) A (Builtin.«zip.__next__» ⟨[.ref z],[]⟩) (λfin s'=>∃ v,fin = .done (.ret v)/\Q v s') E s:=by
 show wpAny _ _ (field (.ref z) 2 >>= _) _ _ _;refine YAa (YAP hz rfl (x:=.bool false) rfl ?_);show wpAny _ _ (field (.ref z) 3 >>= _) _ _ _;refine YAa (YAP hz rfl (x:=.ref a) rfl (YAa (YBd ha rfl ?_)));show wpAny _ _ (Builtin.SmallTypes.ownedTupleIsFree (.ref z) >>= _) _ _ _;refine YAa ?_;unfold Builtin.SmallTypes.ownedTupleIsFree;refine YAa (YAP hz rfl (x:=.none) rfl (YAe ?_));simp only [YBU];refine YAa (YB9 (YAa (YAP hz rfl (x:=.ref b) rfl (YAa (YBh hz (by simp) λh1 z1 e1=>?_)))))
 replace z1:IsZip h1 z a b .ellipsis:=z1
 refine YAa ?_;simp only [YCu,YCB,YCf,YCI];refine YAa (YAa (YB7 ?_));show wpAny _ _ (Builtin.SmallTypes.nextOf (.ref i) >>= _) _ _ _;have t1:S1 k h1:=D1.frame _ _ _ s1 (zbY e1 Z.zf);have t2:S2 k h1:=D2.frame _ _ _ s2 (zbY e1 Z.zg);refine YAa (D1.item k _ _ _ k1 t1 λx h2 tk2 px u1 e2=>YAe ?_);have b2:IsPair h2 b u v:=e2.extBut _ _ Z.bi (e1.extBut _ _ Z.bz hb);refine YAa (YBd b2 rfl (YAa (YB2 b2 λh3 b3 e3=>?_)))
 replace b3:IsPair h3 b x v:=b3
 refine YAa (YCL (YAe ?_));refine YAa (YAa (YB7 ?_));show wpAny _ _ (Builtin.SmallTypes.nextOf (.ref j) >>= _) _ _ _;have t3:S2 k h3:=D2.frame _ _ _ (D2.frame _ _ _ t2 (zbY e2 Z.ig)) (zbY e3 Z.bg);refine YAa (D2.item k _ _ _ k2 t3 λy h4 tk4 py u2 e4=>YAe ?_);have b4:IsPair h4 b x v:=e4.extBut _ _ Z.bj b3;refine YAa (YBd b4 rfl (YAa (YB2 b4 λh5 b5 e5=>?_)))
 replace b5:IsPair h5 b x y:=b5
 refine YAa (YCL (YAe (YAe (YAa (YBd b5 rfl (YAa (wpAny_newTuple ?_)))))));have sz:h5.objs.size = s.heap.objs.size:=by rw [e5.1,e4.1,e3.1,e2.1,e1.1]
 have z5:IsZip h5 z a b .ellipsis:=e5.extBut _ _ Z.bz.symm (e4.extBut _ _ Z.jz.symm (e3.extBut _ _ Z.bz.symm (e2.extBut _ _ Z.iz.symm z1)));have k5:∀ c o,c ≠ z->c ≠ b->c ≠ i->c ≠ j->s.heap.get? c = some o->h5.get? c = some o:=λc o c1 c2 c3 c4 e=>e5.extBut _ _ c2 (e4.extBut _ _ c4 (e3.extBut _ _ c2 (e2.extBut _ _ c3 (e1.extBut _ _ c1 e))));have v1:S1 (k + 1) h5:=D1.frame _ _ _ (D1.frame _ _ _ (D1.frame _ _ _ u1 (zbY e3 Z.bf)) (zbY e4 Z.jf)) (zbY e5 Z.bf);have v2:S2 (k + 1) h5:=D2.frame _ _ _ u2 (zbY e5 Z.bg);have zl:z < h5.objs.size:=YAj z5;show wpAny _ _ (Builtin.SmallTypes.ownedTupleHandOut (.ref z) (.ref h5.objs.size) >>= _) _ _ _;refine YAa ?_;unfold Builtin.SmallTypes.ownedTupleHandOut;have z6:IsZip (h5.push { cls:=.type "tuple",data:=.seq #[x,y] }) z a b .ellipsis:=YAb _ z5;refine YAa (YBh z6 (by simp) λh7 z7 e7=>?_)
 replace z7:IsZip h7 z a b (rawInt h5.objs.size):=z7
 refine YBh z7 (by simp) λh8 z8 e8=>?_
 replace z8:IsZip h8 z a b (rawInt h5.objs.size):=z8
 have up:∀ c o,c ≠ z->h5.get? c = some o->h8.get? c = some o:=λc o c1 e=>e8.extBut _ _ c1 (e7.extBut _ _ c1 (YAb _ e));refine YAe ⟨_,rfl,?_⟩;exact q x y h8 _ h5.objs.size px py sz z8 (up _ _ Z.bz b5) (D1.frame _ _ _ v1 λc hc o e=>up c o (λzz=>Z.zf (zz ▸ hc)) e) (D2.frame _ _ _ v2 λc hc o e=>up c o (λzz=>Z.zg (zz ▸ hc)) e)
  (e8.extBut _ _ (YBx zl) (e7.extBut _ _ (YBx zl) (YAn _ rfl))) λc o c1 c2 c3 c4 e=>up c o c1 (k5 c o c1 c2 c3 c4 e)
theorem zif {Q:Fin->Shared->Prop} (Z:ZAp z a b i j f g) (D1:Draws P w A i f n F1 S1) (hz:IsZip s.heap z a b .none) (ha:IsPair s.heap a (.ref i) (.ref j)) (s1:S1 n s.heap)
  (q:∀ h' e,(∀ c o,c ≠ z->c ≠ b->c ≠ i->c ≠ j->s.heap.get? c = some o->h'.get? c = some o)->(∃ o,h'.get? e = some o/\o.cls = .type "StopIteration")->E (.ref e) { s with heap:=h' }) :
  wpAny (model P w) A (Builtin.«zip.__next__» ⟨[.ref z],[]⟩) Q E s:=by
 show wpAny _ _ (field (.ref z) 2 >>= _) _ _ _;refine YAa (YAP hz rfl (x:=.bool false) rfl ?_);show wpAny _ _ (field (.ref z) 3 >>= _) _ _ _;refine YAa (YAP hz rfl (x:=.ref a) rfl (YAa (YBd ha rfl ?_)));show wpAny _ _ (Builtin.SmallTypes.ownedTupleIsFree (.ref z) >>= _) _ _ _;refine YAa ?_;unfold Builtin.SmallTypes.ownedTupleIsFree;refine YAa (YAP hz rfl (x:=.none) rfl (YAe ?_));simp only [YBU];refine YAa (YB9 (YAa (YAP hz rfl (x:=.ref b) rfl (YAa (YBh hz (by simp) λh1 z1 e1=>?_)))))
 replace z1:IsZip h1 z a b .ellipsis:=z1
 refine YAa ?_;simp only [YCu,YCB,YCf,YCI];refine YAa (YAa (YB7 ?_));show wpAny _ _ (Builtin.SmallTypes.nextOf (.ref i) >>= _) _ _ _;refine YAa (D1.done _ _ _ (D1.frame _ _ _ s1 (zbY e1 Z.zf)) λh2 e e2 he=>?_);obtain ⟨oe,ho,hc⟩:=he;have z2:IsZip h2 z a b .ellipsis:=e2 _ _ Z.iz.symm z1;have ez:e ≠ z:=λx=>by subst x;rw [z2] at ho;cases ho;simp at hc
 refine YBh z2 (by simp) λh3 _ e3=>q h3 e (λc o c1 _ c3 _ x=>e3.extBut _ _ c1 (e2 _ _ c3 (e1.extBut _ _ c1 x))) ⟨oe,e3.extBut _ _ ez ho,hc⟩
theorem zgc {u v:Value} {Q:Option Value->Shared->Prop} (Z:ZAp z a b i j f g) (D1:Draws P w A.in1 i f n F1 S1) (D2:Draws P w A.in1 j g m F2 S2) (hz:IsZip s.heap z a b .none) (ha:IsPair s.heap a (.ref i) (.ref j)) (hb:IsPair s.heap b u v)
  (s1:S1 k s.heap) (s2:S2 k s.heap) (k1:k < n) (k2:k < m)
  (q:∀ x y h' tk t,F1 k x->F2 k y->t = s.heap.objs.size->IsZip h' z a b (rawInt t)->IsPair h' b x y->S1 (k + 1) h'->S2 (k + 1) h'->IsPair h' t x y ->
   (∀ c o,c ≠ z->c ≠ b->c ≠ i->c ≠ j->s.heap.get? c = some o->h'.get? c = some o)->Q (some (.ref t)) { s with heap:=h',toks:=tk }):wpAny (model P w) A (pyNext (.ref z)) Q E s:=by
 have hT:s.TypeIs (.ref z) "zip" := ⟨_,hz,rfl⟩;unfold pyNext;exact YAa (YB8 (YAE (name:=Str.ofString "__next__") hT YBB (YAX YBB hT YCv
  (ziT Z D1 D2 hz ha hb s1 s2 k1 k2 λx y h' tk t a1 a2 a3 a4 a5 a6 a7 a8 a9=>YAe (q x y h' tk t a1 a2 a3 a4 a5 a6 a7 a8 a9)) (YCo _))))
theorem zgk (Z:ZAp z a b i j f g) (D1:Draws P w A.in1 i f n F1 S1) (hz:IsZip s.heap z a b .none) (ha:IsPair s.heap a (.ref i) (.ref j)) (s1:S1 n s.heap)
  (q:∀ h',(∀ c o,c ≠ z->c ≠ b->c ≠ i->c ≠ j->s.heap.get? c = some o->h'.get? c = some o)->Q none { s with heap:=h' }):wpAny (model P w) A (pyNext (.ref z)) Q E s:=by
 have hT:s.TypeIs (.ref z) "zip" := ⟨_,hz,rfl⟩;unfold pyNext;refine YAa (YB8 (YAE (name:=Str.ofString "__next__") hT YBB (YAX YBB hT YCv (zif Z D1 hz ha s1 λh' e hk he=>?_) (YCo _))));obtain ⟨o,ho,hc⟩:=he;exact YAa (YB0 (T := "StopIteration") (b:=true) ⟨o,ho,hc⟩ YCJ (YAe (q _ hk)))
end
section
variable {X:Cx} {pins:List (Addr × Obj)} {σ:St} {H:Hp} {s:Shared} {h':Heap} {ch:List Addr} {t':Nat}
theorem Inv.turnedLaid  (I:Inv X pins σ H s) (k:∀ b u,b ∉ ch->s.heap.get? b = some u->h'.get? b = some u) (hf:∀ b ∈ ch,FpOk X pins H b) (hp:s.heap.objs.size <= a) (new:ObjOk X.prog X.w (upd H a o) h' a o) :
  Inv X pins σ (upd H a o) { s with heap:=h',toks:=t' }:=by
 have hn:H a = none:=I.hok.fresh hp;have nch:∀ b u,H b = some u->b ∉ ch:=λb u e z=>by rw [(hf b z).1] at e;cases e
 refine I.step (g':=s.gens) (d':=s.drawn) (ch:=ch) (λb hb=>⟨(hf b hb).2.2.2.1,(hf b hb).2.1,(hf b hb).2.2.2.2.1,(hf b hb).2.2.2.2.2⟩) (λb u _ _ hc e _=>k b u hc e) (λb u _ _ hc e _=>⟨u.slots,k b u hc e⟩)
  (λb u _ e n=>by rw [upd_ne (YAr (YAo (YAj e) hp))];exact n) (λb u hc e=>⟨u,k b u hc e⟩) (λb xs e=>by rw [upd_ne (zaw e hn)];exact e) (λb u xs e=>by rw [upd_ne (zaw e hn)];exact e)
  (λb ps e=>⟨#[],by rw [upd_ne (zaw e hn),e];simp⟩) (λm hm=>?_) (λb u e=>?_) I.bare
 ·obtain ⟨o,es,ep,ho,r⟩:=hm;exact ⟨o,es,ep,k _ o (λz=>(hf _ z).2.1 rfl) ho,r⟩
 ·by_cases hb:b = a
  ·subst hb;rw [zae] at e;cases e;exact new
  ·rw [upd_ne hb] at e;refine (I.hok b u e).stay (λc v hc q=>k c v ?_ q) (λc q=>by rw [upd_ne (zaw q hn)];exact q) λc xs q=>by rw [upd_ne (zaw q hn)];exact q
   rcases hc with z | z
   ·rw [z];exact nch b u e
   ·exact nch c _ z
theorem Inv.turnedAll (I:Inv X pins σ H s) (k:∀ b u,b ∉ ch->s.heap.get? b = some u->h'.get? b = some u) (hf:∀ b ∈ ch,FpOk X pins H b):Inv X pins σ H { s with heap:=h',toks:=t' }:=by
 have nch:∀ b u,H b = some u->b ∉ ch:=λb u e z=>by rw [(hf b z).1] at e;cases e
 refine I.step (g':=s.gens) (d':=s.drawn) (ch:=ch) (λb hb=>⟨(hf b hb).2.2.2.1,(hf b hb).2.1,(hf b hb).2.2.2.2.1,(hf b hb).2.2.2.2.2⟩) (λb u _ _ hc e _=>k b u hc e) (λb u _ _ hc e _=>⟨u.slots,k b u hc e⟩)
  (λ_ _ _ _ n=>n) (λb u hc e=>⟨u,k b u hc e⟩) (λ_ _ e=>e) (λ_ _ _ e=>e) (λb ps e=>⟨#[],by rw [e];simp⟩) (λm hm=>?_) (λb u e=>?_) I.bare
 ·obtain ⟨o,es,ep,ho,r⟩:=hm;exact ⟨o,es,ep,k _ o (λz=>(hf _ z).2.1 rfl) ho,r⟩
 ·refine (I.hok b u e).stay (λc v hc q=>k c v ?_ q) (λ_ q=>q) λ_ _ q=>q;rcases hc with z | z
  ·rw [z];exact nch b u e
  ·exact nch c _ z
end
def SIt (tp:Bool) (h:Heap) (it l:Addr) (k:Nat):Prop:=match tp with | true=>h.IsTupleIter it l k | false=>h.IsListIter it l k
def SCn (tp:Bool) (h:Heap) (l:Addr) (xs:Array Value):Prop:=match tp with | true=>h.IsTuple l xs | false=>h.IsList l xs
def SQ (tp:Bool) (K:PySem.W.Frag) (H:Hp) (a:Addr) (xs:List V):Prop:=match tp with | true=>SqT K H a xs | false=>SqL K H a xs
theorem SIt.obj   (x:SIt tp h it l k):∃ o,h.get? it = some o/\∀ v,o.data ≠ .cell v:=by
 cases tp <;> (obtain ⟨o,e,c,d⟩:=x;exact ⟨o,e,λv z=>by rw [d] at z;cases z⟩)
theorem SIt.keep   (x:SIt tp h it l k) (q:∀ o,h.get? it = some o->h'.get? it = some o):SIt tp h' it l k:=by
 cases tp <;> (obtain ⟨o,e,r⟩:=x;exact ⟨o,q o e,r⟩)
theorem SCn.lt   (x:SCn tp h l xs):l < h.objs.size:=by
 cases tp <;> (obtain ⟨o,e,_⟩:=x;exact YAj e)
theorem ziH  (tp:Bool) (hh:A.handled = none) (it l:Addr) (hne:l ≠ it) (xs:Array Value) :
  Draws P w A it [it,l] xs.size (λi v=>xs[i]? = some v) (λi h=>SIt tp h it l i/\SCn tp h l xs):=by
 cases tp
 ·exact Draws.list hh it l hne xs
 ·exact zjk hh it l hne xs
section
variable {X:Cx} {pins:List (Addr × Obj)} {σ:St} {H:Hp} {s:Shared} {tp:Bool} {a:Addr} {xs ys:List V}
theorem Inv.sq (I:Inv X pins σ H s) (h:SQ tp X.K H a xs):∃ its:List Value,Vals xs its/\SCn tp s.heap a its.toArray/\xs.length <= sizeLine:=by
 cases tp
 ·obtain ⟨its,r,p,z⟩:=I.list h;exact ⟨its,r,p.isList,z⟩
 ·exact I.tuple h
theorem Inv.sq_inj (I:Inv X pins σ H s) (h:SQ tp X.K H a xs) (h':SQ tp X.K H a ys):xs = ys:=by
 cases tp
 ·exact I.list_inj h h'
 ·exact I.tuple_inj h h'
end
theorem zsn (n l m:Nat) (h1:l < n) (h2:m < n):ZAp (n + 4) (n + 2) (n + 3) n (n + 1) [n,l] [n + 1,m]:=by
 have e:∀ {p q:Nat},p ≠ q->∀ {r:Nat},p ≠ r->p ∉ [q,r]:=λ{p q} h {r} h' z=>by
  rcases YAu.mp z with z | z
  ·exact h z
  ·exact h' (YAF.mp z)
 have r:∀ {p q:Nat},p < q\/q < p->(p:Addr) ≠ q:=λh=>h.elim YAr λh=>(YAr h).symm;exact ⟨r (by omega),r (by omega),r (by omega),r (by omega),r (by omega),r (by omega),r (by omega),r (by omega),r (by omega),r (by omega),e (r (by omega)) (r (by omega)),e (r (by omega)) (r (by omega)),e (r (by omega)) (r (by omega)),e (r (by omega)) (r (by omega)),e (r (by omega)) (r (by omega)),e (r (by omega)) (r (by omega))⟩
theorem zeU:∀ (more:List (Key × V)) (kvs:List (Key × V)),(∀ k ∈ more.map (·.1),k ∉ kvs.map (·.1))->(more.map (·.1)).Nodup->zfl kvs more = kvs ++ more
 | [],kvs,_,_=>by unfold zfl;simp
 | x :: more,kvs,h,hn=>by
  rw [YAg,YAM] at hn;have hx:valV kvs x.1 = none:=by
   cases e:valV kvs x.1 with
   | none=>rfl
   | some v=>exact absurd (zqG e) (h x.1 (by simp))
  show zfl (putK kvs x.1 x.2) more = _;rw [zoE _ hx,zeU more _ (λk hk q=>?_) hn.2,YBV]
  ·rfl
  ·rw [YAW] at q;rcases YAV.mp q with q | q
   ·exact h k (by rw [YAg];exact YAf _ hk) q
   ·have:k = x.1:=by simpa using q
    exact hn.1 (this ▸ hk)
section
variable {X:Cx} {pins:List (Addr × Obj)} {σ:St} {H:Hp} {s:Shared}
theorem Inv.freeze  (I:Inv X pins σ H s) (hd:H d = some (.dK kvs)) (ho:s.heap.get? d = some o):Inv X pins σ (upd H d (.frz o (.dK kvs))) s:=by
 have nd:∀ b u,H b = some u->(∀ q,u ≠ .dK q)->b ≠ d:=λb u e n z=>by rw [z,hd] at e;cases e;exact n _ rfl
 refine I.step (g':=s.gens) (d':=s.drawn) (t':=s.toks) (h':=s.heap) (ch:=[]) (λ_ z=>nomatch z) (λb u _ _ _ e _=>e) (λb u _ _ _ e _=>⟨u.slots,e⟩)
  (λb u _ e n=>by rw [upd_ne (λz=>by rw [z,hd] at n;cases n)];exact n) (λb u _ e=>⟨u,e⟩) (λb xs e=>by rw [upd_ne (nd b _ e (λq z=>by cases z))];exact e) (λb u xs e=>by rw [upd_ne (nd b _ e (λq z=>by cases z))];exact e)
  (λb ps e=>⟨#[],by rw [upd_ne (nd b _ e (λq z=>by cases z)),e];simp⟩) (λm hm=>hm) (λb u e=>?_) I.bare
 have st:∀ c w,H c = some w->ObjOk X.prog X.w (upd H d (.frz o (.dK kvs))) s.heap c w:=λc w q=>
  (I.hok c w q).stay (λ_ _ _ z=>z) (λc' q'=>by rw [upd_ne (nd c' _ q' (λq z=>by cases z))];exact q') λc' xs q'=>by rw [upd_ne (nd c' _ q' (λq z=>by cases z))];exact q'
 by_cases hb:b = d
 ·subst hb;rw [zae] at e;cases e;exact ⟨ho,st b _ hd⟩
 ·rw [upd_ne hb] at e;exact st b u e
end
theorem ziO {α β:Type} {F:α->β->Prop}:∀ {l₁:List α} {l₂:List β},Paired F l₁ l₂->∀ {i:Nat} {a:α} {b:β},l₁[i]? = some a->l₂[i]? = some b->F a b
 | _,_,.nil,i,a,b,h,_=>by simp at h
 | _,_,.cons r t,0,a,b,h1,h2=>by simp at h1 h2;subst h1 h2;exact r
 | _,_,.cons r t,i + 1,a,b,h1,h2=>ziO t (by simpa using h1) (by simpa using h2)
theorem zr6  (h:zjS k u = true):RelV (kV k) u:=by
 rcases zaZ h with ⟨i,t,rfl,rfl⟩ | ⟨x,t,rfl,rfl⟩
 ·exact ⟨t,rfl⟩
 ·exact ⟨t,rfl⟩
theorem zhJ:splitId "dict.__len__" = some ("dict","__len__"):=by decide +kernel
end L2
namespace HT
open PySem PySem.Spec PyProof.Rows
section
variable {prog:Program} {w:World} {A:Around} {E:Value->Shared->Prop} {s:Shared}
theorem getItem_tuple_whole {t sl:Addr} {items:Array Value} {vl vu:Value} {lo hi:Option Int} {Q:Value->Shared->Prop} (ht:IsTup s.heap t items) (hs:s.heap.IsSliceOf sl vl vu .none) (pl:IsPart vl lo) (pu:IsPart vu hi)
  (hw:sIx items.size 0 lo = 0/\sIx items.size items.size hi = items.size)
  (h:Q (.ref t) s):wpAny (model prog w) A (getItem (.ref t) (.ref sl)) Q E s:=by
 obtain ⟨os,hos,hcs,hds⟩:=id hs;have hTs:s.TypeIs (.ref sl) "slice" := ⟨os,hos,hcs⟩;unfold getItem
 try with_reducible refine YA3 ?_
 first | refine YAa (YAe ?_) | skip
 refine YAa (wpAny_sequenceKey ht.typeIs (by decide) ?_);refine YAa (YAE (name:=Str.ofString "__getitem__") ht.typeIs YAJ
  (YAX YAJ ht.typeIs entry_tuple_getitem ?_ (args_tuple_getitem _ _)))
 show wpAny _ _ (Builtin.Tuple.tupleItemsOf (.ref t) >>= _) _ _ s;refine YAa (tupleItemsOf_ ht ?_);refine YAa (YCk hTs ?_);rw [if_pos (by decide)];refine YAa (zdw hs pl pu ?_);have hyes:((((sIx items.size 0 lo:Nat):Int) == 0 && (1:Int) == 1 && (sIx items.size items.size hi - sIx items.size 0 lo) == items.size) = true):=by
  rw [hw.1,hw.2];simp
 show wpAny _ _ (if (((sIx items.size 0 lo:Nat):Int) == 0 && (1:Int) == 1 && (sIx items.size items.size hi - sIx items.size 0 lo) == items.size) = true then _ else _) _ _ s;rw [if_pos hyes];unfold Builtin.Tuple.tupleIsExact;refine YAa (YAa (YCk ht.typeIs (YAe ?_)));rw [if_pos (by decide)];refine YAa (YB9 ?_);exact YAe ⟨_,rfl,YAe h⟩
end
end HT
namespace L2
open PySem PySem.Spec PyProof.Rows
section
variable {prog:Program} {w:World} {A:Around} {E:Value->Shared->Prop} {s:Shared}
theorem zi4  (hne:t ≠ it):∀ (n i:Nat) (s:Shared) (Q:List Value->Shared->Prop),s.heap.IsListIter it t i->s.heap.IsList t items->i + n <= items.size ->
  (∀ h',h'.IsListIter it t (i + n)->Heap.SameBut it s.heap h'->Q ((items.toList.drop i).take n) { s with heap:=h' })->wpAny (model prog w) A (draw (.ref it) n) Q E s
 | 0,i,s,Q,hit,_,_,hQ=>by
  show wpAny _ _ (pure []) Q E s;exact YAe (by simpa using hQ s.heap hit (Heap.SameBut.refl ..))
 | n + 1,i,s,Q,hit,ht,hle,hQ=>by
  have hlt:i < items.size:=by omega
  show wpAny _ _ (pyNext (.ref it) >>= _) Q E s;refine YAa (wpAny_pyNext_list_item hit ht (x:=items[i]) (by simp [hlt]) λh₁ hit₁ hs₁=>?_);refine YAa (YA3 (zi4 hne n (i + 1) _ _ hit₁ (ht.extBut hs₁.extBut hne) (by omega) λh₂ hit₂ hs₂=>YAe ?_));have hd:items.toList.drop i = items[i] :: items.toList.drop (i + 1):=by simp [YBs,hlt]
  have:=hQ h₂ (by rw [show i + (n + 1) = i + 1 + n by omega];exact hit₂) (hs₁.trans hs₂)
  rw [hd,List.take_succ_cons] at this;exact this
theorem zfq  (hh:A.handled = none) (ht:s.heap.IsList t items)
  (hQ:∀ h',Heap.ExtBut s.heap.objs.size s.heap h'->Q items.toList { s with heap:=h' }):wpAny (model prog w) A (unpackItems (.ref t) items.size none) Q E s:=by
 have hlt:t ≠ s.heap.objs.size:=by obtain ⟨o,ho,_⟩:=ht;exact YAr (YAj ho)
 unfold unpackItems;refine YAa ?_
 ·unfold notIterableAtAll;refine YAa (YCA ht.typeIs slot_list_iter.lookup ?_);refine YAe ?_;simp only [YA7,YBE];refine YAa (YA3 (YBW ht ?_));have ht0:=ht.push { cls:=.type "list_iterator",data:=.fields #[.ref t,.int 0 0] };refine YAa (YA3 (zi4 hlt items.size 0 _ _ ⟨_,YAn _ rfl,rfl,rfl⟩ ht0 (by omega) λh₁ hit₁ hs₁=>?_));have hall:List.take items.size (List.drop 0 items.toList) = items.toList:=by
   rw [List.drop_zero];exact List.take_of_length_le (by simp)
  rw [hall];rw [if_neg (by simp)];have ht₁:h₁.IsList t items:=ht0.extBut hs₁.extBut hlt;refine YAa (YA3 (wpAny_pyNext_list_end hh hit₁ ht₁ (by simp) λh₂ he₂=>?_));simp only [Option.isSome_none,YA7,YBE];refine YAe (hQ h₂ λb o hb e=>he₂ b o hb (hs₁.extBut b o hb (YAb _ e)))
theorem zfe  {x1}   (hh:A.handled = none) (ht:s.heap.IsList t items)
  (hn:(assignEach elts env).length = items.size) (hstar:(assignEach elts env).findIdx? (·.1) = none)
  (h:∀ h',Heap.ExtBut s.heap.objs.size s.heap h'->wpAny (model prog w) A (assignInOrder ((assignEach elts env).map (·.2)) items.toList) Q E { s with heap:=h' }) :
  wpAny (model prog w) A (assign (.Tuple elts x1 pos) env (.ref t)) Q E s:=by
 rw [assign_Tuple];refine YAa (YB5 ?_);unfold unpack;rw [hn,hstar];exact YAa (YA3 (zfq hh ht h))
end
def gSeq (K:PySem.W.Frag) (n:Nat) (t:TGs):TG:=λv σ H Q=>∃ a xs,v = .ref a/\(SqT K H a xs\/SqL K H a xs)/\xs.length = n/\t xs σ H Q
theorem zde    (hc:X.calm = true) (h:PGs X es t)
  (hn:(assignEach es X.env).length = n:=by rfl) (hst:(assignEach es X.env).findIdx? (·.1) = none:=by rfl):PG X (.Tuple es k pos) (gSeq X.K n t):=by
 intro pins s σ H v u Q I r hw;obtain ⟨a,xs,e1,hq,hl,hw⟩:=hw;rcases hq with hq | hq
 ·exact zr5 hc h hn hst pins s σ H v u Q I r ⟨a,xs,e1,hq,hl,hw⟩
 ·subst e1;cases r;obtain ⟨its,rv,ht,hz⟩:=I.list hq;refine zfe (I.ok.hd hc) ht.isList (by simp [hn,<- hl,rv.length]) hst λh' hx=>?_;have I1:Inv X pins σ H { s with heap:=h' }:=I.kept (t':=s.toks) λb o e=>hx b o (YAr (YAj e)) e;exact h pins _ σ H xs _ Q I1 (by simpa using rv) hw
theorem zsu {K:PySem.W.Frag} {n:Nat} {t:TGs} (h:zgI t):ziK (gSeq K n t):=λv σ H Q Q' f ⟨a,xs,e,s,l,q⟩=>⟨a,xs,e,s,l,h _ _ _ _ _ f q⟩
theorem zsI {K:PySem.W.Frag} {sub:List (Option Nat)} {n:Nat} {t:TGs} (h:zig sub t):zj0 sub (gSeq K n t):=λv σ H Q ⟨a,xs,e,s,l,q⟩=>⟨a,xs,e,s,l,h _ _ _ _ q⟩
section
variable {P:Program} {w:World} {A:Around} {E:Value->Shared->Prop} {s:Shared} {z a b i j:Addr} {f g:List Addr} {n m k:Nat} {F1 F2:Nat->Value->Prop} {S1 S2:Nat->Heap->Prop}
theorem zhl  (Z:ZAp z a b i j f g) (D1:Draws P w A i f n F1 S1) (D2:Draws P w A j g m F2 S2) (hz:IsZip s.heap z a b .none) (ha:IsPair s.heap a (.ref i) (.ref j)) (hb:IsPair s.heap b u v)
  (s1:S1 m s.heap) (s2:S2 m s.heap) (k1:m < n)
  (q:∀ h' tk e,(∀ c o,c ≠ z->c ≠ b->c ≠ i->c ≠ j->s.heap.get? c = some o->h'.get? c = some o)->(∃ o,h'.get? e = some o/\o.cls = .type "StopIteration")->E (.ref e) { s with heap:=h',toks:=tk }) :
  wpAny (model P w) A (Builtin.«zip.__next__» ⟨[.ref z],[]⟩) Q E s:=by
 show wpAny _ _ (field (.ref z) 2 >>= _) _ _ _;refine YAa (YAP hz rfl (x:=.bool false) rfl ?_);show wpAny _ _ (field (.ref z) 3 >>= _) _ _ _;refine YAa (YAP hz rfl (x:=.ref a) rfl (YAa (YBd ha rfl ?_)));show wpAny _ _ (Builtin.SmallTypes.ownedTupleIsFree (.ref z) >>= _) _ _ _;refine YAa ?_;unfold Builtin.SmallTypes.ownedTupleIsFree;refine YAa (YAP hz rfl (x:=.none) rfl (YAe ?_));simp only [YBU];refine YAa (YB9 (YAa (YAP hz rfl (x:=.ref b) rfl (YAa (YBh hz (by simp) λh1 z1 e1=>?_)))))
 replace z1:IsZip h1 z a b .ellipsis:=z1
 refine YAa ?_;simp only [YCu,YCB,YCf,YCI];refine YAa (YAa (YB7 ?_));show wpAny _ _ (Builtin.SmallTypes.nextOf (.ref i) >>= _) _ _ _;have t1:S1 m h1:=D1.frame _ _ _ s1 (zbY e1 Z.zf);have t2:S2 m h1:=D2.frame _ _ _ s2 (zbY e1 Z.zg);refine YAa (D1.item m _ _ _ k1 t1 λx h2 tk2 px u1 e2=>YAe ?_);have b2:IsPair h2 b u v:=e2.extBut _ _ Z.bi (e1.extBut _ _ Z.bz hb);refine YAa (YBd b2 rfl (YAa (YB2 b2 λh3 b3 e3=>?_)))
 replace b3:IsPair h3 b x v:=b3
 refine YAa (YCL (YAe ?_));refine YAa (YAa (YB7 ?_));show wpAny _ _ (Builtin.SmallTypes.nextOf (.ref j) >>= _) _ _ _;have t3:S2 m h3:=D2.frame _ _ _ (D2.frame _ _ _ t2 (zbY e2 Z.ig)) (zbY e3 Z.bg);refine YAa (D2.done _ _ _ t3 λh4 e e4 he=>?_);obtain ⟨oe,ho,hc⟩:=he;have z3:IsZip h3 z a b .ellipsis:=e3.extBut _ _ Z.bz.symm (e2.extBut _ _ Z.iz.symm z1);have z4:IsZip h4 z a b .ellipsis:=e4 _ _ Z.jz.symm z3;have ez:e ≠ z:=λx=>by subst x;rw [z4] at ho;cases ho;simp at hc
 refine YBh z4 (by simp) λh5 _ e5=>q h5 tk2 e (λc o c1 c2 c3 c4 x=>e5.extBut _ _ c1 (e4 _ _ c4 (e3.extBut _ _ c2 (e2.extBut _ _ c3 (e1.extBut _ _ c1 x))))) ⟨oe,e5.extBut _ _ ez ho,hc⟩
theorem zfr  (Z:ZAp z a b i j f g) (D1:Draws P w A.in1 i f n F1 S1) (D2:Draws P w A.in1 j g m F2 S2) (hz:IsZip s.heap z a b .none) (ha:IsPair s.heap a (.ref i) (.ref j)) (hb:IsPair s.heap b u v) (s1:S1 m s.heap) (s2:S2 m s.heap) (k1:m < n)
  (q:∀ h' tk,(∀ c o,c ≠ z->c ≠ b->c ≠ i->c ≠ j->s.heap.get? c = some o->h'.get? c = some o)->Q none { s with heap:=h',toks:=tk }):wpAny (model P w) A (pyNext (.ref z)) Q E s:=by
 have hT:s.TypeIs (.ref z) "zip" := ⟨_,hz,rfl⟩;unfold pyNext;refine YAa (YB8 (YAE (name:=Str.ofString "__next__") hT YBB (YAX YBB hT YCv (zhl Z D1 D2 hz ha hb s1 s2 k1 λh' tk e hk he=>?_) (YCo _))));obtain ⟨o,ho,hc⟩:=he;exact YAa (YB0 (T := "StopIteration") (b:=true) ⟨o,ho,hc⟩ YCJ (YAe (q _ _ hk)))
end
section
variable {X:Cx}
def zst (K:PySem.W.Frag):R2:=λx y H Q=>∃ a b xs ys,x = .ref a/\y = .ref b/\SqT K H a xs/\SqT K H b ys/\xs.length + ys.length <= sizeLine /\
 (xs = []->Q (.ref b) H)/\(xs ≠ []->ys = []->Q (.ref a) H)/\(∀ p,H p = none->Q (.ref p) (upd H p (.tup (xs ++ ys))))
theorem zp7:OpR X (binaryOp .Add) (zst X.K):=by
 intro pins s σ H x y v u Q I rx ry h;obtain ⟨a,b,xs,ys,rfl,rfl,ha,hb,hz,q1,q2,q3⟩:=h;by_cases hx:xs = []
 ·subst hx;cases rx;cases ry;obtain ⟨its,r1,p1,_⟩:=I.tuple ha;obtain ⟨its2,r2,p2,_⟩:=I.tuple hb;obtain ⟨⟨cls,dd,data,sl⟩,ho,hc,n,hd⟩:=id p1;obtain ⟨⟨cls2,dd2,data2,sl2⟩,ho2,hc2,n2,hd2⟩:=id p2;simp only at hc hd hc2 hd2;subst hc hd hc2 hd2;have hi:its = []:=r1.nil_iff.mpr rfl;exact concat_meets ⟨_,ho,rfl⟩ ⟨_,ho2,rfl⟩ YCt seq_tuple_add YBS YBO (YBK _ _)
   (tuple_addW0 a b its.toArray its2.toArray n n2 dd dd2 sl sl2 (by simp [hi])) ⟨ho,ho2,⟨.ref b,H,I,rfl,q1 rfl⟩⟩
 ·exact zqQ pins s σ H (.ref a) (.ref b) v u Q I rx ry ⟨a,b,xs,ys,rfl,rfl,ha,hb,hx,hz,q2 hx,λ_ p hp=>q3 p hp⟩
def rSl3 (K:PySem.W.Frag):V->Option Int->Option Int->Hp->VK->Prop:=λx lo hi H Q=>∃ a xs,x = .ref a/\SqT K H a xs/\(cutV xs lo hi = xs->Q (.ref a) H)/\∀ p,H p = none->Q (.ref p) (upd H p (.tup (cutV xs lo hi)))
theorem zpD:SlR X (rSl3 X.K):=by
 intro pins s σ H x v vl vu lo hi sl Q I rx hs pl pu h;obtain ⟨a,xs,rfl,hx,q1,q2⟩:=h;by_cases hw:HT.sIx xs.length 0 lo = 0/\HT.sIx xs.length xs.length hi = xs.length
 ·cases rx;obtain ⟨its,r,ht,hz⟩:=I.tuple hx;have hlen:its.toArray.size = xs.length:=by rw [YAl];exact r.length.symm
  refine ⟨"tuple",_,YAJ.lookup,ht.typeIs,?_⟩;refine HT.getItem_tuple_whole ht hs pl pu (by rw [hlen];exact hw) ?_;refine ⟨.ref a,H,I,rfl,q1 ?_⟩;unfold cutV;rw [hw.1,hw.2];simp
 ·exact zrQ pins s σ H (.ref a) v vl vu lo hi sl Q I rx hs pl pu ⟨a,xs,rfl,hx,hw,q2⟩
end
end L2
namespace Fd
open PySem L2
inductive D where
 | non | bl (b:Bool) | int (i:Int) | str (x:Str) | tup (xs:List D) | lst (n:Bool) (xs:List D) | box | dct (n:Bool) (ks:List Str) (xs:List D) | obj (a:Addr) | fdc (ks:List Str) (xs:List D)
def kvD (ks:List Str) (vs:List V):List (Key × V):=(ks.zip vs).map λp=>(Sum.inr p.1,p.2)
structure Bk where
 K:PySem.W.Frag
 β:Addr
 H0:Hp
 G0:Hp
 P:Prop
mutual
def Rep (c:Bk) (G:Hp):D->V->Prop
 | .non,v=>v = .non
 | .bl b,v=>v = .bl b
 | .int i,v=>v = .int i
 | .str x,v=>v = .str x
 | .tup xs,v=>∃ a vs,v = .ref a/\SqT c.K G a vs/\Reps c G xs vs
 | .lst n xs,v=>∃ a vs,v = .ref a/\G a = some (.lst vs)/\(n = true->c.H0 a = none)/\Reps c G xs vs
 | .box,v=>v = .ref c.β
 | .dct n ks xs,v=>∃ a vs,v = .ref a/\G a = some (.dK (kvD ks vs))/\(n = true->c.H0 a = none)/\ks.length = vs.length/\Reps c G xs vs
 | .fdc ks xs,v=>∃ a vs o,v = .ref a/\G a = some (.frz o (.dK (kvD ks vs)))/\ks.length = vs.length/\Reps c G xs vs
 | .obj a,v=>v = .ref a
def Reps (c:Bk) (G:Hp):List D->List V->Prop
 | [],vs=>vs = []
 | x :: xs,vs=>∃ v ws,vs = v :: ws/\Rep c G x v/\Reps c G xs ws
end
theorem zba   (e:Same H H') (h:SqT K H a xs):SqT K H' a xs:=by
 rcases h with h | h
 ·rcases h with h | ⟨o,h⟩
  ·exact .inl (.inl (e _ _ h))
  ·exact .inl (.inr ⟨o,e _ _ h⟩)
 ·exact .inr h
mutual
theorem Rep.mono  (e:Same G G'):∀ {d:D} {v:V},Rep c G d v->Rep c G' d v
 | .non,_,h=>h
 | .bl _,_,h=>h
 | .int _,_,h=>h
 | .str _,_,h=>h
 | .box,_,h=>h
 | .obj _,_,h=>h
 | .dct n ks xs,_,⟨a,vs,h1,h2,h4,h5,h3⟩=>⟨a,vs,h1,e _ _ h2,h4,h5,Reps.mono e h3⟩
 | .fdc ks xs,_,⟨a,vs,o,h1,h2,h5,h3⟩=>⟨a,vs,o,h1,e _ _ h2,h5,Reps.mono e h3⟩
 | .tup xs,_,⟨a,vs,h1,h2,h3⟩=>⟨a,vs,h1,zba e h2,Reps.mono e h3⟩
 | .lst n xs,_,⟨a,vs,h1,h2,h4,h3⟩=>⟨a,vs,h1,e _ _ h2,h4,Reps.mono e h3⟩
theorem Reps.mono  (e:Same G G'):∀ {ds:List D} {vs:List V},Reps c G ds vs->Reps c G' ds vs
 | [],_,h=>h
 | _ :: _,_,⟨v,ws,h1,h2,h3⟩=>⟨v,ws,h1,Rep.mono e h2,Reps.mono e h3⟩
end
def D.old:D->D
 | .non=>.non
 | .bl b=>.bl b
 | .int i=>.int i
 | .str x=>.str x
 | .box=>.box
 | .obj a=>.obj a
 | .dct _ ks xs=>.dct false ks (xs.map D.old)
 | .fdc ks xs=>.fdc ks (xs.map D.old)
 | .tup xs=>.tup (xs.map D.old)
 | .lst _ xs=>.lst false (xs.map D.old)
mutual
/-- handed on to another call -/
theorem Rep.hand  (hk:c.K = c'.K) (hb:c.β = c'.β):∀ {d:D} {v:V},Rep c G d v->Rep c' G d.old v
 | .non,_,h=>by unfold D.old;exact h
 | .bl _,_,h=>by unfold D.old;exact h
 | .int _,_,h=>by unfold D.old;exact h
 | .str _,_,h=>by unfold D.old;exact h
 | .box,_,h=>by unfold D.old;show _ = V.ref c'.β;rw [<- hb];exact h
 | .obj _,_,h=>by unfold D.old;exact h
 | .dct n ks xs,_,⟨a,vs,h1,h2,h4,h5,h3⟩=>by unfold D.old;exact ⟨a,vs,h1,h2,(λz=>by cases z),h5,Reps.hand hk hb h3⟩
 | .fdc ks xs,_,⟨a,vs,o,h1,h2,h5,h3⟩=>by unfold D.old;exact ⟨a,vs,o,h1,h2,h5,Reps.hand hk hb h3⟩
 | .tup xs,_,⟨a,vs,h1,h2,h3⟩=>by unfold D.old;exact ⟨a,vs,h1,hk ▸ h2,Reps.hand hk hb h3⟩
 | .lst n xs,_,⟨a,vs,h1,h2,h4,h3⟩=>by unfold D.old;exact ⟨a,vs,h1,h2,(λz=>by cases z),Reps.hand hk hb h3⟩
theorem Reps.hand  (hk:c.K = c'.K) (hb:c.β = c'.β):∀ {ds:List D} {vs:List V},Reps c G ds vs->Reps c' G (ds.map D.old) vs
 | [],_,h=>h
 | _ :: _,_,⟨v,ws,h1,h2,h3⟩=>⟨v,ws,h1,Rep.hand hk hb h2,Reps.hand hk hb h3⟩
end
mutual
/-- and back: what is newer than the inner call is newer than the outer one -/
theorem Rep.back  (hk:c'.K = c.K) (hb:c'.β = c.β) (hn:∀ a,c'.H0 a = none->c.H0 a = none):∀ {d:D} {v:V},Rep c' G d v->Rep c G d v
 | .non,_,h=>h
 | .bl _,_,h=>h
 | .int _,_,h=>h
 | .str _,_,h=>h
 | .box,_,h=>by show _ = V.ref c.β;rw [<- hb];exact h
 | .obj _,_,h=>h
 | .dct n ks xs,_,⟨a,vs,h1,h2,h4,h5,h3⟩=>⟨a,vs,h1,h2,λz=>hn a (h4 z),h5,Reps.back hk hb hn h3⟩
 | .fdc ks xs,_,⟨a,vs,o,h1,h2,h5,h3⟩=>⟨a,vs,o,h1,h2,h5,Reps.back hk hb hn h3⟩
 | .tup xs,_,⟨a,vs,h1,h2,h3⟩=>⟨a,vs,h1,hk ▸ h2,Reps.back hk hb hn h3⟩
 | .lst n xs,_,⟨a,vs,h1,h2,h4,h3⟩=>⟨a,vs,h1,h2,λz=>hn a (h4 z),Reps.back hk hb hn h3⟩
theorem Reps.back  (hk:c'.K = c.K) (hb:c'.β = c.β) (hn:∀ a,c'.H0 a = none->c.H0 a = none):∀ {ds:List D} {vs:List V},Reps c' G ds vs->Reps c G ds vs
 | [],_,h=>h
 | _ :: _,_,⟨v,ws,h1,h2,h3⟩=>⟨v,ws,h1,Rep.back hk hb hn h2,Reps.back hk hb hn h3⟩
end
theorem Reps.length  : ∀ {ds:List D} {vs:List V},Reps c G ds vs->ds.length = vs.length
 | [],_,h=>by cases h;rfl
 | _ :: _,_,⟨v,ws,h1,_,h3⟩=>by subst h1;simp [Reps.length h3]
theorem Reps.get  : ∀ {ds:List D} {vs:List V} {i:Nat} {d:D},Reps c G ds vs->ds[i]? = some d->∃ v,vs[i]? = some v/\Rep c G d v
 | [],_,_,_,_,e=>by simp at e
 | _ :: _,_,0,_,⟨v,ws,h1,h2,_⟩,e=>by subst h1;simp at e;subst e;exact ⟨v,rfl,h2⟩
 | _ :: _,_,i + 1,d,⟨v,ws,h1,_,h3⟩,e=>by subst h1;exact Reps.get (i:=i) h3 (by simpa using e)
theorem Reps.append  : ∀ {ds es:List D} {vs ws:List V},Reps c G ds vs->Reps c G es ws->Reps c G (ds ++ es) (vs ++ ws)
 | [],_,_,_,h,k=>by cases h;exact k
 | _ :: _,_,_,_,⟨v,us,h1,h2,h3⟩,k=>by subst h1;exact ⟨v,us ++ _,rfl,h2,Reps.append h3 k⟩
theorem Reps.one   (h:Rep c G d v):Reps c G [d] [v]:=⟨v,[],rfl,h,rfl⟩
theorem Reps.set   (h:Rep c G d v):∀ {ds:List D} {vs:List V} (i:Nat),Reps c G ds vs->Reps c G (ds.set i d) (vs.set i v)
 | [],_,_,k=>by cases k;rfl
 | _ :: _,_,0,⟨u,us,h1,h2,h3⟩=>by subst h1;exact ⟨v,us,rfl,h,h3⟩
 | _ :: _,_,i + 1,⟨u,us,h1,h2,h3⟩=>by subst h1;exact ⟨u,us.set i v,rfl,h2,Reps.set h i h3⟩
theorem Reps.take  : ∀ {ds:List D} {vs:List V} (i:Nat),Reps c G ds vs->Reps c G (ds.take i) (vs.take i)
 | [],_,_,k=>by cases k;simp [Reps]
 | _ :: _,_,0,_=>by simp [Reps]
 | _ :: _,_,i + 1,⟨u,us,h1,h2,h3⟩=>by subst h1;exact ⟨u,us.take i,rfl,h2,Reps.take i h3⟩
theorem Reps.drop  : ∀ {ds:List D} {vs:List V} (i:Nat),Reps c G ds vs->Reps c G (ds.drop i) (vs.drop i)
 | [],_,_,k=>by cases k;simp [Reps]
 | _ :: _,_,0,k=>k
 | _ :: _,_,i + 1,⟨u,us,h1,h2,h3⟩=>by subst h1;exact Reps.drop i h3
theorem reps_bools  : ∀ {ns:List Bool} {vs:List V},Reps c G (ns.map D.bl) vs ↔ vs = ns.map V.bl
 | [],_=>Iff.rfl
 | n :: ns,vs=>by
  constructor
  ·rintro ⟨v,ws,h1,h2,h3⟩;rw [h1,reps_bools.mp h3]
   have:v = V.bl n:=h2
   rw [this];rfl
  ·rintro rfl;exact ⟨V.bl n,ns.map V.bl,rfl,rfl,reps_bools.mpr rfl⟩
def boxO (cc:Addr) (p r d:Int):HO:=.lst [.ref cc,.int p,.int r,.int d]
structure BoxD (β:Addr) (H G:Hp):Prop where
 ex:∃ cc p r d,∃ ns:List Int,H β = some (boxO cc p r d)/\0 <= p/\0 <= r/\0 <= d/\d < 2147483629/\G cc = some (.lst (ns.map V.int))/\ns.length <= 63
 still:G β = none
theorem BoxD.at  (b:BoxD β H G):∃ o,H β = some o:=by
 obtain ⟨cc,p,r,d,ns,h,_⟩:=b.ex;exact ⟨_,h⟩
def zeE:HO->Prop
 | .tup _=>True
 | .frz _ _=>True
 | _=>False
structure Stp (β:Addr) (H G H' G':Hp):Prop where
 gg:Same G G'
 gh:Same G' H'
 fr:∀ a o,a ≠ β->H a = some o->H' a = some o
 nw:∀ a,G' a ≠ none->G a ≠ none\/H a = none\/∃ o,H a = some o/\zeE o
 bx:BoxD β H' G'
 b0:H β ≠ none
 bc:∀ cc p r d,H β = some (boxO cc p r d)->∃ p r d,H' β = some (boxO cc p r d)
theorem Stp.refl  (gh:Same G H) (b:BoxD β H G):Stp β H G H G:=
 ⟨Same.refl _,gh,λ_ _ _ e=>e,λ_ e=>.inl e,b,λz=>by (obtain ⟨o,h⟩:=b.at;rw [z] at h;cases h),λ_ p r d h=>⟨p,r,d,h⟩⟩
theorem Stp.free  (s:Stp β H G H' G') (h:H' a = none):H a = none:=by
 cases e:H a with
 | none=>rfl
 | some o=>
  by_cases z:a = β
  ·obtain ⟨o',h'⟩:=s.bx.at;rw [z,h'] at h;cases h
  ·rw [s.fr a o z e] at h;cases h
theorem Stp.trans  (s:Stp β H G H1 G1) (t:Stp β H1 G1 H2 G2):Stp β H G H2 G2:=
 ⟨s.gg.trans t.gg,t.gh,λa o n e=>t.fr a o n (s.fr a o n e),λa e=>(t.nw a e).elim (s.nw a) λz=>z.elim (λz=>.inr (.inl (s.free z))) λ⟨o,ho,st⟩=>by
  cases e:H a with
  | none=>exact .inr (.inl rfl)
  | some o'=>
   have nb:a ≠ β:=λz=>by
    obtain ⟨cc,p,r,d,ns,h,_⟩:=s.bx.ex;rw [z,h] at ho;cases ho;exact st
   have:=s.fr a o' nb e
   rw [ho] at this;cases this;exact .inr (.inr ⟨o,rfl,st⟩),t.bx,s.b0,λcc p r d h=>by
  obtain ⟨p1,r1,d1,h1⟩:=s.bc cc p r d h;exact t.bc cc p1 r1 d1 h1⟩
theorem BoxD.new  (b:BoxD β H G)  (hl:H l = none):BoxD β (upd H l o) G:=by
 obtain ⟨cc,p,r,d,ns,h,q⟩:=b.ex;exact ⟨⟨cc,p,r,d,ns,by rw [upd_ne (zaw h hl)];exact h,q⟩,b.still⟩
theorem znU (gh:Same G H)  (hl:H l = none):Same G (upd H l o):=λa u e=>by
 rw [upd_ne (zaw (gh a u e) hl)];exact gh a u e
theorem Stp.own  (gh:Same G H) (b:BoxD β H G)  (hl:H l = none):Stp β H G (upd H l o) G:=
 ⟨Same.refl _,znU gh hl,λa u _ e=>by rw [upd_ne (zaw e hl)];exact e,λ_ e=>.inl e,b.new hl,λz=>by (obtain ⟨o,h⟩:=b.at;rw [z] at h;cases h),λcc p r d h=>⟨p,r,d,by rw [upd_ne (zaw h hl)];exact h⟩⟩
theorem zai (gh:Same G H) (hl:H l = none):G l = none:=gh.free hl
theorem Stp.still  (s:Stp β H G H' G')  (h':H' l = some o) (h0:H l = none) (hb:l ≠ β) (hg:G' l = none):Stp β H G H' (upd G' l o):=
 ⟨s.gg.trans λa u e=>by rw [upd_ne (zaw e hg)];exact e,
 λa u e=>by
  by_cases z:a = l
  ·subst z;rw [zae] at e;rw [h'];exact e
  ·rw [upd_ne z] at e;exact s.gh a u e,
 s.fr,λa e=>by
  by_cases z:a = l
  ·subst z;exact .inr (.inl h0)
  ·rw [upd_ne z] at e;exact s.nw a e,
 ⟨by
   obtain ⟨cc,p,r,d,ns,h,p1,p2,p3,p4,hc,q⟩:=s.bx.ex;exact ⟨cc,p,r,d,ns,h,p1,p2,p3,p4,by rw [upd_ne (zaw hc hg)];exact hc,q⟩,by rw [upd_ne (YAO hb)];exact s.bx.still⟩,s.b0,s.bc⟩
theorem Stp.new  (gh:Same G H) (b:BoxD β H G)  (hl:H l = none):Stp β H G (upd H l o) (upd G l o):=by
 have hb:l ≠ β:=λz=>by obtain ⟨o,h⟩:=b.at;rw [<- z,hl] at h;cases h
 exact (Stp.own gh b hl).still zae hl hb (zai gh hl)
theorem zbo  (hg:G l = none):Same G (upd G l o):=λa u e=>by rw [upd_ne (zaw e hg)];exact e
inductive Sl where
 | un | val (d:D) | own (xs:List D) | dic (ks:List Str) (xs:List D)
abbrev Env:=List Sl
def SlOk (c:Bk) (H G:Hp):Sl->Option (Option V)->Prop
 | .un,_=>True
 | .val d,o=>∃ v,o = some (some v)/\Rep c G d v
 | .own xs,o=>∃ a vs,o = some (some (.ref a))/\H a = some (.lst vs)/\G a = none/\c.H0 a = none/\a ≠ c.β/\Reps c G xs vs
 | .dic ks xs,o=>∃ a vs,o = some (some (.ref a))/\H a = some (.dK (kvD ks vs))/\G a = none/\c.H0 a = none/\a ≠ c.β/\Reps c G xs vs/\ks.length = vs.length
structure Rel (c:Bk) (ρ:Env) (σ:St) (H G:Hp):Prop where
 len:ρ.length = σ.length
 stp:Stp c.β c.H0 c.G0 H G
 slot:∀ (i:Nat) s,ρ[i]? = some s->SlOk c H G s σ[i]?
 dis:∀ (i j:Nat) a xs ys,ρ[i]? = some (.own xs)->ρ[j]? = some (.own ys)->σ[i]? = some (some (.ref a))->σ[j]? = some (some (.ref a))->i = j
 kn:c.P
theorem Rel.gh   (r:Rel c ρ σ H G):Same G H:=r.stp.gh
theorem Rel.bx   (r:Rel c ρ σ H G):BoxD c.β H G:=r.stp.bx
theorem Rel.refl   (r:Rel c ρ σ H G):Stp c.β H G H G:=Stp.refl r.gh r.bx
theorem SlOk.step  (t:Stp c.β H G H' G'):∀ {s:Sl} {o:Option (Option V)},SlOk c H G s o->SlOk c H' G' s o
 | .un,_,_=>trivial
 | .val d,_,⟨v,h1,h2⟩=>⟨v,h1,h2.mono t.gg⟩
 | .own xs,_,⟨a,vs,h1,h2,h3,h4,h5,h6⟩=>⟨a,vs,h1,t.fr a _ h5 h2,(by
   cases e:G' a with
   | none=>rfl
   | some o=>
    rcases t.nw a (by rw [e];simp) with z | z | ⟨o',z,st⟩
    ·exact absurd h3 z
    ·rw [h2] at z;cases z
    ·rw [h2] at z;cases z;exact st.elim),h4,h5,h6.mono t.gg⟩
 | .dic ks xs,_,⟨a,vs,h1,h2,h3,h4,h5,h6,h7⟩=>⟨a,vs,h1,t.fr a _ h5 h2,(by
   cases e:G' a with
   | none=>rfl
   | some o=>
    rcases t.nw a (by rw [e];simp) with z | z | ⟨o',z,st⟩
    ·exact absurd h3 z
    ·rw [h2] at z;cases z
    ·rw [h2] at z;cases z;exact st.elim),h4,h5,h6.mono t.gg,h7⟩
theorem Rel.step   (r:Rel c ρ σ H G) (t:Stp c.β H G H' G'):Rel c ρ σ H' G':=
 ⟨r.len,r.stp.trans t,λi s e=>(r.slot i s e).step t,r.dis,r.kn⟩
theorem Rel.put    (r:Rel c ρ σ H G) (h:Rep c G d v):Rel c (ρ.set i (.val d)) (σ.set i (some v)) H G:=by
 refine ⟨by simp [r.len],r.stp,λj s e=>?_,λj k a xs ys e1 e2 e3 e4=>?_,r.kn⟩
 ·by_cases z:i = j
  ·subst z;have hi:i < ρ.length:=by have:=(YAd.mp e).1;simpa using this
   rw [YAh hi] at e;cases e;exact ⟨v,by rw [YAh (by rw [<- r.len];exact hi)],h⟩
  ·rw [YAi z] at e ⊢;exact r.slot j s e
 ·have nj:i ≠ j:=λz=>by
   subst z;have hi:i < ρ.length:=by have:=(YAd.mp e1).1;simpa using this
   rw [YAh hi] at e1;cases e1
  have nk:i ≠ k:=λz=>by
   subst z;have hi:i < ρ.length:=by have:=(YAd.mp e2).1;simpa using this
   rw [YAh hi] at e2;cases e2
  rw [YAi nj] at e1 e3;rw [YAi nk] at e2 e4;exact r.dis j k a xs ys e1 e2 e3 e4
theorem Rel.putOwn     (r:Rel c ρ σ H G) (hl:H l = some (.lst vs)) (hg:G l = none) (h0:c.H0 l = none) (hb:l ≠ c.β) (h:Reps c G xs vs)
  (hn:∀ (j:Nat) ys,ρ[j]? = some (.own ys)->σ[j]? ≠ some (some (.ref l))):Rel c (ρ.set i (.own xs)) (σ.set i (some (.ref l))) H G:=by
 refine ⟨by simp [r.len],r.stp,λj s e=>?_,λj k a xs' ys e1 e2 e3 e4=>?_,r.kn⟩
 ·by_cases z:i = j
  ·subst z;have hi:i < ρ.length:=by have:=(YAd.mp e).1;simpa using this
   rw [YAh hi] at e;cases e;exact ⟨l,vs,by rw [YAh (by rw [<- r.len];exact hi)],hl,hg,h0,hb,h⟩
  ·rw [YAi z] at e ⊢;exact r.slot j s e
 ·by_cases zj:i = j
  ·by_cases zk:i = k
   ·exact zj.symm.trans zk
   ·subst zj;have hi:i < ρ.length:=by have:=(YAd.mp e1).1;simpa using this
    rw [YAh (by rw [<- r.len];exact hi)] at e3;cases e3;rw [YAi zk] at e2 e4;exact absurd e4 (hn k ys e2)
  ·by_cases zk:i = k
   ·subst zk;have hi:i < ρ.length:=by have:=(YAd.mp e2).1;simpa using this
    rw [YAh (by rw [<- r.len];exact hi)] at e4;cases e4;rw [YAi zj] at e1 e3;exact absurd e3 (hn j xs' e1)
   ·rw [YAi zj] at e1 e3;rw [YAi zk] at e2 e4;exact r.dis j k a xs' ys e1 e2 e3 e4
theorem Rel.write     (r:Rel c ρ σ H G) (hi:ρ[i]? = some (.own xs)) (hs:σ[i]? = some (some (.ref l))) (h:Reps c G ys ws) :
  Rel c (ρ.set i (.own ys)) σ (upd H l (.lst ws)) G:=by
 obtain ⟨a,vs,h1,h2,h3,h4,h5,h6⟩:=r.slot i _ hi;rw [hs] at h1;cases h1;have hil:i < ρ.length:=(YAd.mp hi).1;refine ⟨by simp [r.len],⟨r.stp.gg,λb u e=>?_,λb u n e=>?_,r.stp.nw,?_,r.stp.b0,λcc p q d e=>by
  obtain ⟨p',q',d',e'⟩:=r.stp.bc cc p q d e;exact ⟨p',q',d',by rw [upd_ne (YAO h5)];exact e'⟩⟩,λj s e=>?_,λj k b xs' ys' e1 e2 e3 e4=>?_,r.kn⟩
 ·rw [upd_ne (λz=>by rw [z,h3] at e;cases e)];exact r.gh b u e
 ·rw [upd_ne (λz=>by rw [z,h4] at e;cases e)];exact r.stp.fr b u n e
 ·obtain ⟨cc,p,q,d,ns,e,z⟩:=r.bx.ex;exact ⟨⟨cc,p,q,d,ns,by rw [upd_ne (YAO h5)];exact e,z⟩,r.bx.still⟩
 ·by_cases z:i = j
  ·subst z;rw [YAh hil] at e;cases e;exact ⟨l,ws,hs,zae,h3,h4,h5,h⟩
  ·rw [YAi z] at e;have q:=r.slot j s e;cases s with
   | un=>trivial
   | val d=>exact q
   | own zs=>
    obtain ⟨b,us,g1,g2,g3⟩:=q;have nb:b ≠ l:=λy=>z (r.dis i j l xs zs hi e hs (by rw [g1,y]));exact ⟨b,us,g1,by rw [upd_ne nb];exact g2,g3⟩
   | dic ks zs=>
    obtain ⟨b,us,g1,g2,g3⟩:=q;have nb:b ≠ l:=λy=>by rw [y,h2] at g2;cases g2
    exact ⟨b,us,g1,by rw [upd_ne nb];exact g2,g3⟩
 ·have f:∀ (m:Nat) zs,(ρ.set i (.own ys))[m]? = some (.own zs)->∃ zs',ρ[m]? = some (.own zs'):=λm zs e=>by
   by_cases z:i = m
   ·exact ⟨xs,z ▸ hi⟩
   ·rw [YAi z] at e;exact ⟨zs,e⟩
  obtain ⟨_,f1⟩:=f j _ e1;obtain ⟨_,f2⟩:=f k _ e2;exact r.dis j k b _ _ f1 f2 e3 e4
theorem Rel.freeze    (r:Rel c ρ σ H G) (hi:ρ[i]? = some (.own xs)):∃ G',Same G G'/\Rel c (ρ.set i (.val (.lst true xs))) σ H G':=by
 obtain ⟨a,vs,h1,h2,h3,h4,h5,h6⟩:=r.slot i _ hi;have hil:i < ρ.length:=(YAd.mp hi).1;have sg:Same G (upd G a (.lst vs)):=zbo h3;refine ⟨upd G a (.lst vs),sg,by simp [r.len],r.stp.still h2 h4 h5 h3,λj s e=>?_,λj k b xs' ys' e1 e2 e3 e4=>?_,r.kn⟩
 ·by_cases z:i = j
  ·subst z;rw [YAh hil] at e;cases e;exact ⟨.ref a,h1,a,vs,rfl,zae,λ_=>h4,h6.mono sg⟩
  ·rw [YAi z] at e;have q:=r.slot j s e;cases s with
   | un=>trivial
   | val d=>obtain ⟨v,g1,g2⟩:=q;exact ⟨v,g1,g2.mono sg⟩
   | own zs=>
    obtain ⟨b,us,g1,g2,g3,g4,g5,g6⟩:=q;have nb:b ≠ a:=λy=>z (r.dis i j a xs zs hi e h1 (by rw [g1,y]));exact ⟨b,us,g1,g2,by rw [upd_ne nb];exact g3,g4,g5,g6.mono sg⟩
   | dic ks zs=>
    obtain ⟨b,us,g1,g2,g3,g4,g5,g6,g7⟩:=q;have nb:b ≠ a:=λy=>by rw [y,h2] at g2;cases g2
    exact ⟨b,us,g1,g2,by rw [upd_ne nb];exact g3,g4,g5,g6.mono sg,g7⟩
 ·have f:∀ (m:Nat) zs,(ρ.set i (.val (.lst true xs)))[m]? = some (.own zs)->ρ[m]? = some (.own zs):=λm zs e=>by
   by_cases z:i = m
   ·subst z;rw [YAh hil] at e;cases e
   ·rw [YAi z] at e;exact e
  exact r.dis j k b _ _ (f j _ e1) (f k _ e2) e3 e4
abbrev WE:=Env->(D->Prop)->Prop
abbrev WL:=Env->(List D->Prop)->Prop
abbrev WT:=Env->(Bool->Prop)->Prop
def zbX (W:WE):Prop:=∀ ρ Q Q',(∀ d,Q d->Q' d)->W ρ Q->W ρ Q'
def zfv (W:WL):Prop:=∀ ρ Q Q',(∀ d,Q d->Q' d)->W ρ Q->W ρ Q'
def zhd (W:WT):Prop:=∀ ρ Q Q',(∀ d,Q d->Q' d)->W ρ Q->W ρ Q'
def tD (c:Bk) (W:WE):TE:=λσ H Q=>∃ ρ G,Rel c ρ σ H G/\W ρ λd=>∀ v H' G',Stp c.β H G H' G'->Rep c G' d v->Q v H'
def tDs (c:Bk) (W:WL):TA:=λσ H Q=>∃ ρ G,Rel c ρ σ H G/\W ρ λds=>∀ vs H' G',Stp c.β H G H' G'->Reps c G' ds vs->Q vs H'
def tDf (c:Bk) (W:WL):TE:=λσ H Q=>∃ ρ G,Rel c ρ σ H G/\W ρ λds=>∀ l vs H' G',Stp c.β H G H' G'->H' l = some (.lst vs)->G' l = none->H l = none->Reps c G' ds vs->Q (.ref l) H'
def tDt (c:Bk) (W:WT):TT:=λσ H Q=>∃ ρ G,Rel c ρ σ H G/\W ρ λb=>∀ H' G',Stp c.β H G H' G'->Q b H'
structure DE (X:Cx) (c:Bk) (e:Expr) (W:WE):Prop where
 mono:zbX W
 pe:PE X e (tD c W)
structure DF (X:Cx) (c:Bk) (e:Expr) (W:WL):Prop where
 mono:zfv W
 pe:PE X e (tDf c W)
structure DA (X:Cx) (c:Bk) (es:List Expr) (W:WL):Prop where
 mono:zfv W
 pa:PA X es (tDs c W)
structure DT (X:Cx) (c:Bk) (e:Expr) (W:WT):Prop where
 mono:zhd W
 pt:PT X e (tDt c W)
section
variable {X:Cx}
theorem zay  (h:PE X e t) (k:∀ σ H Q,t' σ H Q->t σ H Q):PE X e t':=λpins s σ H Q I q=>h pins s σ H Q I (k σ H Q q)
theorem zgO  (h:PT X e t) (k:∀ σ H Q,t' σ H Q->t σ H Q):PT X e t':=λpins s σ H Q I q=>h pins s σ H Q I (k σ H Q q)
theorem zo8  (h:PA X e t) (k:∀ σ H Q,t' σ H Q->t σ H Q):PA X e t':=λpos pins s σ H Q I q=>h pos pins s σ H Q I (k σ H Q q)
theorem Rel.new0   (r:Rel c ρ σ H G) (h:H l = none):c.H0 l = none:=r.stp.free h
theorem Rel.neβ   (r:Rel c ρ σ H G) (h:H l = none):l ≠ c.β:=λz=>by
 obtain ⟨o,e⟩:=r.bx.at;rw [<- z,h] at e;cases e
@[reducible] def valW (W:WL):WE:=λρ Q=>W ρ λxs=>Q (.lst true xs)
theorem DF.de  (h:DF X c e W):DE X c e (valW W) where
 mono:=λρ Q Q' k q=>h.mono ρ _ _ (λxs z=>k _ z) q
 pe:=zay h.pe λσ H Q ⟨ρ,G,r,q⟩=>⟨ρ,G,r,h.mono ρ _ _ (λxs z l vs H' G' t hl hg h0 hv=>
  z (.ref l) H' (upd G' l (.lst vs)) (t.still hl h0 (r.neβ h0) hg) ⟨l,vs,rfl,zae,λ_=>r.new0 h0,hv.mono (zbo hg)⟩) q⟩
def vW (i:Nat):WE:=λρ Q=>match ρ[i]? with | some (.val d)=>Q d | _=>False
@[reducible] def kW (d:D):WE:=λ_ Q=>Q d
theorem dv (i:Nat)  (hN:X.N[i]? = some x:=by rfl) (hv:Vis X.env.scope x:=by first | exact Or.inl rfl | exact Or.inr (Or.inl rfl) | exact Or.inr (Or.inr rfl))
  (hd:(x == ("__debug__" : Str)) = false:=by decide) (hcd:(x == ("__classdict__" : Str)) = false:=by decide):DE X c (.Name x pos) (vW i) where
 mono:=λρ Q Q' k q=>by
  unfold vW at q ⊢;split at q
  ·exact k _ q
  ·exact q.elim
 pe:=zay (zbf hN hv hd hcd) λσ H Q ⟨ρ,G,r,q⟩=>by
  unfold vW at q;split at q
  ·rename_i d e
   obtain ⟨v,h1,h2⟩:=r.slot i _ e;exact ⟨v,h1,q v H G r.refl h2⟩
  ·exact q.elim
theorem zlu (d:D):zbX (kW d):=λ_ _ _ k q=>k _ q
theorem zah   : DE X c (.Constant (.int i) j pos) (kW (.int i)):=⟨zlu _,zay zaW λσ H Q ⟨ρ,G,r,q⟩=>q _ H G r.refl rfl⟩
theorem ziN   : DE X c (.Constant (.bool i) j pos) (kW (.bl i)):=⟨zlu _,zay ztJ λσ H Q ⟨ρ,G,r,q⟩=>q _ H G r.refl rfl⟩
theorem zkt  : DE X c (.Constant .none j pos) (kW .non):=⟨zlu _,zay zsP λσ H Q ⟨ρ,G,r,q⟩=>q _ H G r.refl rfl⟩
theorem zag   : DE X c (.Constant (.str i) j pos) (kW (.str i)):=⟨zlu _,zay zo7 λσ H Q ⟨ρ,G,r,q⟩=>q _ H G r.refl rfl⟩
abbrev F2:=D->D->(D->Prop)->Prop
def zby (f:F2):Prop:=∀ x y Q Q',(∀ d,Q d->Q' d)->f x y Q->f x y Q'
@[reducible] def binW (f:F2) (A B:WE):WE:=λρ Q=>A ρ λx=>B ρ λy=>f x y Q
def OpD (c:Bk) (f:F2) (r:R2):Prop:=∀ (H G:Hp) (x y:D) (u v:V) (Q:VK),Same G H->BoxD c.β H G->(∀ a,H a = none->c.H0 a = none)->Rep c G x u->Rep c G y v ->
 f x y (λd=>∀ v H' G',Stp c.β H G H' G'->Rep c G' d v->Q v H')->r u v H Q
theorem zfz   (fm:zby f) (mA:zbX A) (mB:zbX B) (hr:OpD c f r) (σ:St) (H:Hp) (Q:VK) (h:tD c (binW f A B) σ H Q):tOp r (tD c A) (tD c B) σ H Q:=by
 obtain ⟨ρ,G,R,q⟩:=h;refine ⟨ρ,G,R,mA ρ _ _ (λx q1 u H1 G1 t1 e1=>⟨ρ,G1,R.step t1,mB ρ _ _ (λy q2 v H2 G2 t2 e2=>?_) q1⟩) q⟩;refine hr H2 G2 x y u v Q t2.gh t2.bx (λa z=>R.new0 (t1.free (t2.free z))) (e1.mono t2.gg) e2 (fm x y _ _ (λd z w H3 G3 t3 e3=>z w H3 G3 ((t1.trans t2).trans t3) e3) q2)
theorem zd5  (fm:zby f) (mA:zbX A) (mB:zbX B):zbX (binW f A B):=λρ Q Q' k q=>mA ρ _ _ (λx q1=>mB ρ _ _ (λy q2=>fm x y _ _ k q2) q1) q
theorem znA    (fm:zby f) (ho:OpR X (binaryOp op) r) (hr:OpD c f r) (hA:DE X c a A) (hB:DE X c b B):DE X c (.BinOp a op b pos) (binW f A B):=
 ⟨zd5 fm hA.mono hB.mono,zay (zdX ho hA.pe hB.pe) λσ H Q h=>zfz fm hA.mono hB.mono hr σ H Q h⟩
theorem zqV    (fm:zby f) (ho:OpR X (compareOp op) r) (hr:OpD c f r) (hA:DE X c a A) (hB:DE X c b B) (hm:behindInMarks op b = false):DE X c (.Compare a [op] [b] pos) (binW f A B):=
 ⟨zd5 fm hA.mono hB.mono,zay (zqL ho hA.pe hB.pe hm) λσ H Q h=>zfz fm hA.mono hB.mono hr σ H Q h⟩
def blW (A:WE):WT:=λρ Q=>A ρ λd=>match d with | .bl b=>Q b | _=>False
theorem zjY (m:zbX A):zhd (blW A):=λρ Q Q' k q=>m ρ _ _ (λd z=>by
 cases d <;> first | exact k _ z | exact z) q
theorem zp9  (m:zbX A) (σ:St) (H:Hp) (Q:Bool->Hp->Prop) (h:tDt c (blW A) σ H Q):zsj (tD c A) σ H Q:=by
 obtain ⟨ρ,G,R,q⟩:=h;refine ⟨ρ,G,R,m ρ _ _ (λd z v H1 G1 t e=>?_) q⟩;cases d with
 | bl b=>exact ⟨b,e,z H1 G1 t⟩
 | _=>exact z.elim
theorem zfQ    (fm:zby f) (ho:OpR X (compareOp op) r) (hr:OpD c f r) (hA:DE X c a A) (hB:DE X c b B) (hm:behindInMarks op b = false):DT X c (.Compare a [op] [b] pos) (blW (binW f A B)):=
 ⟨zjY (zd5 fm hA.mono hB.mono),zgO (zhN ho hA.pe hB.pe hm) λσ H Q h=>by
  obtain ⟨ρ,G,R,q⟩:=zp9 (zd5 fm hA.mono hB.mono) σ H Q h;exact zfz fm hA.mono hB.mono hr σ H _ ⟨ρ,G,R,q⟩⟩
def addD:F2
 | .int i,.int j,Q=>Q (.int (i + j))
 | .str a,.str b,Q=>a.length + b.length <= 100000/\Q (.str (a ++ b))
 | .lst _ xs,.lst _ ys,Q=>xs.length + ys.length <= 100000/\Q (.lst true (xs ++ ys))
 | .tup xs,.tup ys,Q=>xs.length + ys.length <= 100000/\Q (.tup (xs ++ ys))
 | _,_,_=>False
def subD:F2
 | .int i,.int j,Q=>Q (.int (i - j))
 | _,_,_=>False
def mulD:F2
 | .int i,.int j,Q=>CMul i j/\Q (.int (i * j))
 | .lst _ xs,.int k,Q=>(0 <= k/\k <= 1000/\xs.length <= 1000)/\Q (.lst true (List.replicate k.toNat xs).flatten)
 | _,_,_=>False
def modD:F2
 | .int i,.int j,Q=>0 < j/\Q (.int (i % j))
 | _,_,_=>False
theorem small5 (h:n <= 100000):n <= sizeLine:=YAB h (by rw [YAQ];decide)
theorem ztd:zby addD:=λx y Q Q' k q=>by
 cases x <;> cases y <;> first | exact k _ q | exact ⟨q.1,k _ q.2⟩ | exact q
theorem zsW:zby subD:=λx y Q Q' k q=>by
 cases x <;> cases y <;> first | exact k _ q | exact q
theorem ztE:zby mulD:=λx y Q Q' k q=>by
 cases x <;> cases y <;> first | exact ⟨q.1,k _ q.2⟩ | exact q
theorem zsZ:zby modD:=λx y Q Q' k q=>by
 cases x <;> cases y <;> first | exact ⟨q.1,k _ q.2⟩ | exact q
def zrP (K:PySem.W.Frag):R2:=λx y H Q=>(rI0 (λi j=>.int (i + j)) x y H Q\/(∃ i j,x = .str i/\y = .str j/\i.length + j.length <= sizeLine/\Q (.str (i ++ j)) H))\/(rCat x y H Q\/zst K x y H Q)
theorem zqK {c:Bk} (hK:c.K = X.K):OpR X (binaryOp .Add) (zrP c.K):=by rw [hK];exact (op_add.or zla).or (op_cat.or zp7)
theorem zsB:OpD c addD (zrP c.K):=by
 intro H G x y u v Q gh bx h0 rx ry q;cases x with
 | int i=>cases y with
  | int j=>cases rx;cases ry;exact .inl (.inl ⟨i,j,rfl,rfl,q _ H G (Stp.refl gh bx) rfl⟩)
  | _=>exact q.elim
 | str i=>cases y with
  | str j=>cases rx;cases ry;exact .inl (.inr ⟨i,j,rfl,rfl,small5 q.1,q.2 _ H G (Stp.refl gh bx) rfl⟩)
  | _=>exact q.elim
 | lst n xs=>cases y with
  | lst m ys=>
   obtain ⟨a,vs,rfl,ha,_,rv⟩:=rx;obtain ⟨b,ws,rfl,hb,_,rw'⟩:=ry;refine .inr (.inl ⟨a,b,vs,ws,rfl,rfl,gh _ _ ha,gh _ _ hb,?_,λp hp=>?_⟩)
   ·rw [<- rv.length,<- rw'.length];exact small5 q.1
   ·have hg:=zai gh hp;exact q.2 (.ref p) _ _ (Stp.new gh bx hp) ⟨p,vs ++ ws,rfl,zae,λ_=>h0 p hp,(rv.append rw').mono (zbo hg)⟩
  | _=>exact q.elim
 | tup xs=>cases y with
  | tup ys=>
   obtain ⟨a,vs,rfl,ha,rv⟩:=rx;obtain ⟨b,ws,rfl,hb,rw'⟩:=ry;refine .inr (.inr ⟨a,b,vs,ws,rfl,rfl,zba gh ha,zba gh hb,?_,λe=>?_,λ_ e=>?_,λp hp=>?_⟩)
   ·rw [<- rv.length,<- rw'.length];exact small5 q.1
   ·subst e
    have:xs = []:=by have:=rv.length;simpa using this
    subst this;exact q.2 (.ref b) H G (Stp.refl gh bx) ⟨b,ws,rfl,hb,rw'⟩
   ·subst e
    have:ys = []:=by have:=rw'.length;simpa using this
    subst this;exact q.2 (.ref a) H G (Stp.refl gh bx) ⟨a,vs,rfl,ha,by simpa using rv⟩
   ·have hg:=zai gh hp;exact q.2 (.ref p) _ _ (Stp.new gh bx hp) ⟨p,vs ++ ws,rfl,SqT.of zae,(rv.append rw').mono (zbo hg)⟩
  | _=>exact q.elim
 | _=>exact q.elim
theorem zbF   (hA:DE X c a A) (hB:DE X c b B) (hK:c.K = X.K:=by rfl):DE X c (.BinOp a .Add b pos) (binW addD A B):=znA ztd (zqK hK) zsB hA hB
theorem zru:OpD c subD (rI0 λi j=>.int (i - j)):=by
 intro H G x y u v Q gh bx h0 rx ry q;cases x with
 | int i=>cases y with
  | int j=>cases rx;cases ry;exact ⟨i,j,rfl,rfl,q _ H G (Stp.refl gh bx) rfl⟩
  | _=>exact q.elim
 | _=>exact q.elim
theorem zlD   (hA:DE X c a A) (hB:DE X c b B):DE X c (.BinOp a .Sub b pos) (binW subD A B):=znA zsW zsp zru hA hB
def ztN:R2:=λx y H Q=>rI CMul (λi j=>.int (i * j)) x y H Q\/rRep x y H Q
theorem zrd:OpD c mulD ztN:=by
 intro H G x y u v Q gh bx h0 rx ry q;cases x with
 | int i=>cases y with
  | int j=>cases rx;cases ry;exact .inl ⟨i,j,rfl,rfl,q.1,q.2 _ H G (Stp.refl gh bx) rfl⟩
  | _=>exact q.elim
 | lst n xs=>cases y with
  | int k=>
   obtain ⟨a,vs,rfl,ha,_,rv⟩:=rx;cases ry;obtain ⟨⟨k0,k1,hz⟩,q⟩:=q;refine .inr ⟨a,k,vs,rfl,rfl,gh _ _ ha,by omega,by omega,?_,λp hp=>?_⟩
   ·rw [<- rv.length,YAQ];have h1:k.toNat <= 1000:=by omega
    have:=YCK hz h1
    omega
   ·have hg:=zai gh hp
    have:∀ m:Nat,Reps c G (List.replicate m xs).flatten (List.replicate m vs).flatten:=λm=>by
     induction m with
     | zero=>rfl
     | succ m ih=>rw [YBb,YBb,YBl,YBl];exact rv.append ih
    exact q (.ref p) _ _ (Stp.new gh bx hp) ⟨p,_,rfl,zae,λ_=>h0 p hp,(this _).mono (zbo hg)⟩
  | _=>exact q.elim
 | _=>exact q.elim
theorem zqT   (hA:DE X c a A) (hB:DE X c b B):DE X c (.BinOp a .Mult b pos) (binW mulD A B):=znA ztE (op_mul.or zsL) zrd hA hB
theorem zr3:OpD c modD (rI (λ_ j=>0 < j) λi j=>.int (i % j)):=by
 intro H G x y u v Q gh bx h0 rx ry q;cases x with
 | int i=>cases y with
  | int j=>cases rx;cases ry;exact ⟨i,j,rfl,rfl,q.1,q.2 _ H G (Stp.refl gh bx) rfl⟩
  | _=>exact q.elim
 | _=>exact q.elim
theorem znx   (hA:DE X c a A) (hB:DE X c b B):DE X c (.BinOp a .Mod b pos) (binW modD A B):=znA zsZ zgK zr3 hA hB
def negD:D->(D->Prop)->Prop
 | .int i,Q=>Q (.int (-i))
 | _,_=>False
@[reducible] def unW (f:D->(D->Prop)->Prop) (A:WE):WE:=λρ Q=>A ρ λx=>f x Q
theorem zry   (hA:DE X c a A):DE X c (.UnaryOp .USub a pos) (unW negD A) where
 mono:=λρ Q Q' k q=>hA.mono ρ _ _ (λx z=>by cases x <;> first | exact k _ z | exact z) q
 pe:=zay (zti zq5 hA.pe) λσ H Q ⟨ρ,G,r,q⟩=>⟨ρ,G,r,hA.mono ρ _ _ (λx z v H' G' t e=>by
  cases x with
  | int i=>exact ⟨i,e,z _ H' G' t rfl⟩
  | _=>exact z.elim) q⟩
def cmpD (p:Int->Int->Bool):F2
 | .int i,.int j,Q=>Q (.bl (p i j))
 | _,_,_=>False
theorem zjt (p:Int->Int->Bool):zby (cmpD p):=λx y Q Q' k q=>by
 cases x <;> cases y <;> first | exact k _ q | exact q
theorem ziI (p:Int->Int->Bool):OpD c (cmpD p) (rI0 λi j=>.bl (p i j)):=by
 intro H G x y u v Q gh bx h0 rx ry q;cases x with
 | int i=>cases y with
  | int j=>cases rx;cases ry;exact ⟨i,j,rfl,rfl,q _ H G (Stp.refl gh bx) rfl⟩
  | _=>exact q.elim
 | _=>exact q.elim
@[reducible] def ltD:F2:=cmpD λi j=>decide (i < j)
@[reducible] def leD:F2:=cmpD λi j=>decide (i <= j)
@[reducible] def gtD:F2:=cmpD λi j=>decide (j < i)
@[reducible] def geD:F2:=cmpD λi j=>decide (j <= i)
theorem t_lt   (hA:DE X c a A) (hB:DE X c b B):DT X c (.Compare a [.Lt] [b] pos) (blW (binW ltD A B)):=zfQ (zjt _) zrG (ziI _) hA hB (zeb _)
theorem t_gt   (hA:DE X c a A) (hB:DE X c b B):DT X c (.Compare a [.Gt] [b] pos) (blW (binW gtD A B)):=zfQ (zjt _) zrX (ziI _) hA hB (zeb _)
theorem t_ge   (hA:DE X c a A) (hB:DE X c b B):DT X c (.Compare a [.GtE] [b] pos) (blW (binW geD A B)):=zfQ (zjt _) zrh (ziI _) hA hB (zeb _)
def isN:D->Bool
 | .non=>true
 | _=>false
@[reducible] def isNW (A:WE):WE:=λρ Q=>A ρ λx=>Q (.bl (isN x))
@[reducible] def zef (A:WE):WE:=λρ Q=>A ρ λx=>Q (.bl (!isN x))
theorem zjE   (h:Rep c G d v):decide (v = V.non) = isN d:=by
 cases d with
 | non=>have:v = V.non:=h;subst this;rfl
 | bl b=>have:v = V.bl b:=h;subst this;rfl
 | int b=>have:v = V.int b:=h;subst this;rfl
 | str b=>have:v = V.str b:=h;subst this;rfl
 | box=>have:v = V.ref c.β:=h;subst this;rfl
 | obj b=>have:v = V.ref b:=h;subst this;rfl
 | dct n ks xs=>obtain ⟨a,vs,rfl,_⟩:=h;rfl
 | fdc ks xs=>obtain ⟨a,vs,o,rfl,_⟩:=h;rfl
 | tup xs=>obtain ⟨a,vs,rfl,_⟩:=h;rfl
 | lst n xs=>obtain ⟨a,vs,rfl,_⟩:=h;rfl
theorem zku (m:zbX A):zbX (isNW A):=λρ Q Q' k q=>m ρ _ _ (λx z=>k _ z) q
theorem zmo (m:zbX A):zbX (zef A):=λρ Q Q' k q=>m ρ _ _ (λx z=>k _ z) q
theorem zrC   (hA:DE X c a A):DE X c (.Compare a [.Is] [.Constant .none j pos'] pos) (isNW A):=
 ⟨zku hA.mono,zay (zrn (zo9 hA.pe)) λσ H Q ⟨ρ,G,r,q⟩=>⟨ρ,G,r,hA.mono ρ _ _ (λx z v H' G' t e=>by show Q (V.bl (decide (v = V.non))) H';rw [zjE e];exact z _ H' G' t rfl) q⟩⟩
theorem zow   (hA:DE X c a A):DT X c (.Compare a [.Is] [.Constant .none j pos'] pos) (blW (isNW A)):=
 ⟨zjY (zku hA.mono),zgO (zpc (zo9 hA.pe)) λσ H Q ⟨ρ,G,r,q⟩=>⟨ρ,G,r,hA.mono ρ _ _ (λx z v H' G' t e=>⟨_,rfl,by rw [zjE e];exact z H' G' t⟩) q⟩⟩
theorem zkC   (hA:DE X c a A):DT X c (.Compare a [.IsNot] [.Constant .none j pos'] pos) (blW (zef A)):=
 ⟨zjY (zmo hA.mono),zgO (zpc (zpW hA.pe)) λσ H Q ⟨ρ,G,r,q⟩=>⟨ρ,G,r,hA.mono ρ _ _ (λx z v H' G' t e=>⟨_,rfl,by rw [zjE e];exact z H' G' t⟩) q⟩⟩
end
mutual
def toPy:D->PyData
 | .non=>.none
 | .bl b=>.bool b
 | .int i=>.int i
 | .str x=>.str x
 | .box=>.none
 | .obj _=>.none
 | .dct _ _ _=>.none
 | .fdc _ _=>.none
 | .tup xs=>.tuple (zdd xs)
 | .lst _ xs=>.list (zdd xs)
def zdd:List D->List PyData
 | []=>[]
 | x :: xs=>toPy x :: zdd xs
end
mutual
def layD:D->Bool
 | .non=>true
 | .bl _=>true
 | .int _=>true
 | .str x=>PyData.canLay0 (.str x)
 | .box=>false
 | .obj _=>false
 | .dct _ _ _=>false
 | .fdc _ _=>false
 | .tup xs=>zcF xs
 | .lst _ xs=>zcF xs
def zcF:List D->Bool
 | []=>true
 | x :: xs=>layD x && zcF xs
end
mutual
theorem zcV:∀ d:D,layD d = true->(toPy d).canLay0 = true
 | .non,_=>by unfold toPy PyData.canLay0;rfl
 | .bl _,_=>by unfold toPy PyData.canLay0;rfl
 | .int _,_=>by unfold toPy PyData.canLay0;rfl
 | .str _,h=>by unfold toPy;unfold layD at h;exact h
 | .tup xs,h=>by unfold toPy PyData.canLay0;unfold layD at h;exact zcN xs h
 | .lst _ xs,h=>by unfold toPy PyData.canLay0;unfold layD at h;exact zcN xs h
theorem zcN:∀ ds:List D,zcF ds = true->PyData.canLayAll0 (zdd ds) = true
 | [],_=>by unfold zdd PyData.canLayAll0;rfl
 | x :: xs,h=>by
  unfold zdd PyData.canLayAll0;unfold zcF at h
  have:=(YAA _ _ ▸ h:layD x = true/\zcF xs = true)
  rw [zcV x this.1,zcN xs this.2];rfl
end
theorem zgu:∀ xs:List D,zdd xs = xs.map toPy
 | []=>rfl
 | x :: xs=>by unfold zdd;rw [zgu xs];rfl
section
variable {X:Cx}
mutual
theorem Rep.reads   (hK:c.K = X.K) (I:Inv X pins σ H s) (gh:Same G H):∀ (d:D) {v:V} {u:Value},Rep c G d v->RelV v u->layD d = true->∃ as,Reads s.heap u (toPy d) as
 | .non,v,u,h,r,_=>by have:v = V.non:=h;subst this;cases r;exact ⟨_,.none⟩
 | .bl b,v,u,h,r,_=>by have:v = V.bl b:=h;subst this;cases r;exact ⟨_,.bool b⟩
 | .int i,v,u,h,r,_=>by have:v = V.int i:=h;subst this;obtain ⟨t,rfl⟩:=r;exact ⟨_,.int i t⟩
 | .str i,v,u,h,r,_=>by have:v = V.str i:=h;subst this;obtain ⟨t,rfl⟩:=r;exact ⟨_,.str i t⟩
 | .box,v,u,h,r,l=>by cases l
 | .obj _,v,u,h,r,l=>by cases l
 | .dct _ _ _,v,u,h,r,l=>by cases l
 | .fdc _ _,v,u,h,r,l=>by cases l
 | .tup xs,v,u,⟨a,vs,h1,h2,h3⟩,r,l=>by
  subst h1;cases r;obtain ⟨its,rv,p,_⟩:=I.tuple (hK ▸ zba gh h2);obtain ⟨as,q⟩:=Reps.reads hK I gh xs h3 rv l;obtain ⟨o,ho,hc,n,hd⟩:=p;unfold toPy;exact ⟨_,.tuple ho hc hd (by simpa using q)⟩
 | .lst _ xs,v,u,⟨a,vs,h1,h2,_,h3⟩,r,l=>by
  subst h1;cases r;obtain ⟨_,its,n,rv,ho⟩:=I.hok a _ (gh _ _ h2);obtain ⟨as,q⟩:=Reps.reads hK I gh xs h3 rv l;unfold toPy;exact ⟨_,.list ho rfl rfl (by simpa using q)⟩
theorem Reps.reads   (hK:c.K = X.K) (I:Inv X pins σ H s) (gh:Same G H):∀ (ds:List D) {vs:List V} {us:List Value},Reps c G ds vs->Vals vs us->zcF ds = true->∃ as,ReadsAll s.heap us (zdd ds) as
 | [],vs,us,h,r,_=>by have:vs = []:=h;subst this;cases r;exact ⟨_,.nil⟩
 | x :: xs,vs,us,⟨v,ws,h1,h2,h3⟩,r,l=>by
  subst h1;cases r with
  | cons r1 r2=>
   unfold zcF at l;have l':=(YAA _ _ ▸ l:layD x = true/\zcF xs = true);obtain ⟨as,q1⟩:=Rep.reads hK I gh x h2 r1 l'.1;obtain ⟨bs,q2⟩:=Reps.reads hK I gh xs h3 r2 l'.2;exact ⟨_,.cons q1 q2⟩
end
def eqB (x y:D):Bool:=PyData.eqv (toPy x) (toPy y)
def eqOk (x y:D):Prop:=layD x = true/\layD y = true/\min (toPy x).depth (toPy y).depth <= 50
@[reducible] def eqD:F2:=λx y Q=>eqOk x y/\Q (.bl (eqB x y))
@[reducible] def neD:F2:=λx y Q=>eqOk x y/\Q (.bl (!eqB x y))
def rEqD (c:Bk) (neg:Bool):R2:=λu v H Q=>∃ G x y,Same G H/\Rep c G x u/\Rep c G y v/\eqOk x y/\Q (.bl (if neg then !eqB x y else eqB x y)) H
theorem zoY (hK:c.K = X.K) (hu:X.A.units + 64 < cLine):OpR X (compareOp .Eq) (rEqD c false):=by
 intro pins s σ H u v a b Q I ra rb ⟨G,x,y,gh,hx,hy,⟨lx,ly,ld⟩,q⟩;obtain ⟨as,qa⟩:=hx.reads hK I gh x ra lx;obtain ⟨bs,qb⟩:=hy.reads hK I gh y rb ly;exact SeqAt.compareEq_reads qa qb (zcV x lx) (zcV y ly) (by omega) ⟨.bl _,H,I,rfl,q⟩
theorem zoS (hK:c.K = X.K) (hu:X.A.units + 64 < cLine):OpR X (compareOp .NotEq) (rEqD c true):=by
 intro pins s σ H u v a b Q I ra rb ⟨G,x,y,gh,hx,hy,⟨lx,ly,ld⟩,q⟩;obtain ⟨as,qa⟩:=hx.reads hK I gh x ra lx;obtain ⟨bs,qb⟩:=hy.reads hK I gh y rb ly;exact SeqAt.compareNe_reads qa qb (zcV x lx) (zcV y ly) (by omega) ⟨.bl _,H,I,rfl,q⟩
theorem m_eq:zby eqD:=λx y Q Q' k q=>⟨q.1,k _ q.2⟩
theorem m_ne:zby neD:=λx y Q Q' k q=>⟨q.1,k _ q.2⟩
theorem zr4:OpD c eqD (rEqD c false):=λH G x y u v Q gh bx h0 rx ry q=>⟨G,x,y,gh,rx,ry,q.1,q.2 _ H G (Stp.refl gh bx) rfl⟩
theorem zre:OpD c neD (rEqD c true):=λH G x y u v Q gh bx h0 rx ry q=>⟨G,x,y,gh,rx,ry,q.1,q.2 _ H G (Stp.refl gh bx) rfl⟩
def inOk (x:D) (ys:List D):Prop:=layD x = true/\zcF ys = true/\min (PyData.depthAll (zdd ys)) (toPy x).depth <= 50
def inB (x:D) (ys:List D):Bool:=(zdd ys).any λy=>PyData.eqv y (toPy x)
def inD (neg:Bool):F2
 | x,.lst _ ys,Q=>inOk x ys/\Q (.bl (if neg then !inB x ys else inB x ys))
 | x,.tup ys,Q=>inOk x ys/\Q (.bl (if neg then !inB x ys else inB x ys))
 | _,_,_=>False
def rInD (c:Bk) (neg:Bool):R2:=λu v H Q=>∃ G x y,Same G H/\Rep c G x u/\Rep c G y v/\inD neg x y λd=>∃ b,d = .bl b/\Q (.bl b) H
theorem zsN (hK:c.K = X.K) (hu:X.A.units + 64 < cLine):OpR X (compareOp .In) (rInD c false):=by
 intro pins s σ H u v a b Q I ra rb ⟨G,x,y,gh,hx,hy,q⟩;cases y with
 | lst n ys=>
  obtain ⟨⟨lx,ly,ld⟩,_,e,q⟩:=q;cases e;obtain ⟨as,qa⟩:=hx.reads hK I gh x ra lx;obtain ⟨bs,qb⟩:=hy.reads hK I gh (.lst n ys) rb (by unfold layD;exact ly);unfold toPy at qb;exact SeqAt.in_list_reads qb qa (zcN ys ly) (zcV x lx) (by omega) ⟨.bl _,H,I,rfl,q⟩
 | tup ys=>
  obtain ⟨⟨lx,ly,ld⟩,_,e,q⟩:=q;cases e;obtain ⟨as,qa⟩:=hx.reads hK I gh x ra lx;obtain ⟨bs,qb⟩:=hy.reads hK I gh (.tup ys) rb (by unfold layD;exact ly);unfold toPy at qb;exact SeqAt.in_tuple_reads qb qa (zcN ys ly) (zcV x lx) (by omega) ⟨.bl _,H,I,rfl,q⟩
 | _=>exact q.elim
theorem zlQ (hK:c.K = X.K) (hu:X.A.units + 64 < cLine):OpR X (compareOp .NotIn) (rInD c true):=by
 intro pins s σ H u v a b Q I ra rb ⟨G,x,y,gh,hx,hy,q⟩;cases y with
 | lst n ys=>
  obtain ⟨⟨lx,ly,ld⟩,_,e,q⟩:=q;cases e;obtain ⟨as,qa⟩:=hx.reads hK I gh x ra lx;obtain ⟨bs,qb⟩:=hy.reads hK I gh (.lst n ys) rb (by unfold layD;exact ly);unfold toPy at qb;exact SeqAt.notIn_list_reads qb qa (zcN ys ly) (zcV x lx) (by omega) ⟨.bl _,H,I,rfl,q⟩
 | tup ys=>
  obtain ⟨⟨lx,ly,ld⟩,_,e,q⟩:=q;cases e;obtain ⟨as,qa⟩:=hx.reads hK I gh x ra lx;obtain ⟨bs,qb⟩:=hy.reads hK I gh (.tup ys) rb (by unfold layD;exact ly);unfold toPy at qb;exact SeqAt.notIn_tuple_reads qb qa (zcN ys ly) (zcV x lx) (by omega) ⟨.bl _,H,I,rfl,q⟩
 | _=>exact q.elim
theorem m_in (neg:Bool):zby (inD neg):=λx y Q Q' k q=>by
 cases y <;> first | exact ⟨q.1,k _ q.2⟩ | exact q
theorem ztP (neg:Bool):OpD c (inD neg) (rInD c neg):=λH G x y u v Q gh bx h0 rx ry q=>⟨G,x,y,gh,rx,ry,by
 cases y with
 | lst n ys=>exact ⟨q.1,_,rfl,q.2 _ H G (Stp.refl gh bx) rfl⟩
 | tup ys=>exact ⟨q.1,_,rfl,q.2 _ H G (Stp.refl gh bx) rfl⟩
 | _=>exact q.elim⟩
section
variable {c:Bk} {a b:Expr} {A B:WE} {pos:Pos}
theorem d_eq (hA:DE X c a A) (hB:DE X c b B) (hK:c.K = X.K:=by rfl) (hu:X.A.units + 64 < cLine:=by decreasing_trivial):DE X c (.Compare a [.Eq] [b] pos) (binW eqD A B):=zqV m_eq (zoY hK hu) zr4 hA hB (zeb _)
theorem d_ne (hA:DE X c a A) (hB:DE X c b B) (hK:c.K = X.K:=by rfl) (hu:X.A.units + 64 < cLine:=by decreasing_trivial):DE X c (.Compare a [.NotEq] [b] pos) (binW neD A B):=zqV m_ne (zoS hK hu) zre hA hB (zeb _)
theorem t_eq (hA:DE X c a A) (hB:DE X c b B) (hK:c.K = X.K:=by rfl) (hu:X.A.units + 64 < cLine:=by decreasing_trivial):DT X c (.Compare a [.Eq] [b] pos) (blW (binW eqD A B)):=zfQ m_eq (zoY hK hu) zr4 hA hB (zeb _)
theorem t_ne (hA:DE X c a A) (hB:DE X c b B) (hK:c.K = X.K:=by rfl) (hu:X.A.units + 64 < cLine:=by decreasing_trivial):DT X c (.Compare a [.NotEq] [b] pos) (blW (binW neD A B)):=zfQ m_ne (zoS hK hu) zre hA hB (zeb _)
def truB:D->Option Bool
 | .non=>some false
 | .bl b=>some b
 | .int i=>some (i != 0)
 | .lst _ xs=>some (!xs.isEmpty)
 | .tup xs=>some (!xs.isEmpty)
 | _=>none
def truD (d:D) (Q:Bool->Prop):Prop:=match truB d with | some b=>Q b | none=>False
@[reducible] def truW (A:WE):WT:=λρ Q=>A ρ λd=>truD d Q
theorem zjy   (gh:Same G H) (h:Rep c G d v) (e:truB d = some k):TruV c.K v H k:=by
 cases d with
 | non=>cases h;cases e;rfl
 | bl b=>cases h;cases e;rfl
 | int i=>cases h;cases e;rfl
 | lst n xs=>
  obtain ⟨a,vs,rfl,h1,_,h2⟩:=h;cases e;refine .inl ⟨vs,.inl (.inl (gh _ _ h1)),?_⟩
  have:=h2.length
  cases xs <;> cases vs <;> first | rfl | simp at this
 | tup xs=>
  obtain ⟨a,vs,rfl,h1,h2⟩:=h;cases e;refine .inr (.inl ⟨vs,zba gh h1,?_⟩)
  have:=h2.length
  cases xs <;> cases vs <;> first | rfl | simp at this
 | str x=>cases e
 | box=>cases e
 | obj a=>cases e
 | dct n ks xs=>cases e
 | fdc ks xs=>cases e
theorem zf0 (d:D) (k:∀ b,Q b->Q' b) (q:truD d Q):truD d Q':=by
 unfold truD at q ⊢;split at q
 ·exact k _ q
 ·exact q.elim
theorem zio (hA:DE X c a A) (he:∀ whole,isTrue a X.env whole = (do let v <- whole;standAt a.pos;holding [v] (truthy v)):=by intro _;rfl) (hK:c.K = X.K:=by rfl):DT X c a (truW A) where
 mono:=λρ Q Q' k q=>hA.mono ρ _ _ (λd z=>zf0 d k z) q
 pt:=zgO (zfx hA.pe he) λσ H Q ⟨ρ,G,r,q⟩=>⟨ρ,G,r,hA.mono ρ _ _ (λd z v H' G' t e=>by
  unfold truD at z;split at z
  ·rename_i k hk
   exact ⟨k,hK ▸ zjy t.gh e hk,z H' G' t⟩
  ·exact z.elim) q⟩
@[reducible] def notT (A:WT):WT:=λρ Q=>A ρ λb=>Q (!b)
theorem zlo {A:WT} (hA:DT X c a A):DT X c (.UnaryOp .Not a pos) (notT A) where
 mono:=λρ Q Q' k q=>hA.mono ρ _ _ (λd z=>k _ z) q
 pt:=zgO (zmE hA.pt) λσ H Q ⟨ρ,G,r,q⟩=>⟨ρ,G,r,q⟩
@[reducible] def andT (A B:WT):WT:=λρ Q=>A ρ λb=>if b = true then B ρ Q else Q false
@[reducible] def orT (A B:WT):WT:=λρ Q=>A ρ λb=>if b = true then Q true else B ρ Q
structure DW (X:Cx) (c:Bk) (e:Expr) (W:WT):Prop where
 mono:zhd W
 pw:PW X e (tDt c W)
theorem DW.dt (h:DW X c a W):DT X c a W:=⟨h.mono,h.pw.pt⟩
theorem zpg  (h:PW X e t) (k:∀ σ H Q,t' σ H Q->t σ H Q):PW X e t':=λwh pins s σ H Q I q=>h wh pins s σ H Q I (k σ H Q q)
theorem zrj {A:WT} (hA:DT X c a A):DW X c (.BoolOp .And [a] pos) A:=⟨hA.mono,zmy hA.pt⟩
theorem zjw {A:WT} (hA:DT X c a A):DW X c (.BoolOp .Or [a] pos) A:=⟨hA.mono,zrz hA.pt⟩
theorem zs5 {A B:WT} {rest:List Expr} (hA:DT X c a A) (hB:DW X c (.BoolOp .And (b :: rest) pos) B):DW X c (.BoolOp .And (a :: b :: rest) pos) (andT A B) where
 mono:=λρ Q Q' k q=>hA.mono ρ _ _ (λd z=>by
  cases d
  ·exact k _ z
  ·exact hB.mono ρ _ _ k z) q
 pw:=zpg (zpi hA.pt hB.pw) λσ H Q ⟨ρ,G,r,q⟩=>⟨ρ,G,r,hA.mono ρ _ _ (λd z H' G' t=>by
  cases d
  ·exact z H' G' t
  ·exact ⟨ρ,G',r.step t,hB.mono ρ _ _ (λb' z' H2 G2 t2=>z' H2 G2 (t.trans t2)) z⟩) q⟩
theorem w_or {A B:WT} {rest:List Expr} (hA:DT X c a A) (hB:DW X c (.BoolOp .Or (b :: rest) pos) B):DW X c (.BoolOp .Or (a :: b :: rest) pos) (orT A B) where
 mono:=λρ Q Q' k q=>hA.mono ρ _ _ (λd z=>by
  cases d
  ·exact hB.mono ρ _ _ k z
  ·exact k _ z) q
 pw:=zpg (zs7 hA.pt hB.pw) λσ H Q ⟨ρ,G,r,q⟩=>⟨ρ,G,r,hA.mono ρ _ _ (λd z H' G' t=>by
  cases d
  ·exact ⟨ρ,G',r.step t,hB.mono ρ _ _ (λb' z' H2 G2 t2=>z' H2 G2 (t.trans t2)) z⟩
  ·exact z H' G' t) q⟩
def blD (d:D) (Q:Bool->Prop):Prop:=match d with | .bl b=>Q b | _=>False
theorem zkT (d:D) (k:∀ b,Q b->Q' b) (q:blD d Q):blD d Q':=by
 cases d <;> first | exact k _ q | exact q
@[reducible] def andW (A B:WE):WE:=λρ Q=>A ρ λx=>blD x λk=>if k = true then B ρ Q else Q (.bl false)
theorem zoH (hA:DE X c a A):DE X c (.BoolOp op [a] pos) A:=⟨hA.mono,zrk hA.pe⟩
theorem zoL {rest:List Expr} (hA:DE X c a A) (hB:DE X c (.BoolOp .And (b :: rest) pos) B):DE X c (.BoolOp .And (a :: b :: rest) pos) (andW A B) where
 mono:=λρ Q Q' k q=>hA.mono ρ _ _ (λd z=>zkT d (λb z=>by
  cases b
  ·exact k _ z
  ·exact hB.mono ρ _ _ k z) z) q
 pe:=zay (zsD hA.pe hB.pe) λσ H Q ⟨ρ,G,r,q⟩=>⟨ρ,G,r,hA.mono ρ _ _ (λd z v H' G' t e=>by
  cases d with
  | bl k=>
   refine ⟨k,e,?_⟩;cases k
   ·exact z _ H' G' t rfl
   ·exact ⟨ρ,G',r.step t,hB.mono ρ _ _ (λb' z' v2 H2 G2 t2=>z' v2 H2 G2 (t.trans t2)) z⟩
  | _=>exact z.elim) q⟩
@[reducible] def ifW (C:WT) (A B:WE):WE:=λρ Q=>C ρ λk=>if k = true then A ρ Q else B ρ Q
theorem d_if  (hC:DT X c ce C) (hA:DE X c a A) (hB:DE X c b B):DE X c (.IfExp ce a b pos) (ifW C A B) where
 mono:=λρ Q Q' k q=>hC.mono ρ _ _ (λd z=>by
  cases d
  ·exact hB.mono ρ _ _ k z
  ·exact hA.mono ρ _ _ k z) q
 pe:=zay (znY hC.pt hA.pe hB.pe) λσ H Q ⟨ρ,G,r,q⟩=>⟨ρ,G,r,hC.mono ρ _ _ (λd z H' G' t=>by
  cases d
  ·exact ⟨ρ,G',r.step t,hB.mono ρ _ _ (λb' z' v2 H2 G2 t2=>z' v2 H2 G2 (t.trans t2)) z⟩
  ·exact ⟨ρ,G',r.step t,hA.mono ρ _ _ (λb' z' v2 H2 G2 t2=>z' v2 H2 G2 (t.trans t2)) z⟩) q⟩
@[reducible] def zkL (f g:F2) (A B C:WE):WE:=λρ Q=>A ρ λx=>B ρ λy=>f x y λz=>blD z λk=>if k = true then C ρ λw=>g y w Q else Q (.bl false)
end
end
section
variable {X:Cx} {c:Bk} {a b e:Expr} {A B:WE} {pos p:Pos} {es:List Expr}
@[reducible] def nilA:WL:=λ_ Q=>Q []
@[reducible] def zab (A:WE) (R:WL):WL:=λρ Q=>A ρ λd=>R ρ λds=>Q (d :: ds)
theorem zaf:DA X c [] nilA:=⟨λ_ _ _ k q=>k _ q,zo8 zbn λσ H Q ⟨ρ,G,r,q⟩=>q [] H G r.refl rfl⟩
theorem zaa (hA:DE X c e A) (hR:DA X c es R) (hs:starEach (e :: es) X.env = (false,eval e X.env) :: starEach es X.env:=by rfl):DA X c (e :: es) (zab A R) where
 mono:=λρ Q Q' k q=>hA.mono ρ _ _ (λd z=>hR.mono ρ _ _ (λds y=>k _ y) z) q
 pa:=zo8 (zaD hA.pe hR.pa hs) λσ H Q ⟨ρ,G,r,q⟩=>⟨ρ,G,r,hA.mono ρ _ _ (λd z v H1 G1 t1 e1=>⟨ρ,G1,r.step t1,hR.mono ρ _ _ (λds y vs H2 G2 t2 e2=>
  y (v :: vs) H2 G2 (t1.trans t2) ⟨v,vs,rfl,e1.mono t2.gg,e2⟩) z⟩) q⟩
@[reducible] def tupW (R:WL):WE:=λρ Q=>R ρ λds=>ds.length <= 100000/\Q (.tup ds)
theorem zca  (hR:DA X c es R):DE X c (.Tuple es x1 pos) (tupW R) where
 mono:=λρ Q Q' k q=>hR.mono ρ _ _ (λds z=>⟨z.1,k _ z.2⟩) q
 pe:=zay (zoW hR.pa) λσ H Q ⟨ρ,G,r,q⟩=>⟨ρ,G,r,hR.mono ρ _ _ (λds z vs H' G' t e=>⟨by rw [<- e.length];exact small5 z.1,λp hp=>
  z.2 (.ref p) _ _ (t.trans (Stp.new t.gh t.bx hp)) ⟨p,vs,rfl,SqT.of zae,e.mono (zbo (zai t.gh hp))⟩⟩) q⟩
@[reducible] def lstW (R:WL):WL:=λρ Q=>R ρ λds=>ds.length <= 100000/\Q ds
theorem zcX (hR:DA X c es R):DF X c (.List es pos) (lstW R) where
 mono:=λρ Q Q' k q=>hR.mono ρ _ _ (λds z=>⟨z.1,k _ z.2⟩) q
 pe:=zay (zpq hR.pa) λσ H Q ⟨ρ,G,r,q⟩=>⟨ρ,G,r,hR.mono ρ _ _ (λds z vs H' G' t e=>⟨by rw [<- e.length];exact small5 z.1,λp hp=>
  z.2 p vs _ _ (t.trans (Stp.own t.gh t.bx hp)) zae (zai t.gh hp) (t.free hp) e⟩) q⟩
theorem zjc   (h:Reps c G ds vs) (e:atI ds i = some d):∃ v,atI vs i = some v/\Rep c G d v:=by
 unfold atI at e ⊢;rw [h.length] at e;cases z:ixN vs.length i with
 | none=>rw [z] at e;cases e
 | some j=>rw [z] at e;exact h.get e
def itD (xs:List D) (y:D) (Q:D->Prop):Prop:=match y with | .int i=>(match atI xs i with | some d=>Q d | none=>False) | _=>False
def ixD:F2
 | .lst _ xs,y,Q=>itD xs y Q
 | .tup xs,y,Q=>itD xs y Q
 | _,_,_=>False
theorem zkf  (k:∀ d,Q d->Q' d) (q:itD xs y Q):itD xs y Q':=by
 cases y with
 | int i=>
  unfold itD at q ⊢;simp only at q ⊢;split at q
  ·exact k _ q
  ·exact q.elim
 | _=>exact q
theorem m_ix:zby ixD:=λx y Q Q' k q=>by
 cases x <;> first | exact zkf k q | exact q
theorem ztw:OpD c ixD (rIx c.K):=by
 intro H G x y u v Q gh bx h0 rx ry q;cases x with
 | lst n xs=>
  obtain ⟨a,vs,rfl,ha,_,rv⟩:=rx;cases y with
  | int i=>
   cases ry;have q:(match atI xs i with | some d=>_ | none=>False):=q;split at q
   ·rename_i d e
    obtain ⟨w,e',rw'⟩:=zjc rv e;exact .inl ⟨a,vs,i,w,rfl,rfl,SqL.of (gh _ _ ha),e',q w H G (Stp.refl gh bx) rw'⟩
   ·exact q.elim
  | _=>exact q.elim
 | tup xs=>
  obtain ⟨a,vs,rfl,ha,rv⟩:=rx;cases y with
  | int i=>
   cases ry;have q:(match atI xs i with | some d=>_ | none=>False):=q;split at q
   ·rename_i d e
    obtain ⟨w,e',rw'⟩:=zjc rv e;exact .inr (.inl ⟨a,vs,i,w,rfl,rfl,zba gh ha,e',q w H G (Stp.refl gh bx) rw'⟩)
   ·exact q.elim
  | _=>exact q.elim
 | _=>exact q.elim
def cutD {α:Type} (xs:List α) (lo hi:Option Int):List α:=(xs.drop (HT.sIx xs.length 0 lo)).take (HT.sIx xs.length xs.length hi - HT.sIx xs.length 0 lo)
theorem Reps.cut  (h:Reps c G ds vs) (lo hi:Option Int):Reps c G (cutD ds lo hi) (cutV vs lo hi):=by
 unfold cutD cutV;rw [h.length];exact (h.drop _).take _
abbrev WO:=Env->(Option Int->Prop)->Prop
structure DO (X:Cx) (c:Bk) (e:Option Expr) (W:WO):Prop where
 mono:∀ ρ Q Q',(∀ d,Q d->Q' d)->W ρ Q->W ρ Q'
 po:PO X e λσ H Q=>∃ ρ G,Rel c ρ σ H G/\W ρ λo=>∀ H' G',Stp c.β H G H' G'->Q o H'
@[reducible] def noO:WO:=λ_ Q=>Q none
def ziG (A:WE):WO:=λρ Q=>A ρ λd=>match d with | .int i=>Q (some i) | _=>False
theorem zkU:DO X c none noO:=⟨λ_ _ _ k q=>k _ q,λpins s σ H Q I ⟨ρ,G,r,q⟩=>zlY pins s σ H Q I (q H G r.refl)⟩
theorem zj8 (hA:DE X c a A):DO X c (some a) (ziG A) where
 mono:=λρ Q Q' k q=>hA.mono ρ _ _ (λd z=>by cases d <;> first | exact k _ z | exact z) q
 po:=λpins s σ H Q I ⟨ρ,G,r,q⟩=>zni hA.pe pins s σ H Q I ⟨ρ,G,r,hA.mono ρ _ _ (λd z v H' G' t e=>by
  cases d with
  | int i=>exact ⟨i,e,z H' G' t⟩
  | _=>exact z.elim) q⟩
def slD (x:D) (lo hi:Option Int) (Q:D->Prop):Prop:=match x with
 | .lst _ xs=>Q (.lst true (cutD xs lo hi))
 | .tup xs=>Q (.tup (cutD xs lo hi))
 | _=>False
theorem zlt  (fm:zby f) (gm:zby g) (mA:zbX A) (mB:zbX B) (mC:zbX C):zbX (zkL f g A B C):=λρ Q Q' k q=>mA ρ _ _ (λx q1=>mB ρ _ _ (λy q2=>fm x y _ _ (λz q3=>zkT z (λb q4=>by
 cases b
 ·exact k _ q4
 ·exact mC ρ _ _ (λw q5=>gm y w _ _ k q5) q4) q3) q2) q1) q
theorem zlk  (fm:zby f) (gm:zby g) (mA:zbX A) (mB:zbX B) (mC:zbX C) (hr:OpD c f r) (hr':OpD c g r') (σ:St) (H:Hp) (Q:VK) (h:tD c (zkL f g A B C) σ H Q):zo3 r r' (tD c A) (tD c B) (tD c C) σ H Q:=by
 obtain ⟨ρ,G,R,q⟩:=h;refine ⟨ρ,G,R,mA ρ _ _ (λx q1 u H1 G1 t1 e1=>⟨ρ,G1,R.step t1,mB ρ _ _ (λy q2 v H2 G2 t2 e2=>?_) q1⟩) q⟩;refine hr H2 G2 x y u v _ t2.gh t2.bx (λa z=>R.new0 (t1.free (t2.free z))) (e1.mono t2.gg) e2 (fm x y _ _ (λz q3 w H3 G3 t3 e3=>?_) q2);cases z with
 | bl k=>
  refine ⟨k,e3,?_⟩;cases k
  ·exact q3 _ H3 G3 ((t1.trans t2).trans t3) rfl
  ·refine ⟨ρ,G3,((R.step t1).step t2).step t3,mC ρ _ _ (λw' q5 v' H4 G4 t4 e4=>?_) q3⟩;exact hr' H4 G4 y w' v v' Q t4.gh t4.bx (λa z=>R.new0 (t1.free (t2.free (t3.free (t4.free z))))) ((e2.mono t3.gg).mono t4.gg) e4 (gm y w' _ _ (λd z w2 H5 G5 t5 e5=>z w2 H5 G5 ((((t1.trans t2).trans t3).trans t4).trans t5) e5) q5)
 | _=>exact q3.elim
end
end Fd
namespace Fd
open PySem L2
section
variable {X:Cx} {c:Bk} {a b e:Expr} {A B:WE} {pos p p':Pos} {es:List Expr}
abbrev FL:=List D->(D->Prop)->Prop
def zdP (f:FL):Prop:=∀ ds Q Q',(∀ d,Q d->Q' d)->f ds Q->f ds Q'
@[reducible] def cbW (f:FL) (R:WL):WE:=λρ Q=>R ρ λds=>f ds Q
def zgD (c:Bk) (f:FL) (r:List V->Hp->VK->Prop):Prop:=∀ (H G:Hp) (ds:List D) (vs:List V) (Q:VK),Same G H->BoxD c.β H G->(∀ a,H a = none->c.H0 a = none)->Reps c G ds vs ->
 f ds (λd=>∀ v H' G',Stp c.β H G H' G'->Rep c G' d v->Q v H')->r vs H Q
theorem zm7  (fm:zdP f) (mR:zfv R) (hr:zgD c f r) (σ:St) (H:Hp) (Q:VK) (h:tD c (cbW f R) σ H Q):tCB r (tDs c R) σ H Q:=by
 obtain ⟨ρ,G,r',q⟩:=h;exact ⟨ρ,G,r',mR ρ _ _ (λds z vs H' G' t e=>hr H' G' ds vs Q t.gh t.bx (λa z=>r'.new0 (t.free z)) e (fm ds _ _ (λd y v H2 G2 t2 e2=>y v H2 G2 (t.trans t2) e2) z)) q⟩
theorem zjK {f:FL} {R:WL} {r:List V->Hp->VK->Prop} {id:String} {x:Str} (fm:zdP f) (hc:CallR X (.builtin id) r) (hr:zgD c f r) (hm:X.mg x = none) (hv:bootBuiltins x = some (.builtin id)) (hR:DA X c (e :: es) R) (hg:Gl X x:=by rfl) (hn:x ≠ "__name__" := by decide) (hdb:(x == ("__debug__" : Str)) = false:=by decide)
  (he:starEach (e :: es) X.env = (false,eval e X.env) :: starEach es X.env:=by rfl) (hpl:(backTo pos (starEach es X.env)).any (·.1) = false:=by rfl):DE X c (.Call (.Name x p) (e :: es) [] pos) (cbW f R):=
 ⟨λρ Q Q' k q=>hR.mono ρ _ _ (λds z=>fm ds _ _ k z) q,zay (zhz hc hg hm hv hR.pa hn hdb he hpl) (zm7 fm hR.mono hr)⟩
theorem zkV   (fm:zdP f) (hc:CallR X (.type T) r) (hr:zgD c f r) (hm:X.mg x = none) (hv:bootBuiltins x = some (.type T)) (hR:DA X c (e :: es) R) (hg:Gl X x:=by rfl) (hn:x ≠ "__name__" := by decide) (hdb:(x == ("__debug__" : Str)) = false:=by decide)
  (he:starEach (e :: es) X.env = (false,eval e X.env) :: starEach es X.env:=by rfl) (hpl:(backTo pos (starEach es X.env)).any (·.1) = false:=by rfl):DE X c (.Call (.Name x p) (e :: es) [] pos) (cbW f R):=
 ⟨λρ Q Q' k q=>hR.mono ρ _ _ (λds z=>fm ds _ _ k z) q,zay (zcd hc hg hm hv hR.pa hn hdb he hpl) (zm7 fm hR.mono hr)⟩
theorem zgw  (h:Reps c G [d] vs):∃ v,vs = [v]/\Rep c G d v:=by
 obtain ⟨v,ws,rfl,h1,h2⟩:=h;cases h2;exact ⟨v,rfl,h1⟩
theorem zsT  (h:Reps c G [d,f] vs):∃ v w,vs = [v,w]/\Rep c G d v/\Rep c G f w:=by
 obtain ⟨v,ws,rfl,h1,w,ws',rfl,h2,h3⟩:=h;cases h3;exact ⟨v,w,rfl,h1,h2⟩
def lenF:FL
 | [.lst _ xs],Q=>Q (.int xs.length)
 | [.tup xs],Q=>Q (.int xs.length)
 | _,_=>False
theorem zs3:zdP lenF:=λds Q Q' k q=>by
 unfold lenF at q ⊢;split at q <;> first | exact k _ q | exact q.elim
theorem zr0:zgD c lenF (λxs H Q=>∃ p ys,xs = [.ref p]/\(SqL c.K H p ys\/SqT c.K H p ys)/\Q (.int ys.length) H):=by
 intro H G ds vs Q gh bx h0 rv q;unfold lenF at q;split at q
 ·obtain ⟨v,rfl,a,ws,rfl,ha,_,hw⟩:=zgw rv;exact ⟨a,ws,rfl,.inl (SqL.of (gh _ _ ha)),by rw [<- hw.length];exact q _ H G (Stp.refl gh bx) rfl⟩
 ·obtain ⟨v,rfl,a,ws,rfl,ha,hw⟩:=zgw rv;exact ⟨a,ws,rfl,.inr (zba gh ha),by rw [<- hw.length];exact q _ H G (Stp.refl gh bx) rfl⟩
 ·exact q.elim
def seqD (d:D) (Q:List D->Prop):Prop:=match d with | .lst _ xs=>Q xs | .tup xs=>Q xs | _=>False
theorem zgs  (k:∀ xs,Q xs->Q' xs) (q:seqD d Q):seqD d Q':=by
 cases d <;> first | exact k _ q | exact q
@[reducible] def zk8 (A:WE):WL:=λρ Q=>A ρ λd=>seqD d Q
theorem zkj (hA:DE X c e A) (hg:Gl X "list" := by rfl) (he:starEach [e] X.env = (false,eval e X.env) :: starEach [] X.env:=by rfl) (hK:c.K = X.K:=by rfl) (hm:X.mg "list" = none:=by decreasing_trivial):DF X c (.Call (.Name "list" p) [e] [] pos) (zk8 A) where
 mono:=λρ Q Q' k q=>hA.mono ρ _ _ (λd z=>zgs k z) q
 pe:=zay (zcd zdI hg hm YBo (zaD hA.pe zbn he) (by decide) (by decide) he rfl) λσ H Q ⟨ρ,G,r,q⟩=>⟨ρ,G,r,hA.mono ρ _ _ (λd z v H' G' t e=>by
  cases d with
  | lst n xs=>
   obtain ⟨a,vs,rfl,ha,_,rv⟩:=e;exact ⟨a,vs,rfl,.inl (SqL.of (t.gh _ _ ha)),λl hl=>z l vs _ _ (t.trans (Stp.own t.gh t.bx hl)) zae (zai t.gh hl) (t.free hl) rv⟩
  | tup xs=>
   obtain ⟨a,vs,rfl,ha,rv⟩:=e;exact ⟨a,vs,rfl,.inr (hK ▸ zba t.gh ha),λl hl=>z l vs _ _ (t.trans (Stp.own t.gh t.bx hl)) zae (zai t.gh hl) (t.free hl) rv⟩
  | _=>exact z.elim) q⟩
def addL (A B:WE):WL:=λρ Q=>A ρ λx=>B ρ λy=>match x,y with | .lst _ xs,.lst _ ys=>xs.length + ys.length <= 100000/\Q (xs ++ ys) | _,_=>False
theorem ztL (hA:DE X c a A) (hB:DE X c b B):DF X c (.BinOp a .Add b pos) (addL A B) where
 mono:=λρ Q Q' k q=>hA.mono ρ _ _ (λx z=>hB.mono ρ _ _ (λy w=>by cases x <;> cases y <;> first | exact ⟨w.1,k _ w.2⟩ | exact w) z) q
 pe:=zay (zdX op_cat hA.pe hB.pe) λσ H Q ⟨ρ,G,r,q⟩=>⟨ρ,G,r,hA.mono ρ _ _ (λx z u H1 G1 t1 e1=>⟨ρ,G1,r.step t1,hB.mono ρ _ _ (λy w v H2 G2 t2 e2=>by
  cases x with
  | lst n xs=>cases y with
   | lst m ys=>
    obtain ⟨l,vs,rfl,ha,_,rv⟩:=e1.mono t2.gg;obtain ⟨l2,ws,rfl,hb,_,rw'⟩:=e2;refine ⟨l,l2,vs,ws,rfl,rfl,t2.gh _ _ ha,t2.gh _ _ hb,?_,λp hp=>?_⟩
    ·rw [<- rv.length,<- rw'.length];exact small5 w.1
    ·exact w.2 p _ _ _ ((t1.trans t2).trans (Stp.own t2.gh t2.bx hp)) zae (zai t2.gh hp) ((t1.trans t2).free hp) (rv.append rw')
   | _=>exact w.elim
  | _=>exact w.elim) z⟩) q⟩
def zf5:FL
 | [.lst _ xs],Q=>Q (.tup xs)
 | [.tup xs],Q=>Q (.tup xs)
 | _,_=>False
theorem zp5:zdP zf5:=λds Q Q' k q=>by
 unfold zf5 at q ⊢;split at q <;> first | exact k _ q | exact q.elim
theorem znM:zgD c zf5 (λxs H Q=>∃ p ys,xs = [.ref p]/\((SqL c.K H p ys/\∀ l,H l = none->Q (.ref l) (upd H l (.tup ys)))\/(SqT c.K H p ys/\Q (.ref p) H))):=by
 intro H G ds vs Q gh bx h0 rv q;unfold zf5 at q;split at q
 ·obtain ⟨v,rfl,a,ws,rfl,ha,_,hw⟩:=zgw rv;exact ⟨a,ws,rfl,.inl ⟨SqL.of (gh _ _ ha),λl hl=>q (.ref l) _ _ (Stp.new gh bx hl) ⟨l,ws,rfl,SqT.of zae,hw.mono (zbo (zai gh hl))⟩⟩⟩
 ·obtain ⟨v,rfl,a,ws,rfl,ha,hw⟩:=zgw rv;exact ⟨a,ws,rfl,.inr ⟨zba gh ha,q (.ref a) H G (Stp.refl gh bx) ⟨a,ws,rfl,ha,hw⟩⟩⟩
 ·exact q.elim
theorem zmg (hR:DA X c [e] R) (hg:Gl X "tuple" := by rfl) (he:starEach [e] X.env = (false,eval e X.env) :: starEach [] X.env:=by rfl) (hK:c.K = X.K:=by rfl) (hm:X.mg "tuple" = none:=by decreasing_trivial):DE X c (.Call (.Name "tuple" p) [e] [] pos) (cbW zf5 R):=
 zkV zp5 zhr (hK ▸ znM) hm PyProof.Rows.boot_tuple hR hg (by decide) (by decide) he rfl
def intF:FL
 | [.int i],Q=>Q (.int i)
 | [.bl k],Q=>Q (.int (if k then 1 else 0))
 | _,_=>False
theorem zs6:zdP intF:=λds Q Q' k q=>by
 unfold intF at q ⊢;split at q <;> first | exact k _ q | exact q.elim
theorem zrL:zgD c intF (λxs H Q=>(∃ i,xs = [.int i]/\Q (.int i) H)\/∃ k,xs = [.bl k]/\Q (.int (if k then 1 else 0)) H):=by
 intro H G ds vs Q gh bx h0 rv q;unfold intF at q;split at q
 ·obtain ⟨v,rfl,h⟩:=zgw rv;cases h;exact .inl ⟨_,rfl,q _ H G (Stp.refl gh bx) rfl⟩
 ·obtain ⟨v,rfl,h⟩:=zgw rv;cases h;exact .inr ⟨_,rfl,q _ H G (Stp.refl gh bx) rfl⟩
 ·exact q.elim
def allF:FL
 | [.lst _ xs],Q=>∃ bs:List Bool,xs = bs.map D.bl/\Q (.bl (bs.all id))
 | _,_=>False
theorem ztO:zdP allF:=λds Q Q' k q=>by
 unfold allF at q ⊢;split at q
 ·obtain ⟨bs,e,q⟩:=q;exact ⟨bs,e,k _ q⟩
 ·exact q.elim
theorem zr2:zgD c allF (λvs H Q=>∃ (p:Addr) (bs:List Bool),vs = [.ref p]/\SqL c.K H p (bs.map V.bl)/\Q (.bl (bs.all id)) H):=by
 intro H G ds vs Q gh bx h0 rv q;unfold allF at q;split at q
 ·obtain ⟨bs,rfl,q⟩:=q;obtain ⟨v,rfl,a,ws,rfl,ha,_,hw⟩:=zgw rv;rw [reps_bools.mp hw] at ha;exact ⟨a,bs,rfl,SqL.of (gh _ _ ha),q _ H G (Stp.refl gh bx) rfl⟩
 ·exact q.elim
theorem zrJ (hR:DA X c [e] R) (hg:Gl X "all" := by rfl) (he:starEach [e] X.env = (false,eval e X.env) :: starEach [] X.env:=by rfl) (hK:c.K = X.K:=by rfl) (hcalm:X.calm = true:=by rfl) (hm:X.mg "all" = none:=by decreasing_trivial):DE X c (.Call (.Name "all" p) [e] [] pos) (cbW allF R):=
 zjK ztO (zlM hcalm) (hK ▸ zr2) hm PyProof.Rows.boot_all hR hg (by decide) (by decide) he rfl
def isiB (T:String):D->Option Bool
 | .non=>some false
 | .bl _=>some (T == "bool" || T == "int")
 | .int _=>some (T == "int")
 | .str _=>some (T == "str")
 | .tup _=>some (T == "tuple")
 | .lst _ _=>some (T == "list")
 | .box=>none
 | .obj _=>none
 | .dct _ _ _=>none
 | .fdc _ _=>none
def isiW (T:String) (A:WE):WE:=λρ Q=>A ρ λd=>match isiB T d with | some b=>Q (.bl b) | none=>False
theorem zpG   (hT:T = "list" \/ T = "tuple" \/ T = "int" \/ T = "bool" \/ T = "str") (gh:Same G H) (h:Rep c G d v) (e:isiB T d = some k):IsI c.K H v T k:=by
 cases d with
 | non=>cases h;rcases hT with rfl | rfl | rfl | rfl | rfl <;> cases e <;> constructor
 | bl b=>cases h;rcases hT with rfl | rfl | rfl | rfl | rfl <;> cases e <;> constructor
 | int b=>cases h;rcases hT with rfl | rfl | rfl | rfl | rfl <;> cases e <;> constructor
 | str b=>cases h;rcases hT with rfl | rfl | rfl | rfl | rfl <;> cases e <;> constructor
 | tup xs=>
  obtain ⟨a,vs,rfl,h1,_⟩:=h;have q:=zba gh h1;rcases hT with rfl | rfl | rfl | rfl | rfl <;> cases e
  ·exact .tuple_list _ _ q
  ·exact .tuple_tuple _ _ q
  ·exact .tuple_int _ _ q
  ·exact .tuple_bool _ _ q
  ·exact .tuple_str _ _ q
 | lst n xs=>
  obtain ⟨a,vs,rfl,h1,_⟩:=h;have q:SqL c.K H a vs:=SqL.of (gh _ _ h1);rcases hT with rfl | rfl | rfl | rfl | rfl <;> cases e
  ·exact .list_list _ _ q
  ·exact .list_tuple _ _ q
  ·exact .list_int _ _ q
  ·exact .list_bool _ _ q
  ·exact .list_str _ _ q
 | box=>cases e
 | obj a=>cases e
 | dct n ks xs=>cases e
 | fdc ks xs=>cases e
theorem zfu  (hA:DE X c e A) (hg:Gl X "isinstance" := by rfl) (hg2:Gl X x:=by rfl) (hn:x ≠ "__name__" := by decide) (hd:(x == ("__debug__" : Str)) = false:=by decide) (he:starEach [e,.Name x p'] X.env = (false,eval e X.env) :: starEach [.Name x p'] X.env:=by rfl) (hK:c.K = X.K:=by rfl) (hT:T = "list" \/ T = "tuple" \/ T = "int" \/ T = "bool" \/ T = "str" := by decreasing_trivial) (hm:X.mg "isinstance" = none:=by decreasing_trivial) (hm2:X.mg x = none:=by decreasing_trivial) (hbt:bootBuiltins x = some (.type T):=by decreasing_trivial) :
  DE X c (.Call (.Name "isinstance" p) [e,.Name x p'] [] pos) (isiW T A) where
 mono:=λρ Q Q' k q=>hA.mono ρ _ _ (λd z=>by
  revert z;cases isiB T d with
  | none=>exact id
  | some b=>exact k _) q
 pe:=zay (zhz zov hg hm PyProof.Rows.boot_isinstance (zaD hA.pe (zaD (zqD (v:=.ty T) hg2 hm2 hbt rfl hn hd) zbn) he) (by decide) (by decide) he rfl) λσ H Q ⟨ρ,G,r,q⟩=>⟨ρ,G,r,hA.mono ρ _ _ (λd z v H' G' t e=>by
  revert z;cases hk:isiB T d with
  | none=>exact False.elim
  | some b=>exact λz=>⟨v,T,b,rfl,hK ▸ zpG hT t.gh e hk,z _ H' G' t rfl⟩) q⟩
abbrev Fn:=List D->(D->Prop)->Prop
def up (F:Fn):Fn:=λds Q=>∃ P:D->Prop,F ds P/\∀ d,P d->Q d
theorem zbU (F:Fn):zdP (up F):=λds Q Q' k ⟨P,h1,h2⟩=>⟨P,h1,λd z=>k d (h2 d z)⟩
def spD (K:PySem.W.Frag) (n:Nat) (F:Fn):Sp:=λvs H Q _=>∃ β G ds,Same G H/\BoxD β H G/\Reps ⟨K,β,λ_=>none,G,True⟩ G ds vs/\vs.length = n/\up F ds λd=>∀ v H' G',Stp β H G H' G'->Rep ⟨K,β,H,G,True⟩ G' d v->Q v H'
structure Cal (P:Program) (w:World) (K:PySem.W.Frag) (mg:Str->Option Value) (base:Heap) (x:Str) (k:Nat) (ps:List Str) (sp:Sp):Prop where
 ex:∃ f fd,FnOk P w K mg base CX0 k f fd ps sp/\mg x = some (.ref f)/\PySem.W.keepIn K (.ref f) = true/\Binds K fd ps []
theorem Cal.of       (F:Fun K x qual st f fd) (G:FnOk P w K mg base CX0 k f fd ps sp) (hm:mg x = some (.ref f)) (hb:Binds K fd ps []):Cal P w K mg base x k ps sp:=
 ⟨f,fd,G,hm,F.kp,hb⟩
@[reducible] def zam (n:Nat) (F:Fn) (R:WL):WE:=λρ Q=>R ρ λds=>ds.length = n/\up F ds Q
theorem zaq   (C:Cal X.prog X.w X.K X.mg X.base x k ps (spD X.K n F)) (hR:DA X c (e :: es) R) (hg:Gl X x:=by rfl)
  (hdb:(x == ("__debug__" : Str)) = false:=by decide) (he:starEach (e :: es) X.env = (false,eval e X.env) :: starEach es X.env:=by rfl) (hpl:(backTo pos (starEach es X.env)).any (·.1) = false:=by rfl) (hK:c.K = X.K:=by rfl) (hr:Room k X.A:=by decreasing_trivial) :
  DE X c (.Call (.Name x p) (e :: es) [] pos) (zam n F R) where
 mono:=λρ Q Q' k q=>hR.mono ρ _ _ (λds z=>⟨z.1,zbU F ds _ _ k z.2⟩) q
 pe:=by
  obtain ⟨f,fd,FO,hm,hk,hb⟩:=C.ex;refine zay (zdL FO hr hg hm hk hb .nil zjT hR.pa hdb he hpl) λσ H Q ⟨ρ,G,r,q⟩=>⟨ρ,G,r,hR.mono ρ _ _ (λds z vs H' G' t e=>?_) q⟩;show spD X.K n F (vs ++ []) H' Q E0;rw [YAR];exact ⟨c.β,G',ds,t.gh,t.bx,Reps.back (c':=c) (c:=⟨X.K,c.β,λ_=>none,G',True⟩) hK rfl (λ_ _=>rfl) e,by rw [<- e.length];exact z.1,
   zbU F ds _ _ (λd z v H2 G2 t2 e2=>z v H2 G2 (t.trans t2) (Rep.back (c':=⟨X.K,c.β,H',G',True⟩) (c:=c) hK.symm rfl (λa h=>r.new0 (t.free h)) e2)) z.2⟩
end
mutual
inductive Tg where
 | nm (i:Nat)
 | tp (n:Nat) (ts:Tgs)
inductive Tgs where
 | nil
 | cons (t:Tg) (ts:Tgs)
end
mutual
def gOf (K:PySem.W.Frag):Tg->TG
 | .nm i=>ziM i
 | .tp n ts=>gSeq K n (gsOf K ts)
def gsOf (K:PySem.W.Frag):Tgs->TGs
 | .nil=>gNil
 | .cons t ts=>zob (gOf K t) (gsOf K ts)
end
mutual
def gD:Tg->D->Env->(Env->Prop)->Prop
 | .nm i,d,ρ,Q=>Q (ρ.set i (.val d))
 | .tp n ts,.tup ds,ρ,Q=>ds.length = n/\gDs ts ds ρ Q
 | .tp n ts,.lst _ ds,ρ,Q=>ds.length = n/\gDs ts ds ρ Q
 | .tp _ _,_,_,_=>False
def gDs:Tgs->List D->Env->(Env->Prop)->Prop
 | .nil,[],ρ,Q=>Q ρ
 | .cons t ts,d :: ds,ρ,Q=>gD t d ρ λρ'=>gDs ts ds ρ' Q
 | _,_,_,_=>False
end
mutual
theorem zbT:∀ (t:Tg) (d:D) (ρ:Env) {Q Q':Env->Prop},(∀ ρ,Q ρ->Q' ρ)->gD t d ρ Q->gD t d ρ Q'
 | .nm i,d,ρ,Q,Q',k,q=>by unfold gD at q ⊢;exact k _ q
 | .tp n ts,.tup ds,ρ,Q,Q',k,q=>by unfold gD at q ⊢;exact ⟨q.1,zgZ ts ds ρ k q.2⟩
 | .tp _ _,.non,_,_,_,_,q=>by unfold gD at q;exact q.elim
 | .tp _ _,.bl _,_,_,_,_,q=>by unfold gD at q;exact q.elim
 | .tp _ _,.int _,_,_,_,_,q=>by unfold gD at q;exact q.elim
 | .tp _ _,.str _,_,_,_,_,q=>by unfold gD at q;exact q.elim
 | .tp n ts,.lst _ ds,ρ,Q,Q',k,q=>by unfold gD at q ⊢;exact ⟨q.1,zgZ ts ds ρ k q.2⟩
 | .tp _ _,.box,_,_,_,_,q=>by unfold gD at q;exact q.elim
 | .tp _ _,.obj _,_,_,_,_,q=>by unfold gD at q;exact q.elim
 | .tp _ _,.dct _ _ _,_,_,_,_,q=>by unfold gD at q;exact q.elim
 | .tp _ _,.fdc _ _,_,_,_,_,q=>by unfold gD at q;exact q.elim
theorem zgZ:∀ (ts:Tgs) (ds:List D) (ρ:Env) {Q Q':Env->Prop},(∀ ρ,Q ρ->Q' ρ)->gDs ts ds ρ Q->gDs ts ds ρ Q'
 | .nil,[],ρ,Q,Q',k,q=>by unfold gDs at q ⊢;exact k _ q
 | .cons t ts,d :: ds,ρ,Q,Q',k,q=>by unfold gDs at q ⊢;exact zbT t d ρ (λρ' z=>zgZ ts ds ρ' k z) q
 | .nil,_ :: _,_,_,_,_,q=>by unfold gDs at q;exact q.elim
 | .cons _ _,[],_,_,_,_,q=>by unfold gDs at q;exact q.elim
end
mutual
theorem zfj  : ∀ (t:Tg) (d:D) (v:V) (ρ:Env) (σ:St) {Q:St->Hp->Prop},Rel c ρ σ H G->Rep c G d v->gD t d ρ (λρ'=>∀ σ',Rel c ρ' σ' H G->Q σ' H)->gOf c.K t v σ H Q
 | .nm i,d,v,ρ,σ,Q,r,e,q=>by unfold gD at q;unfold gOf;exact q _ (r.put e)
 | .tp n ts,.tup ds,v,ρ,σ,Q,r,e,q=>by
  unfold gD at q;unfold gOf;obtain ⟨a,vs,rfl,ha,hv⟩:=e;exact ⟨a,vs,rfl,.inl (zba r.gh ha),by rw [<- hv.length];exact q.1,zhP ts ds vs ρ σ r hv q.2⟩
 | .tp _ _,.non,_,_,_,_,_,_,q=>by unfold gD at q;exact q.elim
 | .tp _ _,.bl _,_,_,_,_,_,_,q=>by unfold gD at q;exact q.elim
 | .tp _ _,.int _,_,_,_,_,_,_,q=>by unfold gD at q;exact q.elim
 | .tp _ _,.str _,_,_,_,_,_,_,q=>by unfold gD at q;exact q.elim
 | .tp n ts,.lst m ds,v,ρ,σ,Q,r,e,q=>by
  unfold gD at q;unfold gOf;obtain ⟨a,vs,rfl,ha,_,hv⟩:=e;exact ⟨a,vs,rfl,.inr (SqL.of (r.gh _ _ ha)),by rw [<- hv.length];exact q.1,zhP ts ds vs ρ σ r hv q.2⟩
 | .tp _ _,.box,_,_,_,_,_,_,q=>by unfold gD at q;exact q.elim
 | .tp _ _,.obj _,_,_,_,_,_,_,q=>by unfold gD at q;exact q.elim
 | .tp _ _,.dct _ _ _,_,_,_,_,_,_,q=>by unfold gD at q;exact q.elim
 | .tp _ _,.fdc _ _,_,_,_,_,_,_,q=>by unfold gD at q;exact q.elim
theorem zhP  : ∀ (ts:Tgs) (ds:List D) (vs:List V) (ρ:Env) (σ:St) {Q:St->Hp->Prop},Rel c ρ σ H G->Reps c G ds vs->gDs ts ds ρ (λρ'=>∀ σ',Rel c ρ' σ' H G->Q σ' H)->gsOf c.K ts vs σ H Q
 | .nil,[],vs,ρ,σ,Q,r,e,q=>by unfold gDs at q;unfold gsOf;exact ⟨e,q _ r⟩
 | .cons t ts,d :: ds,vs,ρ,σ,Q,r,e,q=>by
  unfold gDs at q;unfold gsOf;obtain ⟨v,ws,rfl,e1,e2⟩:=e;exact ⟨v,ws,rfl,zfj t d v ρ σ r e1 (zbT t d ρ (λρ' z σ' r'=>zhP ts ds ws ρ' σ' r' e2 z) q)⟩
 | .nil,_ :: _,_,_,_,_,_,_,q=>by unfold gDs at q;exact q.elim
 | .cons _ _,[],_,_,_,_,_,_,q=>by unfold gDs at q;exact q.elim
end
structure En where
 nx:Env->Prop
 rt:D->Prop
 bk:Env->Prop
 ct:Env->Prop
abbrev WS:=En->Env->Prop
structure En.Le (E E':En):Prop where
 nx:∀ ρ,E.nx ρ->E'.nx ρ
 rt:∀ d,E.rt d->E'.rt d
 bk:∀ ρ,E.bk ρ->E'.bk ρ
 ct:∀ ρ,E.ct ρ->E'.ct ρ
def zlK (W:WS):Prop:=∀ E E' ρ,En.Le E E'->W E ρ->W E' ρ
def ends (c:Bk) (G:Hp) (Ds:Ends):En where
 nx:=λρ=>∀ σ H' G',Rel c ρ σ H' G'->Same G G'->Ds.nx σ H'
 rt:=λd=>∀ v H' G',Stp c.β c.H0 c.G0 H' G'->Rep c G' d v->Ds.rt v H'
 bk:=λρ=>∀ σ H' G',Rel c ρ σ H' G'->Same G G'->Ds.bk σ H'
 ct:=λρ=>∀ σ H' G',Rel c ρ σ H' G'->Same G G'->Ds.ct σ H'
theorem zfP  (s:Same G G1):En.Le (ends c G Ds) (ends c G1 Ds):=
 ⟨λρ h σ H' G' r s'=>h σ H' G' r (s.trans s'),λd h=>h,λρ h σ H' G' r s'=>h σ H' G' r (s.trans s'),λρ h σ H' G' r s'=>h σ H' G' r (s.trans s')⟩
def tDS (c:Bk) (W:WS):TS:=λDs σ H=>∃ ρ G,Rel c ρ σ H G/\W (ends c G Ds) ρ
structure DS (X:Cx) (c:Bk) (st:Stmt) (W:WS):Prop where
 mono:zlK W
 ps:PS X st (tDS c W)
structure DSs (X:Cx) (c:Bk) (sts:List Stmt) (W:WS):Prop where
 mono:zlK W
 pss:PSs X sts (tDS c W)
section
variable {X:Cx} {c:Bk} {st:Stmt} {rest:List Stmt} {pos p p':Pos} {e:Expr}
theorem zbe (h:PS X st t) (k:∀ D σ H,t' D σ H->t D σ H):PS X st t':=λpins s σ H D I q=>h pins s σ H D I (k D σ H q)
theorem zdi (h:PSs X rest t) (k:∀ D σ H,t' D σ H->t D σ H):PSs X rest t':=λpins s σ H D I q=>h pins s σ H D I (k D σ H q)
@[reducible] def nilS:WS:=λE ρ=>E.nx ρ
@[reducible] def seqW (A B:WS):WS:=λE ρ=>A { E with nx:=B E } ρ
theorem zch:DSs X c [] nilS:=⟨λE E' ρ l q=>l.nx _ q,zdi zfI λD σ H ⟨ρ,G,r,q⟩=>q σ H G r (Same.refl _)⟩
theorem zal (h1:DS X c st A) (h2:DSs X c rest B):DSs X c (st :: rest) (seqW A B) where
 mono:=λE E' ρ l q=>h1.mono { E with nx:=B E } _ ρ ⟨λρ' z=>h2.mono _ _ ρ' l z,l.rt,l.bk,l.ct⟩ q
 pss:=zdi (zaL h1.ps h2.pss) λD σ H ⟨ρ,G,r,q⟩=>⟨ρ,G,r,h1.mono { ends c G D with nx:=B (ends c G D) } _ ρ ⟨λρ' z σ' H' G' r' s'=>⟨ρ',G',r',h2.mono _ _ ρ' (zfP s') z⟩,λd z=>z,λρ' z=>z,λρ' z=>z⟩ q⟩
theorem zau (h1:DS X c st A):DSs X c [st] A:=⟨h1.mono,zdC h1.ps⟩
def frz (i:Nat) (ρ:Env):Env:=match ρ[i]? with | some (.own xs)=>ρ.set i (.val (.lst true xs)) | _=>ρ
@[reducible] def frzW (i:Nat) (A:WS):WS:=λE ρ=>A E (frz i ρ)
theorem zmf  (r:Rel c ρ σ H G) (i:Nat):∃ G',Same G G'/\Rel c (frz i ρ) σ H G':=by
 unfold frz;split
 ·rename_i xs e;exact r.freeze e
 ·exact ⟨G,Same.refl _,r⟩
theorem znH (i:Nat) (h:DS X c st A):DS X c st (frzW i A) where
 mono:=λE E' ρ l q=>h.mono E E' _ l q
 ps:=zbe h.ps λD σ H ⟨ρ,G,r,q⟩=>by
  obtain ⟨G',s',r'⟩:=zmf r i;exact ⟨frz i ρ,G',r',h.mono _ _ _ (zfP s') q⟩
@[reducible] def ifS (C:WT) (A B:WS):WS:=λE ρ=>C ρ λb=>if b = true then A E ρ else B E ρ
theorem s_if  (hC:DT X c e C) (hA:DSs X c a A) (hB:DSs X c b B):DS X c (.If e a b pos) (ifS C A B) where
 mono:=λE E' ρ l q=>hC.mono ρ _ _ (λb z=>by
  cases b
  ·exact hB.mono _ _ ρ l z
  ·exact hA.mono _ _ ρ l z) q
 ps:=zbe (zjO hC.pt hA.pss hB.pss) λD σ H ⟨ρ,G,r,q⟩=>⟨ρ,G,r,hC.mono ρ _ _ (λb z H' G' t=>by
  cases b
  ·exact ⟨ρ,G',r.step t,hB.mono _ _ ρ (zfP t.gg) z⟩
  ·exact ⟨ρ,G',r.step t,hA.mono _ _ ρ (zfP t.gg) z⟩) q⟩
@[reducible] def retW (A:WE):WS:=λE ρ=>A ρ E.rt
theorem zaJ (hA:DE X c e A):DS X c (.Return (some e) pos) (retW A) where
 mono:=λE E' ρ l q=>hA.mono ρ _ _ l.rt q
 ps:=zbe (zgf hA.pe) λD σ H ⟨ρ,G,r,q⟩=>⟨ρ,G,r,hA.mono ρ _ _ (λd z v H' G' t e=>z v H' G' (r.stp.trans t) e) q⟩
@[reducible] def zjP (A:WE):WS:=λE ρ=>A ρ λ_=>E.nx ρ
theorem zik (hA:DE X c e A) (hs:swapsWith e none pos.line X.env = pure false:=by rfl):DS X c (.Expr e pos) (zjP A) where
 mono:=λE E' ρ l q=>hA.mono ρ _ _ (λd z=>l.nx _ z) q
 ps:=zbe (zfR hA.pe hs) λD σ H ⟨ρ,G,r,q⟩=>⟨ρ,G,r,hA.mono ρ _ _ (λd z v H' G' t e=>z σ H' G' (r.step t) t.gg) q⟩
@[reducible] def asgW (t:Tg) (A:WE):WS:=λE ρ=>A ρ λd=>gD t d ρ E.nx
theorem zki  (mA:zbX A) (D:Ends) (σ:St) (H:Hp) (h:tDS c (asgW t A) D σ H):tAsg (tD c A) (gOf c.K t) D σ H:=by
 obtain ⟨ρ,G,r,q⟩:=h;exact ⟨ρ,G,r,mA ρ _ _ (λd z v H' G' t1 e1=>zfj t d v ρ σ (r.step t1) e1 (zbT t d ρ (λρ' y σ' r'=>y σ' H' G' r' t1.gg) z)) q⟩
theorem zhw  (mA:zbX A):zlK (asgW t A):=λE E' ρ l q=>mA ρ _ _ (λd z=>zbT t d ρ l.nx z) q
theorem gn (i:Nat)  (hi:X.N[i]? = some x:=by rfl) (hx:Loc X.env.scope x:=by first | exact Or.inl rfl | exact Or.inr rfl) (hf:X.fn x = true\/X.env.scope.names.lookup x = some .local:=by first | exact .inl rfl | exact .inr rfl | assumption) (hN:X.N.Nodup:=by decreasing_trivial):PG X (.Name x p) (ziM i):=zqI hN hi hx hf
def ndB:List Str->Bool
 | []=>true
 | x :: l=>!l.elem x && ndB l
theorem ndB_of:∀ {l:List Str},ndB l = true->l.Nodup
 | [],_=>List.nodup_nil
 | x :: l,h=>by
  unfold ndB at h
  have:=YB3.mp h
  refine YAM.mpr ⟨λm=>?_,ndB_of this.2⟩;rw [List.elem_iff.mpr m] at this;exact absurd this.1 (by decide)
theorem zbG (i:Nat)  (hA:DE X c e A) (hi:X.N[i]? = some x:=by rfl) (hx:Loc X.env.scope x:=by first | exact Or.inl rfl | exact Or.inr rfl) (hs:swapsWith e (some (.Name x p)) pos.line X.env = pure false:=by rfl) (hf:X.fn x = true\/X.env.scope.names.lookup x = some .local:=by first | exact .inl rfl | exact .inr rfl | assumption) (hN:X.N.Nodup:=by decreasing_trivial):DS X c (.Assign [.Name x p] e pos) (asgW (.nm i) A):=
 ⟨zhw hA.mono,zbe (zdx hN hi hx hA.pe hs hf) λD σ H h=>zki (t:=.nm i) hA.mono D σ H h⟩
theorem ziP (t:Tg)  (hA:DE X c e A) (hg:PG X tg (gOf c.K t)) (hs:swapsWithSole [tg] e pos.line X.env = pure false:=by rfl) (hw:swappedStores [tg] e X.env = pure none:=by rfl)
  (h1:(assignEach [tg] X.env).map (·.2) = [assign tg X.env]:=by rfl):DS X c (.Assign [tg] e pos) (asgW t A):=
 ⟨zhw hA.mono,zbe (zgL hA.pe hg hs hw h1) λD σ H h=>zki hA.mono D σ H h⟩
@[reducible] def ownW (i:Nat) (F:WL):WS:=λE ρ=>F ρ λxs=>E.nx (ρ.set i (.own xs))
theorem zkB  (mF:zfv F):zlK (ownW i F):=λE E' ρ l q=>mF ρ _ _ (λd z=>l.nx _ z) q
theorem zj6  (mF:zfv F) (D:Ends) (σ:St) (H:Hp) (h:tDS c (ownW i F) D σ H):tAsg (tDf c F) (ziM i) D σ H:=by
 obtain ⟨ρ,G,r,q⟩:=h;refine ⟨ρ,G,r,mF ρ _ _ (λxs z l vs H' G' t hl hg h0 hv=>?_) q⟩;refine z _ H' G' ((r.step t).putOwn hl hg (r.new0 h0) (r.neβ h0) hv λj ys e1 e2=>?_) t.gg;obtain ⟨a,vs',f1,f2,_⟩:=r.slot j _ e1;rw [e2] at f1;cases f1;rw [h0] at f2;cases f2
theorem zoy (i:Nat)  (hF:DF X c e F) (hi:X.N[i]? = some x:=by rfl) (hx:Loc X.env.scope x:=by first | exact Or.inl rfl | exact Or.inr rfl) (hs:swapsWith e (some (.Name x p)) pos.line X.env = pure false:=by rfl) (hf:X.fn x = true\/X.env.scope.names.lookup x = some .local:=by first | exact .inl rfl | exact .inr rfl | assumption) (hN:X.N.Nodup:=by decreasing_trivial):DS X c (.Assign [.Name x p] e pos) (ownW i F):=
 ⟨zkB hF.mono,zbe (zdx hN hi hx hF.pe hs hf) λD σ H h=>zj6 hF.mono D σ H h⟩
@[reducible] def parW (i j:Nat) (A B:WE):WS:=λE ρ=>A ρ λx=>B ρ λy=>E.nx ((ρ.set i (.val x)).set j (.val y))
theorem zs0 (i j:Nat)   {kt k2 pt2} (hA:DE X c a A) (hB:DE X c b B) (hij:i ≠ j:=by decide) (hi:X.N[i]? = some x:=by rfl) (hj:X.N[j]? = some y:=by rfl) (hx:X.env.scope.names.lookup x = some .local:=by rfl) (hy:X.env.scope.names.lookup y = some .local:=by rfl) (hsa:starEach [a,b] X.env = (false,eval a X.env) :: starEach [b] X.env:=by rfl) (hsb:starEach [b] X.env = (false,eval b X.env) :: starEach [] X.env:=by rfl) (hw:swappedStores [.Tuple [.Name x px,.Name y py] kt pt] (.Tuple [a,b] k2 pt2) X.env = pure (some [x,y]):=by rfl) (hs:swapsWithSole [.Tuple [.Name x px,.Name y py] kt pt] (.Tuple [a,b] k2 pt2) pos.line X.env = pure false:=by rfl) (hc:X.calm = true:=by rfl) (hN:X.N.Nodup:=by decreasing_trivial) :
  DS X c (.Assign [.Tuple [.Name x px,.Name y py] kt pt] (.Tuple [a,b] k2 pt2) pos) (parW i j A B) where
 mono:=λE E' ρ l q=>hA.mono ρ _ _ (λd z=>hB.mono ρ _ _ (λd' z'=>l.nx _ z') z) q
 ps:=zbe (zrA hc hN hi hj hij hx hy (zaD hA.pe (zaD hB.pe zbn hsb) hsa) hw hs) λD σ H ⟨ρ,G,r,q⟩=>⟨ρ,G,r,hA.mono ρ _ _ (λd z v H1 G1 t1 e1=>⟨ρ,G1,r.step t1,hB.mono ρ _ _ (λd' z' w H2 G2 t2 e2=>
  ⟨v,w,rfl,z' _ H2 G2 ((((r.step t1).step t2).put (e1.mono t2.gg)).put e2) (t1.gg.trans t2.gg)⟩) z⟩) q⟩
def appW (i:Nat) (A:WE):WS:=λE ρ=>match ρ[i]? with
 | some (.own xs)=>A ρ λd=>xs.length < 100000/\E.nx (ρ.set i (.own (xs ++ [d])))
 | _=>False
theorem zpK (i:Nat)  (hA:DE X c e A) (hN:X.N[i]? = some x:=by rfl) (hv:Vis X.env.scope x:=by first | exact Or.inl rfl | exact Or.inr (Or.inl rfl) | exact Or.inr (Or.inr rfl))
  (hd:(x == ("__debug__" : Str)) = false:=by decide) (hcd:(x == ("__classdict__" : Str)) = false:=by decide)
  (hbase:attributeBase (.Name x p) "append" X.env (eval (.Name x p) X.env) = eval (.Name x p) X.env:=by rfl)
  (hfew:((backTo cpos (starEach [e] X.env)).all (λx=>!x.1) && (backToKw cpos (keywordEach [] X.env)).all (λx=>x.1.isSome)
   && decide (([e]:List Expr).length + ([]:List Keyword).length + (if ([]:List Keyword).isEmpty then 0 else 1) < 30)) = true:=by rfl)
  (hline:(apos.endLine == cpos.line) = true:=by rfl) (hs:starEach [e] X.env = (false,eval e X.env) :: starEach [] X.env:=by rfl)
  (hsw:swapsWith (.Call (.Attribute (.Name x p) "append" apos) [e] [] cpos) none pos.line X.env = pure false:=by rfl):DS X c (.Expr (.Call (.Attribute (.Name x p) "append" apos) [e] [] cpos) pos) (appW i A) where
 mono:=λE E' ρ l q=>by
  unfold appW at q ⊢;split at q
  ·exact hA.mono ρ _ _ (λd z=>⟨z.1,l.nx _ z.2⟩) q
  ·exact q.elim
 ps:=zbe (zfR (zmL YA8 YBL YBM zeS (zbf hN hv hd hcd) (zaD hA.pe zbn hs) hbase hfew hline hs rfl) hsw) λD σ H ⟨ρ,G,r,q⟩=>by
  unfold appW at q;split at q
  ·rename_i xs ek
   obtain ⟨a,vs,h1,h2,h3,h4,h5,h6⟩:=r.slot i _ ek;refine ⟨.ref a,h1,.inl ⟨rfl,vs,SqL.of h2⟩,ρ,G,r,hA.mono ρ _ _ (λd z w H' G' t e=>?_) q⟩;refine ⟨a,vs,w,rfl,rfl,t.fr a _ h5 h2,?_,?_⟩
   ·rw [<- h6.length];exact YAo z.1 (small5 (YAm _))
   ·exact z.2 _ _ G' ((r.step t).write ek h1 ((h6.mono t.gg).append (.one e))) t.gg
  ·exact q.elim
def ixS (xs:List D) (k:D) (Q:Nat->Prop):Prop:=match k with | .int j=>(match ixN xs.length j with | some m=>Q m | none=>False) | _=>False
theorem znB  (f:∀ m,Q m->Q' m) (q:ixS xs k Q):ixS xs k Q':=by
 unfold ixS at q ⊢;split at q
 ·split at q
  ·exact f _ q
  ·exact q.elim
 ·exact q.elim
def putW (i:Nat) (I A:WE):WS:=λE ρ=>match ρ[i]? with
 | some (.own xs)=>A ρ λd=>I ρ λk=>ixS xs k λm=>E.nx (ρ.set i (.own (xs.set m d)))
 | _=>False
theorem zs8 (i:Nat)   (hA:DE X c e A) (hI:DE X c ie I) (hN:X.N[i]? = some x:=by rfl) (hv:Vis X.env.scope x:=by first | exact Or.inl rfl | exact Or.inr (Or.inl rfl) | exact Or.inr (Or.inr rfl))
  (hd:(x == ("__debug__" : Str)) = false:=by decide) (hcd:(x == ("__classdict__" : Str)) = false:=by decide)
  (ha:∀ v,assign (.Subscript (.Name x p) ie tpos) X.env v = (do
   let ov <- holding [v] (eval (.Name x p) X.env)
   let iv <- holding [v,ov] (eval ie X.env)
   standAt tpos
   holding [v,ov,iv] (setItem ov iv v)
   release [v,ov,iv] []):=by intro _;rfl) (hs:swapsWithSole [.Subscript (.Name x p) ie tpos] e pos.line X.env = pure false:=by rfl) (hw:swappedStores [.Subscript (.Name x p) ie tpos] e X.env = pure none:=by rfl)
  (h1:(assignEach [.Subscript (.Name x p) ie tpos] X.env).map (·.2) = [assign (.Subscript (.Name x p) ie tpos) X.env]:=by rfl):DS X c (.Assign [.Subscript (.Name x p) ie tpos] e pos) (putW i I A) where
 mono:=λE E' ρ l q=>by
  unfold putW at q ⊢;split at q
  ·exact hA.mono ρ _ _ (λd z=>hI.mono ρ _ _ (λk y=>znB (λm=>l.nx _) y) z) q
  ·exact q.elim
 ps:=zbe (zgL hA.pe (zkS (zbf hN hv hd hcd) hI.pe zeG ha) hs hw h1) λD σ H ⟨ρ,G,r,q⟩=>by
  unfold putW at q;split at q
  ·rename_i xs ek
   refine ⟨ρ,G,r,hA.mono ρ _ _ (λd z v H1 G1 t1 e1=>?_) q⟩;obtain ⟨a,vs,h1,h2,h3,h4,h5,h6⟩:=(r.step t1).slot i _ ek;refine ⟨.ref a,h1,ρ,G1,r.step t1,hI.mono ρ _ _ (λk y w H2 G2 t2 e2=>?_) z⟩;unfold ixS at y;split at y
   ·rename_i j
    split at y
    ·rename_i m em
     refine ⟨a,vs,j,m,rfl,e2,t2.fr a _ h5 h2,by rw [<- h6.length];exact em,?_⟩;exact y σ _ G2 (((r.step t1).step t2).write ek h1 (Reps.set (e1.mono t2.gg) m (h6.mono t2.gg))) (t1.gg.trans t2.gg)
    ·exact y.elim
   ·exact y.elim
  ·exact q.elim
def intD (d:D) (Q:Int->Prop):Prop:=match d with | .int j=>Q j | _=>False
theorem zmp  (f:∀ m,Q m->Q' m) (q:intD d Q):intD d Q':=by
 cases d <;> first | exact f _ q | exact q
end
def ItOk (c:Bk) (J:It) (xs:List D) (G:Hp):Prop:=∀ (i:Nat) (H2 G2:Hp),Same G G2->Same G2 H2->BoxD c.β H2 G2->(∀ a,H2 a = none->c.H0 a = none) ->
 (i = xs.length->J.stop i H2)/\∀ d,xs[i]? = some d->J.go i H2/\∀ x H3,J.yld i H2 x H3->∃ G3,Stp c.β H2 G2 H3 G3/\Rep c G3 d x
def tDI (c:Bk) (I:WL):TI:=λσ H R=>∃ ρ G,Rel c ρ σ H G/\I ρ λxs=>∀ J H' G',Stp c.β H G H' G'->ItOk c J xs G'->R J H'
structure DI (X:Cx) (c:Bk) (tg iter:Expr) (I:WL):Prop where
 mono:zfv I
 pi:PI X tg iter (tDI c I)
section
variable {X:Cx} {c:Bk} {tg e a b:Expr} {A B:WE} {pos p:Pos}
theorem zkR (h:PI X tg e wi) (k:∀ σ H R,wi' σ H R->wi σ H R):PI X tg e wi':=λpins s σ H R I q=>h pins s σ H R I (k σ H R q)
theorem zqU   (hl:G l = some (.lst vs)) (h:Reps c G xs vs):ItOk c (Itl c.K l) xs G:=by
 intro i H2 G2 s1 s2 bx h0;have q:SqL c.K H2 l vs:=SqL.of (s2 _ _ (s1 _ _ hl));refine ⟨λe=>⟨vs,q,by rw [e,h.length];exact YAm _⟩,λd e=>?_⟩;obtain ⟨v,e1,e2⟩:=h.get e;refine ⟨⟨vs,v,q,e1⟩,λx H3 y=>?_⟩;obtain ⟨rfl,y⟩:=y
 have:=y vs q
 rw [e1] at this;cases this;exact ⟨G2,Stp.refl s2 bx,e2.mono s1⟩
theorem zrr   (hl:SqT c.K G l vs) (h:Reps c G xs vs):ItOk c (Itt c.K l) xs G:=by
 intro i H2 G2 s1 s2 bx h0;have q:SqT c.K H2 l vs:=zba (s1.trans s2) hl;refine ⟨λe=>⟨vs,q,by rw [e,h.length];exact YAm _⟩,λd e=>?_⟩;obtain ⟨v,e1,e2⟩:=h.get e;refine ⟨⟨vs,v,q,e1⟩,λx H3 y=>?_⟩;obtain ⟨rfl,y⟩:=y
 have:=y vs q
 rw [e1] at this;cases this;exact ⟨G2,Stp.refl s2 bx,e2.mono s1⟩
def rngL (m:Int) (n:Nat):List D:=(List.range n).map λ(k:Nat)=>D.int (m + (k:Int))
theorem it_rng (m:Int) (n:Nat):ItOk c (Itr m n) (rngL m n) G:=by
 intro i H2 G2 s1 s2 bx h0;refine ⟨λe=>by show n <= i;unfold rngL at e;simp at e;omega,λd e=>?_⟩;unfold rngL at e;rw [YAt] at e;have hi:i < n:=by
  by_cases h:i < n
  ·exact h
  ·rw [List.getElem?_eq_none (by simp;omega)] at e;cases e
 rw [List.getElem?_range hi] at e;cases e;exact ⟨hi,λx H3 ⟨y1,y2⟩=>⟨G2,by rw [y1];exact Stp.refl s2 bx,y2⟩⟩
def ziw (A:WE):WL:=λρ Q=>A ρ λd=>match d with | .int n=>(-(2 ^ 62) <= n/\n < 2 ^ 62)/\Q (rngL 0 n.toNat) | _=>False
theorem zgo (hA:DE X c a A) (hg:Gl X "range" := by rfl) (hs:starEach [a] X.env = [(false,eval a X.env)]:=by rfl) (hm:X.mg "range" = none:=by decreasing_trivial):DI X c tg (.Call (.Name "range" p) [a] [] pos) (ziw A) where
 mono:=λρ Q Q' k q=>hA.mono ρ _ _ (λd z=>by cases d <;> first | exact ⟨z.1,k _ z.2⟩ | exact z) q
 pi:=zkR (zm5 hg hm (zaD hA.pe zbn hs) hs) λσ H R ⟨ρ,G,r,q⟩=>⟨ρ,G,r,hA.mono ρ _ _ (λd z v H' G' t e=>by
  cases d with
  | int n=>exact ⟨n,by cases e;rfl,z.1.1,z.1.2,z.2 _ H' G' t (it_rng 0 _)⟩
  | _=>exact z.elim) q⟩
def zipL:List D->List D->List D
 | x :: xs,y :: ys=>.tup [x,y] :: zipL xs ys
 | _,_=>[]
theorem zkc:∀ {xs ys:List D} {i:Nat} {d:D},(zipL xs ys)[i]? = some d->∃ x y,xs[i]? = some x/\ys[i]? = some y/\d = .tup [x,y]
 | x :: xs,y :: ys,0,d,e=>by simp [zipL] at e;exact ⟨x,y,rfl,rfl,e.symm⟩
 | x :: xs,y :: ys,i + 1,d,e=>by simp [zipL] at e;simpa using zkc e
 | [],_,_,_,e=>by simp [zipL] at e
 | _ :: _,[],_,_,e=>by simp [zipL] at e
theorem zkO:∀ (xs ys:List D),(zipL xs ys).length = min xs.length ys.length
 | [],_=>by simp [zipL]
 | _ :: _,[]=>by simp [zipL]
 | x :: xs,y :: ys=>by simp [zipL,zkO xs ys]
end
def zeW (t:Tg) (B:WS) (E:En):List D->Env->Prop
 | [],ρ=>E.nx ρ
 | x :: xs,ρ=>gD t x ρ λρ'=>B { nx:=zeW t B E xs,ct:=zeW t B E xs,bk:=E.nx,rt:=E.rt } ρ'
@[reducible] def forW (I:WL) (t:Tg) (B:WS):WS:=λE ρ=>I ρ λxs=>zeW t B E xs ρ
theorem zgm  (mB:zlK B) (l:En.Le E E'):∀ (xs:List D) (ρ:Env),zeW t B E xs ρ->zeW t B E' xs ρ
 | [],ρ,q=>l.nx ρ q
 | x :: xs,ρ,q=>zbT t x ρ (λρ' z=>mB { nx:=zeW t B E xs,ct:=zeW t B E xs,bk:=E.nx,rt:=E.rt } _ ρ' ⟨zgm mB l xs,l.rt,l.nx,zgm mB l xs⟩ z) q
section
variable {X:Cx} {c:Bk} {tg iter e:Expr} {body:List Stmt} {pos p:Pos}
theorem zrv (t:Tg) (hI:DI X c tg iter I) (hg:PG X tg (gOf c.K t)) (hB:DSs X c body B) (hp:PassesOwn (model X.prog X.w) X.A X.env X.xe:=by exact PassesOwn.never) (hc:X.calm = true:=by rfl) (hs:∀ x,foldedSetIterable iter X.env x = pure x:=by intro _;rfl) :
  DS X c (.For tg iter body [] pos) (forW I t B) where
 mono:=λE E' ρ l q=>hI.mono ρ _ _ (λxs z=>zgm hB.mono l xs ρ z) q
 ps:=zbe (zpl hp hc hI.pi hg hB.pss hs) λD σ H ⟨ρ,G,r,q⟩=>⟨ρ,G,r,hI.mono ρ _ _ (λxs z J H1 G1 t1 it=>by
  refine ⟨λi m σ H=>m = xs.length - i/\i <= xs.length/\∃ ρ' G',Rel c ρ' σ H G'/\Same G1 G'/\zeW t B (ends c G D) (xs.drop i) ρ',⟨xs.length,rfl,YBv _,ρ,G1,r.step t1,Same.refl _,z⟩,?_⟩;rintro i m σ' H' ⟨rfl,hi,ρ',G',r',s',q'⟩;have ok:=it i H' G' s' r'.gh r'.bx (λa z=>r'.new0 z);by_cases hlt:i < xs.length
  ·refine .inr ?_;have ed:xs.drop i = xs[i] :: xs.drop (i + 1):=YBs hlt;rw [ed] at q';obtain ⟨go,yl⟩:=ok.2 xs[i] (YAk hlt);refine ⟨go,λσ H=>∃ ρ' G',Rel c ρ' σ H G'/\Same G1 G'/\zeW t B (ends c G D) (xs.drop (i + 1)) ρ',λσ2 H2 h=>⟨xs.length - (i + 1),by omega,rfl,by omega,h⟩,λx H3 y=>?_⟩;obtain ⟨G3,t3,e3⟩:=yl x H3 y;refine zfj t xs[i] x ρ' σ' (r'.step t3) e3 (zbT t xs[i] ρ' (λρ2 z2 σ2 r2=>?_) q');refine ⟨ρ2,G3,r2,hB.mono { nx:=zeW t B (ends c G D) (xs.drop (i + 1)),ct:=zeW t B (ends c G D) (xs.drop (i + 1)),bk:=(ends c G D).nx,rt:=(ends c G D).rt } _ ρ2 ⟨λρ3 z3 σ3 H4 G4 r4 s4=>⟨ρ3,G4,r4,(s'.trans t3.gg).trans s4,z3⟩,λd z=>z,λρ3 z3 σ3 H4 G4 r4 s4=>z3 σ3 H4 G4 r4 (((t1.gg.trans s').trans t3.gg).trans s4),λρ3 z3 σ3 H4 G4 r4 s4=>⟨ρ3,G4,r4,(s'.trans t3.gg).trans s4,z3⟩⟩ z2⟩
  ·have e:i = xs.length:=by omega
   subst e;rw [YCw] at q';exact .inl ⟨ok.1 rfl,q' σ' H' G' r' (t1.gg.trans s')⟩) q⟩
def zaz (n:Nat) (ds:List D):Env:=ds.map (λd=>Sl.val d.old) ++ List.replicate (n - ds.length) .un
def fnW (n:Nat) (B:WS):Fn:=λds Q=>B { nx:=λ_=>Q .non,rt:=Q,bk:=λ_=>False,ct:=λ_=>False } (zaz n ds)
theorem zc9    (gh:Same G H) (bx:BoxD β H G) (h:Reps ⟨K,β,λ_=>none,G,True⟩ G ds vs):Rel ⟨K,β,H,G,True⟩ (zaz N.length ds) (L2.zen N vs) H G:=by
 have noOwn:∀ (i:Nat) xs,(zaz N.length ds)[i]? ≠ some (.own xs):=λi xs e=>by
  unfold zaz at e;by_cases hi:i < ds.length
  ·rw [YBc (by simpa using hi),YAt,YAk hi] at e;cases e
  ·rw [YBp (by simpa using hi),YA6] at e;split at e <;> cases e
 refine ⟨by unfold zaz L2.zen;simp [h.length],Stp.refl gh bx,λi s e=>?_,λi j a xs ys e1=>absurd e1 (noOwn i xs),trivial⟩;unfold zaz at e;by_cases hi:i < ds.length
 ·rw [YBc (by simpa using hi),YAt] at e;obtain ⟨v,e1,e2⟩:=h.get (YAk hi);rw [YAk hi] at e;cases e;refine ⟨v,?_,Rep.hand (c:=⟨K,β,λ_=>none,G,True⟩) (c':=⟨K,β,H,G,True⟩) rfl rfl e2⟩;unfold L2.zen;rw [YBc (by rw [YAc,<- h.length];exact hi),YAt,e1];rfl
 ·rw [YBp (by simpa using hi),YA6] at e;split at e <;> cases e
  trivial
theorem zdf       (F:Fun K x qual st f fd)
  (hB:∀ {cdv:Value} {A:Around} {outer:List PySem.Env} {s:Shared} {H:Hp} {E:XK} {β:Addr} {G:Hp},N.Nodup->Room k (A.deeper (PyProof.Rows.envOfC qual (zak st) s.heap.objs.size f cdv)) ->
   DSs (cxOf CX0 P w K mg base N qual (zak st) f cdv A outer s H E).nox ⟨K,β,H,G,True⟩ (zbd st) B) (S:FnScope N ps (zak st):=by exact ⟨rfl,rfl,rfl,by decide +kernel,rfl,by decide +kernel,by decide +kernel⟩):FnOk P w K mg base CX0 (k + 1) f fd ps (spD K ps.length (fnW N.length B)):=by
 refine F.ok S (λvs H Q E ⟨β,G,ds,_,_,_,h,_⟩=>h) (λcdv A outer s H vs Q E hr ⟨β,G,ds,gh,bx,hv,hl,P',q,hP⟩=>?_);have h:=@hB cdv A outer s H E β G S.nd hr;refine ⟨_,h.pss,zaz N.length ds,G,zc9 gh bx hv,h.mono { nx:=λ_=>P' .non,rt:=P',bk:=λ_=>False,ct:=λ_=>False } _ _ ⟨λρ z σ H' G' r s'=>hP _ z .non H' G' r.stp rfl,λd z v H' G' t e=>hP _ z v H' G' t e,λρ z=>z.elim,λρ z=>z.elim⟩ q⟩
end
def subE (sub:List (Option Nat)) (ρ:Env):Env:=sub.map λo=>match o with
 | some j=>(match ρ[j]? with | some (.val d)=>.val d | _=>.un)
 | none=>.un
theorem znQ   (sub:List (Option Nat)) (r:Rel c ρ σ H G):Rel c (subE sub ρ) (zdy sub σ) H G:=by
 have noOwn:∀ (i:Nat) xs,(subE sub ρ)[i]? ≠ some (.own xs):=λi xs e=>by
  unfold subE at e;rw [YAt] at e;cases h:sub[i]? with
  | none=>rw [h] at e;cases e
  | some o=>
   rw [h] at e;cases o with
   | none=>cases e
   | some j=>
    simp only [YCC,YCp] at e;split at e <;> cases e
 refine ⟨by unfold subE zdy;simp,r.stp,λi s e=>?_,λi j a xs ys e1=>absurd e1 (noOwn i xs),r.kn⟩;unfold subE at e;rw [YAt] at e;cases h:sub[i]? with
 | none=>rw [h] at e;cases e
 | some o=>
  rw [h] at e;cases o with
  | none=>cases e;trivial
  | some j=>
   simp only [YCC,YCp] at e;split at e
   ·rename_i d hd
    subst e;obtain ⟨v,h1,h2⟩:=r.slot j _ hd;refine ⟨v,?_,h2⟩;unfold zdy;rw [YAt,h];show some ((σ[j]?).join) = _;rw [h1];rfl
   ·subst e;trivial
mutual
def okT (sub:List (Option Nat)):Tg->Bool
 | .nm i=>decide (sub[i]? = some none)
 | .tp _ ts=>okTs sub ts
def okTs (sub:List (Option Nat)):Tgs->Bool
 | .nil=>true
 | .cons t ts=>okT sub t && okTs sub ts
end
mutual
theorem zm9 (K:PySem.W.Frag):∀ t:Tg,ziK (gOf K t)
 | .nm i=>by unfold gOf;exact zqs
 | .tp n ts=>by unfold gOf;exact zsu (zlO K ts)
theorem zlO (K:PySem.W.Frag):∀ t:Tgs,zgI (gsOf K t)
 | .nil=>by unfold gsOf;exact zqj
 | .cons t ts=>by unfold gsOf;exact zoB (zm9 K t) (zlO K ts)
end
mutual
theorem zor (K:PySem.W.Frag) (sub:List (Option Nat)):∀ t:Tg,okT sub t = true->zj0 sub (gOf K t)
 | .nm i,h=>by unfold gOf;unfold okT at h;exact zqS (YAZ h)
 | .tp n ts,h=>by unfold gOf;unfold okT at h;exact zsI (zo2 K sub ts h)
theorem zo2 (K:PySem.W.Frag) (sub:List (Option Nat)):∀ t:Tgs,okTs sub t = true->zig sub (gsOf K t)
 | .nil,_=>by unfold gsOf;exact zp6
 | .cons t ts,h=>by
  unfold gsOf;unfold okTs at h;have h':=(YAA _ _ ▸ h:okT sub t = true/\okTs sub ts = true);exact zon (zor K sub t h'.1) (zm9 K t) (zo2 K sub ts h'.2) (zlO K ts)
end
def zcT (t:Tg) (C:WT) (E:WE) (ρc:Env) (Q:List D->Prop):List D->List D->Prop
 | [],acc=>Q acc
 | x :: xs,acc=>gD t x ρc λρ2=>C ρ2 λb=>if b = true then E ρ2 λd=>zcT t C E ρc Q xs (acc ++ [d]) else zcT t C E ρc Q xs acc
theorem ze8  (mC:zhd C) (mE:zbX E)  (k:∀ xs,Q xs->Q' xs):∀ xs acc,zcT t C E ρc Q xs acc->zcT t C E ρc Q' xs acc
 | [],acc,q=>k _ q
 | x :: xs,acc,q=>zbT t x ρc (λρ2 z=>mC ρ2 _ _ (λb z=>by
  cases b
  ·exact ze8 mC mE k xs acc z
  ·exact mE ρ2 _ _ (λd z=>ze8 mC mE k xs _ z) z) z) q
@[reducible] def zaC (sub:List (Option Nat)) (I:WL) (t:Tg) (C:WT) (E:WE):WL:=λρ Q=>I ρ λxs=>xs.length <= 100000/\zcT t C E (subE sub ρ) Q xs []
theorem ze2   (mI:zfv I) (mC:zhd C) (mE:zbX E):zfv (zaC sub I t C E):=λρ Q Q' k q=>mI ρ _ _ (λxs z=>⟨z.1,ze8 mC mE k xs [] z.2⟩) q
theorem Stp.wr  (s:Stp β H G H' G')  (h0:H l = none) (hg:G' l = none) (hb:l ≠ β):Stp β H G (upd H' l o) G':=
 ⟨s.gg,λa u e=>by rw [upd_ne (λz=>by rw [z,hg] at e;cases e)];exact s.gh a u e,λa u n e=>by rw [upd_ne (λz=>by rw [z,h0] at e;cases e)];exact s.fr a u n e,s.nw,
 ⟨by obtain ⟨cc,p,r,d,ns,h,q⟩:=s.bx.ex;exact ⟨cc,p,r,d,ns,by rw [upd_ne (YAO hb)];exact h,q⟩,s.bx.still⟩,s.b0,λcc p r d h=>by
  obtain ⟨p',r',d',e⟩:=s.bc cc p r d h;exact ⟨p',r',d',by rw [upd_ne (YAO hb)];exact e⟩⟩
theorem Stp.still_none  (s:Stp β H G H' G')  (h:H l = some o) (hg:G l = none) (hs:¬ zeE o:=by exact id):G' l = none:=by
 cases e:G' l with
 | none=>rfl
 | some u=>
  rcases s.nw l (by rw [e];simp) with z | z | ⟨o',z,st⟩
  ·exact absurd hg z
  ·rw [h] at z;cases z
  ·rw [h] at z;cases z;exact absurd st hs
theorem zgb    (mI:zfv I) (mC:zhd C) (mE:zbX E) (σ:St) (H:Hp) (Q:VK) (h:tDf c (zaC sub I t C E) σ H Q) :
  zma sub (tDI c I) (gOf c.K t) (tDt c C) (tD c E) σ H Q:=by
 obtain ⟨ρ,G,r,q⟩:=h;refine ⟨ρ,G,r,mI ρ _ _ (λxs ⟨hz,z⟩ J H1 G1 t1 it l hl=>?_) q⟩;have hb:l ≠ c.β:=(r.step t1).neβ hl;have hg1:G1 l = none:=zai t1.gh hl;refine ⟨λi m ys H2=>m = xs.length - i/\i <= xs.length/\ys.length <= i/\H2 l = some (.lst ys)/\∃ G2 acc,Stp c.β H1 G1 H2 G2/\G2 l = none/\Reps c G2 acc ys /\
  zcT t C E (subE sub ρ) (λds=>∀ l vs H' G',Stp c.β H G H' G'->H' l = some (.lst vs)->G' l = none->H l = none->Reps c G' ds vs->Q (.ref l) H') (xs.drop i) acc,
  ⟨xs.length,rfl,YBv _,YAm _,zae,G1,[],Stp.own t1.gh t1.bx hl,hg1,rfl,z⟩,?_⟩
 rintro i m ys H2 ⟨rfl,hi,hyl,h2,G2,acc,t2,hg2,hv,q2⟩;refine ⟨h2,?_⟩;have r2:=(r.step t1).step t2;have ok:=it i H2 G2 t2.gg t2.gh t2.bx (λa z=>r2.new0 z);by_cases hlt:i < xs.length
 ·refine .inr ?_;rw [YBs hlt] at q2;obtain ⟨go,yl⟩:=ok.2 xs[i] (YAk hlt);refine ⟨go,λys' H3=>ys'.length <= i + 1/\H3 l = some (.lst ys')/\∃ G3 acc',Stp c.β H1 G1 H3 G3/\G3 l = none/\Reps c G3 acc' ys'/\zcT t C E (subE sub ρ) (λds=>∀ l vs H' G',Stp c.β H G H' G'->H' l = some (.lst vs)->G' l = none->H l = none->Reps c G' ds vs->Q (.ref l) H') (xs.drop (i + 1)) acc',
   λys' H3 ⟨a1,a2,a3⟩=>⟨xs.length - (i + 1),by omega,rfl,by omega,a1,a2,a3⟩,λx H3 y=>?_⟩
  obtain ⟨G3,t3,e3⟩:=yl x H3 y;have h3:H3 l = some (.lst ys):=t3.fr l _ hb h2;have hg3:G3 l = none:=t3.still_none h2 hg2;have t13:=t2.trans t3;refine zfj t xs[i] x (subE sub ρ) (zdy sub σ) (znQ sub ((r.step t1).step t13)) e3 (zbT t xs[i] _ (λρ2 z2 σ2 rr=>?_) q2);refine ⟨ρ2,G3,rr,mC ρ2 _ _ (λb z3 H4 G4 t4=>?_) z2⟩;have h4:H4 l = some (.lst ys):=t4.fr l _ hb h3;have hg4:G4 l = none:=t4.still_none h3 hg3;have t14:=t13.trans t4;cases b
  ·exact ⟨Nat.le_succ_of_le hyl,h4,G4,acc,t14,hg4,(hv.mono t3.gg).mono t4.gg,z3⟩
  ·refine ⟨ρ2,G4,rr.step t4,mE ρ2 _ _ (λd z4 y H5 G5 t5 e5=>?_) z3⟩;have h5:H5 l = some (.lst ys):=t5.fr l _ hb h4;have hg5:G5 l = none:=t5.still_none h4 hg4;refine ⟨h5,?_,by rw [YAp];exact Nat.add_le_add_right hyl 1,zae,G5,acc ++ [d],(t14.trans t5).wr hl hg5 hb,hg5,(((hv.mono t3.gg).mono t4.gg).mono t5.gg).append (.one e5),z4⟩
   have:=small5 (YAm 100000)
   omega
 ·have e:i = xs.length:=by omega
  subst e;rw [YCw] at q2;exact .inl ⟨ok.1 rfl,q2 l ys H2 G2 (t1.trans t2) h2 hg2 (t1.free hl) hv⟩
structure DIf (X:Cx) (c:Bk) (ifs:List Expr) (C:WT):Prop where
 mono:zhd C
 pf:PIfs X ifs (tDt c C)
@[reducible] def noIf:WT:=λ_ Q=>Q true
section
variable {X:Cx} {c:Bk} {tg iter elt e:Expr} {ifs:List Expr} {scope:Scope} {pos p spos:Pos} {Nc:List Str} {sub:List (Option Nat)} {I:WL} {C:WT} {E:WE}
theorem zbI:DIf X c [] noIf:=⟨λρ Q Q' k q=>k _ q,λpins s σ H Q I ⟨ρ,G,r,q⟩=>pif0 pins s σ H Q I (q H G r.refl)⟩
theorem zec (h:DT X c e C):DIf X c [e] C:=⟨h.mono,pif1 h.pt⟩
theorem zbh (t:Tg) (hI:DI X c tg iter I) (hg:∀ {cl L s0 H0 ex},PG (zaU X Nc scope cl L s0 H0 ex) tg (gOf c.K t)) (hC:∀ {cl L s0 H0 ex},DIf (zaU X Nc scope cl L s0 H0 ex) c ifs C) (hE:∀ {cl L s0 H0 ex},DE (zaU X Nc scope cl L s0 H0 ex) c elt E)
  (hS:zh6 X.N X.env.scope scope Nc sub = true:=by kernel_rfl) (hok:okT sub t = true:=by decide +kernel) (hc:X.calm = true:=by rfl) (hs:∀ x,foldedSetIterable iter X.env x = pure x:=by intro _;rfl) :
  DF X c (.ListComp elt [⟨tg,iter,ifs,0⟩] scope pos) (zaC sub I t C E):=
 have mC:=(@hC [] 0 X.s₀ (λ_=>none) []).mono;have mE:=(@hE [] 0 X.s₀ (λ_=>none) []).mono
 ⟨ze2 hI.mono mC mE,zay (zn3 hc (CompScope.of hS) hI.pi (λcl L s0 H0 ex=>@hg cl L s0 H0 ex) (zor c.K sub t hok) (zm9 c.K t) (λcl L s0 H0 ex=>(@hC cl L s0 H0 ex).pf) (λcl L s0 H0 ex=>(@hE cl L s0 H0 ex).pe) hs) (zgb hI.mono mC mE)⟩
theorem zh2 (i:Nat) (t:Tg) (hI:DI X c tg iter I) (hg:∀ {cl L s0 H0 ex},PG (zaU X Nc scope cl L s0 H0 ex) tg (gOf c.K t)) (hC:∀ {cl L s0 H0 ex},DIf (zaU X Nc scope cl L s0 H0 ex) c ifs C) (hE:∀ {cl L s0 H0 ex},DE (zaU X Nc scope cl L s0 H0 ex) c elt E) (hi:X.N[i]? = some x:=by rfl) (hy:X.env.scope.names.lookup x = some .local:=by rfl) (hS:zh6 X.N X.env.scope scope Nc sub = true:=by kernel_rfl) (hok:okT sub t = true:=by decide +kernel) (hc:X.calm = true:=by rfl) (hsw:swapsWith (.ListComp elt [⟨tg,iter,ifs,0⟩] scope pos) (some (.Name x p)) spos.line X.env = pure true:=by rfl) (hs:∀ x,foldedSetIterable iter X.env x = pure x:=by intro _;rfl) (hN:X.N.Nodup:=by decreasing_trivial) :
  DS X c (.Assign [.Name x p] (.ListComp elt [⟨tg,iter,ifs,0⟩] scope pos) spos) (asgW (.nm i) (valW (zaC sub I t C E))):=by
 have mC:=(@hC [] 0 X.s₀ (λ_=>none) []).mono;have mE:=(@hE [] 0 X.s₀ (λ_=>none) []).mono;have mL:=ze2 (sub:=sub) (t:=t) hI.mono mC mE;have mV:zbX (valW (zaC sub I t C E)):=λρ Q Q' k q=>mL ρ _ _ (λxs z=>k _ z) q;refine ⟨zhw mV,zbe (zmT hc hN hi hy (CompScope.of hS) hI.pi (λcl L s0 H0 ex=>@hg cl L s0 H0 ex) (zor c.K sub t hok) (zm9 c.K t) (λcl L s0 H0 ex=>(@hC cl L s0 H0 ex).pf) (λcl L s0 H0 ex=>(@hE cl L s0 H0 ex).pe) hsw hs) λD σ H ⟨ρ,G,r,q⟩=>?_⟩;refine zgb hI.mono mC mE σ H _ ⟨ρ,G,r,mL ρ _ _ (λxs z l vs H' G' t hl hg h0 hv=>?_) q⟩;have hb:=r.neβ h0;exact z (σ.set i (some (.ref l))) H' (upd G' l (.lst vs)) ((r.step (t.still hl h0 hb hg)).put ⟨l,vs,rfl,zae,λ_=>r.new0 h0,hv.mono (zbo hg)⟩) (t.gg.trans (zbo hg))
theorem zpr (i:Nat) (t:Tg) (hI:DI X c tg iter I) (hg:∀ {cl L s0 H0 ex},PG (zaU X Nc scope cl L s0 H0 ex) tg (gOf c.K t)) (hC:∀ {cl L s0 H0 ex},DIf (zaU X Nc scope cl L s0 H0 ex) c ifs C) (hE:∀ {cl L s0 H0 ex},DE (zaU X Nc scope cl L s0 H0 ex) c elt E) (hi:X.N[i]? = some x:=by rfl) (hy:X.env.scope.names.lookup x = some .local:=by rfl) (hS:zh6 X.N X.env.scope scope Nc sub = true:=by kernel_rfl) (hok:okT sub t = true:=by decide +kernel) (hc:X.calm = true:=by rfl) (hsw:swapsWith (.ListComp elt [⟨tg,iter,ifs,0⟩] scope pos) (some (.Name x p)) spos.line X.env = pure true:=by rfl) (hs:∀ x,foldedSetIterable iter X.env x = pure x:=by intro _;rfl) (hN:X.N.Nodup:=by decreasing_trivial) :
  DS X c (.Assign [.Name x p] (.ListComp elt [⟨tg,iter,ifs,0⟩] scope pos) spos) (ownW i (zaC sub I t C E)):=by
 have mC:=(@hC [] 0 X.s₀ (λ_=>none) []).mono;have mE:=(@hE [] 0 X.s₀ (λ_=>none) []).mono;have mL:=ze2 (sub:=sub) (t:=t) hI.mono mC mE;refine ⟨zkB mL,zbe (zmT hc hN hi hy (CompScope.of hS) hI.pi (λcl L s0 H0 ex=>@hg cl L s0 H0 ex) (zor c.K sub t hok) (zm9 c.K t) (λcl L s0 H0 ex=>(@hC cl L s0 H0 ex).pf) (λcl L s0 H0 ex=>(@hE cl L s0 H0 ex).pe) hsw hs) λD σ H h=>?_⟩;exact zgb hI.mono mC mE σ H _ (zj6 mL D σ H h)
end
structure Bt (mg:Str->Option Value):Prop where
 list:mg "list" = none
 len:mg "len" = none
 range:mg "range" = none
 all:mg "all" = none
 any:mg "any" = none
 isinstance:mg "isinstance" = none
 tuple:mg "tuple" = none
 bool:mg "bool" = none
 int:mg "int" = none
 str:mg "str" = none
 sorted:mg "sorted" = none
 set:mg "set" = none
 zip:mg "zip" = none
 enumerate:mg "enumerate" = none
 min:mg "min" = none
 max:mg "max" = none
def zad:Fn
 | [.box,.int m],Q=>(0 < m/\m < 2 ^ 64)/\∀ x:Int,0 <= x->x < m->Q (.int x)
 | _,_=>False
end Fd
namespace Fen
open PySem L2
def Ext (b:Addr) (H H':Hp):Prop:=∀ a o,a ≠ b->H a = some o->H' a = some o
theorem Ext.refl (b:Addr) (H:Hp):Ext b H H:=λ_ _ _ h=>h
theorem Ext.trans  (x:Ext b H H1) (y:Ext b H1 H2):Ext b H H2:=λa o n h=>y a o n (x a o n h)
theorem Ext.upd  : Ext b H (upd H b o):=λa _ n h=>by rw [upd_ne n];exact h
def boxV (c:Addr) (p r d:Int):HO:=.lst [.ref c,.int p,.int r,.int d]
structure Box (H:Hp) (b c:Addr) (ns:List Int):Prop where
 ex:∃ p r d:Int,H b = some (boxV c p r d)/\0 <= p/\0 <= r/\0 <= d/\d < 2147483629
 cells:H c = some (.lst (ns.map V.int))
 few:ns.length <= 63
theorem Box.ne  (x:Box H b c ns):b ≠ c:=λz=>by
 obtain ⟨p,r,d,e,_⟩:=x.ex;have q:=x.cells;rw [<- z,e] at q;have q':([V.ref c,.int p,.int r,.int d]:List V) = ns.map V.int:=by injection q with q;injection q
 cases ns with
 | nil=>cases q'
 | cons n r=>simp at q'
theorem Box.put  (x:Box H b c ns) (hp:0 <= p) (hr:0 <= r) (h0:0 <= d) (h1:d < 2147483629):Box (upd H b (boxV c p r d)) b c ns:=
 ⟨⟨p,r,d,zae,hp,hr,h0,h1⟩,by rw [upd_ne x.ne.symm];exact x.cells,x.few⟩
def zpF (K:PySem.W.Frag):Sp:=λvs H Q _=>∃ (a:Addr) (ns:List Int),vs = [.ref a]/\SqL K H a (ns.map V.int)/\ns.length <= 63/\∀ b c H',H b = none->Box H' b c ns->Same H H'->Q (.ref b) H'
def zr1:Sp:=λvs H Q _=>∃ (b c:Addr) (ns:List Int) (m:Int),vs = [.ref b,.int m]/\Box H b c ns/\0 < m/\m < 2 ^ 64/\∀ (x:Int) H',0 <= x->x < m->Box H' b c ns->Ext b H H'->Q (.int x) H'
structure Txt (K:PySem.W.Frag) (mg:Str->Option Value):Prop where
 list:mg "list" = none
 len:mg "len" = none
 range:mg "range" = none
theorem ztA {ns:List Int} (h:ns.length <= 63):cutV (ns.map V.int) none (some 63) = ns.map V.int:=by
 unfold cutV;have e:HT.sIx (ns.map V.int).length (ns.map V.int).length (some 63) = ns.length:=by
  rw [show (63:Int) = ((63:Nat):Int) from rfl,HT.sIx_nat,YAc];omega
 rw [e,HT.sIx_none,List.drop_zero,Nat.sub_zero];exact List.take_of_length_le (by simp)
end Fen
namespace L2
open PySem PySem.Spec PyProof.Rows
section
variable {X:Cx}
theorem ziJ:∀ {ts:List Str} {us:List Value},Vals (ts.map V.str) us->∃ l:List (Str × Tok),l.map (·.1) = ts/\us = strValues l
 | [],_,.nil=>⟨[],rfl,rfl⟩
 | t :: ts,_,.cons ⟨k,e⟩ r=>by
  subst e;obtain ⟨l,h1,h2⟩:=ziJ r;exact ⟨(t,k) :: l,by simp [h1],by subst h2;rfl⟩
def zra (K:PySem.W.Frag):V->List V->Hp->VK->Prop:=λx xs H Q=>∃ a p ts,x = .str a/\xs = [.ref p]/\SqL K H p (ts.map V.str)/\(∀ t ∈ ts,t.length <= 2000)/\ts.length <= 2000/\a.length <= 1000/\Q (.str (Str.join a ts)) H
theorem zpE:MtR X "str.join" (zra X.K):=by
 intro pins s σ H x xs v us Q I rx rv h;obtain ⟨a,p,ts,rfl,rfl,hl,h1,h2,h3,q⟩:=h;obtain ⟨t,rfl⟩:=rx;obtain ⟨u,rfl,ru⟩:=zft rv;cases ru;obtain ⟨its,rv,pl,_⟩:=I.list hl;obtain ⟨l,e1,e2⟩:=ziJ rv;subst e2;refine SC.join pl.isList e1 ?_ λt' k=>?_
 ·have:=YCK h2 (YAm 2000)
  have:=YCK h2 h3
  unfold JoinOk;rw [StrLaws.joinFits (B:=2000) h1 (by omega)];rfl
 ·rw [show Txt.join a ts = Str.join a ts from StrLaws.glued_eq_join a ts];exact ⟨.str _,H,I.tok k,⟨t',rfl⟩,q⟩
theorem zi2:CallR X (.type "int") (λxs H Q=>∃ x n,xs = [.str x]/\x.length <= 640/\PySem.intText? x = some n/\Q (.int n) H):=by
 intro pins s σ H xs us Q I r h;obtain ⟨x,n,rfl,hz,hn,q⟩:=h;obtain ⟨u,rfl,t,rfl⟩:=zft r;exact PySem.W.KIN.call_text hn hz ⟨.int n,H,I.tok _,⟨_,rfl⟩,q⟩
def Its (x:Str):It:=⟨λi _=>i < x.length,λi H v H'=>H' = H/\∃ c,x.cps[i]? = some c/\v = .str ⟨#[c]⟩,λi _=>x.length <= i⟩
theorem zog {P:Program} {w:World} {K:PySem.W.Frag} {tg:Expr} (x:Str) (t:Tok) (ty:String) (hty:ty = "str_ascii_iterator" \/ ty = "str_iterator") (it:Addr):Turn P w K tg (Its x) [it] it (λi h=>h.IsStrIter it ty x t i) where
 mem:=by simp
 obj:=λi h st b hb=>by
  have e:b = it:=by simpa using hb
  subst e;obtain ⟨o,e,c,d⟩:=st;exact ⟨o,e,λv z=>by rw [d] at z;cases z⟩
 keep:=λi h h' ⟨o,e,r⟩ k=>⟨o,k it (by simp) o e,r⟩
 item:=by
  intro X hP hw hK hc i pins s σ H E I hf st hg;subst hP hw hK;have hg:i < x.length:=hg;obtain ⟨f0,f1,f2,f3,f4,f5⟩:=hf it (by simp);have hx:x.cps[i]? = some x.cps[i]:=YBe hg;have fin:∀ h',h'.IsStrIter it ty x t (i + 1)->Heap.SameBut it s.heap h'->∃ u,some (Value.str ⟨#[x.cps[i]]⟩ s.toks) = some u /\
   wpAny (model X.prog X.w) X.A (letOwnedTupleGo tg (.ref it) u) (λ_ s2=>∃ x' H',Inv X pins σ H' s2/\RelV x' u/\(Its x).yld i H x' H'/\s2.heap.IsStrIter it ty x t (i + 1)/\∀ b ∈ [it],H' b = none) E { s with heap:=h',toks:=s.toks + 1 }:=λh' st' sb=>by
   have I1:Inv X pins σ H { s with heap:=h',toks:=s.toks + 1 }:=I.turned (t':=s.toks + 1) (λb o hb e=>(sb.2 b hb).trans e) f0 f1 f3 f4 f5;obtain ⟨o,e,c,d⟩:=id st';exact ⟨_,rfl,zlS (s:={ s with heap:=h',toks:=s.toks + 1 }) e c d (by rcases hty with rfl | rfl <;> decide) ⟨.str _,H,I1,⟨_,rfl⟩,⟨rfl,_,hx,rfl⟩,st',λb hb=>(hf b hb).1⟩⟩
  rcases hty with rfl | rfl
  ·exact wpAny_pyNext_ascii_item st hx fin
  ·exact wpAny_pyNext_wide_item st hx fin
 done:=by
  intro X hP hw hK hc i pins s σ H E I hf st hg;subst hP hw hK;have hg:x.length <= i:=hg;obtain ⟨f0,f1,f2,f3,f4,f5⟩:=hf it (by simp);have hx:x.cps[i]? = none:=Array.getElem?_eq_none hg;rcases hty with rfl | rfl
  ·exact wpAny_pyNext_ascii_end (I.ok.hd hc) st hx λh' eb=>⟨rfl,I.turned (t':=s.toks) (λb o hb e=>eb b o hb e) f0 f1 f3 f4 f5⟩
  ·exact wpAny_pyNext_wide_end (I.ok.hd hc) st hx λh' eb=>⟨rfl,I.turned (t':=s.toks) (λb o hb e=>eb b o hb e) f0 f1 f3 f4 f5⟩
 self:=λ_ _ _ _ _ st h=>by
  rcases hty with rfl | rfl
  ·exact wpAny_pyIter_striter_ascii st h
  ·exact wpAny_pyIter_striter_wide st h
def cutS (z:Str) (lo hi:Option Int):Str:=⟨((z.cps.toList.drop (HT.sIx z.length 0 lo)).take (HT.sIx z.length z.length hi - HT.sIx z.length 0 lo)).toArray⟩
theorem zkp (n:Nat):∀ (o:Option Int) (d:Nat),d <= n->(∀ v,o = some v->v <= n\/0 <= v)->HT.sIx n d o <= n
 | none,_,h,_=>h
 | some v,_,_,_=>by
  show (if v < 0 then (v + (n:Int)).toNat else min v.toNat n) <= n;split <;> omega
theorem zme (n d:Nat) (o:Option Int) (hd:d <= n):(match o with | none=>(d:Int) | some i=>max 0 (min (if i < 0 then i + (n:Int) else i) (n:Int))) = (HT.sIx n d o:Int):=by
 cases o with
 | none=>rfl
 | some v=>
  show max 0 (min (if v < 0 then v + (n:Int) else v) (n:Int)) = ((if v < 0 then (v + (n:Int)).toNat else min v.toNat n:Nat):Int);split <;> omega
theorem zmR (n:Nat) (lo hi:Option Int):Builtin.Str.strSliceIndices lo hi 1 n = sliceRange (HT.sIx n 0 lo:Int) (HT.sIx n n hi:Int) 1:=by
 have a:=zme n 0 lo (YBv _);have b:=zme n n hi (YAm _);unfold Builtin.Str.strSliceIndices;simp only [show (1:Int) > 0 from by decide,YBU];rw [<- a,<- b];rfl
theorem zna (z:Str) (lo hi:Option Int):Txt.slice z lo hi = cutS z lo hi:=by
 have ha:HT.sIx z.length 0 lo <= z.length:=zkp _ _ _ (YBv _) λv _=>by omega
 have hb:HT.sIx z.length z.length hi <= z.length:=zkp _ _ _ (YAm _) λv _=>by omega
 unfold cutS;by_cases h:HT.sIx z.length 0 lo <= HT.sIx z.length z.length hi
 ·have q:=StrLaws.sliceText_nat z h hb;rw [<- q];have e:Builtin.Str.strSliceIndices lo hi 1 z.length = Builtin.Str.strSliceIndices (some (HT.sIx z.length 0 lo:Int)) (some (HT.sIx z.length z.length hi:Int)) 1 z.length:=by
   rw [zmR,zmR,HT.sIx_nat,HT.sIx_nat,Nat.min_eq_left ha,Nat.min_eq_left hb]
  show StrLaws.sliceText z lo hi = _;unfold StrLaws.sliceText;rw [e]
 ·have e:Builtin.Str.strSliceIndices lo hi 1 z.length = []:=by
   rw [zmR];unfold sliceRange;simp only [show (1:Int) > 0 from by decide,YBU];rw [if_neg (by omega)];rfl
  have t:(HT.sIx z.length z.length hi - HT.sIx z.length 0 lo) = 0:=by omega
  rw [t,List.take_zero];show StrLaws.sliceText z lo hi = _;unfold StrLaws.sliceText;rw [e];have nz:z.length ≠ 0:=by omega
  simp [YAO nz]
def rSlS:V->Option Int->Option Int->Hp->VK->Prop:=λx lo hi H Q=>∃ z,x = .str z/\z.length <= 100000/\Q (.str (cutS z lo hi)) H
theorem znt {v:Value} {o:Option Int} (h:IsPart v o):∃ l:Option (Int × Tok),v = partValue l/\l.map (·.1) = o:=by
 cases h with
 | none=>exact ⟨none,rfl,rfl⟩
 | int i t=>exact ⟨some (i,t),rfl,rfl⟩
theorem zrx:SlR X rSlS:=by
 intro pins s σ H x v vl vu lo hi sl Q I rx hs pl pu h;obtain ⟨z,rfl,hz,q⟩:=h;obtain ⟨t,rfl⟩:=rx;obtain ⟨l,rfl,rfl⟩:=znt pl;obtain ⟨u,rfl,rfl⟩:=znt pu;refine ⟨"str",_,F.slot_str_getitem.lookup,typeIs_str _ _ _,wpAny_getItem_str_slice (l:=l) (u:=u) (st:=none) hs rfl (post_val_or_str ⟨?_,λt' k=>?_⟩)⟩
 ·exact YAB (Txt.slice_le z _ _) (by rw [YAQ];omega)
 ·exact ⟨.str _,H,I.tok k,⟨t',rfl⟩,by rw [<- zna] at q;exact q⟩
end
def Itx (tp tq:Bool) (K:PySem.W.Frag) (a b:Addr):It:=
 ⟨λi H=>∃ xs ys x y,SQ tp K H a xs/\SQ tq K H b ys/\xs[i]? = some x/\ys[i]? = some y,
 λi H v H'=>∃ t x y,H t = none/\v = .ref t/\H' = upd H t (.tup [x,y])/\(∀ xs,SQ tp K H a xs->xs[i]? = some x)/\∀ ys,SQ tq K H b ys->ys[i]? = some y,
 λi H=>∃ xs ys,SQ tp K H a xs/\SQ tq K H b ys/\i = min xs.length ys.length⟩
def ZTx (tp tq:Bool) (z c d i j a b:Addr) (k:Nat) (h:Heap):Prop:=IsZip h z c d .none/\IsPair h c (.ref i) (.ref j)/\(∃ u v,IsPair h d u v)/\SIt tp h i a k/\SIt tq h j b k
theorem znf {P:Program} {w:World} {K:PySem.W.Frag} {es:List Expr} {x1:_} {pos:Pos} {tp tq:Bool} {z c d i j a b:Addr} (Z:ZAp z c d i j [i,a] [j,b]) (na:a ≠ i) (nb:b ≠ j) :
  Turn P w K (.Tuple es x1 pos) (Itx tp tq K a b) [z,c,d,i,j] z (ZTx tp tq z c d i j a b) where
 mem:=by simp
 obj:=λk h st e he=>by
  obtain ⟨h1,h2,⟨u,v,h3⟩,h4,h5⟩:=st;simp only [YAu,YAC,YBR] at he;rcases he with rfl | rfl | rfl | rfl | rfl
  ·exact ⟨_,h1,λv q=>by cases q⟩
  ·exact ⟨_,h2,λv q=>by cases q⟩
  ·exact ⟨_,h3,λv q=>by cases q⟩
  ·exact h4.obj
  ·exact h5.obj
 keep:=λk h h' st q=>by
  obtain ⟨h1,h2,⟨u,v,h3⟩,h4,h5⟩:=st;exact ⟨q z (by simp) _ h1,q c (by simp) _ h2,⟨u,v,q d (by simp) _ h3⟩,h4.keep λo e=>q i (by simp) o e,h5.keep λo e=>q j (by simp) o e⟩
 item:=by
  intro X hP hw hK hc k pins s σ H E I hf st hg;subst hP hw hK;obtain ⟨xs,ys,x,y,qa,qb,ex,ey⟩:=hg;obtain ⟨ia,ra,ca,za⟩:=I.sq qa;obtain ⟨ib,rb,cb,zb⟩:=I.sq qb;obtain ⟨h1,h2,⟨u,v,h3⟩,h4,h5⟩:=st;have hh:X.A.in1.handled = none:=I.ok.hd hc;obtain ⟨ux,eux,rux⟩:=ra.get ex;obtain ⟨uy,euy,ruy⟩:=rb.get ey;have k1:k < ia.toArray.size:=by simpa using (YAd.mp eux).1
  have k2:k < ib.toArray.size:=by simpa using (YAd.mp euy).1
  refine zgc Z (ziH tp hh i a na ia.toArray) (ziH tq hh j b nb ib.toArray) h1 h2 h3 ⟨h4,ca⟩ ⟨h5,cb⟩ k1 k2 λvx vy h' tk t px py ht g1 g2 g3 g4 g5 kk=>⟨_,rfl,?_⟩;have ev:vx = ux:=by rw [List.getElem?_toArray,eux] at px;exact (Option.some.inj px).symm
  have ew:vy = uy:=by rw [List.getElem?_toArray,euy] at py;exact (Option.some.inj py).symm
  subst ev ew;refine wpAny_letOwnedTupleGo_zip g1 λh'' z' sb=>?_;have tz:t ≠ z:=λq=>by rw [q] at ht;exact absurd (YAj h1) (by rw [ht];exact YA2 _)
  have hn:H t = none:=I.hok.fresh (by rw [ht];exact YAm _);have kp:∀ b u,b ∉ [z,c,d,i,j]->s.heap.get? b = some u->h''.get? b = some u:=λb u hb e=>by
   simp only [YAu,YAC,YBR,not_or] at hb;exact sb.extBut b u hb.1 (kk b u hb.1 hb.2.2.1 hb.2.2.2.1 hb.2.2.2.2 e)
  have I1:Inv X pins σ (upd H t (.tup [x,y])) { s with heap:=h'',toks:=tk }:=I.turnedLaid (ch:=[z,c,d,i,j]) kp hf (by rw [ht];exact YAm _)
   ⟨by show 2 <= sizeLine;decide,[vx,vy],.cons rux (.cons ruy .nil),⟨_,sb.extBut _ _ tz g5,rfl,_,rfl⟩⟩
  refine ⟨.ref t,_,I1,rfl,⟨t,x,y,hn,rfl,rfl,λxs' q=>by rw [I.sq_inj q qa];exact ex,λys' q=>by rw [I.sq_inj q qb];exact ey⟩,?_,λe he=>?_⟩
  ·exact ⟨z',sb.extBut _ _ Z.az (kk _ _ Z.az Z.ab Z.ai Z.aj h2),⟨_,_,sb.extBut _ _ Z.bz g2⟩,g3.1.keep λo e=>sb.extBut _ _ Z.iz e,g4.1.keep λo e=>sb.extBut _ _ Z.jz e⟩
  ·have hlt:e < s.heap.objs.size:=by
    simp only [YAu,YAC,YBR] at he;rcases he with rfl | rfl | rfl | rfl | rfl
    ·exact YAj h1
    ·exact YAj h2
    ·exact YAj h3
    ·obtain ⟨o,q,_⟩:=h4.obj;exact YAj q
    ·obtain ⟨o,q,_⟩:=h5.obj;exact YAj q
   rw [upd_ne (YAr (by rw [ht];exact hlt))];exact (hf e he).1
 done:=by
  intro X hP hw hK hc k pins s σ H E I hf st hg;obtain ⟨xs,ys,qa,qb,hx⟩:=hg;subst hP hw hK;obtain ⟨ia,ra,ca,za⟩:=I.sq qa;obtain ⟨ib,rb,cb,zb⟩:=I.sq qb;obtain ⟨h1,h2,⟨u,v,h3⟩,h4,h5⟩:=st;have hh:X.A.in1.handled = none:=I.ok.hd hc;have l1:=ra.length;have l2:=rb.length;by_cases hle:xs.length <= ys.length
  ·have hk:k = ia.toArray.size:=by simp;omega
   subst hk;refine zgk Z (ziH tp hh i a na ia.toArray) h1 h2 ⟨h4,ca⟩ λh' kk=>⟨rfl,?_⟩;exact I.turnedAll (t':=s.toks) (ch:=[z,c,d,i,j]) (λb u hb e=>by
    simp only [YAu,YAC,YBR,not_or] at hb;exact kk b u hb.1 hb.2.2.1 hb.2.2.2.1 hb.2.2.2.2 e) hf
  ·have hk:k = ib.toArray.size:=by simp;omega
   subst hk;refine zfr Z (ziH tp hh i a na ia.toArray) (ziH tq hh j b nb ib.toArray) h1 h2 h3 ⟨h4,ca⟩ ⟨h5,cb⟩ (by simp;omega) λh' tk kk=>⟨rfl,?_⟩;exact I.turnedAll (t':=tk) (ch:=[z,c,d,i,j]) (λb u hb e=>by
    simp only [YAu,YAC,YBR,not_or] at hb;exact kk b u hb.1 hb.2.2.1 hb.2.2.2.1 hb.2.2.2.2 e) hf
 self:=λ_ _ _ _ _ st h=>wpAny_pyIter_zip st.1 h
def itN (tp:Bool):String:=match tp with | true => "tuple_iterator" | false => "list_iterator"
abbrev xza (tp:Bool) (h:Heap) (l:Addr):Heap:=h.push { cls:=.type (itN tp),data:=.fields #[.ref l,.int 0 0] }
abbrev xzb (tp tq:Bool) (h:Heap) (l m:Addr):Heap:=xza tq (xza tp h l) m
abbrev xzc (tp tq:Bool) (h:Heap) (l m:Addr):Heap:=(xzb tp tq h l m).push { cls:=.type "tuple",data:=.seq #[.ref h.objs.size,.ref (xza tp h l).objs.size] }
abbrev xzd (tp tq:Bool) (h:Heap) (l m:Addr):Heap:=(xzc tp tq h l m).push { cls:=.type "tuple",data:=.seq #[.none,.none] }
abbrev xze (tp tq:Bool) (h:Heap) (l m:Addr):Heap:=(xzd tp tq h l m).push { cls:=.type "zip",data:=.fields #[.none,.bool false,.bool false,.ref (xzb tp tq h l m).objs.size,.ref (xzc tp tq h l m).objs.size] }
theorem zrF {P:Program} {w:World} {A:Around} {E:Value->Shared->Prop} {s:Shared} {tp:Bool} {l:Addr} {xs:Array Value} {Q:Value->Shared->Prop} (h:SCn tp s.heap l xs) (q:Q (.ref s.heap.objs.size) { s with heap:=xza tp s.heap l }):wpAny (model P w) A (pyIter (.ref l)) Q E s:=by
 cases tp
 ·exact YBW h q
 ·exact wpAny_pyIter_tuple h q
theorem SCn.push {tp:Bool} {h:Heap} {l:Addr} {xs:Array Value} (x:SCn tp h l xs) (o:Obj):SCn tp (h.push o) l xs:=by
 cases tp
 ·exact Heap.IsList.push x o
 ·exact Heap.IsTuple.push x o
theorem zlr (tp tq:Bool) (l m:Addr) (xs ys:Array Value) :
  Meets (Builtin.«zip.__new__» ⟨[.type "zip",.ref l,.ref m],[]⟩) (λ_ R s=>SCn tp s.heap l xs/\SCn tq s.heap m ys/\R (.ok (.ret (.ref (xzd tp tq s.heap l m).objs.size))) { s with heap:=xze tp tq s.heap l m }):=
 .of_wp λprog w A R s h=>by
  obtain ⟨hp,g,d,tk,os⟩:=s;obtain ⟨hl,hm,h⟩:=h;have hsub:=sub_zip;have h1:SCn tp (Shared.heap ⟨hp,g,d,tk,os⟩) l xs:=hl;have h2:SCn tq (Shared.heap ⟨xza tp hp l,g,d,tk,os⟩) m ys:=SCn.push hm _
  wp_walk using zrF h1,zrF h2
  exact ⟨_,rfl,h⟩
theorem zl7 {P:Program} {w:World} {A:Around} {E:Value->Shared->Prop} {s:Shared} {tp tq:Bool} {l m:Addr} {xs ys:Array Value} {Q:Value->Shared->Prop} (hl:SCn tp s.heap l xs) (hm:SCn tq s.heap m ys)
  (q:∀ h',ZTx tp tq (s.heap.objs.size + 4) (s.heap.objs.size + 2) (s.heap.objs.size + 3) s.heap.objs.size (s.heap.objs.size + 1) l m 0 h'->(∀ c o,s.heap.get? c = some o->h'.get? c = some o)->Q (.ref (s.heap.objs.size + 4)) { s with heap:=h' }) :
  wpAny (model P w) A (call (.type "zip") [.ref l,.ref m]) Q E s:=by
 refine callType_new F.called_zip (by decide) (F.typeCall_zip_2 _ _) (F.newCall_zip_2 _ _) (λobj=>F.args_object_init_3 obj _ _) F.entry_zip_new (zlr tp tq l m xs ys) ⟨hl,hm,?_⟩;have y1:(xza tp s.heap l).objs.size = s.heap.objs.size + 1:=YBr ..;have y2:(xzb tp tq s.heap l m).objs.size = s.heap.objs.size + 2:=by rw [YBr,y1]
 have y3:(xzc tp tq s.heap l m).objs.size = s.heap.objs.size + 3:=by rw [YBr,y2]
 have y4:(xzd tp tq s.heap l m).objs.size = s.heap.objs.size + 4:=by rw [YBr,y3]
 have g5:(xze tp tq s.heap l m).get? (xzd tp tq s.heap l m).objs.size = some _:=YAn _ rfl;have g4:(xze tp tq s.heap l m).get? (xzc tp tq s.heap l m).objs.size = some _:=YAb _ (YAn _ rfl);have g3:(xze tp tq s.heap l m).get? (xzb tp tq s.heap l m).objs.size = some _:=YAb _ (YAb _ (YAn _ rfl));have g2:(xze tp tq s.heap l m).get? (xza tp s.heap l).objs.size = some _:=YAb _ (YAb _ (YAb _ (YAn _ rfl)));have g1:(xze tp tq s.heap l m).get? s.heap.objs.size = some _:=YAb _ (YAb _ (YAb _ (YAb _ (YAn _ rfl))));show _/\_;rw [y2,y3,y4] at g5;rw [y1,y2] at g3;rw [y3] at g4;rw [y1] at g2;rw [y4];exact ⟨⟨_,g5,rfl⟩,q _ ⟨g5,g3,⟨_,_,g4⟩,(by cases tp <;> exact ⟨_,g1,rfl,rfl⟩),(by cases tq <;> exact ⟨_,g2,rfl,rfl⟩)⟩ λc o x=>YAb _ (YAb _ (YAb _ (YAb _ (YAb _ x))))⟩
def ztH (K:PySem.W.Frag) (ta:TA):TI:=λσ H R=>ta σ H λvs H1=>∃ (tp tq:Bool) (a b:Addr) (xs ys:List V),vs = [.ref a,.ref b]/\SQ tp K H1 a xs/\SQ tq K H1 b ys/\R (Itx tp tq K a b) H1
theorem zqp {X:Cx} {es:List Expr} {x1:_} {tpos:Pos} {a b:Expr} {ta:TA} {p pos:Pos} (hg:Gl X "zip") (hm:X.mg "zip" = none) (ha:PA X [a,b] ta) (hs:starEach [a,b] X.env = [(false,eval a X.env),(false,eval b X.env)]:=by rfl) (hs2:starEach [b] X.env = [(false,eval b X.env)]:=by rfl) :
  PI X (.Tuple es x1 tpos) (.Call (.Name "zip" p) [a,b] [] pos) (ztH X.K ta):=by
 intro pins s σ H R I h;refine Call_ (ziR I hg hm boot_zip (YBy (thn (ha pos pins s σ H _ I h) λus s1 ⟨vs,H1,I1,r1,q1⟩=>?_) (by rw [hs,hs2]) (by rw [hs2];rfl)));obtain ⟨tp,tq,l,m,xs,ys,e,q1,q2,q⟩:=q1;subst e;obtain ⟨u,v,rfl,ru,rv⟩:=zrH r1;cases ru;cases rv;obtain ⟨ia,ra,ca,za⟩:=I1.sq q1;obtain ⟨ib,rb,cb,zb⟩:=I1.sq q2;have lt1:=ca.lt;have lt2:=cb.lt;refine zl7 ca cb λh' zt kk=>?_;refine wpAny_pyIter_zip zt.1 ?_;have I2:Inv X pins σ H1 { s1 with heap:=h' }:=I1.kept (t':=s1.toks) kk;refine ⟨_,[s1.heap.objs.size + 4,s1.heap.objs.size + 2,s1.heap.objs.size + 3,s1.heap.objs.size,s1.heap.objs.size + 1],_,_,H1,rfl,I2,znf (zsn _ _ _ lt1 lt2) (YAr lt1) (YAr (YCq lt2)),zt,λc hc=>?_,q⟩;have hle:s1.heap.objs.size <= c:=by
  simp only [YAu,YAC,YBR] at hc;rcases hc with rfl | rfl | rfl | rfl | rfl
  ·exact YB1 _ _
  ·exact YB1 _ _
  ·exact YB1 _ _
  ·exact YAm _
  ·exact YB1 _ _
 exact I1.fpOk hle (I1.hok.fresh hle)
end L2
namespace Fd
open PySem L2
section
variable {X:Cx} {c:Bk} {a b:Expr} {A B:WE} {pos p tpos:Pos} {es:List Expr}
def zr8 (A B:WE):WL:=λρ Q=>A ρ λx=>B ρ λy=>seqD x λxs=>seqD y λys=>Q (zipL xs ys)
theorem zht {K:PySem.W.Frag} {tp:Bool} {G H2:Hp} (e:Same G H2) {l:Addr} {vs:List V} (h:SQ tp K G l vs):SQ tp K H2 l vs:=by
 cases tp
 ·exact e.seq h
 ·exact zba e h
theorem zqu {G:Hp} {tp tq:Bool} {l m:Addr} {xs ys:List D} {vs ws:List V} (hl:SQ tp c.K G l vs) (hm:SQ tq c.K G m ws) (hv:Reps c G xs vs) (hw:Reps c G ys ws):ItOk c (Itx tp tq c.K l m) (zipL xs ys) G:=by
 intro i H2 G2 s1 s2 bx h0;have ql:=zht (s1.trans s2) hl;have qm:=zht (s1.trans s2) hm;refine ⟨λe=>⟨vs,ws,ql,qm,by rw [e,zkO,hv.length,hw.length]⟩,λd e=>?_⟩;obtain ⟨x,y,ex,ey,rfl⟩:=zkc e;obtain ⟨v,e1,r1⟩:=hv.get ex;obtain ⟨w,e2,r2⟩:=hw.get ey;refine ⟨⟨vs,ws,v,w,ql,qm,e1,e2⟩,λz H3 yl=>?_⟩;obtain ⟨t,x',y',ht,rfl,rfl,f1,f2⟩:=yl;have g1:=f1 vs ql;have g2:=f2 ws qm;rw [e1] at g1;cases g1;rw [e2] at g2;cases g2;have sg:Same G2 (upd G2 t (.tup [v,w])):=zbo (zai s2 ht);exact ⟨_,Stp.new s2 bx ht,t,[v,w],rfl,SqT.of zae,⟨v,[w],rfl,(r1.mono s1).mono sg,w,[],rfl,(r2.mono s1).mono sg,rfl⟩⟩
theorem zkK {G:Hp} {d:D} {v:V} {Q:List D->Prop} (h:Rep c G d v) (q:seqD d Q):∃ tp l vs xs,v = .ref l/\SQ tp c.K G l vs/\Reps c G xs vs/\Q xs:=by
 cases d with
 | lst n xs=>obtain ⟨l,vs,e,hl,_,hv⟩:=h;exact ⟨false,l,vs,xs,e,SqL.of hl,hv,q⟩
 | tup xs=>obtain ⟨l,vs,e,hl,hv⟩:=h;exact ⟨true,l,vs,xs,e,hl,hv,q⟩
 | _=>exact q.elim
theorem zrq {x1:_} (hA:DE X c a A) (hB:DE X c b B) (hg:Gl X "zip" := by rfl) (hs:starEach [a,b] X.env = [(false,eval a X.env),(false,eval b X.env)]:=by rfl) (hs2:starEach [b] X.env = [(false,eval b X.env)]:=by rfl) (hK:c.K = X.K:=by rfl) (hm:X.mg "zip" = none:=by decreasing_trivial) :
  DI X c (.Tuple es x1 tpos) (.Call (.Name "zip" p) [a,b] [] pos) (zr8 A B) where
 mono:=λρ Q Q' k q=>hA.mono ρ _ _ (λx z=>hB.mono ρ _ _ (λy z'=>zgs (λxs=>zgs λys z=>k _ z) z') z) q
 pi:=zkR (zqp hg hm (zaD hA.pe (zaD hB.pe zbn hs2) (by rw [hs,hs2])) hs hs2) λσ H R ⟨ρ,G,r,q⟩=>⟨ρ,G,r,hA.mono ρ _ _ (λx z v H1 G1 t1 e1=>⟨ρ,G1,r.step t1,hB.mono ρ _ _ (λy z' w H2 G2 t2 e2=>by
  obtain ⟨tp,l,vs,xs,rfl,hl,hv,z'⟩:=zkK (e1.mono t2.gg) z';obtain ⟨tq,m,ws,ys,rfl,hm,hw,z'⟩:=zkK e2 z';exact ⟨tp,tq,l,m,vs,ws,rfl,hK ▸ zht t2.gh hl,hK ▸ zht t2.gh hm,z' _ H2 G2 (t1.trans t2) (hK ▸ zqu hl hm hv hw)⟩) z⟩) q⟩
end
end Fd
namespace Fd
open PySem L2
section
variable {X:Cx} {c:Bk} {a b e o:Expr} {A B:WE} {es:List Expr} {pos p p2 apos cpos px py ps:Pos}
theorem zsi {x z:Str} {t:Tok} (hm:X.mg x = some (.str z t)) (hg:Gl X x:=by rfl) (hd:(x == ("__debug__" : Str)) = false:=by decide):DE X c (.Name x pos) (kW (.str z)):=⟨zlu _,zay (zmD (v:=.str z) hg hm ⟨t,rfl⟩ hd) λσ H Q ⟨ρ,G,r,q⟩=>q _ H G r.refl rfl⟩
theorem zgV {x:Str} {z:Int} {t:Tok} (hm:X.mg x = some (.int z t)) (hg:Gl X x:=by rfl) (hd:(x == ("__debug__" : Str)) = false:=by decide):DE X c (.Name x pos) (kW (.int z)):=⟨zlu _,zay (zmD (v:=.int z) hg hm ⟨t,rfl⟩ hd) λσ H Q ⟨ρ,G,r,q⟩=>q _ H G r.refl rfl⟩
def zbx:FL:=λds Q=>match ds with
 | [.str x]=>x.length <= 100000/\Q (.int x.length)
 | ds=>lenF ds Q
theorem zsJ:zdP zbx:=λds Q Q' k q=>by
 unfold zbx at q ⊢;split at q
 ·exact ⟨q.1,k _ q.2⟩
 ·exact zs3 _ _ _ k q
theorem zpY:zgD c zbx (λxs H Q=>(∃ p ys,xs = [.ref p]/\(SqL c.K H p ys\/SqT c.K H p ys)/\Q (.int ys.length) H)\/∃ z,xs = [.str z]/\z.length <= sizeLine/\Q (.int z.length) H):=by
 intro H G ds vs Q gh bx h0 rv q;unfold zbx at q;split at q
 ·obtain ⟨v,rfl,rfl⟩:=zgw rv;exact .inr ⟨_,rfl,small5 q.1,q.2 _ H G (Stp.refl gh bx) rfl⟩
 ·exact .inl (zr0 H G _ vs Q gh bx h0 rv q)
theorem zcq {R:WL} (hR:DA X c [e] R) (hg:Gl X "len" := by rfl) (he:starEach [e] X.env = (false,eval e X.env) :: starEach [] X.env:=by rfl) (hK:c.K = X.K:=by rfl) (hm:X.mg "len" = none:=by decreasing_trivial):DE X c (.Call (.Name "len" p) [e] [] pos) (cbW zbx R):=
 zjK zsJ (call_len_seq.or ziC) (hK ▸ zpY) hm PySem.boot_len hR hg (by decide) (by decide) he rfl
def hasS (b a:Str):Bool:=!(Builtin.Str.occurrences b a 0 b.length 1).isEmpty
def inXD (neg:Bool):F2:=λx y Q=>match x,y with
 | .str a,.str b=>Q (.bl (if neg then !hasS b a else hasS b a))
 | x,y=>inD neg x y Q
theorem zqM (neg:Bool):zby (inXD neg):=λx y Q Q' k q=>by
 unfold inXD at q ⊢;split at q
 ·exact k _ q
 ·exact m_in neg _ _ _ _ k q
def rInX (c:Bk) (neg:Bool):R2:=λu v H Q=>rInD c neg u v H Q\/∃ i j,u = .str i/\v = .str j/\Q (.bl (if neg then !hasS j i else hasS j i)) H
theorem zmY (neg:Bool):OpD c (inXD neg) (rInX c neg):=λH G x y u v Q gh bx h0 rx ry q=>by
 unfold inXD at q;split at q
 ·cases rx;cases ry;exact .inr ⟨_,_,rfl,rfl,q _ H G (Stp.refl gh bx) rfl⟩
 ·exact .inl (ztP neg H G _ _ u v Q gh bx h0 rx ry q)
theorem zpv (hK:c.K = X.K) (hu:X.A.units + 64 < cLine):OpR X (compareOp .In) (rInX c false):=(zsN hK hu).or zm4
theorem zmb (hK:c.K = X.K) (hu:X.A.units + 64 < cLine):OpR X (compareOp .NotIn) (rInX c true):=(zlQ hK hu).or zhT
theorem ztg (hA:DE X c a A) (hB:DE X c b B) (hm:behindInMarks .In b = false:=by with_unfolding_all rfl) (hK:c.K = X.K:=by rfl) (hu:X.A.units + 64 < cLine:=by decreasing_trivial):DE X c (.Compare a [.In] [b] pos) (binW (inXD false) A B):=zqV (zqM _) (zpv hK hu) (zmY _) hA hB hm
theorem zqA (hA:DE X c a A) (hB:DE X c b B) (hm:behindInMarks .In b = false:=by with_unfolding_all rfl) (hK:c.K = X.K:=by rfl) (hu:X.A.units + 64 < cLine:=by decreasing_trivial):DT X c (.Compare a [.In] [b] pos) (blW (binW (inXD false) A B)):=zfQ (zqM _) (zpv hK hu) (zmY _) hA hB hm
theorem zfB (hA:DE X c a A) (hB:DE X c b B) (hm:behindInMarks .NotIn b = false:=by with_unfolding_all rfl) (hK:c.K = X.K:=by rfl) (hu:X.A.units + 64 < cLine:=by decreasing_trivial):DT X c (.Compare a [.NotIn] [b] pos) (blW (binW (inXD true) A B)):=zfQ (zqM _) (zmb hK hu) (zmY _) hA hB hm
def ixXD:F2:=λx y Q=>match x,y with
 | .str z,.int i=>z.length <= 100000/\(match atI z.cps.toList i with | some ch=>Q (.str ⟨#[ch]⟩) | none=>False)
 | x,y=>ixD x y Q
theorem zrU:zby ixXD:=λx y Q Q' k q=>by
 unfold ixXD at q ⊢;split at q
 ·refine ⟨q.1,?_⟩;have q:=q.2;split at q
  ·exact k _ q
  ·exact q.elim
 ·exact m_ix _ _ _ _ k q
theorem zsg:OpD c ixXD (rIx c.K):=λH G x y u v Q gh bx h0 rx ry q=>by
 unfold ixXD at q;split at q
 ·cases rx;cases ry;have q2:=q.2;split at q2
  ·rename_i ch e
   exact .inr (.inr ⟨_,_,ch,rfl,rfl,small5 q.1,e,q2 _ H G (Stp.refl gh bx) rfl⟩)
  ·exact q2.elim
 ·exact ztw H G _ _ u v Q gh bx h0 rx ry q
theorem zaV (hA:DE X c a A) (hB:DE X c b B) (hs:zjq b:=by intro _ _;rfl) (hK:c.K = X.K:=by rfl):DE X c (.Subscript a b pos) (binW ixXD A B):=
 ⟨zd5 zrU hA.mono hB.mono,zay (zf1 (hK ▸ zpx) hA.pe hB.pe hs) λσ H Q h=>zfz zrU hA.mono hB.mono zsg σ H Q h⟩
def slXD (x:D) (lo hi:Option Int) (Q:D->Prop):Prop:=match x with
 | .str z=>z.length <= 100000/\Q (.str (cutS z lo hi))
 | x=>slD x lo hi Q
theorem zmJ {x:D} {lo hi:Option Int} {Q Q':D->Prop} (k:∀ d,Q d->Q' d) (q:slXD x lo hi Q):slXD x lo hi Q':=by
 cases x with
 | str z=>exact ⟨q.1,k _ q.2⟩
 | lst n xs=>exact k _ q
 | tup xs=>exact k _ q
 | _=>exact q.elim
@[reducible] def slXW (A:WE) (L U:WO):WE:=λρ Q=>A ρ λx=>L ρ λl=>U ρ λu=>slXD x l u Q
theorem znG {lo hi:Option Expr} {L U:WO} (hA:DE X c a A) (hL:DO X c lo L) (hU:DO X c hi U) (hK:c.K = X.K:=by rfl):DE X c (.Subscript a (.Slice lo hi none p2) pos) (slXW A L U) where
 mono:=λρ Q Q' k q=>hA.mono ρ _ _ (λd z=>hL.mono ρ _ _ (λl y=>hU.mono ρ _ _ (λu x=>zmJ k x) y) z) q
 pe:=zay (zkl ((sl_list.or zpD).or zrx) hA.pe hL.po hU.po) λσ H Q ⟨ρ,G,r,q⟩=>⟨ρ,G,r,hA.mono ρ _ _ (λd z v H1 G1 t1 e1=>⟨ρ,G1,r.step t1,hL.mono ρ _ _ (λl y H2 G2 t2=>⟨ρ,G2,(r.step t1).step t2,hU.mono ρ _ _ (λu x H3 G3 t3=>by
  have t:=(t1.trans t2).trans t3;have e3:=(e1.mono t2.gg).mono t3.gg;cases d with
  | lst n xs=>
   obtain ⟨p,vs,rfl,hp,_,rv⟩:=e3;exact .inl (.inl ⟨p,vs,rfl,SqL.of (t3.gh _ _ hp),λl hl=>x (.ref l) _ _ (t.trans (Stp.new t3.gh t3.bx hl)) ⟨l,_,rfl,zae,λ_=>r.new0 (t.free hl),(rv.cut _ _).mono (zbo (zai t3.gh hl))⟩⟩)
  | tup xs=>
   obtain ⟨p,vs,rfl,hp,rv⟩:=e3;exact .inl (.inr ⟨p,vs,rfl,hK ▸ zba t3.gh hp,λe=>x (.ref p) H3 G3 t ⟨p,vs,rfl,hp,by have:=rv.cut l u;rw [e] at this;exact this⟩,λl hl=>x (.ref l) _ _ (t.trans (Stp.new t3.gh t3.bx hl)) ⟨l,_,rfl,SqT.of zae,(rv.cut _ _).mono (zbo (zai t3.gh hl))⟩⟩)
  | str zz=>cases e3;exact .inr ⟨zz,rfl,x.1,x.2 _ H3 G3 t rfl⟩
  | _=>exact x.elim) y⟩) z⟩) q⟩
theorem zrw {ce:Expr} {C:WE} (hA:DE X c a A) (hB:DE X c b B) (hC:DE X c ce C) (hm:lastMarks [.LtE,.LtE] [b,ce] = false:=by with_unfolding_all rfl):DE X c (.Compare a [.LtE,.LtE] [b,ce] pos) (zkL leD leD A B C):=
 ⟨zlt (zjt _) (zjt _) hA.mono hB.mono hC.mono,zay (zoz zsE zsE hA.pe hB.pe hC.pe hm) λσ H Q h=>zlk (zjt _) (zjt _) hA.mono hB.mono hC.mono (ziI _) (ziI _) σ H Q h⟩
def strD (d:D) (Q:Str->Prop):Prop:=match d with | .str z=>Q z | _=>False
theorem zmK {d:D} {Q Q':Str->Prop} (k:∀ z,Q z->Q' z) (q:strD d Q):strD d Q':=by
 cases d <;> first | exact k _ q | exact q
abbrev FS:=Str->D->(D->Prop)->Prop
def zo6 (f:FS):Prop:=∀ x y Q Q',(∀ d,Q d->Q' d)->f x y Q->f x y Q'
@[reducible] def smW (f:FS) (A B:WE):WE:=λρ Q=>A ρ λx=>strD x λz=>B ρ λy=>f z y Q
def SmD (c:Bk) (f:FS) (r:V->List V->Hp->VK->Prop):Prop:=∀ (H G:Hp) (z:Str) (y:D) (v:V) (Q:VK),Same G H->BoxD c.β H G->(∀ a,H a = none->c.H0 a = none)->Rep c G y v->f z y (λd=>∀ v H' G',Stp c.β H G H' G'->Rep c G' d v->Q v H')->r (.str z) [v] H Q
theorem d_sm {f:FS} {r:V->List V->Hp->VK->Prop} {name:Str} {id:String} (fm:zo6 f) (slot:Slot "str" name id) (hty:typeOf (.builtin id) = pure (.type "method_descriptor")) (hm:MtR X id r) (hr:SmD c f r) (hA:DE X c o A) (hB:DE X c e B)
  (hbase:attributeBase o name X.env (eval o X.env) = eval o X.env:=by rfl)
  (hfew:((backTo cpos (starEach [e] X.env)).all (λx=>!x.1) && (backToKw cpos (keywordEach [] X.env)).all (λx=>x.1.isSome)
   && decide ([e].length + ([]:List Keyword).length + (if ([]:List Keyword).isEmpty then 0 else 1) < 30)) = true:=by rfl)
  (hline:(apos.endLine == cpos.line) = true:=by rfl) (hs:starEach [e] X.env = (false,eval e X.env) :: starEach [] X.env:=by rfl) :
  DE X c (.Call (.Attribute o name apos) [e] [] cpos) (smW f A B) where
 mono:=λρ Q Q' k q=>hA.mono ρ _ _ (λx z=>zmK (λt y=>hB.mono ρ _ _ (λy w=>fm _ _ _ _ k w) y) z) q
 pe:=zay (zmL PySem.F.plainAttrs_str slot hty hm hA.pe (zaD hB.pe zbn hs) hbase hfew hline hs rfl) λσ H Q ⟨ρ,G,R,q⟩=>⟨ρ,G,R,hA.mono ρ _ _ (λx z v H1 G1 t1 e1=>by
  cases x with
  | str z'=>
   cases e1;exact ⟨rfl,ρ,G1,R.step t1,hB.mono ρ _ _ (λy w v H2 G2 t2 e2=>hr H2 G2 z' y v Q t2.gh t2.bx (λa z=>R.new0 (t1.free (t2.free z))) e2 (fm _ _ _ _ (λd u v' H3 G3 t3 e3=>u v' H3 G3 ((t1.trans t2).trans t3) e3) w)) z⟩
  | _=>exact z.elim) q⟩
theorem reps_strs {G:Hp}:∀ {ns:List Str} {vs:List V},Reps c G (ns.map D.str) vs ↔ vs = ns.map V.str
 | [],_=>Iff.rfl
 | n :: ns,vs=>by
  constructor
  ·rintro ⟨v,ws,h1,h2,h3⟩;rw [h1,reps_strs.mp h3]
   have:v = V.str n:=h2
   rw [this];rfl
  ·rintro rfl;exact ⟨V.str n,ns.map V.str,rfl,rfl,reps_strs.mpr rfl⟩
def joF:FS:=λz y Q=>match y with | .lst _ xs=>∃ ts:List Str,xs = ts.map D.str/\(∀ t ∈ ts,t.length <= 2000)/\ts.length <= 2000/\z.length <= 1000/\Q (.str (Str.join z ts)) | _=>False
theorem m_jo:zo6 joF:=λx y Q Q' k q=>by
 cases y with
 | lst n xs=>obtain ⟨ts,h1,h2,h3,h4,q⟩:=q;exact ⟨ts,h1,h2,h3,h4,k _ q⟩
 | _=>exact q.elim
theorem zsR:SmD c joF (zra c.K):=λH G z y v Q gh bx h0 ry q=>by
 cases y with
 | lst n xs=>
  obtain ⟨ts,rfl,h2,h3,h4,q⟩:=q;obtain ⟨a,vs,rfl,ha,_,hv⟩:=ry;rw [reps_strs.mp hv] at ha;exact ⟨z,a,ts,rfl,rfl,SqL.of (gh _ _ ha),h2,h3,h4,q _ H G (Stp.refl gh bx) rfl⟩
 | _=>exact q.elim
def zjh:FL:=λds Q=>match ds with
 | [.str x]=>x.length <= 640/\(match PySem.intText? x with | some n=>Q (.int n) | none=>False)
 | ds=>intF ds Q
theorem zsG:zdP zjh:=λds Q Q' k q=>by
 unfold zjh at q ⊢;split at q
 ·refine ⟨q.1,?_⟩;have q:=q.2;split at q
  ·exact k _ q
  ·exact q.elim
 ·exact zs6 _ _ _ k q
theorem zp4:zgD c zjh (λxs H Q=>((∃ i,xs = [.int i]/\Q (.int i) H)\/∃ k,xs = [.bl k]/\Q (.int (if k then 1 else 0)) H)\/∃ x n,xs = [.str x]/\x.length <= 640/\PySem.intText? x = some n/\Q (.int n) H):=by
 intro H G ds vs Q gh bx h0 rv q;unfold zjh at q;split at q
 ·obtain ⟨v,rfl,rfl⟩:=zgw rv;have q2:=q.2;split at q2
  ·rename_i n e
   exact .inr ⟨_,n,rfl,q.1,e,q2 _ H G (Stp.refl gh bx) rfl⟩
  ·exact q2.elim
 ·exact .inl (zrL H G _ vs Q gh bx h0 rv q)
theorem zpd {R:WL} (hR:DA X c [e] R) (hg:Gl X "int" := by rfl) (he:starEach [e] X.env = (false,eval e X.env) :: starEach [] X.env:=by rfl) (hm:X.mg "int" = none:=by decreasing_trivial):DE X c (.Call (.Name "int" p) [e] [] pos) (cbW zjh R):=
 zkV zsG (call_int1.or zi2) zp4 hm PyProof.Rows.boot_int hR hg (by decide) (by decide) he rfl
theorem zq7 (hA:DE X c o A) (hB:DE X c e B) (hbase:attributeBase o "join" X.env (eval o X.env) = eval o X.env:=by rfl)
  (hfew:((backTo cpos (starEach [e] X.env)).all (λx=>!x.1) && (backToKw cpos (keywordEach [] X.env)).all (λx=>x.1.isSome)
   && decide ([e].length + ([]:List Keyword).length + (if ([]:List Keyword).isEmpty then 0 else 1) < 30)) = true:=by rfl)
  (hline:(apos.endLine == cpos.line) = true:=by rfl) (hs:starEach [e] X.env = (false,eval e X.env) :: starEach [] X.env:=by rfl) (hK:c.K = X.K:=by rfl) :
  DE X c (.Call (.Attribute o "join" apos) [e] [] cpos) (smW joF A B):=d_sm m_jo PySem.F.slot_str_join PySem.F.type_str_join (hK ▸ zpE) zsR hA hB hbase hfew hline hs
def chs (z:Str):List D:=z.cps.toList.map λch=>D.str ⟨#[ch]⟩
def zn7 (d:D) (Q:List D->Prop):Prop:=match d with | .str z=>Q (chs z) | d=>seqD d Q
theorem zlv {d:D} {Q Q':List D->Prop} (k:∀ xs,Q xs->Q' xs) (q:zn7 d Q):zn7 d Q':=by
 cases d <;> first | exact k _ q | exact q.elim
@[reducible] def za4 (A:WE):WL:=λρ Q=>A ρ λd=>zn7 d Q
theorem it_str {G:Hp} (z:Str):ItOk c (Its z) (chs z) G:=by
 intro i H2 G2 s1 s2 bx h0;refine ⟨λe=>?_,λd e=>?_⟩
 ·show z.length <= i;subst e;unfold chs Str.length
  simp
 ·unfold chs at e;rw [YAt] at e;cases e1:z.cps.toList[i]? with
  | none=>rw [e1] at e;cases e
  | some ch=>
   rw [e1] at e;cases e;have lt:i < z.cps.size:=by simpa using (YAd.mp e1).1
   refine ⟨lt,λv H3 y=>?_⟩;obtain ⟨rfl,c',h1,rfl⟩:=y;rw [<- YBz,e1] at h1;cases h1;exact ⟨G2,Stp.refl s2 bx,rfl⟩
def iX (K:PySem.W.Frag) (tl:TE):TI:=λσ H R=>tl σ H λx H1=>(∃ z,x = .str z/\R (Its z) H1)\/∃ a,x = .ref a/\(((∃ xs,SqL K H1 a xs)/\R (Itl K a) H1)\/((∃ xs,SqT K H1 a xs)/\R (Itt K a) H1))
theorem pi_X {tg l:Expr} {tl:TE} (hl:PE X l tl):PI X tg l (iX X.K tl):=by
 intro pins s σ H R I h;refine thn (hl pins s σ H _ I h) λv s1 ⟨x,H1,I1,r1,q1⟩=>?_;have fp:∀ b ∈ [s1.heap.objs.size],FpOk X pins H1 b:=λb hb=>by
  have e:b = s1.heap.objs.size:=by simpa using hb
  subst e;exact I1.fpOk (YAm _) (I1.hok.fresh (YAm _))
 rcases q1 with ⟨z,rfl,q⟩ | ⟨a,rfl,⟨⟨xs,hq⟩,q⟩ | ⟨⟨xs,hq⟩,q⟩⟩
 ·obtain ⟨t,rfl⟩:=r1;have fin:∀ ty,(ty = "str_ascii_iterator" \/ ty = "str_iterator")->PIE X pins σ tg R (.ref s1.heap.objs.size) { s1 with heap:=s1.heap.push { cls:=.type ty,data:=.fields #[.str z t,.int 0 0] } }:=λty hty=>
   ⟨s1.heap.objs.size,[s1.heap.objs.size],_,_,H1,rfl,I1.kept (t':=s1.toks) λb o e=>YAb _ e,zog z t ty hty _,⟨_,YAn _ rfl,rfl,rfl⟩,fp,q⟩
  cases ha:z.cps.all (· < 128)
  ·exact wpAny_pyIter_wide ha (fin _ (.inr rfl))
  ·exact wpAny_pyIter_ascii ha (fin _ (.inl rfl))
 ·cases r1;obtain ⟨its,rv,p,hz⟩:=I1.list hq;exact YBW p.isList ⟨s1.heap.objs.size,[s1.heap.objs.size],_,_,H1,rfl,I1.kept (t':=s1.toks) λb o e=>YAb _ e,znd a _,⟨_,YAn _ rfl,rfl,rfl⟩,fp,q⟩
 ·cases r1;obtain ⟨its,rv,p,hz⟩:=I1.tuple hq;exact wpAny_pyIter_tuple (show s1.heap.IsTuple a its.toArray from p) ⟨s1.heap.objs.size,[s1.heap.objs.size],_,_,H1,rfl,I1.kept (t':=s1.toks) λb o e=>YAb _ e,zk4 a _,⟨_,YAn _ rfl,rfl,rfl⟩,fp,q⟩
theorem zbv {tg:Expr} (hA:DE X c e A) (hK:c.K = X.K:=by rfl):DI X c tg e (za4 A) where
 mono:=λρ Q Q' k q=>hA.mono ρ _ _ (λd z=>zlv k z) q
 pi:=zkR (pi_X hA.pe) λσ H R ⟨ρ,G,r,q⟩=>⟨ρ,G,r,hA.mono ρ _ _ (λd z v H' G' t e=>by
  cases d with
  | str x=>cases e;exact .inl ⟨x,rfl,z _ H' G' t (it_str x)⟩
  | lst n xs=>
   obtain ⟨l,vs,rfl,hl,_,hv⟩:=e;exact .inr ⟨l,rfl,.inl ⟨⟨vs,SqL.of (t.gh _ _ hl)⟩,z _ H' G' t (hK ▸ zqU hl hv)⟩⟩
  | tup xs=>
   obtain ⟨l,vs,rfl,hl,hv⟩:=e;exact .inr ⟨l,rfl,.inr ⟨⟨vs,hK ▸ zba t.gh hl⟩,z _ H' G' t (hK ▸ zrr hl hv)⟩⟩
  | _=>exact z.elim) q⟩
structure GDict (P:Program) (w:PySem.World) (K:PySem.W.Frag) (mg:Str->Option Value) (x:Str) (kvs:List (Str × D)):Prop where
 ex:∃ (a:Addr) (vvs:List (Key × V)),mg x = some (.ref a)/\(∀ h:Heap,K.In h->(a == sysModules) = false/\∃ vs,KV vvs vs/\h.DictOf (zaS P w) a vs) /\
  ∀ z:Str,(valV vvs (.inr z) = none/\kvs.lookup z = none)\/∃ v d,valV vvs (.inr z) = some v/\kvs.lookup z = some d/\∀ (c:Bk) (G:Hp),c.K = K->Rep c G d v
def lkD (kvs:List (Str × D)) (d:D) (Q:Option D->Prop):Prop:=match d with | .str z=>Q (kvs.lookup z) | _=>False
theorem zol {kvs:List (Str × D)} {d:D} {Q Q':Option D->Prop} (k:∀ z,Q z->Q' z) (q:lkD kvs d Q):lkD kvs d Q':=by
 cases d <;> first | exact k _ q | exact q
theorem zpb {kvs:List (Str × D)} {zz:Str} {o:Option D} {Q:Option D->Prop} (q:lkD kvs (.str zz) Q) (e:kvs.lookup zz = o):Q o:=e ▸ q
def opD (o:Option D) (Q:D->Prop):Prop:=match o with | some d=>Q d | none=>False
theorem znV {o:Option D} {Q Q':D->Prop} (k:∀ z,Q z->Q' z) (q:opD o Q):opD o Q':=by
 cases o <;> first | exact k _ q | exact q
@[reducible] def ixGW (kvs:List (Str × D)) (A:WE):WE:=λρ Q=>A ρ λd=>lkD kvs d λo=>opD o Q
section
variable {x:Str} {ax:Addr} {vvs:List (Key × V)} {ty:TE}
def tIxG (vvs:List (Key × V)) (ty:TE):TE:=λσ H Q=>ty σ H λy H1=>∃ z v,y = .str z/\valV vvs (.inr z) = some v/\Q v H1
theorem zrY (hm:X.mg x = some (.ref ax)) (hk:∀ h:Heap,X.K.In h->(ax == sysModules) = false/\∃ vs,KV vvs vs/\h.DictOf (zaS X.prog X.w) ax vs) (hg:Gl X x) (hdb:(x == ("__debug__" : Str)) = false) (hi:PE X b ty) (hs:NoSl b):PE X (.Subscript (.Name x p) b pos) (tIxG vvs ty):=by
 intro pins s σ H Q I h;refine zmr PySem.F.slot_dict_getitem.lookup hs (zes I hg hm (thn (hi pins s σ H _ I h) λiv s2 ⟨y,H2,I2,ry,z,v,ey,l,q2⟩=>?_) hdb);subst ey;obtain ⟨hd,vs,rel,dd⟩:=hk s2.heap I2.kIn;obtain ⟨w',hw,rw'⟩:=RelO.some_of (v:=v) (o:=valueAt vs (.inr z)) (by rw [<- l];exact rel.val (.inr z));exact ⟨dd.typeIs,wpAny_getItem_of (zmF (k:=.inr z) ry) dd.mapOf hw ⟨v,H2,I2.tok _,rw',q2⟩⟩
end
theorem ztK {x:Str} {kvs:List (Str × D)} (g:GDict X.prog X.w X.K X.mg x kvs) (hB:DE X c b B) (hK:c.K = X.K:=by rfl) (hg:Gl X x:=by rfl) (hdb:(x == ("__debug__" : Str)) = false:=by decide) (hs:NoSl b:=by intro _ _;rfl):DE X c (.Subscript (.Name x p) b pos) (ixGW kvs B) where
 mono:=λρ Q Q' k q=>hB.mono ρ _ _ (λd z=>zol (λo y=>znV k y) z) q
 pe:=by
  obtain ⟨ax,vvs,hm,hk,hv⟩:=g.ex;exact zay (zrY hm hk hg hdb hB.pe hs) λσ H Q ⟨ρ,G,r,q⟩=>⟨ρ,G,r,hB.mono ρ _ _ (λd z v H' G' t e=>by
   cases d with
   | str zz=>
    cases e;rcases hv zz with ⟨e1,e2⟩ | ⟨v,d,e1,e2,e3⟩
    ·have z:=zpb z e2;exact z.elim
    ·have z:=zpb z e2;exact ⟨zz,v,rfl,e1,z v H' G' t (e3 c G' hK)⟩
   | _=>exact z.elim) q⟩
end
def zb6:Fn:=fnW 3 ((retW (andW (zkL leD leD (kW (.int 1)) (cbW zbx (zab (vW 0) nilA)) (vW 2)) (cbW allF (zab (valW (zaC [none,some 1] (za4 (vW 0)) (.nm 0) noIf (binW (inXD false) (vW 0) (vW 1)))) nilA)))))
def zce:Fn:=fnW 1 ((retW (zam 3 zb6 (zab (vW 0) (zab (kW (.str "abcdefghijklmnopqrstuvwxyz")) (zab (kW (.int 8)) nilA))))))
def zaQ:Nat->Fn
 | 0=>λ_ _=>False
 | n + 1=>fnW 2 ((seqW (ifS (orT (truW (isiW "list" (vW 1))) (truW (isiW "tuple" (vW 1)))) (seqW (ifS (orT (blW (binW neD (isiW "list" (vW 0)) (isiW "list" (vW 1)))) (blW (binW neD (isiW "tuple" (vW 0)) (isiW "tuple" (vW 1))))) (retW (kW (.bl false))) nilS)
  (retW (andW (binW eqD (cbW zbx (zab (vW 0) nilA)) (cbW zbx (zab (vW 1) nilA))) (cbW allF (zab (valW (zaC [none,none] (zr8 (vW 0) (vW 1)) (.tp 2 (.cons (.nm 0) (.cons (.nm 1) .nil))) noIf (zam 2 (zaQ n) (zab (vW 0) (zab (vW 1) nilA))))) nilA))))) nilS)
  (seqW (ifS (orT (blW (isNW (vW 0))) (blW (isNW (vW 1)))) (retW (andW (isNW (vW 0)) (isNW (vW 1)))) nilS)
  (seqW (ifS (orT (blW (binW neD (isiW "bool" (vW 0)) (isiW "bool" (vW 1)))) (blW (binW neD (isiW "int" (vW 0)) (isiW "int" (vW 1))))) (retW (kW (.bl false))) nilS)
  (retW (andW (binW eqD (isiW "str" (vW 0)) (isiW "str" (vW 1))) (binW eqD (vW 0) (vW 1))))))))
def zcc:Fn:=fnW 10 ((seqW (asgW (.nm 2) (kW (.str "abcdefghijklmnopqrstuvwxyz")))
  (seqW (asgW (.nm 3) (binW addD (kW (.int 1)) (zam 2 zad (zab (vW 0) (zab (kW (.int 8)) nilA)))))
  (seqW (asgW (.nm 4) (zam 2 zad (zab (vW 0) (zab (vW 3) nilA))))
  (seqW (asgW (.nm 5) (binW eqD (zam 2 zad (zab (vW 0) (zab (kW (.int 2)) nilA))) (kW (.int 0))))
  (seqW (asgW (.nm 6) (valW (zaC [none,some 0] (ziw (vW 3)) (.nm 0) noIf (zam 2 zad (zab (vW 1) (zab (kW (.int 26)) nilA))))))
  (seqW (ownW 7 (lstW nilA))
  (seqW (forW (ziw (vW 1)) (.nm 8) (seqW (ownW 9 (zk8 (vW 6)))
  (seqW (ifS (notT (truW (vW 5))) (ownW 9 (zaC [none,some 0] (ziw (binW addD (binW addD (vW 4) (kW (.int 1))) (zam 2 zad (zab (vW 0) (zab (binW subD (vW 3) (vW 4)) nilA))))) (.nm 0) noIf (zam 2 zad (zab (vW 1) (zab (kW (.int 26)) nilA))))) nilS)
  (seqW (putW 9 (vW 4) (binW modD (binW addD (binW ixXD (vW 6) (vW 4)) (binW mulD (kW (.int 11)) (vW 8))) (kW (.int 26))))
  (frzW 9 (appW 7 (smW joF (kW (.str "")) (valW (zaC [none,some 2] (za4 (vW 9)) (.nm 0) noIf (binW ixXD (vW 1) (vW 0)))))))))))
  (frzW 7 (retW (vW 7)))))))))))
def dEn (P:Params) (p:Str × Tok × Value):DictEntry:=⟨PyData.keyHash P p.1,.str p.1 p.2.1,p.2.2⟩
theorem zj5 {P:Program} {w:PySem.World}:∀ ps:List (Str × Tok × Value),Pairs (zaS P w) (ps.map (dEn w.params)) (ps.map λp=>((Sum.inr p.1:Key),p.2.2))
 | []=>.nil
 | p :: ps=>.cons (zf8 p.1 p.2.1) rfl (zj5 ps)
theorem zqw {P:Program} {w:PySem.World} {K:PySem.W.Frag} {a:Addr} {n:Nat} {ps:List (Str × Tok × Value)} (hl:K.lookup a = some ⟨.type "dict",none,.dict (ps.map (dEn w.params)).toArray n,#[]⟩) (hn:(ps.map λp=>(Sum.inr p.1:Key)).Nodup) (h:Heap) (hk:K.In h) :
  h.DictOf (zaS P w) a (ps.map λp=>((Sum.inr p.1:Key),p.2.2)):=by
 refine ⟨_,_,_,hk a _ hl,⟨rfl,rfl,rfl⟩,rfl,λe he=>?_,by simpa using zj5 ps,by rw [YAH];exact hn⟩;have he:e ∈ ps.map (dEn w.params):=by simpa using he
 obtain ⟨p,hp,rfl⟩:=YAS.mp he;exact ⟨.inr p.1,zf8 p.1 p.2.1,rfl⟩
structure GRow (K:PySem.W.Frag) (p:Str × Tok × Value) (q:Str × D):Prop where
 key:p.1 = q.1
 val:∃ v:V,RelV v p.2.2/\∀ (c:Bk) (G:Hp),c.K = K->Rep c G q.2 v
inductive GRows (K:PySem.W.Frag):List (Str × Tok × Value)->List (Str × D)->Prop
 | nil:GRows K [] []
 | cons {p:Str × Tok × Value} {q:Str × D} {ps:List (Str × Tok × Value)} {qs:List (Str × D)} (h:GRow K p q) (r:GRows K ps qs):GRows K (p :: ps) (q :: qs)
theorem zkd {K:PySem.W.Frag}:∀ {ps:List (Str × Tok × Value)} {kvs:List (Str × D)},GRows K ps kvs->∃ vvs:List (Key × V),KV vvs (ps.map λp=>((Sum.inr p.1:Key),p.2.2)) /\
  ∀ z:Str,(valV vvs (.inr z) = none/\kvs.lookup z = none)\/∃ v d,valV vvs (.inr z) = some v/\kvs.lookup z = some d/\∀ (c:Bk) (G:Hp),c.K = K->Rep c G d v
 | _,_,.nil=>⟨[],.nil,λz=>.inl ⟨rfl,rfl⟩⟩
 | _,_,@GRows.cons _ p q ps kvs h r=>by
  obtain ⟨vvs,h1,h2⟩:=zkd r;obtain ⟨v,rv,hv⟩:=h.val;refine ⟨(Sum.inr p.1,v) :: vvs,.cons ⟨rfl,rv⟩ h1,λz=>?_⟩;by_cases e:z = p.1
  ·subst e;refine .inr ⟨v,q.2,zey rfl,?_,hv⟩;rw [show q = (q.1,q.2) from rfl,<- h.key,List.lookup_cons_self]
  ·have n1:¬ (Sum.inr p.1:Key) = Sum.inr z:=λk=>e (Sum.inr.inj k).symm;have n2:kvs.lookup z = (q :: kvs).lookup z:=by
    rw [show q = (q.1,q.2) from rfl,<- h.key,YAI,show (z == p.1) = false from by simp [e]]
   rw [zeu n1,<- n2];exact h2 z
theorem ztC {P:Program} {w:PySem.World} {K:PySem.W.Frag} {mg:Str->Option Value} {h:Heap} (X:K.In h) (G:h.Ns mainGlobals mg) {x:Str} {a:Addr} {n:Nat} {ps:List (Str × Tok × Value)} {kvs:List (Str × D)} (hn:PySem.W.nsIn K mainGlobals x = some (some (.ref a)))
  (hl:K.lookup a = some ⟨.type "dict",none,.dict (ps.map (dEn w.params)).toArray n,#[]⟩) (hr:GRows K ps kvs) (ha:(a == sysModules) = false) (hd:(ps.map λp=>(Sum.inr p.1:Key)).Nodup):GDict P w K mg x kvs:=by
 obtain ⟨vvs,h1,h2⟩:=zkd hr;exact ⟨a,vvs,YAx X G hn,λh hk=>⟨ha,_,h1,zqw hl hd h hk⟩,h2⟩
end Fd
namespace L2
open PySem PySem.Spec PyProof.Rows PySem.W
theorem ObjOk.ex {P:Program} {w:World} {H:Hp} {h:Heap} {a:Addr} {o:HO} (x:ObjOk P w H h a o):∃ u,h.get? a = some u:=by
 cases o with
 | lst xs=>obtain ⟨_,_,_,_,e⟩:=x;exact ⟨_,e⟩
 | tup xs=>obtain ⟨_,_,_,_,e,_⟩:=x;exact ⟨_,e⟩
 | dK kvs=>obtain ⟨_,_,_,_,o,_,_,e,_⟩:=x;exact ⟨_,e⟩
 | dT kvs=>obtain ⟨_,_,_,_,o,_,_,e,_⟩:=x;exact ⟨_,e⟩
 | set S n=>obtain ⟨o,_,_,_,e,_⟩:=x;exact ⟨_,e⟩
 | ins C dx fs=>obtain ⟨_,_,_,e,_⟩:=x;exact ⟨_,e⟩
 | own y=>obtain ⟨_,e⟩:=x;exact ⟨_,e⟩
 | xd fs=>obtain ⟨_,⟨_,_,_,e,_⟩,_⟩:=x;exact ⟨_,e⟩
 | rng lo hi=>obtain ⟨_,_,_,e⟩:=x;exact ⟨_,e⟩
 | frz ob u=>obtain ⟨e,_⟩:=x;exact ⟨_,e⟩
 | tbl ps=>exact ⟨_,show h.get? a = some _ from x⟩
 | met f y=>exact ⟨_,show h.get? a = some _ from x⟩
 | ext φ=>obtain ⟨_,⟨_,e⟩,_⟩:=x;exact ⟨_,e⟩
structure ExN (P:Program) (w:World) (outer:List Env) (H:Hp) (s:Shared) (ea C:Addr) (H':Hp) (s':Shared):Prop where
 os:s'.os = s.os
 bare:AllBare s'.gens
 un:Un (frs outer) [] H H' s.heap s'.heap
 hok:HOk P w H' s'.heap
 fly:∃ B a0,Heap.FlyingW B outer ea (.ref C) a0 s'.heap/\∀ b o,s'.heap.get? b = some o->((∃ u,H' b = some u)\/∃ u,s.heap.get? b = some u)->b ∉ frs outer->B.get? b = some o
def CXN (P:Program) (w:World):CXT:=λouter H s E e s'=>∃ ea C H',e = .ref ea/\ExN P w outer H s ea C H' s'/\E (.ref C) none H'
section
variable {P:Program} {w:World} {K:PySem.W.Frag} {mg:Str->Option Value} {base:Heap} {N:List Str} {qual:Str} {scope:Scope} {f:Addr} {cd:Value} {A:Around} {outer:List Env} {s0 s:Shared} {H0 H:Hp} {E:XK} {pins:List (Addr × Obj)} {σ:St} {e C:Addr} {args:List Value} {h':Heap}
theorem zcH (I:Inv (cxOf (CXN P w) P w K mg base N qual scope f cd A outer s0 H0 E) pins σ H s) (hx:Heap.MadeExcOf s.heap h' e (.ref C) args) (hE:E (.ref C) none H):(cxOf (CXN P w) P w K mg base N qual scope f cd A outer s0 H0 E).xe (.ref e) { s with heap:=h' }:=by
 have fr:=I.stack;have nex:∀ {b:Addr},b ∉ ([]:List Addr):=λz=>nomatch z;have neL:∀ {b o},s0.heap.get? b = some o->b ≠ s0.heap.objs.size:=λe=>YAr (YAj e);have hin:∀ env ∈ (cxOf (CXN P w) P w K mg base N qual scope f cd A outer s0 H0 E).stack,∀ b,env.frame = some b->b ∈ frs (cxOf (CXN P w) P w K mg base N qual scope f cd A outer s0 H0 E).stack:=λenv he b hb=>YCi.mpr ⟨env,he,hb⟩;refine wpAny_leaves_madeW (h:=s.heap) (base:=hideAll s.heap (frs (cxOf (CXN P w) P w K mg base N qual scope f cd A outer s0 H0 E).stack)) I.ok.frames rfl (λb o q=>of_hideAll _ q) (funFrames_hide fr hin) hx λh2 t x1 x2 x3 x4=>?_;have sub:∀ {b},b ∉ frs outer->b ≠ s0.heap.objs.size->b ∉ frs (cxOf (CXN P w) P w K mg base N qual scope f cd A outer s0 H0 E).stack:=λh1 h2 h3=>(YAu.mp (I.stkSub _ h3)).elim h2 h1;have keepB:∀ {b o},s.heap.get? b = some o->b ∉ frs (cxOf (CXN P w) P w K mg base N qual scope f cd A outer s0 H0 E).stack->h2.get? b = some o:=λq n=>x1.1 _ _ (hideAll_get _ q n);have trk:∀ {b u},H b = some u->b ∉ frs (cxOf (CXN P w) P w K mg base N qual scope f cd A outer s0 H0 E).stack:=λq z=>by rw [I.stkFree _ z] at q;cases q
 have slt:∀ {b o},s.heap.get? b = some o->b ∈ frs outer->∃ sl,h2.get? b = some { o with slots:=sl }:=λ{b o} q z=>by
  obtain ⟨_,o',ho,hd⟩:=I.funs.mem z;rw [q] at ho;cases ho;exact x4 b o (hx.keeps b o q) hd
 refine ⟨e,C,H,rfl,⟨I.os,I.bare,⟨λb o q n nf _=>keepB (I.base.keep b o q n nf nex) (sub nf (neL q)),λb o q n nf _=>?_,λb o q n _=>I.base.free b o q n nex,λb o q _=>?_,I.base.tups,I.base.frzs,I.base.tbls⟩,λa o q=>(I.hok a o q).stay (λb u hb q2=>keepB q2 ?_) (λ_ z=>z) λ_ _ z=>z,_,_,x1,λb o q hb nf=>?_⟩,hE⟩
 ·obtain ⟨sl,e1⟩:=I.base.slot b o q n nf nex;obtain ⟨sl',e2⟩:=slt e1 nf;exact ⟨sl',e2⟩
 ·obtain ⟨o',e1⟩:=I.base.there b o q nex;by_cases z:b ∈ frs outer
  ·obtain ⟨sl',e2⟩:=slt e1 z;exact ⟨_,e2⟩
  ·exact ⟨_,keepB e1 (sub z (neL q))⟩
 ·rcases hb with rfl | hb
  ·exact trk q
  ·exact trk hb
 ·rcases hb with ⟨u,hu⟩ | ⟨u,hu⟩
  ·obtain ⟨v,hv⟩:=(I.hok b u hu).ex
   have:=keepB hv (trk hu)
   rw [this] at q;cases q;exact hideAll_get _ hv (trk hu)
  ·obtain ⟨o',e1⟩:=I.base.there b u hu nex
   have:=keepB e1 (sub nf (neL hu))
   rw [this] at q;cases q;exact hideAll_get _ e1 (sub nf (neL hu))
end
abbrev Cx.sup (X:Cx) (ea:Addr) (oe:Obj) (E:Value->Shared->Prop):Cx:={ X with A:=X.A.mark (some (.ref ea)),calm:=false,xe:=E,pn:=(ea,oe) :: X.pn }
section
variable {X:Cx} {pins:List (Addr × Obj)} {σ:St} {H H':Hp} {s s':Shared} {ea C:Addr} {oe:Obj} {E:Value->Shared->Prop}
theorem Cx.Ok.sup (ok:X.Ok):(X.sup ea oe E).Ok:=
 ⟨ok.mod,ok.kind,ok.glob,ok.blt,ok.above,ok.inj,ok.has,ok.cab,(λz=>by cases z),ok.frames,ok.stk,ok.exf,ok.bs,ok.bsz,ok.noex,ok.exfs,ok.funs,ok.frf⟩
theorem Inv.sup (I:Inv X pins σ H s) (h1:s.heap.get? ea = some oe) (h2:H ea = none) (h3:ea ≠ X.env.locals) (h4:ea ∉ X.fs) (h5:∀ v,oe.data ≠ .cell v):Inv (X.sup ea oe E) pins σ H s:=
 ⟨I.ok.sup,I.os,I.bare,I.base,I.loc,I.cell,I.free,I.freeC,λp hp=>by
  rcases YAu.mp hp with rfl | hp
  ·exact ⟨h1,h2,h3,h4,h5⟩
  ·exact I.pin p hp,I.hok,I.len⟩
theorem Inv.unsup (I:Inv (X.sup ea oe E) pins σ H s) (ok:X.Ok):Inv X pins σ H s:=⟨ok,I.os,I.bare,I.base,I.loc,I.cell,I.free,I.freeC,λp hp=>I.pin p (YAf _ hp),I.hok,I.len⟩
theorem ExN.on {h':Heap} {B:Heap} {outer:List Env} {P:Program} {w:World} (N:ExN P w outer H s ea C H' s') (hB:∀ b o,s'.heap.get? b = some o->((∃ u,H' b = some u)\/∃ u,s.heap.get? b = some u)->b ∉ frs outer->B.get? b = some o) (ff:s'.heap.FunFrames B outer) (hf:∀ b ∈ frs outer,H b = none) (st:B.StaysIn h') (sm:s'.heap.UpToSlots h') (fr:∀ b ∈ frs outer,∃ o,s.heap.get? b = some o) :
  Un (frs outer) [] H H' s.heap h'/\HOk P w H' h':=by
 have nex:∀ {b:Addr},b ∉ ([]:List Addr):=λz=>nomatch z;have slt:∀ {b o},s'.heap.get? b = some o->b ∈ frs outer->∃ sl,h'.get? b = some { o with slots:=sl }:=λ{b o} q z=>by
  obtain ⟨_,o',ho,hd⟩:=ff.mem z;rw [q] at ho;cases ho;exact sm b o q hd
 have trk:∀ {b u},H' b = some u->b ∉ frs outer:=λ{b u} q z=>by
  obtain ⟨o,ho⟩:=fr b z;rw [N.un.free b o ho (hf b z) nex] at q;cases q
 refine ⟨⟨λb o q n nf _=>st _ _ (hB b o (N.un.keep b o q n nf nex) (.inr ⟨_,q⟩) nf),λb o q n nf _=>?_,λb o q n _=>N.un.free b o q n nex,λb o q _=>?_,N.un.tups,N.un.frzs,N.un.tbls⟩,λa o q=>(N.hok a o q).stay (λb u hb q2=>?_) (λ_ z=>z) λ_ _ z=>z⟩
 ·obtain ⟨sl,e1⟩:=N.un.slot b o q n nf nex;obtain ⟨sl',e2⟩:=slt e1 nf;exact ⟨sl',e2⟩
 ·obtain ⟨o',e1⟩:=N.un.there b o q nex;by_cases z:b ∈ frs outer
  ·obtain ⟨sl',e2⟩:=slt e1 z;exact ⟨_,e2⟩
  ·exact ⟨_,st _ _ (hB b o' e1 (.inr ⟨_,q⟩) z)⟩
 ·have hu:∃ v,H' b = some v:=by
   rcases hb with rfl | hb
   ·exact ⟨_,q⟩
   ·exact ⟨_,hb⟩
  obtain ⟨v,hv⟩:=hu;exact st _ _ (hB b u q2 (.inl ⟨v,hv⟩) (trk hv))
end
abbrev ze3:List Value:=[.type "ValueError",.type "Exception",.type "BaseException",.type "object"]
theorem zsb {K:PySem.W.Frag} {h:Heap} {C:Addr} {bmB:List Value} {newId:String} (X:K.In h) (q:excIn K C bmB newId = true):∃ bm N nm q bs hdct sn sub ab col dd k0 k1 k2 k3 k5 mN,h.get? C = some (excClassObj nm q C N bs bm hdct sn sub ab col dd k0 k1 k2 k3 k5 newId)/\h.Ns N mN/\mN "__init__" = none/\OwnTail h bmB bm:=by
 unfold excIn at q;split at q
 ·rename_i dd cd sl ho
  split at q
  ·rename_i C' bm k0 k1 k2 k3 n k5 hm hs
   simp only [YAA,YCa,Bool.not_eq_true'] at q;obtain ⟨⟨⟨⟨⟨rfl,rfl⟩,hdel⟩,ht⟩,hok⟩,hni⟩:=q;obtain ⟨nm,bs,mro,ns,qn,hd,sn,sub,ab,col,del⟩:=cd;dsimp only at hm hdel hok hni;subst hm hdel;have hsl:sl = #[k0,k1,k2,k3,some (.builtin n),k5]:=by
    obtain ⟨l⟩:=sl;simp only at hs;rw [hs]
   subst hsl;exact ⟨bm,ns,nm,qn,bs,hd,sn,sub,ab,col,dd,k0,k1,k2,k3,k5,_,X _ _ ho,.of_isNs (isNs_of_in X hok),nsMap_none_of_in X hok hni,tail_of_in X ht⟩
  ·cases q
 ·cases q
section
variable {X:Cx} {pins:List (Addr × Obj)} {σ:St} {H:Hp} {s:Shared}
theorem zkq {x:Str} {C:Addr} {e:Expr} {es:List Expr} {t:TA} {np cpos pos:Pos} {Y:Ends->St->Hp->Prop} (hc:X.calm = true) (ho:excIn X.K C ze3 "ValueError.__new__" = true) (hg:Gl X x) (hm:X.mg x = some (.ref C)) (ha:PA X (e :: es) t)
  (hx:∀ pins s σ H h' ea us,Inv X pins σ H s->Heap.MadeExcOf s.heap h' ea (.ref C) us->∀ D,Y D σ H->X.xe (.ref ea) { s with heap:=h' })
  (hd:(x == ("__debug__" : Str)) = false:=by decide) (he:starEach (e :: es) X.env = (false,eval e X.env) :: starEach es X.env:=by rfl) (hpl:(backTo cpos (starEach es X.env)).any (·.1) = false:=by rfl) :
  PS X (.Raise (some (.Call (.Name x np) (e :: es) [] cpos)) none pos) (λD σ H=>t σ H λvs H'=>vs.length <= sizeLine/\Y D σ H'):=by
 intro pins s σ H D I h;have hh:=I.ok.hd hc;obtain ⟨bm,N,nm,q,bs,hdct,sn,sub,ab,col,dd,k0,k1,k2,k3,k5,mN,hC,hN,hni,T⟩:=zsb I.ok.mod.kin ho;refine wpAny_Raise_call_subT (C:=C) (nm:=nm) (q:=q) (N:=N) (bs:=bs) (bm:=bm) (hdct:=hdct) (sn:=sn) (sub:=sub) (ab:=ab) (col:=col) (dd:=dd) (k0:=k0) (k1:=k1) (k2:=k2) (k3:=k3) (k5:=k5) (mN:=mN) F.excBase_ValueError (T.hasType F.excBase_ValueError.hasBase) hh (by rw [he];show (false || (backTo cpos (starEach es X.env)).any (·.1)) = false;rw [hpl];rfl) hni (zes I hg hm ⟨rfl,?_⟩ hd);have ha':=ha cpos pins s σ H _ I h;rw [he] at ha' ⊢;refine Calls.evalArgs_plain (YAT ha' (λus s2 ⟨vs,H2,I2,r2,z,q2⟩=>?_) λ_ _ y=>y);exact ⟨rfl,by rw [<- r2.length];exact z,I2.bk _ _ hC,hN.keeps I2.bk,T.keeps I2.bk,λh' e hm'=>hx pins s2 σ H2 h' e us I2 hm' D q2⟩
theorem PA.nox {es:List Expr} {t:TA} (h:PA X.nox es t):PA X es t:=λpos pins s σ H Q I hw=>
 YAT (h pos pins s σ H Q (I.wish _) hw) (λ_ _ ⟨v,H',I',r,q⟩=>⟨v,H',I'.unwish,r,q⟩) λ_ _ z=>False.elim z
theorem PS.nox {st:Stmt} {t:TS} (h:PS X.nox st t):PS X st t:=λpins s σ H D I hw=>
 YAT (h pins s σ H D (I.wish _) hw) (λ_ _ q=>q.unwish) λ_ _ z=>False.elim z
end
end L2
namespace Fd
open PySem L2
abbrev FnX:=List D->(D->Prop)->(Str->Prop)->Prop
def upX (F:FnX):FnX:=λds Q Y=>∃ (P:D->Prop) (Z:Str->Prop),F ds P Z/\(∀ d,P d->Q d)/\∀ n,Z n->Y n
theorem zd6 (F:FnX) {ds:List D} {Q Q':D->Prop} {Y Y':Str->Prop} (k:∀ d,Q d->Q' d) (l:∀ n,Y n->Y' n):upX F ds Q Y->upX F ds Q' Y':=λ⟨P,Z,h1,h2,h3⟩=>⟨P,Z,h1,λd z=>k d (h2 d z),λn z=>l n (h3 n z)⟩
def spDX (K:PySem.W.Frag) (mg:Str->Option Value) (n:Nat) (F:FnX):Sp:=λvs H Q E=>∃ β G ds,Same G H/\BoxD β H G/\Reps ⟨K,β,λ_=>none,G,True⟩ G ds vs/\vs.length = n/\upX F ds (λd=>∀ v H' G',Stp β H G H' G'->Rep ⟨K,β,H,G,True⟩ G' d v->Q v H') λnm=>∀ C H' G',mg nm = some (.ref C)->Stp β H G H' G'->E (.ref C) none H'
def fnWX (n:Nat) (B:(Str->Prop)->WS):FnX:=λds Q Y=>B Y { nx:=λ_=>Q .non,rt:=Q,bk:=λ_=>False,ct:=λ_=>False } (zaz n ds)
theorem zdt {P:Program} {w:World} {K:PySem.W.Frag} {mg:Str->Option Value} {base:Heap} {x qual:Str} {st:Stmt} {f:Addr} {fd:FuncData} {N ps:List Str} {k:Nat} {B:(Str->Prop)->WS} (F:Fun K x qual st f fd)
  (hB:∀ {cdv:Value} {A:Around} {outer:List PySem.Env} {s:Shared} {H:Hp} {E:XK} {β:Addr} {G:Hp} (Y:Str->Prop),(∀ nm C H' G',Y nm->mg nm = some (.ref C)->Stp β H G H' G'->E (.ref C) none H')->N.Nodup->Room k (A.deeper (PyProof.Rows.envOfC qual (zak st) s.heap.objs.size f cdv)) ->
   DSs (cxOf (CXN P w) P w K mg base N qual (zak st) f cdv A outer s H E) ⟨K,β,H,G,True⟩ (zbd st) (B Y)) (S:FnScope N ps (zak st):=by exact ⟨rfl,rfl,rfl,by decide +kernel,rfl,by decide +kernel,by decide +kernel⟩):FnOk P w K mg base (CXN P w) (k + 1) f fd ps (spDX K mg ps.length (fnWX N.length B)):=by
 obtain ⟨oc,od,kV,doc,pm,an,cdv,ct,osl,rfl,lk,hcd⟩:=F.ex;refine zn5 lk hcd S (λvs H Q E ⟨β,G,ds,_,_,_,h,_⟩=>h) λA outer s H vs Q E hr ⟨β,G,ds,gh,bx,hv,hl,P',Z,q,hP,hZ⟩=>?_;have h:=@hB cdv A outer s H E β G Z (λnm C H' G' z hm t=>hZ nm z C H' G' hm t) S.nd hr;refine ⟨_,h.pss,zaz N.length ds,G,zc9 gh bx hv,h.mono { nx:=λ_=>P' .non,rt:=P',bk:=λ_=>False,ct:=λ_=>False } _ _ ⟨λρ z σ H' G' r s'=>hP _ z .non H' G' r.stp rfl,λd z v H' G' t e=>hP _ z v H' G' t e,λρ z=>z.elim,λρ z=>z.elim⟩ q⟩
structure CalX (P:Program) (w:World) (K:PySem.W.Frag) (mg:Str->Option Value) (base:Heap) (x:Str) (k:Nat) (ps:List Str) (sp:Sp):Prop where
 ex:∃ f fd,FnOk P w K mg base (CXN P w) k f fd ps sp/\mg x = some (.ref f)/\PySem.W.keepIn K (.ref f) = true/\Binds K fd ps []
theorem CalX.of {P:Program} {w:World} {K:PySem.W.Frag} {mg:Str->Option Value} {base:Heap} {x qual:Str} {k:Nat} {ps:List Str} {sp:Sp} {st:Stmt} {f:Addr} {fd:FuncData} (F:Fun K x qual st f fd) (G:FnOk P w K mg base (CXN P w) k f fd ps sp) (hm:mg x = some (.ref f)) (hb:Binds K fd ps []):CalX P w K mg base x k ps sp:=
 ⟨f,fd,G,hm,F.kp,hb⟩
section
variable {X:Cx} {c:Bk} {st:Stmt} {e:Expr} {es:List Expr} {pos cpos p np:Pos}
theorem DS.nox {W:WS} (h:DS X.nox c st W):DS X c st W:=⟨h.mono,h.ps.nox⟩
theorem DE.nox {W:WE} (h:DE X.nox c e W):DE X c e W:=⟨h.mono,h.pe.nox⟩
theorem DT.nox {W:WT} (h:DT X.nox c e W):DT X c e W:=⟨h.mono,h.pt.nox⟩
@[reducible] def rzW (R:WL) (y:Prop):WS:=λ_ ρ=>R ρ λds=>ds.length <= 1000/\y
theorem zbQ {x:Str} {C:Addr} {R:WL} {y:Prop} (hR:DA X.nox c (e :: es) R) (hx:∀ pins s σ H G h' ea us,Inv X pins σ H s->Stp c.β c.H0 c.G0 H G->Heap.MadeExcOf s.heap h' ea (.ref C) us->y->X.xe (.ref ea) { s with heap:=h' }) (ho:PySem.W.excIn X.K C ze3 "ValueError.__new__" = true) (hm:X.mg x = some (.ref C)) (hc:X.calm = true:=by rfl) (hg:Gl X x:=by rfl)
  (hd:(x == ("__debug__" : Str)) = false:=by decide) (he:starEach (e :: es) X.env = (false,eval e X.env) :: starEach es X.env:=by rfl) (hpl:(backTo cpos (starEach es X.env)).any (·.1) = false:=by rfl):DS X c (.Raise (some (.Call (.Name x np) (e :: es) [] cpos)) none pos) (rzW R y) where
 mono:=λE E' ρ l q=>q
 ps:=zbe (zkq (Y:=λ_ σ H=>y/\∃ G,Stp c.β c.H0 c.G0 H G) hc ho hg hm (PA.nox hR.pa) (λpins s σ H h' ea us I m _ ⟨z,G,t⟩=>hx pins s σ H G h' ea us I t m z) hd he hpl) λD σ H ⟨ρ,G,r,q⟩=>⟨ρ,G,r,hR.mono ρ _ _ (λds z vs H' G' t v=>⟨by rw [<- v.length,YAQ];have:=z.1;omega,z.2,G',r.stp.trans t⟩) q⟩
theorem Rel.unput {ρ:Env} {σ:St} {H G:Hp} {i:Nat} {o:Option V} (r:Rel c ρ σ H G):Rel c (ρ.set i .un) (σ.set i o) H G:=by
 refine ⟨by simp [r.len],r.stp,λj s e=>?_,λj k a xs ys e1 e2 e3 e4=>?_,r.kn⟩
 ·by_cases z:i = j
  ·subst z;have hi:i < ρ.length:=by have:=(YAd.mp e).1;simpa using this
   rw [YAh hi] at e;cases e
   trivial
  ·rw [YAi z] at e ⊢;exact r.slot j s e
 ·have nn:∀ {j:Nat} {xs},(ρ.set i .un)[j]? = some (.own xs)->i ≠ j:=λe z=>by
   subst z;have hi:i < ρ.length:=by have:=(YAd.mp e).1;simpa using this
   rw [YAh hi] at e;cases e
  have nj:=nn e1;have nk:=nn e2;rw [YAi nj] at e1 e3;rw [YAi nk] at e2 e4;exact r.dis j k a xs ys e1 e2 e3 e4
end
end Fd
namespace Fd
open PySem L2
structure Ob where
 C:Addr
 fs:List (Str × List D)
abbrev Sto:=Addr->Option Ob
def upS (S:Sto) (p:Addr) (o:Ob):Sto:=λa=>if a = p then some o else S a
theorem zaR {S:Sto} {p:Addr} {o:Ob}:upS S p o p = some o:=by unfold upS;rw [if_pos rfl]
theorem zc0 {S:Sto} {p q:Addr} {o:Ob} (h:q ≠ p):upS S p o q = S q:=by unfold upS;rw [if_neg h]
abbrev nub (K:PySem.W.Frag) (β:Addr) (G:Hp):Bk:=⟨K,β,λ_=>none,G,True⟩
def kvF (fs:List (Str × List D)) (as:List Addr):List (Str × V):=(fs.zip as).map λp=>(p.1.1,V.ref p.2)
structure Kn (K:PySem.W.Frag) (β:Addr) (G:Hp) (S:Sto) (M:Hp) (ad:Addr->List Addr):Prop where
 obj:∀ p o,S p = some o->∃ dx,M p = some (.ins o.C dx (kvF o.fs (ad p)))/\(ad p).length = o.fs.length
 lst:∀ p o (i:Nat) a x,S p = some o->(ad p)[i]? = some a->o.fs[i]? = some x->∃ vs,M a = some (.lst vs)/\Reps (nub K β G) G x.2 vs
 dis:∀ p q (i j:Nat) a,S p ≠ none->S q ≠ none->(ad p)[i]? = some a->(ad q)[j]? = some a->p = q/\i = j
 kin:∀ a o,M a = some o->¬ zeE o
 ap:∀ a,M a ≠ none->G a = none/\a ≠ β
theorem Kn.mono {K:PySem.W.Frag} {β:Addr} {G G':Hp} {S:Sto} {M:Hp} {ad:Addr->List Addr} (k:Kn K β G S M ad) (s:Same G G') (h:∀ a,M a ≠ none->G' a = none):Kn K β G' S M ad:=
 ⟨k.obj,λp o i a x h1 h2 h3=>(k.lst p o i a x h1 h2 h3).imp λvs z=>⟨z.1,Reps.back (c':=nub K β G) (c:=nub K β G') rfl rfl (λ_ e=>e) (z.2.mono s)⟩,k.dis,k.kin,λa z=>⟨h a z,(k.ap a z).2⟩⟩
def ov (B M:Hp):Hp:=λa=>match M a with | some o=>some o | none=>B a
theorem zfa {B M:Hp} {a:Addr} {o:HO} (h:M a = some o):ov B M a = some o:=by unfold ov;rw [h]
theorem zcP {B M:Hp} {a:Addr} (h:M a = none):ov B M a = B a:=by unfold ov;rw [h]
theorem ov_none {B M:Hp} {a:Addr}:ov B M a = none ↔ M a = none/\B a = none:=by
 unfold ov;cases M a with
 | none=>simp
 | some o=>simp
def Dm (M M':Hp):Prop:=∀ a,M a ≠ none->M' a ≠ none
theorem Dm.refl (M:Hp):Dm M M:=λ_ h=>h
theorem Dm.trans {A B C:Hp} (h:Dm A B) (k:Dm B C):Dm A C:=λa z=>k a (h a z)
structure Bo where
 K:PySem.W.Frag
 β:Addr
 H0:Hp
 G0:Hp
 M0:Hp
def reB (b:Bo) (S:Sto) (M G:Hp):Bk:=⟨b.K,b.β,ov b.H0 M,G,∃ ad,Kn b.K b.β G S M ad⟩
mutual
theorem Rep.reb {c c':Bk} {G:Hp} (hk:c'.K = c.K) (hb:c'.β = c.β) (hn:∀ a,G a ≠ none->c'.H0 a = none->c.H0 a = none):∀ {d:D} {v:V},Rep c' G d v->Rep c G d v
 | .non,_,h=>h
 | .bl _,_,h=>h
 | .int _,_,h=>h
 | .str _,_,h=>h
 | .box,_,h=>by show _ = V.ref c.β;rw [<- hb];exact h
 | .obj _,_,h=>h
 | .dct n ks xs,_,⟨a,vs,h1,h2,h4,h5,h3⟩=>⟨a,vs,h1,h2,λz=>hn a (by rw [h2];simp) (h4 z),h5,Reps.reb hk hb hn h3⟩
 | .fdc ks xs,_,⟨a,vs,o,h1,h2,h5,h3⟩=>⟨a,vs,o,h1,h2,h5,Reps.reb hk hb hn h3⟩
 | .tup xs,_,⟨a,vs,h1,h2,h3⟩=>⟨a,vs,h1,hk ▸ h2,Reps.reb hk hb hn h3⟩
 | .lst n xs,_,⟨a,vs,h1,h2,h4,h3⟩=>⟨a,vs,h1,h2,λz=>hn a (by rw [h2];simp) (h4 z),Reps.reb hk hb hn h3⟩
theorem Reps.reb {c c':Bk} {G:Hp} (hk:c'.K = c.K) (hb:c'.β = c.β) (hn:∀ a,G a ≠ none->c'.H0 a = none->c.H0 a = none):∀ {ds:List D} {vs:List V},Reps c' G ds vs->Reps c G ds vs
 | [],_,h=>h
 | _ :: _,_,⟨v,ws,h1,h2,h3⟩=>⟨v,ws,h1,Rep.reb hk hb hn h2,Reps.reb hk hb hn h3⟩
end
structure Eff (β:Addr) (M M' H G H' G':Hp):Prop where
 gg:Same G G'
 gh:Same G' H'
 fr:∀ a o,a ≠ β->M a = none->H a = some o->H' a = some o
 mh:∀ a o,M' a = some o->H' a = some o
 mn:∀ a,M' a ≠ none->M a ≠ none\/H a = none
 mg:∀ a,M' a ≠ none->G' a = none/\a ≠ β
 nw:∀ a,G' a ≠ none->G a ≠ none\/H a = none\/∃ o,H a = some o/\zeE o
 bx:BoxD β H' G'
 bc:∀ cc p r d,H β = some (boxO cc p r d)->∃ p r d,H' β = some (boxO cc p r d)
 dm:Dm M M'
structure Out (b:Bo) (M G1:Hp):Prop where
 mb:∀ a,M a ≠ none->b.H0 a = none/\b.G0 a = none/\a ≠ b.β
 gg:Same b.G0 G1
 nw:∀ a,G1 a ≠ none->b.G0 a ≠ none\/b.H0 a = none\/∃ o,b.H0 a = some o/\zeE o
 g0:Same b.G0 b.H0
 dm:Dm b.M0 M
theorem Rel.eff {b:Bo} {S S':Sto} {M M' H G H' G' G1:Hp} {ρ:Env} {σ:St} (r:Rel (reB b S M G1) ρ σ H G) (hM:∀ a,M a ≠ none->b.H0 a = none/\a ≠ b.β) (e:Eff b.β M M' H G H' G') (kn:∃ ad,Kn b.K b.β G' S' M' ad):Rel (reB b S' M' G') ρ σ H' G':=by
 have base:∀ a o,b.H0 a = some o->M a = none:=λa o h=>by
  cases z:M a with
  | none=>rfl
  | some u=>have:=(hM a (by rw [z];simp)).1;rw [h] at this;cases this
 have mβ:M' b.β = none:=by
  cases z:M' b.β with
  | none=>rfl
  | some u=>exact absurd rfl (e.mg _ (by rw [z];simp)).2
 have m0:M b.β = none:=by
  cases z:M b.β with
  | none=>rfl
  | some u=>exact absurd rfl (hM _ (by rw [z];simp)).2
 refine ⟨r.len,⟨Same.refl _,e.gh,λa o n h=>?_,λa z=>.inl z,e.bx,?_,?_⟩,λi s h=>?_,r.dis,kn⟩
 ·cases z:M' a with
  | some u=>rw [show (reB b S' M' G').H0 a = some u from zfa z] at h;cases h;exact e.mh a _ z
  | none=>
   rw [show (reB b S' M' G').H0 a = b.H0 a from zcP z] at h;have z':=base a o h;exact e.fr a o n z' (r.stp.fr a o n ((zcP z').trans h))
 ·intro z;exact r.stp.b0 ((zcP m0).trans ((zcP mβ).symm.trans z))
 ·intro cc p q d h;obtain ⟨p1,q1,d1,h1⟩:=r.stp.bc cc p q d ((zcP m0).trans ((zcP mβ).symm.trans h));exact e.bc cc p1 q1 d1 h1
 ·have q:=r.slot i s h;cases s with
  | un=>trivial
  | val d=>
   obtain ⟨v,h1,h2⟩:=q;refine ⟨v,h1,(Rep.reb (c:=reB b S' M' G') (c':=reB b S M G1) rfl rfl (λa ga z=>?_) h2).mono e.gg⟩;obtain ⟨z1,z2⟩:=ov_none.mp z;refine ov_none.mpr ⟨?_,z2⟩;cases y:M' a with
   | none=>rfl
   | some u=>
    have:=(e.mg a (by rw [y];simp)).1
    cases w:G a with
    | none=>exact absurd w ga
    | some o=>rw [e.gg a o w] at this;cases this
  | own xs=>
   obtain ⟨a,vs,h1,h2,h3,h4,h5,h6⟩:=q;obtain ⟨z1,z2⟩:=ov_none.mp h4;have m':M' a = none:=by
    cases y:M' a with
    | none=>rfl
    | some u=>
     rcases e.mn a (by rw [y];simp) with w | w
     ·exact absurd z1 w
     ·rw [h2] at w;cases w
   have h4':(reB b S' M' G').H0 a = none:=ov_none.mpr ⟨m',z2⟩;refine ⟨a,vs,h1,e.fr a _ h5 z1 h2,?_,h4',h5,(Reps.reb (c:=reB b S' M' G') (c':=reB b S M G1) rfl rfl (λa ga z=>?_) h6).mono e.gg⟩
   ·cases y:G' a with
    | none=>rfl
    | some o=>
     rcases e.nw a (by rw [y];simp) with w | w | ⟨u,w,st⟩
     ·exact absurd h3 w
     ·rw [h2] at w;cases w
     ·rw [h2] at w;cases w;exact st.elim
   ·obtain ⟨z1,z2⟩:=ov_none.mp z;refine ov_none.mpr ⟨?_,z2⟩;cases y:M' a with
    | none=>rfl
    | some u=>
     have:=(e.mg a (by rw [y];simp)).1
     cases w:G a with
     | none=>exact absurd w ga
     | some o=>rw [e.gg a o w] at this;cases this
  | dic ks xs=>
   obtain ⟨a,vs,h1,h2,h3,h4,h5,h6,h7⟩:=q;obtain ⟨z1,z2⟩:=ov_none.mp h4;have m':M' a = none:=by
    cases y:M' a with
    | none=>rfl
    | some u=>
     rcases e.mn a (by rw [y];simp) with w | w
     ·exact absurd z1 w
     ·rw [h2] at w;cases w
   have h4':(reB b S' M' G').H0 a = none:=ov_none.mpr ⟨m',z2⟩;refine ⟨a,vs,h1,e.fr a _ h5 z1 h2,?_,h4',h5,(Reps.reb (c:=reB b S' M' G') (c':=reB b S M G1) rfl rfl (λa ga z=>?_) h6).mono e.gg,h7⟩
   ·cases y:G' a with
    | none=>rfl
    | some o=>
     rcases e.nw a (by rw [y];simp) with w | w | ⟨u,w,st⟩
     ·exact absurd h3 w
     ·rw [h2] at w;cases w
     ·rw [h2] at w;cases w;exact st.elim
   ·obtain ⟨z1,z2⟩:=ov_none.mp z;refine ov_none.mpr ⟨?_,z2⟩;cases y:M' a with
    | none=>rfl
    | some u=>
     have:=(e.mg a (by rw [y];simp)).1
     cases w:G a with
     | none=>exact absurd w ga
     | some o=>rw [e.gg a o w] at this;cases this
theorem Out.eff {b:Bo} {S:Sto} {M M' H G H' G' G1:Hp} {ρ:Env} {σ:St} (o:Out b M G1) (r:Rel (reB b S M G1) ρ σ H G) (e:Eff b.β M M' H G H' G'):Out b M' G':=by
 have fresh:∀ a,H a = none->b.H0 a = none:=λa h=>(ov_none.mp (r.stp.free h)).2;have keep:∀ a u,a ≠ b.β->b.H0 a = some u->H a = some u:=λa u n h=>r.stp.fr a u n ((zcP (by
  cases z:M a with
  | none=>rfl
  | some w=>have:=(o.mb a (by rw [z];simp)).1;rw [h] at this;cases this)).trans h)
 have nwG:∀ a,G a ≠ none->b.G0 a ≠ none\/b.H0 a = none\/∃ u,b.H0 a = some u/\zeE u:=λa z=>by
  rcases r.stp.nw a z with w | w | ⟨u,w,st⟩
  ·exact o.nw a w
  ·exact .inr (.inl (ov_none.mp w).2)
  ·cases y:M a with
   | none=>exact .inr (.inr ⟨u,(zcP y).symm.trans w,st⟩)
   | some x=>exact .inr (.inl (o.mb a (by rw [y];simp)).1)
 refine ⟨λa z=>?_,o.gg.trans (r.stp.gg.trans e.gg),λa z=>?_,o.g0,o.dm.trans e.dm⟩
 ·have h0:b.H0 a = none:=by
   rcases e.mn a z with w | w
   ·exact (o.mb a w).1
   ·exact fresh a w
  exact ⟨h0,o.g0.free h0,(e.mg a z).2⟩
 ·rcases e.nw a z with w | w | ⟨u,w,st⟩
  ·exact nwG a w
  ·exact .inr (.inl (fresh a w))
  ·cases y:b.H0 a with
   | none=>exact .inr (.inl rfl)
   | some x=>
    by_cases n:a = b.β
    ·subst n;obtain ⟨cc,p,q,d,ns,hb,_⟩:=r.bx.ex;rw [show (reB b S M G1).β = b.β from rfl] at hb;rw [hb] at w;cases w;exact st.elim
    ·have:=keep a x n y
     rw [w] at this;cases this;exact .inr (.inr ⟨u,rfl,st⟩)
theorem Out.stp {b:Bo} {M G1 H G:Hp} (o:Out b M G1) (kin:∀ a u,M a = some u->¬ zeE u) (t:Stp b.β (ov b.H0 M) G1 H G):Stp b.β b.H0 b.G0 H G:=by
 have out:∀ a u,b.H0 a = some u->M a = none:=λa u h=>by
  cases z:M a with
  | none=>rfl
  | some w=>have:=(o.mb a (by rw [z];simp)).1;rw [h] at this;cases this
 have m0:M b.β = none:=by
  cases z:M b.β with
  | none=>rfl
  | some u=>exact absurd rfl (o.mb _ (by rw [z];simp)).2.2
 refine ⟨o.gg.trans t.gg,t.gh,λa u n h=>t.fr a u n ((zcP (out a u h)).trans h),λa z=>?_,t.bx,λz=>t.b0 ((zcP m0).trans z),λcc p q d h=>t.bc cc p q d ((zcP m0).trans h)⟩;rcases t.nw a z with w | w | ⟨u,w,st⟩
 ·exact o.nw a w
 ·exact .inr (.inl (ov_none.mp w).2)
 ·cases y:M a with
  | none=>exact .inr (.inr ⟨u,(zcP y).symm.trans w,st⟩)
  | some x=>exact .inr (.inl (o.mb a (by rw [y];simp)).1)
theorem Out.apart {b:Bo} {M G1 H G:Hp} (kin:∀ a u,M a = some u->¬ zeE u) (h1:∀ a,M a ≠ none->G1 a = none) (t:Stp b.β (ov b.H0 M) G1 H G) (a:Addr) (h:M a ≠ none):G a = none:=by
 cases z:G a with
 | none=>rfl
 | some u=>
  cases y:M a with
  | none=>exact absurd y h
  | some x=>
   rcases t.nw a (by rw [z];simp) with w | w | ⟨v,w,st⟩
   ·exact absurd (h1 a h) w
   ·rw [show ov b.H0 M a = some x from zfa y] at w;cases w
   ·rw [show ov b.H0 M a = some x from zfa y] at w;cases w;exact absurd st (kin a _ y)
structure EnF where
 nx:Sto->Env->Prop
 rt:Sto->D->Prop
 bk:Sto->Env->Prop
 ct:Sto->Env->Prop
abbrev WF:=EnF->Sto->Env->Prop
structure EnF.Le (E E':EnF):Prop where
 nx:∀ S ρ,E.nx S ρ->E'.nx S ρ
 rt:∀ S d,E.rt S d->E'.rt S d
 bk:∀ S ρ,E.bk S ρ->E'.bk S ρ
 ct:∀ S ρ,E.ct S ρ->E'.ct S ρ
def zmW (W:WF):Prop:=∀ E E' S ρ,EnF.Le E E'->W E S ρ->W E' S ρ
def RelF (b:Bo) (S:Sto) (M:Hp) (ρ:Env) (σ:St) (H G:Hp):Prop:=∃ G1,Out b M G1/\Rel (reB b S M G1) ρ σ H G
def ze1 (b:Bo) (G M:Hp) (Ds:Ends):EnF where
 nx:=λS ρ=>∀ σ H' G' M',RelF b S M' ρ σ H' G'->Same G G'->Dm M M'->Ds.nx σ H'
 rt:=λS d=>∀ v H' G' M' G1,(∃ ad,Kn b.K b.β G1 S M' ad)->Out b M' G1->Stp b.β (ov b.H0 M') G1 H' G'->Dm M M'->Rep (reB b S M' G1) G' d v->Ds.rt v H'
 bk:=λS ρ=>∀ σ H' G' M',RelF b S M' ρ σ H' G'->Same G G'->Dm M M'->Ds.bk σ H'
 ct:=λS ρ=>∀ σ H' G' M',RelF b S M' ρ σ H' G'->Same G G'->Dm M M'->Ds.ct σ H'
theorem zcm {b:Bo} {G G1 M M1:Hp} {Ds:Ends} (s:Same G G1) (m:Dm M M1):EnF.Le (ze1 b G M Ds) (ze1 b G1 M1 Ds):=
 ⟨λS ρ h σ H' G' M' r s' m'=>h σ H' G' M' r (s.trans s') (m.trans m'),λS d h v H' G' M' G2 k o t m' e=>h v H' G' M' G2 k o t (m.trans m') e,λS ρ h σ H' G' M' r s' m'=>h σ H' G' M' r (s.trans s') (m.trans m'),λS ρ h σ H' G' M' r s' m'=>h σ H' G' M' r (s.trans s') (m.trans m')⟩
def tOS (b:Bo) (W:WF):TS:=λDs σ H=>∃ ρ G S M,RelF b S M ρ σ H G/\W (ze1 b G M Ds) S ρ
structure OS (X:Cx) (b:Bo) (st:Stmt) (W:WF):Prop where
 mono:zmW W
 ps:PS X st (tOS b W)
structure OSs (X:Cx) (b:Bo) (sts:List Stmt) (W:WF):Prop where
 mono:zmW W
 pss:PSs X sts (tOS b W)
section
variable {X:Cx} {b:Bo} {st:Stmt} {rest:List Stmt} {pos p p':Pos} {e:Expr}
@[reducible] def atS (E:EnF) (S:Sto):En:=⟨E.nx S,E.rt S,E.bk S,E.ct S⟩
@[reducible] def zbS (W:Sto->WS):WF:=λE S ρ=>W S (atS E S) ρ
theorem zqx {G M G1:Hp} {S:Sto} {D:Ends} (k:∃ ad,Kn b.K b.β G1 S M ad) (o:Out b M G1):En.Le (atS (ze1 b G M D) S) (ends (reB b S M G1) G D):=
 ⟨λρ z σ H' G' r s=>z σ H' G' M ⟨G1,o,r⟩ s (Dm.refl M),λd z v H' G' t e=>z v H' G' M G1 k o t (Dm.refl M) e,λρ z σ H' G' r s=>z σ H' G' M ⟨G1,o,r⟩ s (Dm.refl M),λρ z σ H' G' r s=>z σ H' G' M ⟨G1,o,r⟩ s (Dm.refl M)⟩
theorem zaM {W:Sto->WS} (h:∀ S M G1,DS X (reB b S M G1) st (W S)):OS X b st (zbS W) where
 mono:=λE E' S ρ l q=>(h S (λ_=>none) (λ_=>none)).mono (atS E S) (atS E' S) ρ ⟨l.nx S,l.rt S,l.bk S,l.ct S⟩ q
 ps:=λpins s σ H D I ⟨ρ,G,S,M,⟨G1,o,r⟩,q⟩=>(h S M G1).ps pins s σ H D I ⟨ρ,G,r,(h S M G1).mono _ _ ρ (zqx r.kn o) q⟩
@[reducible] def nilF:WF:=λE S ρ=>E.nx S ρ
@[reducible] def seqF (A B:WF):WF:=λE S ρ=>A { E with nx:=B E } S ρ
theorem zfk:OSs X b [] nilF:=⟨λE E' S ρ l q=>l.nx S ρ q,zdi zfI λD σ H ⟨ρ,G,S,M,r,q⟩=>q σ H G M r (Same.refl _) (Dm.refl M)⟩
theorem zaF {A B:WF} (h1:OS X b st A) (h2:OSs X b rest B):OSs X b (st :: rest) (seqF A B) where
 mono:=λE E' S ρ l q=>h1.mono { E with nx:=B E } _ S ρ ⟨λS' ρ' z=>h2.mono _ _ S' ρ' l z,l.rt,l.bk,l.ct⟩ q
 pss:=zdi (zaL h1.ps h2.pss) λD σ H ⟨ρ,G,S,M,r,q⟩=>⟨ρ,G,S,M,r,h1.mono { ze1 b G M D with nx:=B (ze1 b G M D) } _ S ρ ⟨λS' ρ' z σ' H' G' M' r' s' m'=>⟨ρ',G',S',M',r',h2.mono _ _ S' ρ' (zcm s' m') z⟩,λS' d z=>z,λS' ρ' z=>z,λS' ρ' z=>z⟩ q⟩
theorem zbb {A:WF} (h1:OS X b st A):OSs X b [st] A:=⟨h1.mono,zdC h1.ps⟩
@[reducible] def ifF (C:Sto->WT) (A B:WF):WF:=λE S ρ=>C S ρ λt=>if t = true then A E S ρ else B E S ρ
theorem zj3 {C:Sto->WT} {A B:WF} {x y:List Stmt} (hC:∀ S M G1,DT X (reB b S M G1) e (C S)) (hA:OSs X b x A) (hB:OSs X b y B):OS X b (.If e x y pos) (ifF C A B) where
 mono:=λE E' S ρ l q=>(hC S (λ_=>none) (λ_=>none)).mono ρ _ _ (λt z=>by
  cases t
  ·exact hB.mono _ _ S ρ l z
  ·exact hA.mono _ _ S ρ l z) q
 ps:=λpins s σ H D I ⟨ρ,G,S,M,⟨G1,o,r⟩,q⟩=>zjO (hC S M G1).pt hA.pss hB.pss pins s σ H D I ⟨ρ,G,r,(hC S M G1).mono ρ _ _ (λt z H' G' t1=>by
  cases t
  ·exact ⟨ρ,G',S,M,⟨G1,o,r.step t1⟩,hB.mono _ _ S ρ (zcm t1.gg (Dm.refl M)) z⟩
  ·exact ⟨ρ,G',S,M,⟨G1,o,r.step t1⟩,hA.mono _ _ S ρ (zcm t1.gg (Dm.refl M)) z⟩) q⟩
end
def zea (t:Tg) (B:WF) (E:EnF):List D->Sto->Env->Prop
 | [],S,ρ=>E.nx S ρ
 | x :: xs,S,ρ=>gD t x ρ λρ'=>B { nx:=zea t B E xs,ct:=zea t B E xs,bk:=E.nx,rt:=E.rt } S ρ'
@[reducible] def forF (I:Sto->WL) (t:Tg) (B:WF):WF:=λE S ρ=>I S ρ λxs=>zea t B E xs S ρ
theorem ze0 {t:Tg} {B:WF} (mB:zmW B) {E E':EnF} (l:EnF.Le E E'):∀ (xs:List D) (S:Sto) (ρ:Env),zea t B E xs S ρ->zea t B E' xs S ρ
 | [],S,ρ,q=>l.nx S ρ q
 | x :: xs,S,ρ,q=>zbT t x ρ (λρ' z=>mB { nx:=zea t B E xs,ct:=zea t B E xs,bk:=E.nx,rt:=E.rt } _ S ρ' ⟨λS ρ z=>ze0 mB l xs S ρ z,l.rt,l.nx,λS ρ z=>ze0 mB l xs S ρ z⟩ z) q
theorem Rep.carry {b:Bo} {S S':Sto} {M M' Ga Gb G G':Hp} {d:D} {v:V} (e:Rep (reB b S M Ga) G d v) (s:Same G G') (h:∀ a,M' a ≠ none->G' a = none):Rep (reB b S' M' Gb) G' d v:=
 (Rep.reb (c:=reB b S' M' Gb) (c':=reB b S M Ga) rfl rfl (λa ga z=>by
  obtain ⟨z1,z2⟩:=ov_none.mp z;refine ov_none.mpr ⟨?_,z2⟩;cases y:M' a with
  | none=>rfl
  | some u=>
   have:=h a (by rw [y];simp)
   cases w:G a with
   | none=>exact absurd w ga
   | some o=>rw [s a o w] at this;cases this) e).mono s
theorem Rel.apart {b:Bo} {S:Sto} {M G1 H G:Hp} {ρ:Env} {σ:St} (r:Rel (reB b S M G1) ρ σ H G) (a:Addr) (h:M a ≠ none):G a = none:=by
 obtain ⟨ad,k⟩:=r.kn;exact Out.apart (b:=b) k.kin (λa z=>(k.ap a z).1) r.stp a h
section
variable {X:Cx} {b:Bo} {tg iter e:Expr} {body:List Stmt} {pos p:Pos}
theorem zkD {I:Sto->WL} (t:Tg) {B:WF} (hI:∀ S M G1,DI X (reB b S M G1) tg iter (I S)) (hg:PG X tg (gOf b.K t)) (hB:OSs X b body B) (hp:PassesOwn (model X.prog X.w) X.A X.env X.xe:=by exact PassesOwn.never) (hc:X.calm = true:=by rfl) (hs:∀ x,foldedSetIterable iter X.env x = pure x:=by intro _;rfl) :
  OS X b (.For tg iter body [] pos) (forF I t B) where
 mono:=λE E' S ρ l q=>(hI S (λ_=>none) (λ_=>none)).mono ρ _ _ (λxs z=>ze0 hB.mono l xs S ρ z) q
 ps:=λpins s σ H D Iv ⟨ρ,G,S,M,⟨Gb,o,r⟩,q⟩=>zpl hp hc (hI S M Gb).pi hg hB.pss hs pins s σ H D Iv ⟨ρ,G,r,(hI S M Gb).mono ρ _ _ (λxs z J H1 G1 t1 it=>by
  refine ⟨λi m σ H=>m = xs.length - i/\i <= xs.length/\∃ ρ' G' S' M',RelF b S' M' ρ' σ H G'/\Same G1 G'/\Dm M M'/\zea t B (ze1 b G M D) (xs.drop i) S' ρ',⟨xs.length,rfl,YBv _,ρ,G1,S,M,⟨Gb,o,r.step t1⟩,Same.refl _,Dm.refl M,z⟩,?_⟩;rintro i m σ' H' ⟨rfl,hi,ρ',G',S',M',⟨Gc,o',r'⟩,s',m',q'⟩;have free:∀ a,H' a = none->(reB b S M Gb).H0 a = none:=λa z=>by
   obtain ⟨z1,z2⟩:=ov_none.mp (show ov b.H0 M' a = none from r'.new0 z);refine ov_none.mpr ⟨?_,z2⟩;cases y:M a with
   | none=>rfl
   | some u=>exact absurd z1 (m' a (by rw [y];simp))
  have ok:=it i H' G' s' r'.gh r'.bx free;by_cases hlt:i < xs.length
  ·refine .inr ?_;have ed:xs.drop i = xs[i] :: xs.drop (i + 1):=YBs hlt;rw [ed] at q';obtain ⟨go,yl⟩:=ok.2 xs[i] (YAk hlt);refine ⟨go,λσ H=>∃ ρ' G' S' M',RelF b S' M' ρ' σ H G'/\Same G1 G'/\Dm M M'/\zea t B (ze1 b G M D) (xs.drop (i + 1)) S' ρ',λσ2 H2 h=>⟨xs.length - (i + 1),by omega,rfl,by omega,h⟩,λx H3 y=>?_⟩;obtain ⟨G3,t3,e3⟩:=yl x H3 y;have r3:=r'.step t3;have e4:Rep (reB b S' M' Gc) G3 xs[i] x:=e3.carry (Same.refl _) r3.apart;refine zfj (c:=reB b S' M' Gc) t xs[i] x ρ' σ' r3 e4 (zbT t xs[i] ρ' (λρ2 z2 σ2 r2=>?_) q');refine ⟨ρ2,G3,S',M',⟨Gc,o',r2⟩,hB.mono { nx:=zea t B (ze1 b G M D) (xs.drop (i + 1)),ct:=zea t B (ze1 b G M D) (xs.drop (i + 1)),bk:=(ze1 b G M D).nx,rt:=(ze1 b G M D).rt } _ S' ρ2 ⟨λS3 ρ3 z3 σ3 H4 G4 M4 r4 s4 m4=>⟨ρ3,G4,S3,M4,r4,(s'.trans t3.gg).trans s4,m'.trans m4,z3⟩,λS3 d z v H4 G4 M4 G5 k5 o5 t5 m5 e5=>z v H4 G4 M4 G5 k5 o5 t5 (m'.trans m5) e5,λS3 ρ3 z3 σ3 H4 G4 M4 r4 s4 m4=>z3 σ3 H4 G4 M4 r4 (((t1.gg.trans s').trans t3.gg).trans s4) (m'.trans m4),λS3 ρ3 z3 σ3 H4 G4 M4 r4 s4 m4=>⟨ρ3,G4,S3,M4,r4,(s'.trans t3.gg).trans s4,m'.trans m4,z3⟩⟩ z2⟩
  ·have e:i = xs.length:=by omega
   subst e;rw [YCw] at q';exact .inl ⟨ok.1 rfl,q' σ' H' G' M' ⟨Gc,o',r'⟩ (t1.gg.trans s') m'⟩) q⟩
end
abbrev FnF:=List D->Sto->(D->Sto->Prop)->(Str->Sto->Prop)->Prop
def upF (F:FnF):FnF:=λds S Q Y=>∃ (P:D->Sto->Prop) (Z:Str->Sto->Prop),F ds S P Z/\(∀ d S',P d S'->Q d S')/\∀ n S',Z n S'->Y n S'
theorem zdj (F:FnF) {ds:List D} {S:Sto} {Q Q':D->Sto->Prop} {Y Y':Str->Sto->Prop} (k:∀ d S,Q d S->Q' d S) (l:∀ n S,Y n S->Y' n S):upF F ds S Q Y->upF F ds S Q' Y':=λ⟨P,Z,h1,h2,h3⟩=>⟨P,Z,h1,λd S z=>k d S (h2 d S z),λn S z=>l n S (h3 n S z)⟩
def spO (K:PySem.W.Frag) (mg:Str->Option Value) (n:Nat) (F:FnF):Sp:=λvs H Q E=>∃ β G S M ad ds,Same G H/\BoxD β H G/\(∀ a o,M a = some o->H a = some o)/\Kn K β G S M ad/\Reps (nub K β G) G ds vs/\vs.length = n /\
 upF F ds S (λd S'=>∀ v H' G' M' ad',Eff β M M' H G H' G'->Kn K β G' S' M' ad'->Rep ⟨K,β,H,G,True⟩ G' d v->Q v H') λnm S'=>∀ C H' G' M' ad',mg nm = some (.ref C)->Eff β M M' H G H' G'->Kn K β G' S' M' ad'->E (.ref C) none H'
def mi (H M:Hp):Hp:=λa=>match M a with | some _=>none | none=>H a
theorem zqB {H M:Hp} {a:Addr} (h:M a ≠ none):mi H M a = none:=by
 unfold mi;cases e:M a with
 | none=>exact absurd e h
 | some o=>rfl
theorem zed {H M:Hp} {a:Addr} (h:M a = none):mi H M a = H a:=by unfold mi;rw [h]
theorem zsk {H M:Hp} (h:∀ a o,M a = some o->H a = some o):ov (mi H M) M = H:=by
 funext a
 cases e:M a with
 | none=>rw [zcP e,zed e]
 | some o=>rw [zfa e,h a o e]
def fnWF (n:Nat) (B:(Str->Sto->Prop)->WF):FnF:=λds S Q Y=>B Y { nx:=λS' _=>Q .non S',rt:=λS' d=>Q d S',bk:=λ_ _=>False,ct:=λ_ _=>False } S (zaz n ds)
theorem Out.whole {K:PySem.W.Frag} {β:Addr} {H G M M' G1 H' G':Hp} {S:Sto} {ad:Addr->List Addr} (mb:M β = none) (k:Kn K β G1 S M' ad) (o:Out ⟨K,β,mi H M,G,M⟩ M' G1) (t:Stp β (ov (mi H M) M') G1 H' G'):Eff β M M' H G H' G'/\Kn K β G' S M' ad/\∀ d v,Rep (reB ⟨K,β,mi H M,G,M⟩ S M' G1) G' d v->Rep ⟨K,β,H,G,True⟩ G' d v:=by
 have m:Dm M M':=o.dm;have ap:∀ a,M' a ≠ none->G' a = none:=Out.apart (b:=⟨K,β,mi H M,G,M⟩) k.kin (λa z=>(k.ap a z).1) t;have w:=o.stp k.kin t;have no:∀ a u,M a = none->H a = some u->M' a = none:=λa u h1 h2=>by
  cases y:M' a with
  | none=>rfl
  | some x=>
   have:=(o.mb a (by rw [y];simp)).1
   rw [show (⟨K,β,mi H M,G,M⟩:Bo).H0 a = H a from zed h1,h2] at this;cases this
 refine ⟨⟨o.gg.trans t.gg,t.gh,λa u n h1 h2=>t.fr a u n ?_,λa u h=>t.fr a u (o.mb a (by rw [h];simp)).2.2 (zfa h),λa h=>?_,λa h=>⟨ap a h,(o.mb a h).2.2⟩,λa h=>?_,t.bx,λcc p q d h=>w.bc cc p q d ((zed mb).trans h),m⟩,k.mono t.gg ap,λd v e=>Rep.reb (c:=⟨K,β,H,G,True⟩) (c':=reB ⟨K,β,mi H M,G,M⟩ S M' G1) rfl rfl (λa ga z=>?_) e⟩
 ·rw [zcP (no a u h1 h2),zed h1];exact h2
 ·have:=(o.mb a h).1
  cases e:M a with
  | some u=>exact .inl (by simp)
  | none=>exact .inr ((zed e).symm.trans this)
 ·rcases w.nw a h with z | z | ⟨u,z,st⟩
  ·exact .inl z
  ·cases e:M a with
   | none=>exact .inr (.inl ((zed e).symm.trans z))
   | some u=>exact absurd (ap a (m a (by rw [e];simp))) h
  ·cases e:M a with
   | none=>exact .inr (.inr ⟨u,(zed e).symm.trans z,st⟩)
   | some x=>rw [show (⟨K,β,mi H M,G,M⟩:Bo).H0 a = none from zqB (by rw [e];simp)] at z;cases z
 ·obtain ⟨z1,z2⟩:=ov_none.mp z;cases e:M a with
  | none=>exact (zed e).symm.trans z2
  | some u=>exact absurd z1 (m a (by rw [e];simp))
theorem Rel.hyp {c:Bk} {Q:Prop} {ρ:Env} {σ:St} {H G:Hp} (r:Rel c ρ σ H G) (q:Q):Rel { c with P:=Q } ρ σ H G:=
 ⟨r.len,r.stp,λi s e=>by
  have z:=r.slot i s e;cases s with
  | un=>trivial
  | val d=>obtain ⟨v,h1,h2⟩:=z;exact ⟨v,h1,Rep.reb (c:={ c with P:=Q }) (c':=c) rfl rfl (λ_ _ z=>z) h2⟩
  | own xs=>obtain ⟨a,vs,h1,h2,h3,h4,h5,h6⟩:=z;exact ⟨a,vs,h1,h2,h3,h4,h5,Reps.reb (c:={ c with P:=Q }) (c':=c) rfl rfl (λ_ _ z=>z) h6⟩
  | dic ks xs=>obtain ⟨a,vs,h1,h2,h3,h4,h5,h6,h7⟩:=z;exact ⟨a,vs,h1,h2,h3,h4,h5,Reps.reb (c:={ c with P:=Q }) (c':=c) rfl rfl (λ_ _ z=>z) h6,h7⟩,r.dis,q⟩
theorem zgh {P:Program} {w:World} {K:PySem.W.Frag} {mg:Str->Option Value} {base:Heap} {x qual:Str} {st:Stmt} {f:Addr} {fd:FuncData} {N ps:List Str} {k:Nat} {B:(Str->Sto->Prop)->WF} (F:Fun K x qual st f fd)
  (hB:∀ {cdv:Value} {A:Around} {outer:List PySem.Env} {s:Shared} {H:Hp} {E:XK} {β:Addr} {G M:Hp} (Y:Str->Sto->Prop),(∀ nm C H' G' S M' G1,Y nm S->mg nm = some (.ref C)->(∃ ad,Kn K β G1 S M' ad)->Out ⟨K,β,mi H M,G,M⟩ M' G1->Stp β (ov (mi H M) M') G1 H' G'->E (.ref C) none H')->N.Nodup->Room k (A.deeper (PyProof.Rows.envOfC qual (zak st) s.heap.objs.size f cdv)) ->
   OSs (cxOf (CXN P w) P w K mg base N qual (zak st) f cdv A outer s H E) ⟨K,β,mi H M,G,M⟩ (zbd st) (B Y)) (S:FnScope N ps (zak st):=by exact ⟨rfl,rfl,rfl,by decide +kernel,rfl,by decide +kernel,by decide +kernel⟩):FnOk P w K mg base (CXN P w) (k + 1) f fd ps (spO K mg ps.length (fnWF N.length B)):=by
 obtain ⟨oc,od,kV,doc,pm,an,cdv,ct,osl,rfl,lk,hcd⟩:=F.ex;refine zn5 lk hcd S (λvs H Q E ⟨β,G,S,M,ad,ds,_,_,_,_,_,h,_⟩=>h) λA outer s H vs Q E hr ⟨β,G,So,M,ad,ds,gh,bx,mh,kn,hv,hl,P',Z,q,hP,hZ⟩=>?_;have mb:M β = none:=by
  cases e:M β with
  | none=>rfl
  | some u=>exact absurd rfl (kn.ap β (by rw [e];simp)).2
 have h:=@hB cdv A outer s H E β G M Z (λnm C H' G' S M' G1 z hm ⟨ad',k'⟩ o' t=>by
  obtain ⟨e1,e2,_⟩:=Out.whole mb k' o' t;exact hZ nm S z C H' G' M' ad' hm e1 e2) S.nd hr
 have r0:RelF ⟨K,β,mi H M,G,M⟩ So M (zaz N.length ds) (L2.zen N vs) H G:=by
  refine ⟨G,⟨λa z=>⟨zqB z,(kn.ap a z).1,(kn.ap a z).2⟩,Same.refl _,λa z=>.inl z,λa o z=>(zed (by
   cases y:M a with
   | none=>rfl
   | some u=>exact absurd ((kn.ap a (by rw [y];simp)).1.symm.trans z) (by simp))).trans (gh a o z),Dm.refl M⟩,?_⟩
  have h0:=zc9 (N:=N) gh bx hv;unfold reB;rw [show ov (Bo.H0 ⟨K,β,mi H M,G,M⟩) M = H from zsk mh];exact h0.hyp ⟨ad,kn⟩
 refine ⟨_,h.pss,zaz N.length ds,G,So,M,r0,h.mono { nx:=λS' _=>P' .non S',rt:=λS' d=>P' d S',bk:=λ_ _=>False,ct:=λ_ _=>False } _ So _ ⟨λS' ρ z σ H' G' M' ⟨G1,o',r'⟩ s' m=>?_,λS' d z v H' G' M' G1 ⟨ad',k'⟩ o' t m e=>?_,λS ρ z=>z.elim,λS ρ z=>z.elim⟩ q⟩
 ·obtain ⟨ad',k'⟩:=r'.kn;obtain ⟨e1,e2,_⟩:=Out.whole mb k' o' r'.stp;exact hP _ _ z .non H' G' M' ad' e1 e2 rfl
 ·obtain ⟨e1,e2,e3⟩:=Out.whole mb k' o' t;exact hP _ _ z v H' G' M' ad' e1 e2 (e3 d v e)
end Fd
namespace L2
open PySem PySem.Spec PyProof.Rows PySem.W
section
variable {P:Program} {w:World} {K:PySem.W.Frag} {mg:Str->Option Value} {base:Heap} {N:List Str} {qual:Str} {scope:Scope} {f:Addr} {cd:Value} {A:Around} {outer:List Env} {s0:Shared} {H0:Hp} {E E1:XK}
theorem zrW (hE:∀ C H',E1 (.ref C) none H'->E (.ref C) none H'):zbp (CXN P w) (cxOf (CXN P w) P w K mg base N qual scope f cd A outer s0 H0 E) E1:=by
 rintro pins σ H s _ s' I ⟨ea,C,H',rfl,N',e1⟩;have nex:∀ {b:Addr},b ∉ ([]:List Addr):=λz=>nomatch z;have neL:∀ {b o},s0.heap.get? b = some o->b ≠ s0.heap.objs.size:=λe=>YAr (YAj e);have sub:∀ {b},b ∉ frs outer->b ≠ s0.heap.objs.size->b ∉ frs (cxOf (CXN P w) P w K mg base N qual scope f cd A outer s0 H0 E).stack:=λh1 h2 h3=>(YAu.mp (I.stkSub _ h3)).elim h2 h1;obtain ⟨B,a0,fl,hB⟩:=id N'.fly;have frx:∀ b ∈ frs (cxOf (CXN P w) P w K mg base N qual scope f cd A outer s0 H0 E).stack,∃ o,s.heap.get? b = some o:=λb hb=>by
  obtain ⟨_,o,ho,_⟩:=I.stack.mem hb;exact ⟨o,ho⟩
 refine wpAny_leaves_onW I.ok.frames rfl fl λh' fl' sm=>?_;have on:=N'.on hB fl.2.2.1 I.stkFree fl'.1 sm frx;have I':Inv (cxOf (CXN P w) P w K mg base N qual scope f cd A outer s0 H0 E) pins σ H' { s' with heap:=h' }:=I.call' (s':={ s' with heap:=h' }) N'.os on.1 on.2 N'.bare λb z=>nomatch z;refine ⟨ea,C,H',rfl,⟨I'.os,I'.bare,I'.base,I'.hok,B,a0,fl',λb o q hb nf=>?_⟩,hE C H' e1⟩;rcases hb with ⟨u,hu⟩ | ⟨u,hu⟩
 ·obtain ⟨v,hv⟩:=(N'.hok b u hu).ex;have nb:b ∉ frs (cxOf (CXN P w) P w K mg base N qual scope f cd A outer s0 H0 E).stack:=λz=>by rw [I'.stkFree b z] at hu;cases hu
  have z:=hB b v hv (.inl ⟨u,hu⟩) nb
  have:=fl'.1 b v z
  rw [this] at q;cases q;exact z
 ·obtain ⟨o1,q1⟩:=I.base.there b u hu nex;obtain ⟨o2,q2⟩:=N'.un.there b o1 q1 nex;have z:=hB b o2 q2 (.inr ⟨o1,q1⟩) (sub nf (neL hu))
  have:=fl'.1 b o2 z
  rw [this] at q;cases q;exact z
end
end L2
namespace Fd
open PySem L2
def RepF (b:Bo) (S:Sto) (M:Hp) (ρ:Env) (σ:St) (H G:Hp) (d:D) (v:V):Prop:=∃ G1,Out b M G1/\Rel (reB b S M G1) ρ σ H G/\Rep (reB b S M G1) G d v
def RepsF (b:Bo) (S:Sto) (M:Hp) (ρ:Env) (σ:St) (H G:Hp) (ds:List D) (vs:List V):Prop:=∃ G1,Out b M G1/\Rel (reB b S M G1) ρ σ H G/\Reps (reB b S M G1) G ds vs
abbrev WOE:=Env->Sto->(D->Sto->Prop)->Prop
abbrev WOA:=Env->Sto->(List D->Sto->Prop)->Prop
def zhH {α:Type} (W:Env->Sto->(α->Sto->Prop)->Prop):Prop:=∀ ρ S Q Q',(∀ d S',Q d S'->Q' d S')->W ρ S Q->W ρ S Q'
def tOE (b:Bo) (W:WOE):TE:=λσ H Q=>∃ ρ G S M,RelF b S M ρ σ H G/\W ρ S λd S'=>∀ v H' G' M',RepF b S' M' ρ σ H' G' d v->Same G G'->Dm M M'->Q v H'
def tOA (b:Bo) (W:WOA):TA:=λσ H Q=>∃ ρ G S M,RelF b S M ρ σ H G/\W ρ S λds S'=>∀ vs H' G' M',RepsF b S' M' ρ σ H' G' ds vs->Same G G'->Dm M M'->Q vs H'
structure OE (X:Cx) (b:Bo) (e:Expr) (W:WOE):Prop where
 mono:zhH W
 pe:PE X e (tOE b W)
structure OA (X:Cx) (b:Bo) (es:List Expr) (W:WOA):Prop where
 mono:zhH W
 pa:PA X es (tOA b W)
theorem RepF.rel {b:Bo} {S:Sto} {M:Hp} {ρ:Env} {σ:St} {H G:Hp} {d:D} {v:V} (r:RepF b S M ρ σ H G d v):RelF b S M ρ σ H G:=let ⟨G1,o,r1,_⟩:=r;⟨G1,o,r1⟩
theorem RepsF.rel {b:Bo} {S:Sto} {M:Hp} {ρ:Env} {σ:St} {H G:Hp} {ds:List D} {vs:List V} (r:RepsF b S M ρ σ H G ds vs):RelF b S M ρ σ H G:=let ⟨G1,o,r1,_⟩:=r;⟨G1,o,r1⟩
section
variable {X:Cx} {b:Bo} {e e1:Expr} {es:List Expr} {pos p:Pos}
theorem zjX {A:Sto->WE} (h:∀ S M G1,DE X (reB b S M G1) e (A S)):OE X b e (λρ S Q=>A S ρ λd=>Q d S) where
 mono:=λρ S Q Q' l q=>(h S (λ_=>none) (λ_=>none)).mono ρ _ _ (λd z=>l d S z) q
 pe:=λpins s σ H Q I ⟨ρ,G,S,M,⟨G1,o,r⟩,q⟩=>(h S M G1).pe pins s σ H Q I ⟨ρ,G,r,(h S M G1).mono ρ _ _ (λd z v H' G' t e=>z v H' G' M ⟨G1,o,r.step t,e⟩ t.gg (Dm.refl M)) q⟩
@[reducible] def nilO:WOA:=λρ S Q=>Q [] S
@[reducible] def za1 (A:WOE) (B:WOA):WOA:=λρ S Q=>A ρ S λd S1=>B ρ S1 λds S2=>Q (d :: ds) S2
theorem zmQ {t t':TA} (h:PA X es t) (k:∀ σ H Q,t' σ H Q->t σ H Q):PA X es t':=λpos pins s σ H Q I q=>h pos pins s σ H Q I (k σ H Q q)
theorem zcQ:OA X b [] nilO:=⟨λρ S Q Q' l q=>l _ S q,zmQ zbn λσ H Q ⟨ρ,G,S,M,⟨G1,o,r⟩,q⟩=>q [] H G M ⟨G1,o,r,rfl⟩ (Same.refl _) (Dm.refl M)⟩
theorem zaK {A:WOE} {B:WOA} (hA:OE X b e A) (hB:OA X b es B) (hs:starEach (e :: es) X.env = (false,eval e X.env) :: starEach es X.env:=by rfl):OA X b (e :: es) (za1 A B) where
 mono:=λρ S Q Q' l q=>hA.mono ρ S _ _ (λd S1 z=>hB.mono ρ S1 _ _ (λds S2 y=>l _ S2 y) z) q
 pa:=zmQ (zaD hA.pe hB.pa hs) λσ H Q ⟨ρ,G,S,M,r,q⟩=>⟨ρ,G,S,M,r,hA.mono ρ S _ _ (λd S1 z v H1 G1 M1 r1 s1 m1=>⟨ρ,G1,S1,M1,r1.rel,hB.mono ρ S1 _ _ (λds S2 y vs H2 G2 M2 r2 s2 m2=>by
   obtain ⟨Ga,o,ra,ea⟩:=r1;obtain ⟨Gb,o',rb,eb⟩:=r2;exact y (v :: vs) H2 G2 M2 ⟨Gb,o',rb,v,vs,rfl,ea.carry s2 rb.apart,eb⟩ (s1.trans s2) (m1.trans m2)) z⟩) q⟩
theorem RelF.called {S S':Sto} {M M' H G H' G':Hp} {ad':Addr->List Addr} {ρ:Env} {σ:St} {d:D} {v:V} (r:RelF b S M ρ σ H G) (e:Eff b.β M M' H G H' G') (k:Kn b.K b.β G' S' M' ad') (z:Rep ⟨b.K,b.β,H,G,True⟩ G' d v):RepF b S' M' ρ σ H' G' d v:=by
 obtain ⟨G1,o,r1⟩:=r;refine ⟨G',o.eff r1 e,r1.eff (λa z=>⟨(o.mb a z).1,(o.mb a z).2.2⟩) e ⟨ad',k⟩,Rep.reb (c:=reB b S' M' G') (c':=⟨b.K,b.β,H,G,True⟩) rfl rfl (λa ga h=>?_) z⟩
 have:=ov_none.mp (show ov b.H0 M a = none from r1.new0 h)
 refine ov_none.mpr ⟨?_,this.2⟩;cases y:M' a with
 | none=>rfl
 | some u=>exact absurd (e.mg a (by rw [y];simp)).1 ga
theorem RelF.give {K:PySem.W.Frag} {mg:Str->Option Value} {n:Nat} {F:FnF} {S:Sto} {M H G:Hp} {ρ:Env} {σ:St} {ds:List D} {vs:List V} {Q:VK} {E1:XK} (hK:b.K = K) (r:RepsF b S M ρ σ H G ds vs) (hn:ds.length = n)
  (q:upF F ds S (λd S'=>∀ v H' G' M',RepF b S' M' ρ σ H' G' d v->Same G G'->Dm M M'->Q v H') λnm S'=>∀ C H' G' M',mg nm = some (.ref C)->RelF b S' M' ρ σ H' G'->Same G G'->Dm M M'->E1 (.ref C) none H'):spO K mg n F vs H Q E1:=by
 subst hK;have rl:=r.rel;obtain ⟨G1,o,r1,e⟩:=r;obtain ⟨ad,k⟩:=r1.kn;refine ⟨b.β,G,S,M,ad,ds,r1.gh,r1.bx,λa u h=>r1.stp.fr a u (o.mb a (by rw [h];simp)).2.2 (zfa h),k.mono r1.stp.gg r1.apart,Reps.back (c':=reB b S M G1) (c:=nub b.K b.β G) rfl rfl (λ_ _=>rfl) e,by rw [<- e.length];exact hn,zdj F (λd S' z v H' G' M' ad' ef k' e'=>z v H' G' M' (rl.called ef k' e') ef.gg ef.dm) (λnm S' z C H' G' M' ad' hm ef k'=>z C H' G' M' hm (rl.called (d:=.non) (v:=.non) ef k' rfl).rel ef.gg ef.dm) q⟩
end
structure Met (P:Program) (w:World) (K:PySem.W.Frag) (mg:Str->Option Value) (base:Heap) (CX:CXT) (C:Addr) (m:Str) (k:Nat) (ps:List Str) (sp:Sp):Prop where
 ex:∃ f fd,FnOk P w K mg base CX k f fd ps sp/\Cls K C/\Meth K C m f/\Binds K fd ps []
def XO (b:Bo) (mg:Str->Option Value) (y:Str->Sto->Prop):XK:=λv _ H'=>∃ nm C S' M' ρ σ G',v = .ref C/\y nm S'/\mg nm = some (.ref C)/\RelF b S' M' ρ σ H' G'
theorem ze9 {m:Str}:∀ {fs:List (Str × List D)} {as:List Addr},(∀ x ∈ fs,x.1 ≠ m)->(kvF fs as).lookup m = none
 | [],_,_=>rfl
 | _ :: _,[],_=>rfl
 | x :: fs,a :: as,h=>by
  show ((x.1,V.ref a) :: kvF fs as).lookup m = none;rw [YAI]
  have:(m == x.1) = false:=by
   rw [YAL];exact YAO (h x (by simp))
  rw [this];exact ze9 λy hy=>h y (by simp [hy])
section
variable {X:Cx} {b:Bo} {e:Expr} {es:List Expr} {pos p apos:Pos} {y:Str->Sto->Prop}
@[reducible] def zf7 (n:Nat) (F:FnF) (y:Str->Sto->Prop) (R:WOA):WOE:=λρ S Q=>R ρ S λds S1=>ds.length = n/\upF F ds S1 Q y
theorem zls {n:Nat} {F:FnF} {R:WOA} (h:zhH R):zhH (zf7 n F y R):=λρ S Q Q' l q=>h ρ S _ _ (λds S1 z=>⟨z.1,zdj F l (λ_ _ w=>w) z.2⟩) q
theorem zf2 {x:Str} {k n:Nat} {ps:List Str} {F:FnF} {R:WOA} (C:CalX X.prog X.w X.K X.mg X.base x k ps (spO X.K X.mg n F)) (hR:OA X b (e :: es) R) (hx:zbp (CXN X.prog X.w) X (XO b X.mg y)) (hg:Gl X x:=by rfl)
  (hdb:(x == ("__debug__" : Str)) = false:=by decide) (he:starEach (e :: es) X.env = (false,eval e X.env) :: starEach es X.env:=by rfl) (hpl:(backTo pos (starEach es X.env)).any (·.1) = false:=by rfl) (hK:b.K = X.K:=by rfl) (hr:Room k X.A:=by decreasing_trivial) :
  OE X b (.Call (.Name x p) (e :: es) [] pos) (zf7 n F y R) where
 mono:=zls hR.mono
 pe:=by
  obtain ⟨f,fd,FO,hm,hk,hb⟩:=C.ex;refine zay (zdL FO hr hg hm hk hb .nil hx hR.pa hdb he hpl) λσ H Q ⟨ρ,G,S,M,r,q⟩=>⟨ρ,G,S,M,r,hR.mono ρ S _ _ (λds S1 z vs H' G' M' r' s' m'=>?_) q⟩;show spO X.K X.mg n F (vs ++ []) H' Q _;rw [YAR];exact RelF.give hK r' z.1 (zdj F (λd S' w v H2 G2 M2 r2 s2 m2=>w v H2 G2 M2 r2 (s'.trans s2) (m'.trans m2)) (λnm S' w C H2 G2 M2 hc r2 s2 m2=>⟨nm,C,S',M2,ρ,σ,G2,rfl,w,hc,r2⟩) z.2)
@[reducible] def zc8 (i:Nat) (C:Addr) (m:Str) (n:Nat) (F:FnF) (y:Str->Sto->Prop) (R:WOA):WOE:=λρ S Q=>match ρ[i]? with
 | some (.val (.obj a))=>(∃ o,S a = some o/\o.C = C/\∀ x ∈ o.fs,x.1 ≠ m)/\R ρ S λds S1=>ds.length + 1 = n/\upF F (.obj a :: ds) S1 Q y
 | _=>False
theorem zgM {i:Nat} {C:Addr} {m:Str} {n:Nat} {F:FnF} {R:WOA} (h:zhH R):zhH (zc8 i C m n F y R):=λρ S Q Q' l q=>by
 unfold zc8 at q ⊢;split at q
 ·exact ⟨q.1,h ρ S _ _ (λds S1 z=>⟨z.1,zdj F l (λ_ _ w=>w) z.2⟩) q.2⟩
 ·exact q.elim
theorem RelF.at {S:Sto} {M H G:Hp} {ρ:Env} {σ:St} {a:Addr} {o:Ob} (r:RelF b S M ρ σ H G) (h:S a = some o):∃ dx as,H a = some (.ins o.C dx (kvF o.fs as)):=by
 obtain ⟨G1,u,r1⟩:=r;obtain ⟨ad,k⟩:=r1.kn;obtain ⟨dx,h1,_⟩:=k.obj a o h;exact ⟨dx,ad a,r1.stp.fr a _ (u.mb a (by rw [h1];simp)).2.2 (zfa h1)⟩
theorem ziz {σ:St} {H:Hp} {Q:VK} {i:Nat} {C:Addr} {m:Str} {n:Nat} {F:FnF} {R:WOA} {sp:Sp} {E:XK} {t:TA} {x:Str} (hK:b.K = X.K) (hsp:sp = spO X.K X.mg n F) (hE:E = XO b X.mg y) (hR:zhH R) (hv:∀ S M G1,DE X (reB b S M G1) (.Name x p) (vW i)) (q:tOE b (zc8 i C m n F y R) σ H Q) (ht:∀ σ H Q,tOA b R σ H Q->t σ H Q) :
  zoG C m sp [] E (tOE b (λρ S Q=>vW i ρ λd=>Q d S)) t σ H Q:=by
 subst hsp hE;obtain ⟨ρ,G,S,M,r,q⟩:=q;unfold zc8 at q;split at q
 ·rename_i a ea
  obtain ⟨⟨o,h1,h2,h3⟩,q⟩:=q;refine ⟨ρ,G,S,M,r,?_⟩;show vW i ρ _;unfold vW;rw [ea];intro v H1 G1 M1 r1 s1 m1;obtain ⟨dx,as,h4⟩:=r1.rel.at h1;obtain ⟨Ga,oa,ra,e⟩:=r1;have ev:v = V.ref a:=e;subst ev;rw [h2] at h4;refine ⟨a,dx,kvF o.fs as,rfl,h4,ze9 h3,ht _ _ _ ⟨ρ,G1,S,M1,⟨Ga,oa,ra⟩,hR ρ S _ _ (λds S1 z vs H' G' M' r' s' m'=>?_) q⟩⟩;show spO X.K X.mg n F (V.ref a :: (vs ++ [])) H' Q _;rw [YAR];have r2:RepsF b S1 M' ρ σ H' G' (.obj a :: ds) (V.ref a :: vs):=by
   obtain ⟨Gb,ob,rb,eb⟩:=r';exact ⟨Gb,ob,rb,V.ref a,vs,rfl,rfl,eb⟩
  exact RelF.give hK r2 z.1 (zdj F (λd S' w v H2 G2 M2 r2 s2 m2=>w v H2 G2 M2 r2 ((s1.trans s').trans s2) ((m1.trans m').trans m2)) (λnm S' w C H2 G2 M2 hc r2 s2 m2=>⟨nm,C,S',M2,ρ,σ,G2,rfl,w,hc,r2⟩) z.2)
 ·exact q.elim
theorem ziv {x m:Str} {i k n:Nat} {C:Addr} {ps:List Str} {F:FnF} {R:WOA} {pl:Sem Bool} (T:Met X.prog X.w X.K X.mg X.base (CXN X.prog X.w) C m k ps (spO X.K X.mg n F)) (hv:∀ S M G1,DE X (reB b S M G1) (.Name x p) (vW i)) (hR:OA X b (e :: es) R) (hx:zbp (CXN X.prog X.w) X (XO b X.mg y))
  (he:starEach (e :: es) X.env = (false,eval e X.env) :: starEach es X.env:=by rfl) (hpl:(backTo pos (starEach es X.env)).any (·.1) = false:=by rfl)
  (ht:eval (.Call (.Attribute (.Name x p) m apos) (e :: es) [] pos) X.env = (do
   let ov <- eval (.Name x p) X.env
   standAt apos.atName
   let (f,first) <- holding [ov] (getMethod ov m pl)
   callWith pos f first (backTo pos (starEach (e :: es) X.env)) (backToKw pos (keywordEach [] X.env))):=by rfl) (hK:b.K = X.K:=by rfl) (hr:Room k X.A:=by decreasing_trivial) :
  OE X b (.Call (.Attribute (.Name x p) m apos) (e :: es) [] pos) (zc8 i C m n F y R) where
 mono:=zgM hR.mono
 pe:=by
  obtain ⟨f,fd,FO,hc,hm,hb⟩:=T.ex;exact zay (zpI (zjX (A:=λ_=>vW i) hv).pe hc hm FO hr hb .nil hx hR.pa he hpl ht) λσ H Q q=>ziz hK rfl rfl hR.mono hv q λ_ _ _ z=>z
theorem zp8 {x m:Str} {i k n:Nat} {C:Addr} {ps:List Str} {F:FnF} {pl:Sem Bool} (T:Met X.prog X.w X.K X.mg X.base (CXN X.prog X.w) C m k ps (spO X.K X.mg n F)) (hv:∀ S M G1,DE X (reB b S M G1) (.Name x p) (vW i)) (hx:zbp (CXN X.prog X.w) X (XO b X.mg y))
  (ht:eval (.Call (.Attribute (.Name x p) m apos) [] [] pos) X.env = (do
   let ov <- eval (.Name x p) X.env
   standAt apos.atName
   let (f,first) <- holding [ov] (getMethod ov m pl)
   callWith pos f first (backTo pos (starEach [] X.env)) (backToKw pos (keywordEach [] X.env))):=by rfl) (hK:b.K = X.K:=by rfl) (hr:Room k X.A:=by decreasing_trivial) :
  OE X b (.Call (.Attribute (.Name x p) m apos) [] [] pos) (zc8 i C m n F y nilO) where
 mono:=zgM (zcQ (X:=X) (b:=b)).mono
 pe:=by
  obtain ⟨f,fd,FO,hc,hm,hb⟩:=T.ex;exact zay (zkQ (zjX (A:=λ_=>vW i) hv).pe hc hm FO hr hb .nil hx ht) λσ H Q q=>ziz hK rfl rfl (zcQ (X:=X) (b:=b)).mono hv q λ_ _ _ ⟨ρ,G,S,M,⟨G1,o,r⟩,q⟩=>q [] _ G M ⟨G1,o,r,rfl⟩ (Same.refl _) (Dm.refl M)
@[reducible] def zlc (A:WOE):WF:=λE S ρ=>A ρ S λ_ S'=>E.nx S' ρ
theorem zfS {A:WOE} (hA:OE X b e A) (hs:swapsWith e none pos.line X.env = pure false:=by rfl):OS X b (.Expr e pos) (zlc A) where
 mono:=λE E' S ρ l q=>hA.mono ρ S _ _ (λ_ S' z=>l.nx S' ρ z) q
 ps:=zbe (zfR hA.pe hs) λD σ H ⟨ρ,G,S,M,r,q⟩=>⟨ρ,G,S,M,r,hA.mono ρ S _ _ (λd S' z v H' G' M' r' s' m'=>z σ H' G' M' r'.rel s' m') q⟩
@[reducible] def asgO (t:Tg) (A:WOE):WF:=λE S ρ=>A ρ S λd S'=>gD t d ρ (E.nx S')
theorem zil {t:Tg} {A:WOE} (h:zhH A):zmW (asgO t A):=λE E' S ρ l q=>h ρ S _ _ (λd S' z=>zbT t d ρ (λρ' z=>l.nx S' ρ' z) z) q
theorem ziW {t:Tg} {A:WOE} (mA:zhH A) (D:Ends) (σ:St) (H:Hp) (h:tOS b (asgO t A) D σ H):tAsg (tOE b A) (gOf b.K t) D σ H:=by
 obtain ⟨ρ,G,S,M,r,q⟩:=h;refine ⟨ρ,G,S,M,r,mA ρ S _ _ (λd S' z v H' G' M' ⟨G1,o,r',e⟩ s' m'=>?_) q⟩;exact zfj (c:=reB b S' M' G1) t d v ρ σ r' e (zbT t d ρ (λρ' w σ' r2=>w σ' H' G' M' ⟨G1,o,r2⟩ s' m') z)
theorem zic (i:Nat) {x:Str} {A:WOE} (hA:OE X b e A) (hi:X.N[i]? = some x:=by rfl) (hx:Loc X.env.scope x:=by first | exact Or.inl rfl | exact Or.inr rfl) (hs:swapsWith e (some (.Name x p)) pos.line X.env = pure false:=by rfl) (hf:X.fn x = true\/X.env.scope.names.lookup x = some .local:=by first | exact .inl rfl | exact .inr rfl | assumption) (hN:X.N.Nodup:=by decreasing_trivial):OS X b (.Assign [.Name x p] e pos) (asgO (.nm i) A):=
 ⟨zil hA.mono,zbe (zdx hN hi hx hA.pe hs hf) λD σ H h=>ziW (t:=.nm i) hA.mono D σ H h⟩
theorem zsx (t:Tg) {tg:Expr} {A:WOE} (hA:OE X b e A) (hg:PG X tg (gOf b.K t)) (hs:swapsWithSole [tg] e pos.line X.env = pure false:=by rfl) (hw:swappedStores [tg] e X.env = pure none:=by rfl)
  (h1:(assignEach [tg] X.env).map (·.2) = [assign tg X.env]:=by rfl):OS X b (.Assign [tg] e pos) (asgO t A):=
 ⟨zil hA.mono,zbe (zgL hA.pe hg hs hw h1) λD σ H h=>ziW hA.mono D σ H h⟩
end
theorem znl {f:Str} {ys:List D}:∀ {fs:List (Str × List D)} {as:List Addr} {j:Nat} {xs:List D},fs[j]? = some (f,xs)->kvF (fs.set j (f,ys)) as = kvF fs as
 | [],_,_,_,h=>by simp at h
 | _ :: _,[],0,_,_=>rfl
 | _ :: _,[],_ + 1,_,_=>rfl
 | x :: fs,a :: as,0,xs,h=>by
  have:x = (f,xs):=by simpa using h
  subst this;rfl
 | x :: fs,a :: as,j + 1,xs,h=>by
  show (x.1,V.ref a) :: kvF (fs.set j (f,ys)) as = (x.1,V.ref a) :: kvF fs as;rw [znl (by simpa using h)]
theorem zkr {f:Str}:∀ {fs:List (Str × List D)} {as:List Addr} {j:Nat} {xs:List D},(∀ i y,i < j->fs[i]? = some y->y.1 ≠ f)->fs[j]? = some (f,xs)->as.length = fs.length->∃ a,as[j]? = some a/\(kvF fs as).lookup f = some (.ref a)
 | [],_,_,_,_,h,_=>by simp at h
 | _ :: _,[],_,_,_,_,h=>by simp at h
 | x :: fs,a :: as,0,xs,_,h,_=>by
  have:x = (f,xs):=by simpa using h
  subst this;exact ⟨a,rfl,by show ((f,V.ref a) :: kvF fs as).lookup f = _;simp⟩
 | x :: fs,a :: as,j + 1,xs,hn,h,hl=>by
  obtain ⟨b,h1,h2⟩:=zkr (fs:=fs) (as:=as) (j:=j) (λi y hi e=>hn (i + 1) y (by omega) (by simpa using e)) (by simpa using h) (by simpa using hl);refine ⟨b,by simpa using h1,?_⟩;show ((x.1,V.ref a) :: kvF fs as).lookup f = _;rw [YAI]
  have:(f == x.1) = false:=by rw [YAL];exact YAO (hn 0 x (by omega) rfl)
  rw [this];exact h2
def setF (o:Ob) (j:Nat) (f:Str) (ys:List D):Ob:=⟨o.C,o.fs.set j (f,ys)⟩
section
variable {b:Bo}
def IsF (o:Ob) (f:Str) (j:Nat) (xs:List D):Prop:=o.fs[j]? = some (f,xs)/\∀ i y,i < j->o.fs[i]? = some y->y.1 ≠ f
theorem Kn.at {K:PySem.W.Frag} {β:Addr} {G:Hp} {S:Sto} {M:Hp} {ad:Addr->List Addr} {p:Addr} {o:Ob} {f:Str} {j:Nat} {xs:List D} (k:Kn K β G S M ad) (h:S p = some o) (hf:IsF o f j xs):∃ dx a vs,M p = some (.ins o.C dx (kvF o.fs (ad p)))/\(kvF o.fs (ad p)).lookup f = some (.ref a)/\(ad p)[j]? = some a/\M a = some (.lst vs)/\Reps (nub K β G) G xs vs:=by
 obtain ⟨dx,h1,h2⟩:=k.obj p o h;obtain ⟨a,h3,h4⟩:=zkr hf.2 hf.1 h2;obtain ⟨vs,h5,h6⟩:=k.lst p o j a _ h h3 hf.1;exact ⟨dx,a,vs,h1,h4,h3,h5,h6⟩
theorem Kn.put {K:PySem.W.Frag} {β:Addr} {G:Hp} {S:Sto} {M:Hp} {ad:Addr->List Addr} {p a:Addr} {o:Ob} {f:Str} {j:Nat} {xs ys:List D} {vs ws:List V} (k:Kn K β G S M ad) (h:S p = some o) (hf:IsF o f j xs) (ha:(ad p)[j]? = some a) (hm:M a = some (.lst vs)) (hy:Reps (nub K β G) G ys ws):Kn K β G (upS S p (setF o j f ys)) (upd M a (.lst ws)) ad:=by
 have ins:∀ q u,S q = some u->q ≠ a:=λq u hq z=>by
  obtain ⟨dx,h1,_⟩:=k.obj q u hq;rw [z,hm] at h1;cases h1
 have some':∀ q,upS S p (setF o j f ys) q ≠ none->S q ≠ none:=λq hq z=>by
  by_cases e:q = p
  ·subst e;rw [h] at z;cases z
  ·rw [zc0 e] at hq;exact hq z
 refine ⟨λq u hq=>?_,λq u i c x hq hc hx=>?_,λq r i l c hq hr=>k.dis q r i l c (some' q hq) (some' r hr),λc u hc=>?_,λc hc=>?_⟩
 ·by_cases e:q = p
  ·subst e;rw [zaR] at hq;cases hq;obtain ⟨dx,h1,h2⟩:=k.obj q o h;exact ⟨dx,by rw [upd_ne (ins q o h)];show M q = some (.ins o.C dx (kvF (o.fs.set j (f,ys)) (ad q)));rw [znl hf.1];exact h1,by show (ad q).length = (o.fs.set j (f,ys)).length;rw [YBP];exact h2⟩
  ·rw [zc0 e] at hq;obtain ⟨dx,h1,h2⟩:=k.obj q u hq;exact ⟨dx,by rw [upd_ne (ins q u hq)];exact h1,h2⟩
 ·by_cases e:q = p
  ·subst e;rw [zaR] at hq;cases hq;by_cases ij:i = j
   ·subst ij;rw [ha] at hc;cases hc;have hx':(o.fs.set i (f,ys))[i]? = some x:=hx;rw [YAh (YAd.mp hf.1).1] at hx';cases hx';exact ⟨ws,zae,hy⟩
   ·have hx':(o.fs.set j (f,ys))[i]? = some x:=hx;rw [YAi (YAO ij)] at hx';obtain ⟨us,h1,h2⟩:=k.lst q o i c x h hc hx'
    have:c ≠ a:=λz=>ij (k.dis q q i j c (by rw [h];simp) (by rw [h];simp) hc (z ▸ ha)).2
    exact ⟨us,by rw [upd_ne this];exact h1,h2⟩
  ·rw [zc0 e] at hq;obtain ⟨us,h1,h2⟩:=k.lst q u i c x hq hc hx
   have:c ≠ a:=λz=>e (k.dis q p i j c (by rw [hq];simp) (by rw [h];simp) hc (z ▸ ha)).1
   exact ⟨us,by rw [upd_ne this];exact h1,h2⟩
 ·by_cases e:c = a
  ·subst e;rw [zae] at hc;cases hc;exact λz=>z
  ·rw [upd_ne e] at hc;exact k.kin c u hc
 ·by_cases e:c = a
  ·subst e;exact k.ap c (by rw [hm];simp)
  ·rw [upd_ne e] at hc;exact k.ap c hc
theorem RelF.put' {S:Sto} {M H G G1:Hp} {ad:Addr->List Addr} {ρ:Env} {σ:St} {p a:Addr} {o:Ob} {f:Str} {j:Nat} {xs ys:List D} {vs ws:List V} (u:Out b M G1) (r:Rel (reB b S M G1) ρ σ H G) (k:Kn b.K b.β G1 S M ad) (h:S p = some o) (hf:IsF o f j xs) (ha:(ad p)[j]? = some a) (hm:M a = some (.lst vs)) (hy:Reps (nub b.K b.β G) G ys ws):Out b (upd M a (.lst ws)) G/\Rel (reB b (upS S p (setF o j f ys)) (upd M a (.lst ws)) G) ρ σ (upd H a (.lst ws)) G/\Kn b.K b.β G (upS S p (setF o j f ys)) (upd M a (.lst ws)) ad/\Dm M (upd M a (.lst ws)):=by
 have ma:M a ≠ none:=by rw [hm];simp
 have ab:=(u.mb a ma).2.2;have hH:∀ c w,M c = some w->H c = some w:=λc w hc=>r.stp.fr c w (u.mb c (by rw [hc];simp)).2.2 (zfa hc);have dom:∀ c,upd M a (.lst ws) c ≠ none->M c ≠ none:=λc hc=>by
  by_cases e:c = a
  ·subst e;exact ma
  ·rw [upd_ne e] at hc;exact hc
 have dm:Dm M (upd M a (.lst ws)):=λc hc=>by
  by_cases e:c = a
  ·subst e;rw [zae];simp
  ·rw [upd_ne e];exact hc
 have ef:Eff b.β M (upd M a (.lst ws)) H G (upd H a (.lst ws)) G:=by
  refine ⟨Same.refl _,λc w hc=>?_,λc w n hc hw=>?_,λc w hc=>?_,λc hc=>.inl (dom c hc),λc hc=>⟨r.apart c (dom c hc),(u.mb c (dom c hc)).2.2⟩,λc hc=>.inl hc,?_,λcc q s d hb=>⟨q,s,d,by rw [upd_ne (YAO ab)];exact hb⟩,dm⟩
  ·rw [upd_ne (λz=>by rw [z,r.apart a ma] at hc;cases hc)];exact r.gh c w hc
  ·rw [upd_ne (λz=>by rw [z] at hc;exact ma hc)];exact hw
  ·by_cases e:c = a
   ·subst e;rw [zae] at hc ⊢;exact hc
   ·rw [upd_ne e] at hc ⊢;exact hH c w hc
  ·obtain ⟨cc,q,s,d,ns,hb,z⟩:=r.bx.ex;exact ⟨⟨cc,q,s,d,ns,by rw [upd_ne (YAO ab)];exact hb,z⟩,r.bx.still⟩
 have k':=(k.mono r.stp.gg r.apart).put h hf ha hm hy;exact ⟨u.eff r ef,r.eff (λc hc=>⟨(u.mb c hc).1,(u.mb c hc).2.2⟩) ef ⟨ad,k'⟩,k',dm⟩
theorem RelF.put {S:Sto} {M H G G1:Hp} {ad:Addr->List Addr} {ρ:Env} {σ:St} {p a:Addr} {o:Ob} {f:Str} {j:Nat} {xs ys:List D} {vs ws:List V} (u:Out b M G1) (r:Rel (reB b S M G1) ρ σ H G) (k:Kn b.K b.β G1 S M ad) (h:S p = some o) (hf:IsF o f j xs) (ha:(ad p)[j]? = some a) (hm:M a = some (.lst vs)) (hy:Reps (nub b.K b.β G) G ys ws):RelF b (upS S p (setF o j f ys)) (upd M a (.lst ws)) ρ σ (upd H a (.lst ws)) G/\Dm M (upd M a (.lst ws)):=
 let ⟨h1,h2,_,h4⟩:=RelF.put' u r k h hf ha hm hy
 ⟨⟨G,h1,h2⟩,h4⟩
end
section
variable {X:Cx} {b:Bo} {c:Bk} {e:Expr} {pos p fpos apos cpos:Pos}
theorem nub_at {K:PySem.W.Frag} {β:Addr} {G G':Hp} {ds:List D} {vs:List V} (h:Reps (nub K β G) G ds vs) (s:Same G G'):Reps (nub K β G') G' ds vs:=Reps.back (c':=nub K β G) (c:=nub K β G') rfl rfl (λ_ e=>e) (h.mono s)
def appO (i:Nat) (f:Str) (C:Addr) (A:Sto->WE):WF:=λE S ρ=>match ρ[i]? with
 | some (.val (.obj q))=>∃ o j xs,S q = some o/\o.C = C/\IsF o f j xs/\A S ρ λd=>xs.length < 100000/\E.nx (upS S q (setF o j f (xs ++ [d.old]))) ρ
 | _=>False
theorem zoX (i:Nat) {x f:Str} {C:Addr} {A:Sto->WE} (hA:∀ S M G1,DE X (reB b S M G1) e (A S)) (hc:Cls X.K C) (hn:NoAttr X.K C f) (hN:X.N[i]? = some x:=by rfl) (hv:Vis X.env.scope x:=by first | exact Or.inl rfl | exact Or.inr (Or.inl rfl) | exact Or.inr (Or.inr rfl))
  (hd:(x == ("__debug__" : Str)) = false:=by decide) (hcd:(x == ("__classdict__" : Str)) = false:=by decide)
  (hb0:attributeBase (.Name x p) f X.env (eval (.Name x p) X.env) = eval (.Name x p) X.env:=by rfl)
  (hbase:attributeBase (.Attribute (.Name x p) f fpos) "append" X.env (eval (.Attribute (.Name x p) f fpos) X.env) = eval (.Attribute (.Name x p) f fpos) X.env:=by rfl)
  (hfew:((backTo cpos (starEach [e] X.env)).all (λx=>!x.1) && (backToKw cpos (keywordEach [] X.env)).all (λx=>x.1.isSome)
   && decide (([e]:List Expr).length + ([]:List Keyword).length + (if ([]:List Keyword).isEmpty then 0 else 1) < 30)) = true:=by rfl)
  (hline:(apos.endLine == cpos.line) = true:=by rfl) (hs:starEach [e] X.env = (false,eval e X.env) :: starEach [] X.env:=by rfl)
  (hsw:swapsWith (.Call (.Attribute (.Attribute (.Name x p) f fpos) "append" apos) [e] [] cpos) none pos.line X.env = pure false:=by rfl) (hK:b.K = X.K:=by rfl):OS X b (.Expr (.Call (.Attribute (.Attribute (.Name x p) f fpos) "append" apos) [e] [] cpos) pos) (appO i f C A) where
 mono:=λE E' S ρ l q=>by
  unfold appO at q ⊢;split at q
  ·obtain ⟨o,j,xs,h1,h2,h3,q⟩:=q;exact ⟨o,j,xs,h1,h2,h3,(hA S (λ_=>none) (λ_=>none)).mono ρ _ _ (λd z=>⟨z.1,l.nx _ _ z.2⟩) q⟩
  ·exact q.elim
 ps:=λpins s σ H D I ⟨ρ,G,S,M,⟨G1,u,r⟩,q⟩=>zfR (zmL YA8 YBL YBM zeS (zgr (zbf hN hv hd hcd) hb0) (zaD (hA S M G1).pe zbn hs) hbase hfew hline hs rfl) hsw pins s σ H D I (by
  unfold appO at q;split at q
  ·rename_i a0 ei
   obtain ⟨o,j,xs,h1,h2,h3,q⟩:=q;obtain ⟨ad,k⟩:=r.kn;obtain ⟨dx,a,vs,k1,k2,k3,k4,k5⟩:=k.at h1 h3;obtain ⟨v,ev,rv⟩:=r.slot i _ ei;have rv':v = V.ref a0:=rv;subst rv';have hM:∀ c w,M c = some w->H c = some w:=λc w hc=>r.stp.fr c w (u.mb c (by rw [hc];simp)).2.2 (zfa hc);refine ⟨.ref a0,ev,a0,o.C,dx,_,.ref a,rfl,hM _ _ k1,h2 ▸ hc,h2 ▸ hn,k2,.inl ⟨rfl,vs,SqL.of (hM _ _ k4)⟩,ρ,G,r,(hA S M G1).mono ρ _ _ (λd z w H' G' t e=>?_) q⟩;have r':=r.step t;have ab:=(u.mb a (by rw [k4];simp)).2.2;have hy:Reps (nub b.K b.β G') G' (xs ++ [d.old]) (vs ++ [w]):=(nub_at k5 r'.stp.gg).append (.one (Rep.hand (c:=reB b S M G1) (c':=nub b.K b.β G') rfl rfl e));obtain ⟨r2,dm⟩:=RelF.put u r' k h1 h3 k3 k4 hy;exact ⟨a,vs,w,rfl,rfl,t.fr a _ ab (hM _ _ k4),by rw [<- k5.length,YAQ];have:=z.1;omega,z.2 σ _ G' _ r2 t.gg dm⟩
  ·exact q.elim)
def fixW (S:Sto) (i:Nat) (f:Str) (C:Addr) (B:WE):WE:=λρ Q=>match ρ[i]? with
 | some (.val (.obj q))=>∃ o j xs,S q = some o/\o.C = C/\IsF o f j xs/\B ρ λy=>itD xs y λd=>Q d.old
 | _=>False
def Knw (c:Bk) (S:Sto):Prop:=∃ M ad,Kn c.K c.β c.G0 S M ad/\∀ a o,M a = some o->c.H0 a = some o
theorem zkI {S:Sto} {M G1:Hp} (h:(reB b S M G1).P):Knw (reB b S M G1) S:=let ⟨ad,k⟩:=h;⟨M,ad,k,λ_ _ e=>zfa e⟩
theorem Rel.obj {S:Sto} {ρ:Env} {σ:St} {H G:Hp} {q:Addr} {o:Ob} {f:Str} {j:Nat} {xs:List D} (r:Rel c ρ σ H G) (kw:Knw c S) (h:S q = some o) (hf:IsF o f j xs):∃ dx fs a vs,H q = some (.ins o.C dx fs)/\fs.lookup f = some (.ref a)/\H a = some (.lst vs)/\Reps (nub c.K c.β G) G xs vs/\a ≠ c.β/\G a = none:=by
 obtain ⟨M,ad,k,sub⟩:=kw;obtain ⟨dx,a,vs,k1,k2,k3,k4,k5⟩:=k.at h hf;have ma:M a ≠ none:=by rw [k4];simp
 refine ⟨dx,_,a,vs,r.stp.fr q _ (k.ap q (by rw [k1];simp)).2 (sub _ _ k1),k2,r.stp.fr a _ (k.ap a ma).2 (sub _ _ k4),nub_at k5 r.stp.gg,(k.ap a ma).2,?_⟩;cases e:G a with
 | none=>rfl
 | some w=>
  rcases r.stp.nw a (by rw [e];simp) with z | z | ⟨w',z,st⟩
  ·exact absurd (k.ap a ma).1 z
  ·rw [sub _ _ k4] at z;cases z
  ·rw [sub _ _ k4] at z;cases z;exact st.elim
end
section
variable {X:Cx} {b:Bo} {c:Bk} {e:Expr} {S:Sto} {C:Addr} {f:Str} {pos p fpos lp:Pos}
theorem ztQ (i:Nat) {x:Str} {B:WE} (hB:DE X c e B) (hk:c.P->Knw c S) (hc:Cls X.K C) (hn:NoAttr X.K C f) (hs:zjq e:=by intro _ _;rfl) (hN:X.N[i]? = some x:=by rfl) (hv:Vis X.env.scope x:=by first | exact Or.inl rfl | exact Or.inr (Or.inl rfl) | exact Or.inr (Or.inr rfl))
  (hd:(x == ("__debug__" : Str)) = false:=by decide) (hcd:(x == ("__classdict__" : Str)) = false:=by decide) (hb0:attributeBase (.Name x p) f X.env (eval (.Name x p) X.env) = eval (.Name x p) X.env:=by rfl) (hK:c.K = X.K:=by rfl):DE X c (.Subscript (.Attribute (.Name x p) f fpos) e pos) (fixW S i f C B) where
 mono:=λρ Q Q' k q=>by
  unfold fixW at q ⊢;split at q
  ·obtain ⟨o,j,xs,h1,h2,h3,q⟩:=q;exact ⟨o,j,xs,h1,h2,h3,hB.mono ρ _ _ (λy z=>zkf (λd w=>k _ w) z) q⟩
  ·exact q.elim
 pe:=zay (zf1 (hK ▸ zpx (X:=X)) (zgr (zbf hN hv hd hcd) hb0) hB.pe hs) λσ H Q ⟨ρ,G,r,q⟩=>by
  unfold fixW at q;split at q
  ·rename_i a0 ei
   obtain ⟨o,j,xs,h1,h2,h3,q⟩:=q;obtain ⟨dx,fs,a,vs,g1,g2,g3,g4,g5,g6⟩:=r.obj (hk r.kn) h1 h3;obtain ⟨v,ev,rv⟩:=r.slot i _ ei;have rv':v = V.ref a0:=rv;subst rv';refine ⟨.ref a0,ev,a0,o.C,dx,fs,.ref a,rfl,g1,h2 ▸ hc,h2 ▸ hn,g2,ρ,G,r,hB.mono ρ _ _ (λy z w H1 G1 t1 e1=>?_) q⟩;cases y with
   | int k=>
    cases e1;have z:(match atI xs k with | some d=>_ | none=>False):=z;split at z
    ·rename_i d' e'
     obtain ⟨w',f',rw'⟩:=zjc g4 e';exact .inl ⟨a,vs,k,w',rfl,rfl,SqL.of (t1.fr a _ g5 g3),f',z w' H1 G1 t1 ((Rep.hand (c:=nub c.K c.β G) (c':=c) rfl rfl rw').mono t1.gg)⟩
    ·exact z.elim
   | _=>exact z.elim
  ·exact q.elim
def truF (S:Sto) (i:Nat) (f:Str) (C:Addr):WT:=λρ Q=>match ρ[i]? with
 | some (.val (.obj q))=>∃ o j xs,S q = some o/\o.C = C/\IsF o f j xs/\Q (!xs.isEmpty)
 | _=>False
theorem ztq (i:Nat) {x:Str} (hk:c.P->Knw c S) (hc:Cls X.K C) (hn:NoAttr X.K C f) (hN:X.N[i]? = some x:=by rfl) (hv:Vis X.env.scope x:=by first | exact Or.inl rfl | exact Or.inr (Or.inl rfl) | exact Or.inr (Or.inr rfl))
  (hd:(x == ("__debug__" : Str)) = false:=by decide) (hcd:(x == ("__classdict__" : Str)) = false:=by decide) (hb0:attributeBase (.Name x p) f X.env (eval (.Name x p) X.env) = eval (.Name x p) X.env:=by rfl) (he:∀ whole,isTrue (.Attribute (.Name x p) f fpos) X.env whole = (do let v <- whole;standAt (Expr.Attribute (.Name x p) f fpos).pos;holding [v] (truthy v)):=by intro _;rfl) (hK:c.K = X.K:=by rfl):DT X c (.Attribute (.Name x p) f fpos) (truF S i f C) where
 mono:=λρ Q Q' k q=>by
  unfold truF at q ⊢;split at q
  ·obtain ⟨o,j,xs,h1,h2,h3,q⟩:=q;exact ⟨o,j,xs,h1,h2,h3,k _ q⟩
  ·exact q.elim
 pt:=zgO (zfx (zgr (zbf hN hv hd hcd) hb0) he) λσ H Q ⟨ρ,G,r,q⟩=>by
  unfold truF at q;split at q
  ·rename_i a0 ei
   obtain ⟨o,j,xs,h1,h2,h3,q⟩:=q;obtain ⟨dx,fs,a,vs,g1,g2,g3,g4,g5,g6⟩:=r.obj (hk r.kn) h1 h3;obtain ⟨v,ev,rv⟩:=r.slot i _ ei;have rv':v = V.ref a0:=rv;subst rv';refine ⟨.ref a0,ev,a0,o.C,dx,fs,.ref a,rfl,g1,h2 ▸ hc,h2 ▸ hn,g2,!xs.isEmpty,.inl ⟨vs,SqL.of g3,?_⟩,q H G r.refl⟩
   have:=g4.length
   cases xs <;> cases vs <;> first | rfl | simp at this
  ·exact q.elim
def lstF (S:Sto) (i:Nat) (f:Str) (C:Addr):WL:=λρ Q=>match ρ[i]? with
 | some (.val (.obj q))=>∃ o j xs,S q = some o/\o.C = C/\IsF o f j xs/\Q (xs.map D.old)
 | _=>False
theorem ztu (i:Nat) {x:Str} (hk:c.P->Knw c S) (hc:Cls X.K C) (hn:NoAttr X.K C f) (hN:X.N[i]? = some x:=by rfl) (hv:Vis X.env.scope x:=by first | exact Or.inl rfl | exact Or.inr (Or.inl rfl) | exact Or.inr (Or.inr rfl))
  (hd:(x == ("__debug__" : Str)) = false:=by decide) (hcd:(x == ("__classdict__" : Str)) = false:=by decide) (hb0:attributeBase (.Name x p) f X.env (eval (.Name x p) X.env) = eval (.Name x p) X.env:=by rfl) (hg:Gl X "list" := by rfl) (he:starEach [.Attribute (.Name x p) f fpos] X.env = (false,eval (.Attribute (.Name x p) f fpos) X.env) :: starEach [] X.env:=by rfl) (hK:c.K = X.K:=by rfl) (hm:X.mg "list" = none:=by decreasing_trivial):DF X c (.Call (.Name "list" lp) [.Attribute (.Name x p) f fpos] [] pos) (lstF S i f C) where
 mono:=λρ Q Q' k q=>by
  unfold lstF at q ⊢;split at q
  ·obtain ⟨o,j,xs,h1,h2,h3,q⟩:=q;exact ⟨o,j,xs,h1,h2,h3,k _ q⟩
  ·exact q.elim
 pe:=zay (zcd zdI hg hm YBo (zaD (zgr (zbf hN hv hd hcd) hb0) zbn he) (by decide) (by decide) he rfl) λσ H Q ⟨ρ,G,r,q⟩=>by
  unfold lstF at q;split at q
  ·rename_i a0 ei
   obtain ⟨o,j,xs,h1,h2,h3,q⟩:=q;obtain ⟨dx,fs,a,vs,g1,g2,g3,g4,g5,g6⟩:=r.obj (hk r.kn) h1 h3;obtain ⟨v,ev,rv⟩:=r.slot i _ ei;have rv':v = V.ref a0:=rv;subst rv';refine ⟨.ref a0,ev,a0,o.C,dx,fs,.ref a,rfl,g1,h2 ▸ hc,h2 ▸ hn,g2,a,vs,rfl,.inl (SqL.of g3),λl hl=>q l vs _ _ (Stp.own r.gh r.bx hl) zae (zai r.gh hl) hl (Reps.hand (c:=nub c.K c.β G) (c':=c) rfl rfl g4)⟩
  ·exact q.elim
end
def spR (K:PySem.W.Frag) (n:Nat) (F:Sto->Fn):Sp:=λvs H Q _=>∃ β G S ds,Same G H/\BoxD β H G/\(∃ M ad,Kn K β G S M ad/\∀ a o,M a = some o->H a = some o)/\Reps (nub K β G) G ds vs/\vs.length = n /\
 up (F S) ds λd=>∀ v H' G',Stp β H G H' G'->Rep ⟨K,β,H,G,True⟩ G' d v->Q v H'
abbrev rdB (K:PySem.W.Frag) (β:Addr) (H G:Hp) (S:Sto):Bk:=⟨K,β,H,G,∃ M ad,Kn K β G S M ad/\∀ a o,M a = some o->H a = some o⟩
theorem zbM {K:PySem.W.Frag} {β:Addr} {H G:Hp} {S:Sto} (h:(rdB K β H G S).P):Knw (rdB K β H G S) S:=h
theorem zdU {P:Program} {w:World} {K:PySem.W.Frag} {mg:Str->Option Value} {base:Heap} {x qual:Str} {st:Stmt} {f:Addr} {fd:FuncData} {N ps:List Str} {k:Nat} {B:Sto->WS} (F:Fun K x qual st f fd)
  (hB:∀ {cdv:Value} {A:Around} {outer:List PySem.Env} {s:Shared} {H:Hp} {E:XK} {β:Addr} {G:Hp} (S:Sto),N.Nodup->Room k (A.deeper (PyProof.Rows.envOfC qual (zak st) s.heap.objs.size f cdv)) ->
   DSs (cxOf CX0 P w K mg base N qual (zak st) f cdv A outer s H E).nox (rdB K β H G S) (zbd st) (B S)) (S:FnScope N ps (zak st):=by exact ⟨rfl,rfl,rfl,by decide +kernel,rfl,by decide +kernel,by decide +kernel⟩):FnOk P w K mg base CX0 (k + 1) f fd ps (spR K ps.length λSo=>fnW N.length (B So)):=by
 refine F.ok S (λvs H Q E ⟨β,G,So,ds,_,_,_,_,h,_⟩=>h) (λcdv A outer s H vs Q E hr ⟨β,G,So,ds,gh,bx,kn,hv,hl,P',q,hP⟩=>?_);have h:=@hB cdv A outer s H E β G So S.nd hr;have r0:Rel (rdB K β H G So) (zaz N.length ds) (L2.zen N vs) H G:=(zc9 (N:=N) gh bx hv).hyp kn;refine ⟨_,h.pss,zaz N.length ds,G,r0,h.mono { nx:=λ_=>P' .non,rt:=P',bk:=λ_=>False,ct:=λ_=>False } _ _ ⟨λρ z σ H' G' r s'=>hP _ z .non H' G' r.stp rfl,λd z v H' G' t e=>hP _ z v H' G' t (Rep.reb (c:=⟨K,β,H,G,True⟩) (c':=rdB K β H G So) rfl rfl (λ_ _ w=>w) e),λρ z=>z.elim,λρ z=>z.elim⟩ q⟩
section
variable {X:Cx} {c:Bk} {e:Expr} {es:List Expr} {S:Sto} {pos p apos:Pos}
theorem Rel.know {ρ:Env} {σ:St} {H G:Hp} (r:Rel c ρ σ H G) (kw:Knw c S):∃ M ad,Kn c.K c.β G S M ad/\∀ a o,M a = some o->H a = some o:=by
 obtain ⟨M,ad,k,sub⟩:=kw;refine ⟨M,ad,k.mono r.stp.gg λa ma=>?_,λa o h=>r.stp.fr a o (k.ap a (by rw [h];simp)).2 (sub a o h)⟩;cases e:G a with
 | none=>rfl
 | some w=>
  cases y:M a with
  | none=>exact absurd y ma
  | some u=>
   rcases r.stp.nw a (by rw [e];simp) with z | z | ⟨w',z,st⟩
   ·exact absurd (k.ap a ma).1 z
   ·rw [sub _ _ y] at z;cases z
   ·rw [sub _ _ y] at z;cases z;exact absurd st (k.kin a _ y)
theorem Rel.read {n:Nat} {F:Sto->Fn} {ρ:Env} {σ:St} {H G:Hp} {ds:List D} {vs:List V} {Q:VK} {E:XK} (r:Rel c ρ σ H G) (kw:Knw c S) (hK:c.K = X.K) (e:Reps c G ds vs) (hn:ds.length = n) (q:up (F S) ds λd=>∀ v H' G',Stp c.β H G H' G'->Rep c G' d v->Q v H'):spR X.K n F vs H Q E:=by
 obtain ⟨M,ad,k,sub⟩:=r.know kw;exact ⟨c.β,G,S,ds,r.gh,r.bx,⟨M,ad,hK ▸ k,sub⟩,Reps.back (c':=c) (c:=nub X.K c.β G) hK rfl (λ_ _=>rfl) e,by rw [<- e.length];exact hn,
  zbU (F S) ds _ _ (λd z v H2 G2 t2 e2=>z v H2 G2 t2 (Rep.back (c':=⟨X.K,c.β,H,G,True⟩) (c:=c) hK.symm rfl (λa h=>r.new0 h) e2)) q⟩
@[reducible] def zqE (S:Sto) (n:Nat) (F:Sto->Fn) (R:WL):WE:=λρ Q=>R ρ λds=>ds.length = n/\up (F S) ds Q
theorem znp {x:Str} {k n:Nat} {ps:List Str} {F:Sto->Fn} {R:WL} (C:Cal X.prog X.w X.K X.mg X.base x k ps (spR X.K n F)) (hR:DA X c (e :: es) R) (hk:c.P->Knw c S) (hg:Gl X x:=by rfl)
  (hdb:(x == ("__debug__" : Str)) = false:=by decide) (he:starEach (e :: es) X.env = (false,eval e X.env) :: starEach es X.env:=by rfl) (hpl:(backTo pos (starEach es X.env)).any (·.1) = false:=by rfl) (hK:c.K = X.K:=by rfl) (hr:Room k X.A:=by decreasing_trivial) :
  DE X c (.Call (.Name x p) (e :: es) [] pos) (zqE S n F R) where
 mono:=λρ Q Q' k q=>hR.mono ρ _ _ (λds z=>⟨z.1,zbU (F S) ds _ _ k z.2⟩) q
 pe:=by
  obtain ⟨f,fd,FO,hm,hkp,hb⟩:=C.ex;refine zay (zdL FO hr hg hm hkp hb .nil zjT hR.pa hdb he hpl) λσ H Q ⟨ρ,G,r,q⟩=>⟨ρ,G,r,hR.mono ρ _ _ (λds z vs H' G' t e=>?_) q⟩;show spR X.K n F (vs ++ []) H' Q E0;rw [YAR];exact (r.step t).read (hk r.kn) hK e z.1 (zbU (F S) ds _ _ (λd w v H2 G2 t2 e2=>w v H2 G2 (t.trans t2) e2) z.2)
def zbN (S:Sto) (i:Nat) (C:Addr) (m:Str) (n:Nat) (F:Sto->Fn) (R:WL):WE:=λρ Q=>match ρ[i]? with
 | some (.val (.obj a))=>(∃ o,S a = some o/\o.C = C/\∀ x ∈ o.fs,x.1 ≠ m)/\R ρ λds=>ds.length + 1 = n/\up (F S) (.obj a :: ds) Q
 | _=>False
theorem zk2 {i:Nat} {C:Addr} {m:Str} {n:Nat} {F:Sto->Fn} {R:WL} (h:zfv R):zbX (zbN S i C m n F R):=λρ Q Q' k q=>by
 unfold zbN at q ⊢;split at q
 ·exact ⟨q.1,h ρ _ _ (λds z=>⟨z.1,zbU (F S) _ _ _ k z.2⟩) q.2⟩
 ·exact q.elim
theorem zk5 {i:Nat} {C:Addr} {m:Str} {n:Nat} {F:Sto->Fn} {R:WL} {t:TA} {σ:St} {H:Hp} {Q:VK} (hk:c.P->Knw c S) (hK:c.K = X.K) (hR:zfv R) (ht:∀ σ H Q,tDs c R σ H Q->t σ H Q) (q:tD c (zbN S i C m n F R) σ H Q) :
  zoG C m (spR X.K n F) [] E0 (λσ H Q=>∃ v,σ[i]? = some (some v)/\Q v H) t σ H Q:=by
 obtain ⟨ρ,G,r,q⟩:=q;unfold zbN at q;split at q
 ·rename_i a ei
  obtain ⟨⟨o,h1,h2,h3⟩,q⟩:=q;obtain ⟨v,ev,rv⟩:=r.slot i _ ei;have rv':v = V.ref a:=rv;subst rv';obtain ⟨M,ad,k,sub⟩:=r.know (hk r.kn);obtain ⟨dx,g1,_⟩:=k.obj a o h1;refine ⟨.ref a,ev,a,dx,_,rfl,h2 ▸ sub _ _ g1,ze9 h3,ht _ _ _ ⟨ρ,G,r,hR ρ _ _ (λds z vs H' G' t e=>?_) q⟩⟩;show spR X.K n F (V.ref a :: (vs ++ [])) H' Q E0;rw [YAR];exact (r.step t).read (hk r.kn) hK (ds:=.obj a :: ds) ⟨V.ref a,vs,rfl,rfl,e⟩ z.1 (zbU (F S) _ _ _ (λd w v H2 G2 t2 e2=>w v H2 G2 (t.trans t2) e2) z.2)
 ·exact q.elim
theorem zbg {x m:Str} {i k n:Nat} {C:Addr} {ps:List Str} {F:Sto->Fn} {pl:Sem Bool} (T:Met X.prog X.w X.K X.mg X.base CX0 C m k ps (spR X.K n F)) (hk:c.P->Knw c S) (hN:X.N[i]? = some x:=by rfl) (hv:Vis X.env.scope x:=by first | exact Or.inl rfl | exact Or.inr (Or.inl rfl) | exact Or.inr (Or.inr rfl))
  (hd:(x == ("__debug__" : Str)) = false:=by decide) (hcd:(x == ("__classdict__" : Str)) = false:=by decide)
  (ht:eval (.Call (.Attribute (.Name x p) m apos) [] [] pos) X.env = (do
   let ov <- eval (.Name x p) X.env
   standAt apos.atName
   let (f,first) <- holding [ov] (getMethod ov m pl)
   callWith pos f first (backTo pos (starEach [] X.env)) (backToKw pos (keywordEach [] X.env))):=by rfl) (hK:c.K = X.K:=by rfl) (hr:Room k X.A:=by decreasing_trivial) :
  DE X c (.Call (.Attribute (.Name x p) m apos) [] [] pos) (zbN S i C m n F (λ_ Q=>Q [])) where
 mono:=zk2 (λ_ Q Q' k q=>k _ q)
 pe:=by
  obtain ⟨f,fd,FO,hc,hm,hb⟩:=T.ex;exact zay (zkQ (zbf hN hv hd hcd) hc hm FO hr hb .nil zjT ht) λσ H Q q=>zk5 hk hK (λ_ Q Q' k q=>k _ q) (λσ H Q ⟨ρ,G,r,q⟩=>q [] H G r.refl rfl) q
end
def zaG {α:Type}:List Str->List α->Str->Option α
 | k :: ks,x :: xs,z=>if k = z then some x else zaG ks xs z
 | _,_,_=>none
theorem zeX:∀ {ks:List Str} {vs:List V} {z:Str},valV (kvD ks vs) (Sum.inr z) = zaG ks vs z
 | [],_,_=>rfl
 | _ :: _,[],_=>rfl
 | k :: ks,v :: vs,z=>by
  show valV (((Sum.inr k:Key),v) :: kvD ks vs) (Sum.inr z) = if k = z then some v else zaG ks vs z;by_cases e:k = z
  ·rw [if_pos e,zey (p:=((Sum.inr k:Key),v)) (by rw [e])]
  ·rw [if_neg e,zeu (p:=((Sum.inr k:Key),v)) (λy=>e (Sum.inr.inj y)),zeX]
theorem zeC {c:Bk} {G:Hp}:∀ {ks:List Str} {xs:List D} {vs:List V} {z:Str} {d:D},Reps c G xs vs->zaG ks xs z = some d->∃ v,zaG ks vs z = some v/\Rep c G d v
 | [],_,_,_,_,_,h=>by simp [zaG] at h
 | _ :: _,[],_,_,_,_,h=>by simp [zaG] at h
 | k :: ks,x :: xs,vs,z,d,⟨v,ws,h1,h2,h3⟩,h=>by
  subst h1;unfold zaG at h ⊢;by_cases e:k = z
  ·rw [if_pos e] at h ⊢;cases h;exact ⟨v,rfl,h2⟩
  ·rw [if_neg e] at h ⊢;exact zeC h3 h
def optD (o:Option D) (Q:D->Prop):Prop:=match o with | some d=>Q d | none=>False
theorem zgl {o:Option D} {Q Q':D->Prop} (k:∀ d,Q d->Q' d) (q:optD o Q):optD o Q':=by
 cases o with
 | none=>exact q
 | some d=>exact k _ q
def zas:F2
 | .dct _ ks xs,.str z,Q=>optD (zaG ks xs z) Q
 | .fdc ks xs,.str z,Q=>optD (zaG ks xs z) Q
 | _,_,_=>False
theorem zmH:zby zas:=λx y Q Q' k q=>by
 unfold zas at q ⊢;split at q
 ·exact zgl k q
 ·exact zgl k q
 ·exact q.elim
section
variable {X:Cx} {c:Bk} {a i:Expr} {pos p:Pos}
theorem zaA {A B:WE} (hA:DE X c a A) (hB:DE X c i B) (hs:NoSl i:=by intro _ _;rfl) (hu:X.A.units + 1 < cLine:=by decreasing_trivial):DE X c (.Subscript a i pos) (binW zas A B) where
 mono:=zd5 zmH hA.mono hB.mono
 pe:=zay (zl9 hu hA.pe hB.pe hs) λσ H Q ⟨ρ,G,r,q⟩=>⟨ρ,G,r,hA.mono ρ _ _ (λx zx vx H1 G1 t1 e1=>⟨ρ,G1,r.step t1,hB.mono ρ _ _ (λy zy vy H2 G2 t2 e2=>by
  unfold zas at zy;split at zy
  ·rename_i n ks xs z
   obtain ⟨d0,vs,h1,h2,_,h4,h5⟩:=e1;subst h1;have ey:vy = V.str z:=e2;subst ey;cases e:zaG ks xs z with
   | none=>rw [e] at zy;exact zy.elim
   | some d=>
    rw [e] at zy;obtain ⟨v,f1,f2⟩:=zeC h5 e;refine ⟨d0,v,rfl,?_,zy v H2 G2 (t1.trans t2) (f2.mono t2.gg)⟩
    have:=DGet.k (k:=Sum.inr z) (t2.gh _ _ (t2.gg _ _ h2))
    rw [zeX,f1] at this;exact this
  ·rename_i ks xs z
   obtain ⟨d0,vs,o,h1,h2,h4,h5⟩:=e1;subst h1;have ey:vy = V.str z:=e2;subst ey;cases e:zaG ks xs z with
   | none=>rw [e] at zy;exact zy.elim
   | some d=>
    rw [e] at zy;obtain ⟨v,f1,f2⟩:=zeC h5 e;refine ⟨d0,v,rfl,?_,zy v H2 G2 (t1.trans t2) (f2.mono t2.gg)⟩
    have:DGet H2 d0 (V.str z) (valV (kvD ks vs) (Sum.inr z)):=.inl ⟨_,.inr z,.inr ⟨o,t2.gh _ _ (t2.gg _ _ h2)⟩,rfl,rfl⟩
    rw [zeX,f1] at this;exact this
  ·exact zy.elim) zx⟩) q⟩
theorem zdB:CallR X (.type "dict") (λxs H Q=>∃ a kvs,xs = [.ref a]/\Rd H a (.dK kvs)/\∀ l,H l = none->Q (.ref l) (upd H l (.dK kvs))):=by
 intro pins s σ H xs us Q I r h;obtain ⟨a,kvs,rfl,ha,q⟩:=h;obtain ⟨u,rfl,rx⟩:=zft r;cases rx;exact zn1 I ha λp s' hp I'=>⟨.ref p,_,I',rfl,q p hp⟩
end
def putKs (ks:List Str) (z:Str):List Str:=if ks.contains z then ks else ks ++ [z]
def putVs {α:Type} (ks:List Str) (vs:List α) (z:Str) (w:α):List α:=if ks.contains z then List.zipWith (λk x=>if k = z then w else x) ks vs else vs ++ [w]
theorem zmt {z:Str}:∀ {ks:List Str} {vs:List V},ks.length = vs.length->(kvD ks vs).any (λkv=>decide (kv.1 = (Sum.inr z:Key))) = ks.contains z
 | [],[],_=>rfl
 | k :: ks,v :: vs,h=>by
  show (decide ((Sum.inr k:Key) = Sum.inr z) || (kvD ks vs).any _) = _;rw [zmt (by simpa using h),List.contains_cons];congr 1;by_cases e:k = z
  ·subst e;simp
  ·rw [YAq (λy=>e (Sum.inr.inj y))];symm;rw [YAL];exact λy=>e y.symm
theorem zms {z:Str} {w:V}:∀ {ks:List Str} {vs:List V},ks.length = vs.length->(kvD ks vs).map (λkv=>if kv.1 = (Sum.inr z:Key) then (kv.1,w) else kv) = kvD ks (List.zipWith (λk x=>if k = z then w else x) ks vs)
 | [],[],_=>rfl
 | k :: ks,v :: vs,h=>by
  show (if (Sum.inr k:Key) = Sum.inr z then ((Sum.inr k:Key),w) else (Sum.inr k,v)) :: (kvD ks vs).map _ = (Sum.inr k,if k = z then w else v) :: kvD ks _;rw [zms (by simpa using h)];congr 1;by_cases e:k = z
  ·subst e;simp
  ·rw [if_neg (λy=>e (Sum.inr.inj y)),if_neg e]
theorem zho {ks:List Str} {vs:List V} {z:Str} {w:V} (h:ks.length = vs.length):putK (kvD ks vs) (Sum.inr z) w = kvD (putKs ks z) (putVs ks vs z w):=by
 unfold putK putKs putVs;rw [zmt h];by_cases e:ks.contains z = true
 ·rw [if_pos e,if_pos e,if_pos e,zms h]
 ·rw [if_neg e,if_neg e,if_neg e];unfold kvD;rw [List.zip_append h,YAW];rfl
theorem zkv {c:Bk} {G:Hp} {d:D} {w:V} {z:Str} (hd:Rep c G d w):∀ {ks:List Str} {xs:List D} {vs:List V},Reps c G xs vs->Reps c G (List.zipWith (λk x=>if k = z then d else x) ks xs) (List.zipWith (λk x=>if k = z then w else x) ks vs)
 | [],_,_,_=>rfl
 | _ :: _,[],_,h=>by cases h;rfl
 | k :: ks,x :: xs,_,⟨v,ws,h1,h2,h3⟩=>by
  subst h1;refine ⟨if k = z then w else v,_,rfl,?_,zkv hd h3⟩;show Rep c G (if k = z then d else x) (if k = z then w else v);by_cases e:k = z
  ·rw [if_pos e,if_pos e];exact hd
  ·rw [if_neg e,if_neg e];exact h2
theorem zeH {c:Bk} {G:Hp} {d:D} {w:V} {z:Str} {ks:List Str} {xs:List D} {vs:List V} (hd:Rep c G d w) (h:Reps c G xs vs):Reps c G (putVs ks xs z d) (putVs ks vs z w):=by
 unfold putVs;by_cases e:ks.contains z = true
 ·rw [if_pos e,if_pos e];exact zkv hd h
 ·rw [if_neg e,if_neg e];exact h.append (.one hd)
theorem zhj {ks:List Str} {vs:List V} {z:Str} {w:V} (h:ks.length = vs.length):(putKs ks z).length = (putVs ks vs z w).length:=by
 unfold putKs putVs;by_cases e:ks.contains z = true
 ·rw [if_pos e,if_pos e,List.length_zipWith,<- h];simp
 ·rw [if_neg e,if_neg e,YAp,YAp,h];rfl
section
variable {X:Cx} {c:Bk} {p1 p2 p3 p4 p5 p6 p7 p8 p9 p10 p11 p12:Pos}
def zoc (ib iw iv i:Nat):WS:=λE ρ=>match ρ[ib]?,ρ[iw]?,ρ[iv]? with
 | some (.val (.dct _ ks xs)),some (.val (.str z)),some (.val d)=>i < ρ.length/\ks.length < 1000/\E.rt (.dct true (putKs ks z) (putVs ks xs z d))
 | _,_,_=>False
theorem zrR (ib iw iv i:Nat) {x nb nw nv:Str} (hi:X.N[i]? = some x:=by rfl) (hx:X.env.scope.names.lookup x = some .local:=by rfl) (hdx:(x == ("__debug__" : Str)) = false:=by decide) (hcx:(x == ("__classdict__" : Str)) = false:=by decide)
  (hb:PE X (.Name nb p3) (tVar ib)) (hw:PE X (.Name nw p6) (tVar iw)) (hv:PE X (.Name nv p7) (tVar iv)) (nb':i ≠ ib:=by decide) (nw':i ≠ iw:=by decide) (nv':i ≠ iv:=by decide)
  (hg:Gl X "dict" := by rfl) (he:starEach [.Name nb p3] X.env = (false,eval (.Name nb p3) X.env) :: starEach [] X.env:=by rfl) (hm:X.mg "dict" = none:=by decreasing_trivial)
  (hs1:swapsWith (.Call (.Name "dict" p2) [.Name nb p3] [] p4) (some (.Name x p1)) p5.line X.env = pure false:=by rfl) (hs2:swapsWith (.Name nv p7) (some (.Subscript (.Name x p8) (.Name nw p6) p9)) p10.line X.env = pure false:=by rfl)
  (hu:X.A.units + 1 < cLine:=by decreasing_trivial) (hN:X.N.Nodup:=by decreasing_trivial) :
  DSs X c [.Assign [.Name x p1] (.Call (.Name "dict" p2) [.Name nb p3] [] p4) p5,.Assign [.Subscript (.Name x p8) (.Name nw p6) p9] (.Name nv p7) p10,   .Return (some (.Name x p11)) p12] (zoc ib iw iv i) where
 mono:=λE E' ρ l q=>by
  unfold zoc at q ⊢;split at q
  ·exact ⟨q.1,q.2.1,l.rt _ q.2.2⟩
  ·exact q.elim
 pss:=by
  have pvx:∀ {p:Pos},PE X (.Name x p) (tVar i):=λ{p}=>zbf hi (.inl hx) hdx hcx;refine zdi (zaL (zdx hN hi (.inl hx) (zcd zdB hg hm YBT (zaD hb zbn he) (by decide) (by decide) he rfl) hs1 (.inr hx)) (zaL (zjV hu pvx hw hv hs2) (zdC (zgf pvx)))) λD σ H ⟨ρ,G,r,q⟩=>?_;unfold zoc at q;split at q
  ·rename_i n ks xs z d e1 e2 e3
   obtain ⟨hl,q⟩:=q;rw [r.len] at hl;obtain ⟨v1,s1,a,vs,h1,h2,_,h4,h5⟩:=r.slot ib _ e1;obtain ⟨v2,s2,r2⟩:=r.slot iw _ e2;obtain ⟨v3,s3,r3⟩:=r.slot iv _ e3;subst h1;have e:v2 = V.str z:=r2;subst e;have other:∀ {j:Nat} {l:Addr},i ≠ j->(σ.set i (some (.ref l)))[j]? = σ[j]?:=λh=>YAi h;refine ⟨.ref a,s1,a,_,rfl,.inl (r.gh _ _ h2),λl hl0=>?_⟩;have at_:(σ.set i (some (.ref l)))[i]? = some (some (.ref l)):=YAh hl;have len:(kvD ks vs).length < sizeLine:=by
    unfold kvD;rw [YAc,YBm,<- h4,YBC,YAQ];have:=q.1;omega
   refine ⟨v3,(other nv').trans s3,.ref l,at_,.str z,(other nw').trans s2,l,_,rfl,DPut.k (k:=.inr z) zae len,?_⟩;rw [zjp,zho h4];refine ⟨.ref l,at_,?_⟩;have gl:=zai r.gh hl0;have sg:Same G (upd G l (.dK (kvD (putKs ks z) (putVs ks vs z v3)))):=zbo gl;exact q.2 (.ref l) _ _ (r.stp.trans (Stp.new r.gh r.bx hl0)) ⟨l,_,rfl,zae,λ_=>r.new0 hl0,zhj h4,(zeH r3 h5).mono sg⟩
  ·exact q.elim
end
theorem Stp.wrS {β p:Addr} {H G H2 G2:Hp} {o:HO} (s:Stp β H G H2 G2) (h0:H p = none) (hb:p ≠ β) (g2:G2 p = none):Stp β H G (upd H2 p o) (upd G2 p o):=
 ⟨s.gg.trans (zbo g2),λa u e=>by
  by_cases z:a = p
  ·subst z;rw [zae] at e ⊢;exact e
  ·rw [upd_ne z] at e ⊢;exact s.gh a u e,
 λa u n e=>by
  have z:a ≠ p:=λz=>by rw [z,h0] at e;cases e
  rw [upd_ne z];exact s.fr a u n e,
 λa e=>by
  by_cases z:a = p
  ·subst z;exact .inr (.inl h0)
  ·rw [upd_ne z] at e;exact s.nw a e,
 ⟨by
   obtain ⟨cc,q,r,d,ns,h,p1,p2,p3,p4,hc,w⟩:=s.bx.ex;exact ⟨cc,q,r,d,ns,by rw [upd_ne (YAO hb)];exact h,p1,p2,p3,p4,by rw [upd_ne (zaw hc g2)];exact hc,w⟩,by rw [upd_ne (YAO hb)];exact s.bx.still⟩,
 s.b0,λcc q r d h=>by
  obtain ⟨q1,r1,d1,h1⟩:=s.bc cc q r d h;exact ⟨q1,r1,d1,by rw [upd_ne (YAO hb)];exact h1⟩⟩
structure DP (X:Cx) (c:Bk) (pos:Pos) (keys:List (Option Expr)) (values:List Expr) (ks:List Str) (R:WL):Prop where
 mono:zfv R
 ex:∃ trs,PPs X pos keys values trs/\∀ σ H (Q:List (V × V)->Hp->Prop),(∃ ρ G,Rel c ρ σ H G/\R ρ λds=>∀ vs H' G',Stp c.β H G H' G'->Reps c G' ds vs->Q ((ks.zip vs).map λp=>(V.str p.1,p.2)) H')->zkX trs σ H Q
section
variable {X:Cx} {c:Bk} {pos kpos:Pos} {keys:List (Option Expr)} {values:List Expr} {e:Expr} {ks:List Str} {R:WL}
theorem zpe:DP X c pos [] [] [] (λ_ Q=>Q []):=⟨λρ Q Q' k q=>k _ q,[],zqX,λσ H Q ⟨ρ,G,r,q⟩=>q [] H G r.refl rfl⟩
theorem zcf {k:Str} {n:Nat} {A:WE} (hA:DE X c e A) (hR:DP X c pos keys values ks R):DP X c pos (some (.Constant (.str k) n kpos) :: keys) (e :: values) (k :: ks) (λρ Q=>A ρ λd=>R ρ λds=>Q (d :: ds)):=by
 obtain ⟨m,trs,h1,h2⟩:=hR;refine ⟨λρ Q Q' k q=>hA.mono ρ _ _ (λd z=>m ρ _ _ (λds y=>k _ y) z) q,_,zny zo7 hA.pe h1,λσ H Q ⟨ρ,G,r,q⟩=>?_⟩;exact ⟨ρ,G,r,hA.mono ρ _ _ (λd z v H1 G1 t1 e1=>h2 σ H1 _ ⟨ρ,G1,r.step t1,m ρ _ _ (λds y vs H2 G2 t2 e2=>y (v :: vs) H2 G2 (t1.trans t2) ⟨v,vs,rfl,e1.mono t2.gg,e2⟩) z⟩) q⟩
theorem zkY:∀ {ks:List Str} {vs:List V},ks.length = vs.length->(kvD ks vs).map (·.1) = ks.map (Sum.inr:Str->Key)
 | [],[],_=>rfl
 | k :: ks,v :: vs,h=>by
  show (Sum.inr k:Key) :: (kvD ks vs).map (·.1) = _;rw [zkY (by simpa using h)];rfl
theorem ziq:∀ {ks:List Str},ks.Nodup->(ks.map (Sum.inr:Str->Key)).Nodup
 | [],_=>List.nodup_nil
 | k :: ks,h=>by
  rw [YAM] at h;rw [YAg,YAM];refine ⟨λm=>?_,ziq h.2⟩;obtain ⟨x,hx,e⟩:=YAS.mp m;exact h.1 (Sum.inr.inj e ▸ hx)
@[reducible] def zpJ (ks:List Str) (R:WL):WE:=λρ Q=>R ρ λxs=>xs.length = ks.length/\Q (.dct true ks xs)
theorem zo4 (hR:DP X c pos keys values ks R) (hn:ks.Nodup:=by decide +kernel) (hl:ks.length <= 15:=by decide) (ha:keys.all (·.isSome) = true:=by rfl) (hkl:keys.length = values.length:=by rfl) (h0:keys ≠ []:=by intro z;cases z) (h15:keys.length <= 15:=by decide):DE X c (.Dict keys values pos) (zpJ ks R) where
 mono:=λρ Q Q' k q=>hR.mono ρ _ _ (λds z=>⟨z.1,k _ z.2⟩) q
 pe:=by
  obtain ⟨m,trs,h1,h2⟩:=hR;refine zay (zqJ h1 ha hkl h0 h15) λσ H Q ⟨ρ,G,r,q⟩=>λp hp=>?_;have st:=Stp.own (o:=.dK []) r.gh r.bx hp;have pb:=r.neβ hp;refine h2 σ _ _ ⟨ρ,G,r.step st,m ρ _ _ (λxs z vs H2 G2 t2 e2=>?_) q⟩;have hlen:ks.length = vs.length:=z.1.symm.trans e2.length;have g2:G2 p = none:=by
   cases w:G2 p with
   | none=>rfl
   | some o=>
    rcases t2.nw p (by rw [w];simp) with y | y | ⟨u,y,su⟩
    ·exact absurd (zai r.gh hp) y
    ·rw [zae] at y;cases y
    ·rw [zae] at y;cases y;exact su.elim
  refine ⟨t2.fr p _ pb zae,kvD ks vs,by unfold kvD;rw [YAH];rfl,by unfold kvD;rw [YAc,YBm,<- hlen,YBC];exact hl,?_⟩;rw [zeU (kvD ks vs) [] (λk _=>by simp) (by rw [zkY hlen];exact ziq hn),YCe];exact z.2 (.ref p) _ _ ((st.trans t2).wrS hp pb g2) ⟨p,vs,rfl,zae,λ_=>r.new0 hp,hlen,e2.mono (zbo g2)⟩
end
def adS (ad:Addr->List Addr) (p:Addr) (as:List Addr):Addr->List Addr:=λq=>if q = p then as else ad q
theorem zdp {ad:Addr->List Addr} {p:Addr} {as:List Addr}:adS ad p as p = as:=by unfold adS;rw [if_pos rfl]
theorem zfK {ad:Addr->List Addr} {p q:Addr} {as:List Addr} (h:q ≠ p):adS ad p as q = ad q:=by unfold adS;rw [if_neg h]
structure Gets (fs fs':List (Str × List D)) (as as':List Addr) (j:Nat) (f:Str) (xs:List D) (l:Addr):Prop where
 len:as'.length = fs'.length
 new:fs'[j]? = some (f,xs)
 at_:∀ (i:Nat) a,as'[i]? = some a->(i = j/\a = l)\/(i ≠ j/\as[i]? = some a/\fs'[i]? = fs[i]?)
theorem Kn.newL {K:PySem.W.Frag} {β:Addr} {G:Hp} {S:Sto} {M:Hp} {ad:Addr->List Addr} {p l dx:Addr} {o:Ob} {f:Str} {j:Nat} {xs:List D} {ws:List V} {fs':List (Str × List D)} {as':List Addr} (k:Kn K β G S M ad) (h:S p = some o) (hl:M l = none) (gl:G l = none) (lb:l ≠ β) (g:Gets o.fs fs' (ad p) as' j f xs l) (hw:Reps (nub K β G) G xs ws) :
  Kn K β G (upS S p ⟨o.C,fs'⟩) (upd (upd M l (.lst ws)) p (.ins o.C dx (kvF fs' as'))) (adS ad p as'):=by
 have mp:∀ q u,S q = some u->M q ≠ none:=λq u hq=>by obtain ⟨_,h1,_⟩:=k.obj q u hq;rw [h1];simp
 have pl:p ≠ l:=λz=>mp p o h (z ▸ hl);have mlst:∀ q u (i:Nat) a x,S q = some u->(ad q)[i]? = some a->u.fs[i]? = some x->a ≠ p/\a ≠ l:=λq u i a x hq ha hx=>by
  obtain ⟨vs,h1,_⟩:=k.lst q u i a x hq ha hx;refine ⟨λz=>?_,λz=>?_⟩
  ·obtain ⟨_,h2,_⟩:=k.obj p o h;rw [z,h2] at h1;cases h1
  ·rw [z,hl] at h1;cases h1
 have inFs:∀ q u (i:Nat) a,S q = some u->(ad q)[i]? = some a->∃ x,u.fs[i]? = some x:=λq u i a hq ha=>by
  obtain ⟨_,_,h2⟩:=k.obj q u hq
  have:=(YAd.mp ha).1
  exact ⟨_,YAk (by rw [<- h2];exact this)⟩
 have some':∀ q,upS S p ⟨o.C,fs'⟩ q ≠ none->∃ u,S q = some u:=λq hq=>by
  by_cases e:q = p
  ·exact ⟨o,e ▸ h⟩
  ·rw [zc0 e] at hq;cases z:S q with
   | none=>exact absurd z hq
   | some u=>exact ⟨u,rfl⟩
 refine ⟨λq u hq=>?_,λq u i a x hq ha hx=>?_,λq r i n a hq hr ha hb=>?_,λa u ha=>?_,λa ha=>?_⟩
 ·by_cases e:q = p
  ·subst e;rw [zaR] at hq;cases hq;exact ⟨dx,by rw [zae,zdp],by rw [zdp];exact g.len⟩
  ·rw [zc0 e] at hq;obtain ⟨d,h1,h2⟩:=k.obj q u hq;have ql:q ≠ l:=λz=>mp q u hq (z ▸ hl);exact ⟨d,by rw [upd_ne e,upd_ne ql,zfK e];exact h1,by rw [zfK e];exact h2⟩
 ·by_cases e:q = p
  ·subst e;rw [zaR] at hq;cases hq;rw [zdp] at ha;rcases g.at_ i a ha with ⟨z1,z2⟩ | ⟨z1,z2,z3⟩
   ·subst z1 z2;have hx':fs'[i]? = some x:=hx;rw [g.new] at hx';cases hx';exact ⟨ws,by rw [upd_ne (YAO pl),zae],hw⟩
   ·have hx':fs'[i]? = some x:=hx;rw [z3] at hx';obtain ⟨vs,h1,h2⟩:=k.lst q o i a x h z2 hx';obtain ⟨n1,n2⟩:=mlst q o i a x h z2 hx';exact ⟨vs,by rw [upd_ne n1,upd_ne n2];exact h1,h2⟩
  ·rw [zc0 e] at hq;rw [zfK e] at ha;obtain ⟨vs,h1,h2⟩:=k.lst q u i a x hq ha hx;obtain ⟨n1,n2⟩:=mlst q u i a x hq ha hx;exact ⟨vs,by rw [upd_ne n1,upd_ne n2];exact h1,h2⟩
 ·have old:∀ q (i:Nat),upS S p ⟨o.C,fs'⟩ q ≠ none->(adS ad p as' q)[i]? = some a->(q = p/\i = j/\a = l)\/((q = p->i ≠ j)/\(ad q)[i]? = some a/\a ≠ l):=λq i hq ha=>by
   obtain ⟨u,hu⟩:=some' q hq;by_cases e:q = p
   ·subst e;rw [zdp] at ha;rcases g.at_ i a ha with ⟨z1,z2⟩ | ⟨z1,z2,z3⟩
    ·exact .inl ⟨rfl,z1,z2⟩
    ·obtain ⟨x,hx⟩:=inFs q u i a hu z2;exact .inr ⟨λ_=>z1,z2,(mlst q u i a x hu z2 hx).2⟩
   ·rw [zfK e] at ha;obtain ⟨x,hx⟩:=inFs q u i a hu ha;exact .inr ⟨λz=>absurd z e,ha,(mlst q u i a x hu ha hx).2⟩
  rcases old q i hq ha with ⟨a1,a2,a3⟩ | ⟨a1,a2,a3⟩
  ·rcases old r n hr hb with ⟨b1,b2,b3⟩ | ⟨b1,b2,b3⟩
   ·exact ⟨a1.trans b1.symm,a2.trans b2.symm⟩
   ·exact absurd a3 b3
  ·rcases old r n hr hb with ⟨b1,b2,b3⟩ | ⟨b1,b2,b3⟩
   ·exact absurd b3 a3
   ·obtain ⟨u,hu⟩:=some' q hq;obtain ⟨w,hw'⟩:=some' r hr;exact k.dis q r i n a (by rw [hu];simp) (by rw [hw'];simp) a2 b2
 ·by_cases e:a = p
  ·subst e;rw [zae] at ha;cases ha;exact λz=>z
  ·rw [upd_ne e] at ha;by_cases e':a = l
   ·subst e';rw [zae] at ha;cases ha;exact λz=>z
   ·rw [upd_ne e'] at ha;exact k.kin a u ha
 ·by_cases e:a = p
  ·subst e;exact k.ap a (mp a o h)
  ·rw [upd_ne e] at ha;by_cases e':a = l
   ·subst e';exact ⟨gl,lb⟩
   ·rw [upd_ne e'] at ha;exact k.ap a ha
def putO (f:Str) (xs:List D):List (Str × List D)->List (Str × List D)
 | []=>[(f,xs)]
 | (g,y) :: r=>if g = f then (g,xs) :: r else (g,y) :: putO f xs r
def putA (f:Str) (l:Addr):List (Str × List D)->List Addr->List Addr
 | [],_=>[l]
 | (g,_) :: r,a :: as=>if g = f then l :: as else a :: putA f l r as
 | _ :: _,[]=>[]
theorem zmG {f:Str} {xs:List D} {l:Addr}:∀ {fs:List (Str × List D)} {as:List Addr},as.length = fs.length->putF f (.ref l) (kvF fs as) = kvF (putO f xs fs) (putA f l fs as)
 | [],[],_=>rfl
 | (g,y) :: fs,a :: as,h=>by
  show (if g = f then (g,V.ref l) :: kvF fs as else (g,V.ref a) :: putF f (.ref l) (kvF fs as)) = kvF (if g = f then (g,xs) :: fs else (g,y) :: putO f xs fs) (if g = f then l :: as else a :: putA f l fs as);by_cases e:g = f
  ·rw [if_pos e,if_pos e,if_pos e];rfl
  ·rw [if_neg e,if_neg e,if_neg e,zmG (xs:=xs) (by simpa using h)];rfl
theorem puts {f:Str} {xs:List D} {l:Addr}:∀ {fs:List (Str × List D)} {as:List Addr},as.length = fs.length->∃ j,Gets fs (putO f xs fs) as (putA f l fs as) j f xs l
 | [],[],_=>⟨0,rfl,rfl,λi a h=>by
  cases i with
  | zero=>exact .inl ⟨rfl,by simpa [putA] using h.symm⟩
  | succ i=>simp [putA] at h⟩
 | (g,y) :: fs,a :: as,h=>by
  unfold putO putA;by_cases e:g = f
  ·rw [if_pos e,if_pos e];subst e;refine ⟨0,by simpa using h,rfl,λi c hc=>?_⟩;cases i with
   | zero=>exact .inl ⟨rfl,by simpa using hc.symm⟩
   | succ i=>exact .inr ⟨by omega,by simpa using hc,rfl⟩
  ·rw [if_neg e,if_neg e];obtain ⟨j,g1,g2,g3⟩:=puts (f:=f) (xs:=xs) (l:=l) (fs:=fs) (as:=as) (by simpa using h);refine ⟨j + 1,by simpa using g1,by simpa using g2,λi c hc=>?_⟩;cases i with
   | zero=>exact .inr ⟨by omega,by simpa using hc,rfl⟩
   | succ i=>
    rcases g3 i c (by simpa using hc) with ⟨z1,z2⟩ | ⟨z1,z2,z3⟩
    ·exact .inl ⟨by omega,z2⟩
    ·exact .inr ⟨by omega,by simpa using z2,by simpa using z3⟩
section
variable {X:Cx} {b:Bo} {e:Expr} {pos p fpos:Pos}
def setO (i:Nat) (f:Str) (C:Addr) (F:Sto->WL):WF:=λE S ρ=>match ρ[i]? with
 | some (.val (.obj q))=>F S ρ λxs=>∃ o,S q = some o/\o.C = C/\o.fs.length < 100/\E.nx (upS S q ⟨o.C,putO f (xs.map D.old) o.fs⟩) ρ
 | _=>False
theorem zhx (i:Nat) {x f:Str} {C:Addr} {F:Sto->WL} (hF:∀ S M G1,DF X (reB b S M G1) e (F S)) (hc:Cls X.K C) (hn:NoAttr X.K C f) (hN:X.N[i]? = some x:=by rfl) (hv:Vis X.env.scope x:=by first | exact Or.inl rfl | exact Or.inr (Or.inl rfl) | exact Or.inr (Or.inr rfl))
  (hd:(x == ("__debug__" : Str)) = false:=by decide) (hcd:(x == ("__classdict__" : Str)) = false:=by decide) (hs:swapsWith e (some (.Attribute (.Name x p) f fpos)) pos.line X.env = pure false:=by rfl):OS X b (.Assign [.Attribute (.Name x p) f fpos] e pos) (setO i f C F) where
 mono:=λE E' S ρ l q=>by
  unfold setO at q ⊢;split at q
  ·exact (hF S (λ_=>none) (λ_=>none)).mono ρ _ _ (λxs ⟨o,h1,h2,h3,h4⟩=>⟨o,h1,h2,h3,l.nx _ _ h4⟩) q
  ·exact q.elim
 ps:=λpins s σ H Ds I ⟨ρ,G,S,M,⟨G1,u,r⟩,q⟩=>zsC (zbf hN hv hd hcd) (hF S M G1).pe hs pins s σ H Ds I (by
  unfold setO at q;split at q
  ·rename_i a0 ei
   refine ⟨ρ,G,r,(hF S M G1).mono ρ _ _ (λxs ⟨o,h1,h2,h3,h4⟩ l vs H1 G' t hl gl hl0 hv=>?_) q⟩;obtain ⟨v,ev,rv⟩:=r.slot i _ ei;have rv':v = V.ref a0:=rv;subst rv';have r1:=r.step t;obtain ⟨ad,k⟩:=r.kn;have k1:Kn b.K b.β G' S M ad:=k.mono r1.stp.gg r1.apart;obtain ⟨dx,g1,g2⟩:=k1.obj a0 o h1;have qm:M a0 ≠ none:=by rw [g1];simp
   have qb:=(u.mb a0 qm).2.2;have lb:l ≠ b.β:=r.neβ hl0;have hM:∀ c w,M c = some w->H c = some w:=λc w hc=>r.stp.fr c w (u.mb c (by rw [hc];simp)).2.2 (zfa hc);have hM1:∀ c w,M c = some w->H1 c = some w:=λc w hc=>t.fr c w (u.mb c (by rw [hc];simp)).2.2 (hM c w hc);have ml:M l = none:=by
    cases z:M l with
    | none=>rfl
    | some w=>rw [hM l w z] at hl0;cases hl0
   have ql:a0 ≠ l:=λz=>qm (z ▸ ml);obtain ⟨j,g⟩:=puts (f:=f) (xs:=xs.map D.old) (l:=l) g2;have hw:Reps (nub b.K b.β G') G' (xs.map D.old) vs:=Reps.hand (c:=reB b S M G1) (c':=nub b.K b.β G') rfl rfl hv;have k2:=k1.newL (dx:=dx) h1 ml gl lb g hw;refine ⟨.ref a0,ev,a0,o.C,dx,_,rfl,hM1 _ _ g1,h2 ▸ hc,h2 ▸ hn,by unfold kvF;rw [YAc,YBm,g2,YBC];omega,?_⟩;rw [zmG (xs:=xs.map D.old) g2];have dm:Dm M (upd (upd M l (.lst vs)) a0 (.ins o.C dx (kvF (putO f (xs.map D.old) o.fs) (putA f l o.fs (ad a0))))):=λc hc=>by
    by_cases e:c = a0
    ·subst e;rw [zae];simp
    ·rw [upd_ne e];by_cases e':c = l
     ·subst e';rw [zae];simp
     ·rw [upd_ne e'];exact hc
   have ef:Eff b.β M (upd (upd M l (.lst vs)) a0 (.ins o.C dx (kvF (putO f (xs.map D.old) o.fs) (putA f l o.fs (ad a0))))) H G (upd H1 a0 (.ins o.C dx (kvF (putO f (xs.map D.old) o.fs) (putA f l o.fs (ad a0))))) G':=by
    refine ⟨t.gg,λc w hc=>?_,λc w n hc hw=>?_,λc w hc=>?_,λc hc=>?_,λc hc=>k2.ap c hc,t.nw,?_,λcc q1 r1 d1 hb=>?_,dm⟩
    ·rw [upd_ne (λz=>by rw [z,r1.apart a0 qm] at hc;cases hc)];exact t.gh c w hc
    ·rw [upd_ne (λz=>by rw [z] at hc;exact qm hc)];exact t.fr c w n hw
    ·by_cases e:c = a0
     ·subst e;rw [zae] at hc ⊢;exact hc
     ·rw [upd_ne e] at hc ⊢;by_cases e':c = l
      ·subst e';rw [zae] at hc;cases hc;exact hl
      ·rw [upd_ne e'] at hc;exact hM1 c w hc
    ·by_cases e:c = a0
     ·subst e;exact .inl qm
     ·rw [upd_ne e] at hc;by_cases e':c = l
      ·subst e';exact .inr hl0
      ·rw [upd_ne e'] at hc;exact .inl hc
    ·obtain ⟨cc,q1,r2,d1,ns,hb,z⟩:=t.bx.ex;exact ⟨⟨cc,q1,r2,d1,ns,by rw [upd_ne (YAO qb)];exact hb,z⟩,t.bx.still⟩
    ·obtain ⟨q2,r2,d2,hb'⟩:=t.bc cc q1 r1 d1 hb;exact ⟨q2,r2,d2,by rw [upd_ne (YAO qb)];exact hb'⟩
   exact h4 σ _ G' _ ⟨G',u.eff r ef,r.eff (λc hc=>⟨(u.mb c hc).1,(u.mb c hc).2.2⟩) ef ⟨_,k2⟩⟩ t.gg dm
  ·exact q.elim)
end
section
variable {X:Cx} {b:Bo} {pos p:Pos} {y:Str->Sto->Prop}
@[reducible] def zq6 (C:Addr) (F:FnF) (y:Str->Sto->Prop):WOE:=λ_ S Q=>∀ a,S a = none->upF F [.obj a] (upS S a ⟨C,[]⟩) (λd S2=>d = .non/\Q (.obj a) S2) y
theorem Kn.new {K:PySem.W.Frag} {β:Addr} {G:Hp} {S:Sto} {M:Hp} {ad:Addr->List Addr} {a dx C:Addr} (k:Kn K β G S M ad) (hm:M a = none) (ga:G a = none) (ab:a ≠ β):Kn K β G (upS S a ⟨C,[]⟩) (upd M a (.ins C dx [])) (adS ad a []):=by
 have mp:∀ q u,S q = some u->M q ≠ none:=λq u hq=>by obtain ⟨_,h1,_⟩:=k.obj q u hq;rw [h1];simp
 have nl:∀ {q:Addr} {i:Nat} {c:Addr},(adS ad a [] q)[i]? = some c->q ≠ a/\(ad q)[i]? = some c:=λ{q i c} h=>by
  by_cases e:q = a
  ·subst e;rw [zdp] at h;simp at h
  ·rw [zfK e] at h;exact ⟨e,h⟩
 refine ⟨λq u hq=>?_,λq u i c x hq hc hx=>?_,λq r i n c hq hr hc hd=>?_,λc u hc=>?_,λc hc=>?_⟩
 ·by_cases e:q = a
  ·subst e;rw [zaR] at hq;cases hq;exact ⟨dx,by rw [zae,zdp];rfl,by rw [zdp];rfl⟩
  ·rw [zc0 e] at hq;obtain ⟨d,h1,h2⟩:=k.obj q u hq;exact ⟨d,by rw [upd_ne e,zfK e];exact h1,by rw [zfK e];exact h2⟩
 ·obtain ⟨e,hc'⟩:=nl hc;rw [zc0 e] at hq;obtain ⟨vs,h1,h2⟩:=k.lst q u i c x hq hc' hx;exact ⟨vs,by rw [upd_ne (λz=>by rw [z,hm] at h1;cases h1)];exact h1,h2⟩
 ·obtain ⟨e1,c1⟩:=nl hc;obtain ⟨e2,c2⟩:=nl hd;rw [zc0 e1] at hq;rw [zc0 e2] at hr;exact k.dis q r i n c hq hr c1 c2
 ·by_cases e:c = a
  ·subst e;rw [zae] at hc;cases hc;exact λz=>z
  ·rw [upd_ne e] at hc;exact k.kin c u hc
 ·by_cases e:c = a
  ·subst e;exact ⟨ga,ab⟩
  ·rw [upd_ne e] at hc;exact k.ap c hc
theorem zrE {x:Str} {C f:Addr} {fd:FuncData} {k:Nat} {ps:List Str} {F:FnF} (T:Mk X.K C f) (FO:FnOk X.prog X.w X.K X.mg X.base (CXN X.prog X.w) k f fd ps (spO X.K X.mg 1 F)) (hm:X.mg x = some (.ref C)) (hb:Binds X.K fd ps []) (hx:zbp (CXN X.prog X.w) X (XO b X.mg y)) (hg:Gl X x:=by rfl)
  (hdb:(x == ("__debug__" : Str)) = false:=by decide) (hK:b.K = X.K:=by rfl) (hr:Room (k + 1) X.A:=by decreasing_trivial):OE X b (.Call (.Name x p) [] [] pos) (zq6 C F y) where
 mono:=λρ S Q Q' l q a ha=>zdj F (λd S2 z=>⟨z.1,l _ _ z.2⟩) (λ_ _ z=>z) (q a ha)
 pe:=zay (zn2 T FO hr hg hm hb .nil hx hdb) λσ H Q ⟨ρ,G,S,M,⟨G1,u,r⟩,q⟩=>by
  intro a dx ha hdx ne;obtain ⟨ad,kn⟩:=r.kn;have k1:Kn b.K b.β G S M ad:=kn.mono r.stp.gg r.apart;have hM:∀ c w,M c = some w->H c = some w:=λc w hc=>r.stp.fr c w (u.mb c (by rw [hc];simp)).2.2 (zfa hc);have free:∀ {c},H c = none->M c = none:=λ{c} h=>by
   cases z:M c with
   | none=>rfl
   | some w=>rw [hM c w z] at h;cases h
  have ma:=free ha;have sa:S a = none:=by
   cases z:S a with
   | none=>rfl
   | some o=>obtain ⟨_,h1,_⟩:=k1.obj a o z;rw [ma] at h1;cases h1
  have ab:a ≠ b.β:=r.neβ ha;have db:dx ≠ b.β:=r.neβ hdx;have k2:=k1.new (a:=a) (dx:=dx) (C:=C) ma (zai r.gh ha) ab;have ha':upd H dx (.own a) a = none:=by rw [upd_ne (YAO ne)];exact ha
  have dm:Dm M (upd M a (.ins C dx [])):=λc hc=>by
   by_cases e:c = a
   ·subst e;rw [zae];simp
   ·rw [upd_ne e];exact hc
  have keep:∀ c w,H c = some w->upd (upd H dx (.own a)) a (.ins C dx []) c = some w:=λc w hc=>by
   rw [upd_ne (λz=>by rw [z,ha] at hc;cases hc),upd_ne (λz=>by rw [z,hdx] at hc;cases hc)];exact hc
  have ef:Eff b.β M (upd M a (.ins C dx [])) H G (upd (upd H dx (.own a)) a (.ins C dx [])) G:=by
   refine ⟨Same.refl _,λc w hc=>keep c w (r.gh c w hc),λc w _ _ hc=>keep c w hc,λc w hc=>?_,λc hc=>?_,λc hc=>k2.ap c hc,λc hc=>.inl hc,(r.bx.new hdx).new ha',λcc q1 r1 d1 hb=>⟨q1,r1,d1,keep _ _ hb⟩,dm⟩
   ·by_cases e:c = a
    ·subst e;rw [zae] at hc ⊢;exact hc
    ·rw [upd_ne e] at hc;exact keep c w (hM c w hc)
   ·by_cases e:c = a
    ·subst e;exact .inr ha
    ·rw [upd_ne e] at hc;exact .inl hc
  have rs:RepsF b (upS S a ⟨C,[]⟩) (upd M a (.ins C dx [])) ρ σ (upd (upd H dx (.own a)) a (.ins C dx [])) G [.obj a] [.ref a]:=
   ⟨G,u.eff r ef,r.eff (λc hc=>⟨(u.mb c hc).1,(u.mb c hc).2.2⟩) ef ⟨_,k2⟩,.ref a,[],rfl,rfl,rfl⟩
  refine RelF.give hK rs rfl (zdj F (λd S2 z v H2 G2 M2 r2 s2 m2=>?_) (λnm S2 z C2 H2 G2 M2 hc r2 s2 m2=>⟨nm,C2,S2,M2,ρ,σ,G2,rfl,z,hc,r2⟩) (q a sa));obtain ⟨z1,z2⟩:=z;subst z1;obtain ⟨Ga,oa,ra,ea⟩:=r2;have ev:v = V.non:=ea;exact ⟨ev,z2 (.ref a) H2 G2 M2 ⟨Ga,oa,ra,rfl⟩ s2 (dm.trans m2)⟩
end
theorem zgg {c:Bk} {G:Hp}:∀ {xs:List D} {d:D} {vs:List V},Reps c G (xs ++ [d]) vs->∃ ws v,vs = ws ++ [v]/\Reps c G xs ws/\Rep c G d v
 | [],d,vs,⟨v,ws,h1,h2,h3⟩=>by cases h3;exact ⟨[],v,h1,rfl,h2⟩
 | x :: xs,d,vs,⟨v,ws,h1,h2,h3⟩=>by
  obtain ⟨us,w,e1,e2,e3⟩:=zgg (xs:=xs) h3;subst e1 h1;exact ⟨v :: us,w,rfl,⟨v,us,rfl,h2,e2⟩,e3⟩
section
variable {X:Cx} {b:Bo} {e:Expr} {es:List Expr} {pos p npos:Pos}
@[reducible] def zsM (n:Nat) (F:Fn) (R:WOA):WOE:=λρ S Q=>R ρ S λds S1=>ds.length = n/\up F ds λd=>Q d S1
theorem zrf {x:Str} {k n:Nat} {ps:List Str} {F:Fn} {R:WOA} (C:Cal X.prog X.w X.K X.mg X.base x k ps (spD X.K n F)) (hR:OA X b (e :: es) R) (hg:Gl X x:=by rfl)
  (hdb:(x == ("__debug__" : Str)) = false:=by decide) (he:starEach (e :: es) X.env = (false,eval e X.env) :: starEach es X.env:=by rfl) (hpl:(backTo pos (starEach es X.env)).any (·.1) = false:=by rfl) (hK:b.K = X.K:=by rfl) (hr:Room k X.A:=by decreasing_trivial) :
  OE X b (.Call (.Name x p) (e :: es) [] pos) (zsM n F R) where
 mono:=λρ S Q Q' l q=>hR.mono ρ S _ _ (λds S1 z=>⟨z.1,zbU F ds _ _ (λd w=>l d S1 w) z.2⟩) q
 pe:=by
  obtain ⟨f,fd,FO,hm,hk,hb⟩:=C.ex;refine zay (zdL FO hr hg hm hk hb .nil zjT hR.pa hdb he hpl) λσ H Q ⟨ρ,G,S,M,r,q⟩=>⟨ρ,G,S,M,r,hR.mono ρ S _ _ (λds S1 z vs H' G' M' r' s' m'=>?_) q⟩;show spD X.K n F (vs ++ []) H' Q E0;rw [YAR];obtain ⟨Ga,oa,ra,ea⟩:=r';exact ⟨b.β,G',ds,ra.gh,ra.bx,Reps.back (c':=reB b S1 M' Ga) (c:=⟨X.K,b.β,λ_=>none,G',True⟩) hK rfl (λ_ _=>rfl) ea,by rw [<- ea.length];exact z.1,
   zbU F ds _ _ (λd w v H2 G2 t2 e2=>w v H2 G2 M' ⟨Ga,oa,ra.step t2,Rep.back (c':=⟨X.K,b.β,H',G',True⟩) (c:=reB b S1 M' Ga) hK.symm rfl (λa h=>ra.new0 h) e2⟩ (s'.trans t2.gg) m') z.2⟩
@[reducible] def ifNO (A:WOE) (U V:WF):WF:=λE S ρ=>A ρ S λd S1=>truD d λt=>if t = true then V E S1 ρ else U E S1 ρ
theorem zrg {A:WOE} {U V:WF} {x y:List Stmt} (hA:OE X b e A) (hU:OSs X b x U) (hV:OSs X b y V) (he:∀ whole,isTrue e X.env whole = (do let v <- whole;standAt e.pos;holding [v] (truthy v)):=by intro _;rfl) (hK:b.K = X.K:=by rfl):OS X b (.If (.UnaryOp .Not e npos) x y pos) (ifNO A U V) where
 mono:=λE E' S ρ l q=>hA.mono ρ S _ _ (λd S1 z=>zf0 d (λt z=>by
  cases t
  ·exact hU.mono _ _ S1 ρ l z
  ·exact hV.mono _ _ S1 ρ l z) z) q
 ps:=zbe (zjO (zmE (zfx hA.pe he)) hU.pss hV.pss) λD σ H ⟨ρ,G,S,M,r,q⟩=>⟨ρ,G,S,M,r,hA.mono ρ S _ _ (λd S1 z v H' G' M' r' s' m'=>by
  obtain ⟨Ga,oa,ra,ea⟩:=r';unfold truD at z;split at z
  ·rename_i k hk
   refine ⟨k,hK ▸ zjy ra.gh ea hk,?_⟩;cases k
   ·exact ⟨ρ,G',S1,M',⟨Ga,oa,ra⟩,hU.mono _ _ S1 ρ (zcm s' m') z⟩
   ·exact ⟨ρ,G',S1,M',⟨Ga,oa,ra⟩,hV.mono _ _ S1 ρ (zcm s' m') z⟩
  ·exact z.elim) q⟩
end
section
variable {X:Cx} {b:Bo} {c:Bk} {e:Expr} {es:List Expr} {pos cpos p np:Pos}
@[reducible] def zo1 (n:Nat) (F:FnX) (y:Str->Sto->Prop) (R:WOA):WOE:=λρ S Q=>R ρ S λds S1=>ds.length = n/\upX F ds (λd=>Q d S1) λnm=>y nm S1
theorem zp0 {x:Str} {k n:Nat} {ps:List Str} {F:FnX} {R:WOA} {y:Str->Sto->Prop} (C:CalX X.prog X.w X.K X.mg X.base x k ps (spDX X.K X.mg n F)) (hR:OA X b (e :: es) R) (hx:zbp (CXN X.prog X.w) X (XO b X.mg y)) (hg:Gl X x:=by rfl)
  (hdb:(x == ("__debug__" : Str)) = false:=by decide) (he:starEach (e :: es) X.env = (false,eval e X.env) :: starEach es X.env:=by rfl) (hpl:(backTo pos (starEach es X.env)).any (·.1) = false:=by rfl) (hK:b.K = X.K:=by rfl) (hr:Room k X.A:=by decreasing_trivial) :
  OE X b (.Call (.Name x p) (e :: es) [] pos) (zo1 n F y R) where
 mono:=λρ S Q Q' l q=>hR.mono ρ S _ _ (λds S1 z=>⟨z.1,zd6 F (λd w=>l d S1 w) (λ_ w=>w) z.2⟩) q
 pe:=by
  obtain ⟨f,fd,FO,hm,hk,hb⟩:=C.ex;refine zay (zdL FO hr hg hm hk hb .nil hx hR.pa hdb he hpl) λσ H Q ⟨ρ,G,S,M,r,q⟩=>⟨ρ,G,S,M,r,hR.mono ρ S _ _ (λds S1 z vs H' G' M' r' s' m'=>?_) q⟩;show spDX X.K X.mg n F (vs ++ []) H' Q _;rw [YAR];obtain ⟨Ga,oa,ra,ea⟩:=r';exact ⟨b.β,G',ds,ra.gh,ra.bx,Reps.back (c':=reB b S1 M' Ga) (c:=⟨X.K,b.β,λ_=>none,G',True⟩) hK rfl (λ_ _=>rfl) ea,by rw [<- ea.length];exact z.1,
   zd6 F (λd w v H2 G2 t2 e2=>w v H2 G2 M' ⟨Ga,oa,ra.step t2,Rep.back (c':=⟨X.K,b.β,H',G',True⟩) (c:=reB b S1 M' Ga) hK.symm rfl (λa h=>ra.new0 h) e2⟩ (s'.trans t2.gg) m') (λnm w C H2 G2 hc t2=>⟨nm,C,S1,M',ρ,σ,G2,rfl,w,hc,Ga,oa,ra.step t2⟩) z.2⟩
def XD (c:Bk) (mg:Str->Option Value) (y:Str->Prop):XK:=λv _ H'=>∃ nm C G',v = .ref C/\y nm/\mg nm = some (.ref C)/\Stp c.β c.H0 c.G0 H' G'
@[reducible] def zdY (n:Nat) (F:FnX) (y:Str->Prop) (R:WL):WE:=λρ Q=>R ρ λds=>ds.length = n/\upX F ds Q y
theorem zdA {x:Str} {k n:Nat} {ps:List Str} {F:FnX} {R:WL} {y:Str->Prop} (C:CalX X.prog X.w X.K X.mg X.base x k ps (spDX X.K X.mg n F)) (hR:DA X c (e :: es) R) (hx:zbp (CXN X.prog X.w) X (XD c X.mg y)) (hg:Gl X x:=by rfl)
  (hdb:(x == ("__debug__" : Str)) = false:=by decide) (he:starEach (e :: es) X.env = (false,eval e X.env) :: starEach es X.env:=by rfl) (hpl:(backTo pos (starEach es X.env)).any (·.1) = false:=by rfl) (hK:c.K = X.K:=by rfl) (hr:Room k X.A:=by decreasing_trivial) :
  DE X c (.Call (.Name x p) (e :: es) [] pos) (zdY n F y R) where
 mono:=λρ Q Q' l q=>hR.mono ρ _ _ (λds z=>⟨z.1,zd6 F l (λ_ w=>w) z.2⟩) q
 pe:=by
  obtain ⟨f,fd,FO,hm,hk,hb⟩:=C.ex;refine zay (zdL FO hr hg hm hk hb .nil hx hR.pa hdb he hpl) λσ H Q ⟨ρ,G,r,q⟩=>⟨ρ,G,r,hR.mono ρ _ _ (λds z vs H' G' t ea=>?_) q⟩;show spDX X.K X.mg n F (vs ++ []) H' Q _;rw [YAR];have ra:=r.step t;exact ⟨c.β,G',ds,t.gh,t.bx,Reps.back (c':=c) (c:=⟨X.K,c.β,λ_=>none,G',True⟩) hK rfl (λ_ _=>rfl) ea,by rw [<- ea.length];exact z.1,
   zd6 F (λd w v H2 G2 t2 e2=>w v H2 G2 (t.trans t2) (Rep.back (c':=⟨X.K,c.β,H',G',True⟩) (c:=c) hK.symm rfl (λa h=>ra.new0 h) e2)) (λnm w C H2 G2 hc t2=>⟨nm,C,G2,rfl,w,hc,ra.stp.trans t2⟩) z.2⟩
@[reducible] def rzF (R:Sto->WL) (y:Sto->Prop):WF:=λ_ S ρ=>R S ρ λds=>ds.length <= 1000/\y S
theorem znJ {x:Str} {C:Addr} {R:Sto->WL} {y:Sto->Prop} (hR:∀ S M G1,DA X.nox (reB b S M G1) (e :: es) (R S)) (hx:∀ pins s σ H G h' ea us S M ρ,Inv X pins σ H s->RelF b S M ρ σ H G->Heap.MadeExcOf s.heap h' ea (.ref C) us->y S->X.xe (.ref ea) { s with heap:=h' }) (ho:PySem.W.excIn X.K C ze3 "ValueError.__new__" = true) (hm:X.mg x = some (.ref C)) (hc:X.calm = true:=by rfl) (hg:Gl X x:=by rfl)
  (hd:(x == ("__debug__" : Str)) = false:=by decide) (he:starEach (e :: es) X.env = (false,eval e X.env) :: starEach es X.env:=by rfl) (hpl:(backTo cpos (starEach es X.env)).any (·.1) = false:=by rfl):OS X b (.Raise (some (.Call (.Name x np) (e :: es) [] cpos)) none pos) (rzF R y) where
 mono:=λE E' S ρ l q=>q
 ps:=λpins s σ H D I ⟨ρ,G,S,M,⟨G1,o,r⟩,q⟩=>zkq (Y:=λ_ σ' H'=>y S/\∃ G',RelF b S M ρ σ' H' G') hc ho hg hm (PA.nox (hR S M G1).pa) (λpins s σ H h' ea us I m _ ⟨z,G,t⟩=>hx pins s σ H G h' ea us S M ρ I t m z) hd he hpl pins s σ H D I
  ⟨ρ,G,r,(hR S M G1).mono ρ _ _ (λds z vs H' G' t v=>⟨by rw [<- v.length,YAQ];have:=z.1;omega,z.2,G',G1,o,r.step t⟩) q⟩
end
end Fd
namespace L2
open PySem PySem.Spec PyProof.Rows PySem.W
section
variable {X:Cx} {CX:CXT} {E:XK} {x:Str} {i:Nat} {p pos:Pos} {e:Expr} {es:List Expr} {t:TA}
def zrB (X:Cx) (CX:CXT) (i:Nat) (E:XK) (t:TA):TE:=λσ H Q=>∃ f fd k ps sp,σ[i]? = some (some (V.ref f))/\FnOk X.prog X.w X.K X.mg X.base CX k f fd ps sp/\Room k X.A/\PySem.W.keepIn X.K (.ref f) = true/\Binds X.K fd ps []/\t σ H λvs H1=>sp (vs ++ []) H1 Q E
theorem zox (hN:X.N[i]? = some x) (hv:Vis X.env.scope x) (hx:zbp CX X E) (ha:PA X (e :: es) t) (hd:(x == ("__debug__" : Str)) = false:=by decide) (hcd:(x == ("__classdict__" : Str)) = false:=by decide)
  (he:starEach (e :: es) X.env = (false,eval e X.env) :: starEach es X.env:=by rfl) (hpl:(backTo pos (starEach es X.env)).any (·.1) = false:=by rfl):PE X (.Call (.Name x p) (e :: es) [] pos) (zrB X CX i E t):=by
 intro pins s σ H Q I ⟨f,fd,k,ps,sp,ev,F,hr,hk,hb,h⟩;obtain ⟨m,hn,hl⟩:=id I.loc;obtain ⟨u,r,l⟩:=hl i x _ hN ev hv;obtain rfl:u = Value.ref f:=r;have go:wpAny (model X.prog X.w) X.A (callWith pos (.ref f) [] (backTo pos (starEach (e :: es) X.env)) (backToKw pos (keywordEach [] X.env))) (EP X pins σ Q) X.xe s:=
  YCj (h₀:=X.base) I.ok.mod.kin hk (thn (ha pos pins s σ H _ I h) λus s1 ⟨vs,H1,I1,r,q⟩=>⟨I1.kIn,ziu F hr hb .nil hx I1 r q⟩) he hpl
 rcases l with ⟨hk,hm⟩ | ⟨hk,c,hc,hcell⟩
 ·exact YA5 (YCn (wpAny_loadName_local I.ok.kind hk hn hm go) hd)
 ·rcases hk with hk | hk
  ·exact YA5 (YCn (wpAny_loadName_cell I.ok.kind hk hc hcell go) hd)
  ·exact YA5 (YCn (wpAny_loadName_free I.ok.kind hk hc hcell go hcd) hd)
end
end L2
namespace Fd
open PySem L2
structure Tab (X:Cx) (n:Nat) (T:List (Addr × FnX)):Prop where
 ex:∀ q ∈ T,∃ fd k ps,FnOk X.prog X.w X.K X.mg X.base (CXN X.prog X.w) k q.1 fd ps (spDX X.K X.mg n q.2)/\Room k X.A/\PySem.W.keepIn X.K (.ref q.1) = true/\Binds X.K fd ps []
section
variable {X:Cx} {c:Bk} {e:Expr} {es:List Expr} {pos p:Pos} {y:Str->Prop}
def zkh (i n:Nat) (T:List (Addr × FnX)) (y:Str->Prop) (R:WL):WE:=λρ Q=>match ρ[i]? with
 | some (.val (.obj f))=>∃ F,(f,F) ∈ T/\R ρ λds=>ds.length = n/\upX F ds Q y
 | _=>False
theorem zqy {x:Str} {i n:Nat} {T:List (Addr × FnX)} {R:WL} (hT:Tab X n T) (hR:DA X c (e :: es) R) (hx:zbp (CXN X.prog X.w) X (XD c X.mg y)) (hN:X.N[i]? = some x:=by rfl) (hv:Vis X.env.scope x:=by first | exact Or.inl rfl | exact Or.inr (Or.inl rfl) | exact Or.inr (Or.inr rfl))
  (hd:(x == ("__debug__" : Str)) = false:=by decide) (hcd:(x == ("__classdict__" : Str)) = false:=by decide) (he:starEach (e :: es) X.env = (false,eval e X.env) :: starEach es X.env:=by rfl) (hpl:(backTo pos (starEach es X.env)).any (·.1) = false:=by rfl) (hK:c.K = X.K:=by rfl) :
  DE X c (.Call (.Name x p) (e :: es) [] pos) (zkh i n T y R) where
 mono:=λρ Q Q' l q=>by
  unfold zkh at q ⊢;split at q
  ·obtain ⟨F,h1,q⟩:=q;exact ⟨F,h1,hR.mono ρ _ _ (λds z=>⟨z.1,zd6 F l (λ_ w=>w) z.2⟩) q⟩
  ·exact q.elim
 pe:=zay (zox hN hv hx hR.pa hd hcd he hpl) λσ H Q ⟨ρ,G,r,q⟩=>by
  unfold zkh at q;split at q
  ·rename_i f ei
   obtain ⟨F,h1,q⟩:=q;obtain ⟨fd,k,ps,FO,hr,hk,hb⟩:=hT.ex _ h1;obtain ⟨v,ev,rv⟩:=r.slot i _ ei;have rv':v = V.ref f:=rv;subst rv';refine ⟨f,fd,k,ps,_,ev,FO,hr,hk,hb,ρ,G,r,hR.mono ρ _ _ (λds z vs H' G' t ea=>?_) q⟩;show spDX X.K X.mg n F (vs ++ []) H' Q _;rw [YAR];have ra:=r.step t;exact ⟨c.β,G',ds,t.gh,t.bx,Reps.back (c':=c) (c:=⟨X.K,c.β,λ_=>none,G',True⟩) hK rfl (λ_ _=>rfl) ea,by rw [<- ea.length];exact z.1,
    zd6 F (λd w v H2 G2 t2 e2=>w v H2 G2 (t.trans t2) (Rep.back (c':=⟨X.K,c.β,H',G',True⟩) (c:=c) hK.symm rfl (λa h=>ra.new0 h) e2)) (λnm w C H2 G2 hc t2=>⟨nm,C,G2,rfl,w,hc,ra.stp.trans t2⟩) z.2⟩
  ·exact q.elim
end
end Fd
namespace L2
open PySem PySem.Spec PyProof.Rows
def EnAt (d:Addr) (es:Array DictEntry) (ep:Nat) (h:Heap):Prop:=∃ o,h.get? d = some o/\o.data = .dict es ep
theorem EnAt.keep {d:Addr} {es:Array DictEntry} {ep:Nat} {h h':Heap} (x:EnAt d es ep h) (k:∀ o,h.get? d = some o->h'.get? d = some o):EnAt d es ep h':=let ⟨o,e,z⟩:=x;⟨o,k _ e,z⟩
section
variable {prog:Program} {w:World} {A:Around} {E:Value->Shared->Prop} {s:Shared} {it d v:Addr} {i ep:Nat} {es:Array DictEntry}
theorem zmd:Builtin.Dict_items.ownsTuple "dict_keyiterator" = false:=by decide
theorem zkJ {Q:Option Value->Shared->Prop} (hit:s.heap.IsKeyIter it d i es.size ep) (hm:EnAt d es ep s.heap) (hi:i < es.size)
  (q:∀ h',h'.IsKeyIter it d (i + 1) es.size ep->Heap.SameBut it s.heap h'->Q (some es[i].key) { s with heap:=h' }):wpAny (model prog w) A (pyNext (.ref it)) Q E s:=by
 obtain ⟨o,ho,hc,hd⟩:=id hit;obtain ⟨od,h1,h2⟩:=hm;unfold pyNext;refine YAa (YB8 (YAE (name:=Str.ofString "__next__") hit.typeIs YA1 (YAX YA1 hit.typeIs F.entry_dict_keyiterator_next ?_ (F.args_dict_keyiterator_next_1 _))));refine YAa (YAe (YAa (YAa (YAa (YBi hit.typeIs (YAe (YAa (wpAny_fieldsOf ho hd ?_))))))));simp only [zmd,YA7,YBE];show wpAny _ _ (if (Value.ref d == Value.none) = true then _ else _) _ _ s;refine zgq YA4 (YAa (YAe (YAa (YCr h1 h2 ?_))));refine zgq (by simp) (YAa (YAe (YAa (YCD h1 h2 ?_))));refine zgq (by simp) (YAe ?_);simp only [show ¬ ((i:Int) < 0) from by omega,YBE,YBu,YBe hi];refine YAa (YAa (YBi hit.typeIs (YAe (YAa (wpAny_isOneOf_keyiter hit.typeIs ?_)))));show wpAny _ _ (setField (.ref it) 1 (rawInt ((i:Int) + 1)) >>= _) _ _ s;refine YAa (YCm ho hd (by simp) ?_);have hit':(s.heap.update it (Obj.mapFields (·.setIfInBounds 1 (rawInt ((i:Int) + 1))))).IsKeyIter it d (i + 1) es.size ep:=
  ⟨_,YBf _ ho (Obj.isFreed_of_fields (YBQ hd _)),(Obj.cls_mapFields ..).trans hc,by rw [YBQ hd];simp [rawInt]⟩
 generalize s.heap.update it (Obj.mapFields (·.setIfInBounds 1 (rawInt ((i:Int) + 1)))) = h3,(YBI s.heap it (Obj.mapFields (·.setIfInBounds 1 (rawInt ((i:Int) + 1)))):Heap.SameBut it s.heap _) = sb at hit' ⊢;refine YAa (YA3 (YAa (wpAny_isOneOf_keyiter (s:={ s with heap:=h3 }) hit'.typeIs ?_)));show wpAny _ _ (pure es[i].key) _ _ _;exact YAe (YAe ⟨_,rfl,YAe (q _ hit' sb)⟩)
theorem zne {Q:Option Value->Shared->Prop} (hh:A.handled = none) (hit:s.heap.IsKeyIter it d es.size es.size ep) (hm:EnAt d es ep s.heap)
  (q:∀ h',Heap.ExtBut it s.heap h'->Q none { s with heap:=h' }):wpAny (model prog w) A (pyNext (.ref it)) Q E s:=by
 obtain ⟨o,ho,hc,hd⟩:=id hit;obtain ⟨od,h1,h2⟩:=hm;unfold pyNext;refine YAa (YB8 (YAE (name:=Str.ofString "__next__") hit.typeIs YA1 (YAX YA1 hit.typeIs F.entry_dict_keyiterator_next ?_ (F.args_dict_keyiterator_next_1 _))));refine YAa (YAe (YAa (YAa (YAa (YBi hit.typeIs (YAe (YAa (wpAny_fieldsOf ho hd ?_))))))));simp only [zmd,YA7,YBE];show wpAny _ _ (if (Value.ref d == Value.none) = true then _ else _) _ _ s;refine zgq YA4 (YAa (YAe (YAa (YCr h1 h2 ?_))));refine zgq (by simp) (YAa (YAe (YAa (YCD h1 h2 ?_))));refine zgq (by simp) (YAe ?_);simp only [show ¬ ((es.size:Int) < 0) from by omega,YBE,YBu,Array.getElem?_eq_none (YAm _)];refine YAa (YAa (YBi hit.typeIs (YAe ?_)));show wpAny _ _ (setField (.ref it) 0 .none >>= _) _ _ s;refine YAa (YCm ho hd (by simp) ?_);show wpAny _ _ (newExc (.type "StopIteration") [] >>= _) _ _ _;refine YAa ?_;simp only [newExc,newTuple];refine YAa (YAN ?_ (by size_fits));refine YAa (m:=firstArgMember _ _) (wpAny_of_eq (a:=Value.none) (by first | rfl | (simp only [firstArgMember];rfl)) ?_);refine YAN ?_ (by size_fits);simp only [raiseNew];refine YAa (wpAny_handled ?_);rw [show A.in1.handled = none from hh];refine YAa (YAe (wpAny_throw ?_));refine YAa (YB0 (T := "StopIteration") (b:=true) ⟨_,YAn _ rfl,rfl⟩ YCJ ?_);exact YAe (q _ (((YBI ..).extBut.push _).push _))
theorem zmn (hh:A.handled = none) (I d:Addr) (hne:d ≠ I) (es:Array DictEntry) (ep:Nat):Walks prog w A I [I,d] [I] es.size (λi v=>(es.map (·.key))[i]? = some v) (λi h=>h.IsKeyIter I d i es.size ep/\EnAt d es ep h) where
 sub:=λb hb=>by simp at hb;simp [hb]
 frame:=λ_ _ _ st hk=>⟨st.1.at λo e=>hk I (by simp) o e,st.2.keep λo e=>hk d (by simp) o e⟩
 item:=λi s Q E hi st q=>zkJ st.1 st.2 hi λh' a b=>q _ h' s.toks (by simp [hi]) ⟨a,st.2.keep λo e=>b.extBut d o hne e⟩ λb' o hb e=>b.extBut b' o (λh=>hb (by simp [h])) e
 done:=λs Q E st q=>zne hh st.1 st.2 λh' a=>q h' s.toks λb o hb e=>a b o (λh=>hb (by simp [h])) e
 self:=λ_ _ _ _ st q=>wpAny_pyIter_keyiter st.1 q
theorem zka {Q:Value->Shared->Prop} (hd:(d == sysModules) = false) (hT:s.TypeIs (.ref d) "dict") (hm:EnAt d es ep s.heap)
  (q:Q (.ref s.heap.objs.size) { s with heap:=s.heap.push { cls:=.type "dict_keyiterator",data:=.fields #[.ref d,.int 0 0,.int es.size 0,.int ep 0] } }):wpAny (model prog w) A (pyIter (.ref d)) Q E s:=by
 obtain ⟨o,e1,e2⟩:=hm;refine wpAny_pyIter_slot hT F.slot_dict_iter (YAX F.slot_dict_iter hT F.entry_dict_iter ?_ (F.args_dict_iter_1 _));unfold Builtin.«dict.__iter__»;refine YAa ?_;unfold Builtin.Dict.dictSlotNone;refine YAa (wpAny_notOrdered_dict hT ?_);show wpAny _ _ (pure (Value.ref d)) _ _ s;refine YAe ?_;show wpAny _ _ (Builtin.Dict.showsAll d >>= _) _ _ s;unfold Builtin.Dict.showsAll;rw [if_neg (by rw [hd];exact YA4)];refine YAa (YAe (YAa (YCr e1 e2 (YAa (YCD e1 e2 ?_)))));refine YAa (YAN (YAe ⟨_,rfl,"dict_keyiterator",_,⟨_,YAn _ rfl,rfl⟩,YA1.lookup,?_⟩))
 simpa [rawInt] using q
theorem zmN {Q:Value->Shared->Prop} (hh:A.handled = none) (hd:(d == sysModules) = false) (hT:∀ h,(∀ o,s.heap.get? d = some o->h.get? d = some o)->Shared.TypeIs { s with heap:=h } (.ref d) "dict") (hm:EnAt d es ep s.heap) (hz:es.size <= 1000)
  (q:∀ h' tk c,(∀ b o,s.heap.get? b = some o->h'.get? b = some o)->h'.get? s.heap.objs.size = some { cls:=.type "list",dict:=none,data:=.seq (es.map (·.key)) c,slots:=#[] }->Q (.ref s.heap.objs.size) { s with heap:=h',toks:=tk }) :
  wpAny (model prog w) A (call (.type "list") [.ref d]) Q E s:=by
 refine callType_codes (Q₁:=λobj s₁=>obj = .ref s.heap.objs.size/\s₁ = { s with heap:=s.heap.push { cls:=.type "list",data:=.seq #[] } }) F.called_list (F.typeCall_list_1 _) F.entry_list_init (code_list_new _ ⟨rfl,rfl⟩) λobj s₁ h₁=>?_;obtain ⟨rfl,rfl⟩:=h₁;have hS:(s.heap.push { cls:=.type "list",data:=.seq #[] }).get? s.heap.objs.size = some { cls:=.type "list",data:=.seq #[] }:=YAn _ rfl;have dlt:d < s.heap.objs.size:=let ⟨o,e,_⟩:=hm;YAj e
 have k1:∀ b o,s.heap.get? b = some o->(s.heap.push { cls:=.type "list",data:=.seq #[] }).get? b = some o:=λb o e=>YAb _ e;have z1:(s.heap.push { cls:=.type "list",data:=.seq #[] }).objs.size = s.heap.objs.size + 1:=YBr ..;refine ⟨⟨_,hS,rfl⟩,F.args_list_init_2 _ _,?_⟩;generalize s.heap.push { cls:=.type "list",data:=.seq #[] } = h1 at *;show wpAny _ _ (do let old <- Builtin.List.listItems (.ref s.heap.objs.size);Builtin.List.listUpdate (.ref s.heap.objs.size) (λ_=>#[]);letGo old.toList.reverse;Builtin.List.listExtendWith (.ref s.heap.objs.size) (.ref d) .none) _ _ { s with heap:=h1 };refine YAa ?_;unfold Builtin.List.listItems;refine YAa (YBd hS rfl (YAe ?_));show wpAny _ _ (updateSeq s.heap.objs.size (λ_=>#[]) >>= λ_=>letGo (#[]:Array Value).toList.reverse >>= λ_=>Builtin.List.listExtendWith (.ref s.heap.objs.size) (.ref d) .none) _ _ { s with heap:=h1 };refine YAa (YCE (s:={ s with heap:=h1 }) hS rfl ?_);have hS2:=YBf (Obj.mapSeq (λ_=>(#[]:Array Value))) hS rfl;have o2:∀ b o,b ≠ s.heap.objs.size->h1.get? b = some o->(h1.update s.heap.objs.size (Obj.mapSeq (λ_=>(#[]:Array Value)))).get? b = some o:=λb o hb e=>(YBn _ _ (YAO hb)).trans e;have z2:(h1.update s.heap.objs.size (Obj.mapSeq (λ_=>(#[]:Array Value)))).objs.size = s.heap.objs.size + 1:=by rw [Heap.size_update];exact z1
 refine YAa (YCL ?_);generalize h1.update s.heap.objs.size (Obj.mapSeq (λ_=>(#[]:Array Value))) = h2 at *;have low:∀ b o,s.heap.get? b = some o->h2.get? b = some o:=λb o e=>o2 b o (YAr (YAj e)) (k1 b o e);have hm2:EnAt d es ep h2:=hm.keep λo e=>low _ _ e;have ty:Shared.TypeIs { s with heap:=h2 } (.ref d) "dict" := hT h2 λo e=>low _ _ e;unfold Builtin.List.listExtendWith;refine YAa (YCk ty ?_);simp only [show Builtin.List.listSameRef (.ref s.heap.objs.size) (.ref d) = false by simp [Builtin.List.listSameRef,YBx dlt],show (Value.type "dict" == Value.type "list") = false by decide,show (Value.type "dict" == Value.type "tuple") = false by decide,Bool.or_false,YA7,YBE];refine YAa (zka (s:={ s with heap:=h2 }) hd ty hm2 ?_);rw [show ({ s with heap:=h2 }:Shared).heap.objs.size = s.heap.objs.size + 1 from z2];have hI:(h2.push { cls:=.type "dict_keyiterator",data:=.fields #[.ref d,.int 0 0,.int es.size 0,.int ep 0] }).IsKeyIter (s.heap.objs.size + 1) d 0 es.size ep:=⟨_,by rw [<- z2];exact YAn _ rfl,rfl,rfl⟩;have k3:∀ b o,h2.get? b = some o->(h2.push { cls:=.type "dict_keyiterator",data:=.fields #[.ref d,.int 0 0,.int es.size 0,.int ep 0] }).get? b = some o:=λb o e=>YAb _ e;generalize h2.push { cls:=.type "dict_keyiterator",data:=.fields #[.ref d,.int 0 0,.int es.size 0,.int ep 0] } = h3 at *;have ty3:Shared.TypeIs { s with heap:=h3 } (.ref d) "dict" := hT h3 λo e=>k3 _ _ (low _ _ e);refine YAa (YA3 ?_);unfold Builtin.List.listLengthHint;refine YAa (YCA ty3 PySem.F.slot_dict_len.lookup ?_);dsimp only;rw [zhJ];dsimp only;refine YAa (YB0 ty3 isSubtype_dict_dict ?_);refine zgq (by decide) (zpn (by decide +kernel) (YAa (YCk ty3 (YAe ?_))));refine zpn (by decide +kernel) (YAa (YB9 (YAa ?_)));show wpAny _ _ (updateSeq s.heap.objs.size (·.push .none) >>= λ_=>updateSeq s.heap.objs.size (·.pop)) _ _ _;have hS3:=k3 _ _ hS2;refine YAa (YCE (s:={ s with heap:=h3 }) hS3 rfl ?_);have hS4:=YBf (Obj.mapSeq (·.push Value.none)) hS3 rfl;refine YCE (hz:=by seq_fits) hS4 rfl ?_;have hS5:=YBf (Obj.mapSeq (·.pop)) hS4 rfl;have o4:∀ b o,b ≠ s.heap.objs.size->h3.get? b = some o->((h3.update s.heap.objs.size (Obj.mapSeq (·.push Value.none))).update s.heap.objs.size (Obj.mapSeq (·.pop))).get? b = some o:=λb o hb e=>
  (YBn _ _ (YAO hb)).trans ((YBn _ _ (YAO hb)).trans e)
 have nS:s.heap.objs.size ∉ [s.heap.objs.size + 1,d]:=by
  simp only [YAu,YAC,YBR,not_or];exact ⟨YAr (YBY _),YBx dlt⟩
 have W:=(zmn (prog:=prog) (w:=w) (A:=A.in1.in1) hh (s.heap.objs.size + 1) d (YAr (YCq dlt)) es ep).toS;refine YAe ⟨plainId_quiet PySem.F.plain_extend_loop _,codeAny_extend_loopS W (by rw [YAQ];omega) _ nS _ es.size 0 _ _ _ rfl (YBv _) ⟨hI.at λo e=>o4 _ _ (YBx (YBY _)) e,(hm2.keep λo e=>k3 _ _ e).keep λo e=>o4 _ _ (YAr dlt) e⟩ hS5 (ItemsOf.nil _) λs' acc' c' hm' hS' hacc=>?_⟩;have ev:acc' = es.map (·.key):=by
  apply Array.ext
  ·rw [hacc.1,Array.size_map]
  ·intro j j1 j2
   have:(es.map (·.key))[j]? = some acc'[j]:=hacc.2 j acc'[j] (by simp [j1])
   rw [YBe j2] at this;exact (Option.some.inj this).symm
 subst ev;obtain ⟨hh',g',d',tk',o'⟩:=s';have eg:g' = s.gens:=hm'.gens;have ed:d' = s.drawn:=hm'.drawn;have eo:o' = s.os:=hm'.os;subst eg ed eo;exact ⟨rfl,q hh' tk' c' (λb o e=>hm'.heap b o (by
  have hb1:=YAj e;simp only [YAu,YAC,YBR,not_or];exact ⟨YAr hb1,YAr (YCq hb1)⟩) (o4 b o (YAr (YAj e)) (k3 b o (low b o e)))) hS'⟩
end
section
variable {X:Cx} {e:Expr} {st:Stmt}
theorem zrN {t:TE} (h:PE X e t):PE X e (λσ H Q=>t σ H λv H1=>∃ a kvs,v = .ref a/\H1 a = some (.dK kvs)/\∀ o,Q v (upd H1 a (.frz o (.dK kvs)))):=λpins s σ H Q I q=>
 thn (h pins s σ H _ I q) λu s1 ⟨v,H1,I1,r,a,kvs,ev,ha,q1⟩=>by
  obtain ⟨o,ho⟩:=(I1.hok a _ ha).ex;exact ⟨v,_,I1.freeze ha ho,r,q1 o⟩
theorem zsF {t:TS} (h:PS X st t):PS X st (λD σ H=>t { D with nx:=λσ1 H1=>∃ a kvs,H1 a = some (.dK kvs)/\∀ o,D.nx σ1 (upd H1 a (.frz o (.dK kvs))) } σ H):=λpins s σ H D I q=>
 thn (h pins s σ H _ I q) λf s1 z=>by
  cases f with
  | next=>
   obtain ⟨σ1,H1,I1,a,kvs,ha,q1⟩:=z;obtain ⟨o,ho⟩:=(I1.hok a _ ha).ex;exact ⟨σ1,_,I1.freeze ha ho,q1 o⟩
  | brk=>exact z
  | cont=>exact z
  | ret u=>exact z
end
theorem zfy {P:Program} {w:World}:∀ {es:List DictEntry} {vs:List (Key × Value)},Pairs (zaS P w) es vs->es.length = vs.length/\∀ (i:Nat) e,es[i]? = some e->∃ p,vs[i]? = some p/\RelV (kV p.1) e.key
 | _,_,.nil=>⟨rfl,λi e h=>by simp at h⟩
 | _,_,.cons h1 _ h3=>by
  obtain ⟨l,f⟩:=zfy h3;refine ⟨by simp [l],λi e h=>?_⟩;cases i with
  | zero=>simp at h;subst h;exact ⟨_,rfl,zr6 h1⟩
  | succ i=>rw [YAw] at h ⊢;exact f i e h
def Itk (d:Addr) (o:Obj) (kvs:List (Key × V)):It:=
 ⟨λi H=>i < kvs.length/\H d = some (.frz o (.dK kvs)),λi H v H'=>H' = H/\∃ p,kvs[i]? = some p/\v = kV p.1,λi H=>i = kvs.length/\H d = some (.frz o (.dK kvs))⟩
theorem zlV {P:Program} {w:World} {K:PySem.W.Frag} {tg:Expr} {it d:Addr} {o:Obj} {kvs:List (Key × V)} {ents:Array DictEntry} {ep:Nat} (ho:o.data = .dict ents ep) :
  Turn P w K tg (Itk d o kvs) [it] it (λi h=>h.IsKeyIter it d i ents.size ep) where
 mem:=by simp
 obj:=λk h st c hc=>by
  rw [YAF.mp hc];obtain ⟨u,e,_,z⟩:=st;exact ⟨u,e,λv q=>by rw [z] at q;cases q⟩
 keep:=λk h h' ⟨u,e,r⟩ q=>⟨u,q it (by simp) u e,r⟩
 item:=by
  intro X hP hw hK hc k pins s σ H E I hf st hg;subst hP hw hK;obtain ⟨hk,hd⟩:=hg;obtain ⟨eo,z,hS,vs,rel,o',es',ep',e',xd,dd,kk,pp,nn⟩:=I.hok d _ hd;rw [eo] at e';cases e';rw [ho] at dd;cases dd;have hlen:kvs.length = vs.length:=rel.length;obtain ⟨l,f⟩:=zfy pp;have hke:k < ents.size:=by rw [<- YBa,l,<- hlen];exact hk
  refine zkJ st ⟨o,eo,ho⟩ hke λh' a b=>⟨_,rfl,?_⟩;obtain ⟨f0,f1,f2,f3,f4,f5⟩:=hf it (by simp);have I1:Inv X pins σ H { s with heap:=h',toks:=s.toks }:=I.turned (t':=s.toks) (λc u hb e=>b.extBut c u hb e) f0 f1 f3 f4 f5;obtain ⟨p,hp,rk⟩:=f k ents[k] (by rw [YBz,YBe hke]);obtain ⟨q,hq⟩:∃ q,kvs[k]? = some q:=⟨_,YAk hk⟩;have e1:q.1 = p.1:=(ziO rel hq hp).1;obtain ⟨u,g1,g2,g3⟩:=id a;exact zlS (s:={ s with heap:=h' }) g1 g2 g3 (by decide) ⟨kV p.1,H,I1,rk,⟨rfl,q,hq,by rw [e1]⟩,a,λc hc=>(hf c hc).1⟩
 done:=by
  intro X hP hw hK hc k pins s σ H E I hf st hg;subst hP hw hK;obtain ⟨hk,hd⟩:=hg;obtain ⟨eo,z,hS,vs,rel,o',es',ep',e',xd,dd,kk,pp,nn⟩:=I.hok d _ hd;rw [eo] at e';cases e';rw [ho] at dd;cases dd;have hlen:kvs.length = vs.length:=rel.length;obtain ⟨l,f⟩:=zfy pp;have hke:k = ents.size:=by rw [<- YBa,l,<- hlen];exact hk
  subst hke;refine zne (I.ok.hd hc) st ⟨o,eo,ho⟩ λh' eb=>⟨rfl,?_⟩;obtain ⟨f0,f1,f2,f3,f4,f5⟩:=hf it (by simp);exact I.turned (t':=s.toks) (λb u hb e=>eb b u hb e) f0 f1 f3 f4 f5
 self:=λ_ _ _ _ _ st h=>wpAny_pyIter_keyiter st h
def zsU (td:TE):TI:=λσ H R=>td σ H λx H1=>∃ d o kvs,x = .ref d/\H1 d = some (.frz o (.dK kvs))/\R (Itk d o kvs) H1
theorem zqW {X:Cx} {tg e:Expr} {td:TE} (ho:PE X e td):PI X tg e (zsU td):=by
 intro pins s σ H R I h;refine thn (ho pins s σ H _ I h) λu s1 ⟨x,H1,I1,rx,d,o,kvs,ex,hd,q⟩=>?_;subst ex;obtain rfl:u = Value.ref d:=rx;obtain ⟨eo,z,hS,vs,rel,o',es',ep',e',xd,dd,kk,pp,nn⟩:=I1.hok d _ hd;rw [eo] at e';cases e';refine zka hS ⟨o,eo,xd.1⟩ ⟨o,eo,dd⟩ ?_;refine ⟨s1.heap.objs.size,[s1.heap.objs.size],_,_,H1,rfl,I1.kept (t':=s1.toks) λb u e=>YAb _ e,zlV dd,⟨_,YAn _ rfl,rfl,rfl⟩,λb hb=>?_,q⟩;rw [YAF.mp hb];exact I1.fpOk (YAm _) (I1.hok.fresh (YAm _))
theorem zis {X:Cx} (hc:X.calm = true):CallR X (.type "list") (λvs H Q=>∃ d kvs,vs = [.ref d]/\Rd H d (.dK kvs)/\kvs.length <= 1000/\∀ l,H l = none->Q (.ref l) (upd H l (.lst (kvs.map λp=>kV p.1)))):=by
 intro pins s σ H vs us Q I r h;obtain ⟨d,kvs,rfl,hd,hz,q⟩:=h;obtain ⟨u,rfl,rx⟩:=zft r;cases rx;obtain ⟨z,sy,xs,rel,o,es,ep,h1,h2,h3,h4,h5,h6⟩:=zmM I.hok hd;obtain ⟨l,f⟩:=zfy h5;have lx:xs.length = kvs.length:=rel.length.symm;have hsz:es.size = kvs.length:=by rw [<- YBa,l,lx]
 refine zmN (I.ok.hd hc) sy (λh' k=>⟨o,k _ h1,h2.1⟩) ⟨o,h1,h3⟩ (by omega) λh' tk c' k g=>?_;refine ⟨.ref s.heap.objs.size,upd H s.heap.objs.size (.lst (kvs.map λp=>kV p.1)),I.laid (t':=tk) k (YAm _) ⟨by rw [YAc,YAQ];omega,es.toList.map (·.key),c',?_,by rw [g,<- Array.toList_map,Array.toArray_toList]⟩,rfl,q _ (I.hok.fresh (YAm _))⟩;have go:∀ {es:List DictEntry} {xs:List (Key × Value)} {kvs:List (Key × V)},Pairs (zaS X.prog X.w) es xs->KV kvs xs->Vals (kvs.map λp=>kV p.1) (es.map (·.key)):=by
  intro es xs kvs hp
  induction hp generalizing kvs with
  | nil=>intro h;cases h;exact .nil
  | cons a _ _ ih=>intro h;cases h with | cons b t=>exact .cons (by show RelV (kV _) _;rw [b.1];exact zr6 a) (ih t)
 exact go h5 rel
end L2
set_option maxHeartbeats 200000
namespace Fd
open PySem L2
def noD:Env->Bool
 | []=>true
 | .dic _ _ :: _=>false
 | _ :: r=>noD r
def zjA:Nat->Env->Bool
 | _,[]=>true
 | 0,_ :: r=>noD r
 | _ + 1,.dic _ _ :: _=>false
 | i + 1,_ :: r=>zjA i r
theorem zkz:∀ {ρ:Env},noD ρ = true->∀ (j:Nat) ks xs,ρ[j]? ≠ some (.dic ks xs)
 | [],_,j,ks,xs=>by simp
 | .dic _ _ :: _,h,_,_,_=>by cases h
 | .un :: r,h,0,ks,xs=>by simp
 | .val _ :: r,h,0,ks,xs=>by simp
 | .own _ :: r,h,0,ks,xs=>by simp
 | .un :: r,h,j + 1,ks,xs=>by rw [YAw];exact zkz (ρ:=r) h j ks xs
 | .val _ :: r,h,j + 1,ks,xs=>by rw [YAw];exact zkz (ρ:=r) h j ks xs
 | .own _ :: r,h,j + 1,ks,xs=>by rw [YAw];exact zkz (ρ:=r) h j ks xs
theorem zhm:∀ {i:Nat} {ρ:Env},zjA i ρ = true->∀ (j:Nat) ks xs,ρ[j]? = some (.dic ks xs)->j = i
 | _,[],_,j,ks,xs,e=>by simp at e
 | 0,s :: r,h,0,ks,xs,e=>rfl
 | 0,s :: r,h,j + 1,ks,xs,e=>absurd (by rw [YAw] at e;exact e) (zkz (ρ:=r) h j ks xs)
 | _ + 1,.dic _ _ :: _,h,_,_,_,_=>by cases h
 | i + 1,.un :: r,h,0,ks,xs,e=>by simp at e
 | i + 1,.val _ :: r,h,0,ks,xs,e=>by simp at e
 | i + 1,.own _ :: r,h,0,ks,xs,e=>by simp at e
 | i + 1,.un :: r,h,j + 1,ks,xs,e=>by rw [zhm (i:=i) (ρ:=r) h j ks xs (by rw [YAw] at e;exact e)]
 | i + 1,.val _ :: r,h,j + 1,ks,xs,e=>by rw [zhm (i:=i) (ρ:=r) h j ks xs (by rw [YAw] at e;exact e)]
 | i + 1,.own _ :: r,h,j + 1,ks,xs,e=>by rw [zhm (i:=i) (ρ:=r) h j ks xs (by rw [YAw] at e;exact e)]
section
variable {c:Bk} {ρ:Env} {σ:St} {H G:Hp} {i:Nat}
theorem Rel.putDic {ks:List Str} {xs:List D} {vs:List V} {l:Addr} (r:Rel c ρ σ H G) (hl:H l = some (.dK (kvD ks vs))) (hg:G l = none) (h0:c.H0 l = none) (hb:l ≠ c.β) (h:Reps c G xs vs) (hn:ks.length = vs.length):Rel c (ρ.set i (.dic ks xs)) (σ.set i (some (.ref l))) H G:=by
 refine ⟨by simp [r.len],r.stp,λj s e=>?_,λj k a xs' ys e1 e2 e3 e4=>?_,r.kn⟩
 ·by_cases z:i = j
  ·subst z;have hi:i < ρ.length:=by have:=(YAd.mp e).1;simpa using this
   rw [YAh hi] at e;cases e;exact ⟨l,vs,by rw [YAh (by rw [<- r.len];exact hi)],hl,hg,h0,hb,h,hn⟩
  ·rw [YAi z] at e ⊢;exact r.slot j s e
 ·have nn:∀ {j:Nat} {xs},(ρ.set i (.dic ks xs'))[j]? = some (.own xs)->True:=λ_=>trivial;have nj:i ≠ j:=λz=>by
   subst z;have hi:i < ρ.length:=by have:=(YAd.mp e1).1;simpa using this
   rw [YAh hi] at e1;cases e1
  have nk:i ≠ k:=λz=>by
   subst z;have hi:i < ρ.length:=by have:=(YAd.mp e2).1;simpa using this
   rw [YAh hi] at e2;cases e2
  rw [YAi nj] at e1 e3;rw [YAi nk] at e2 e4;exact r.dis j k a xs' ys e1 e2 e3 e4
theorem Rel.writeD {ks ks':List Str} {xs ys:List D} {ws:List V} {l:Addr} (r:Rel c ρ σ H G) (hi:ρ[i]? = some (.dic ks xs)) (hs:σ[i]? = some (some (.ref l))) (h:Reps c G ys ws) (hn:ks'.length = ws.length) (ho:zjA i ρ = true) :
  Rel c (ρ.set i (.dic ks' ys)) σ (upd H l (.dK (kvD ks' ws))) G:=by
 obtain ⟨a,vs,h1,h2,h3,h4,h5,h6,h7⟩:=r.slot i _ hi;rw [hs] at h1;cases h1;have hil:i < ρ.length:=(YAd.mp hi).1;refine ⟨by simp [r.len],⟨r.stp.gg,λb u e=>?_,λb u n e=>?_,r.stp.nw,?_,r.stp.b0,λcc p q d e=>by
  obtain ⟨p',q',d',e'⟩:=r.stp.bc cc p q d e;exact ⟨p',q',d',by rw [upd_ne (YAO h5)];exact e'⟩⟩,λj s e=>?_,λj k b xs' ys' e1 e2 e3 e4=>?_,r.kn⟩
 ·rw [upd_ne (λz=>by rw [z,h3] at e;cases e)];exact r.gh b u e
 ·rw [upd_ne (λz=>by rw [z,h4] at e;cases e)];exact r.stp.fr b u n e
 ·obtain ⟨cc,p,q,d,ns,e,z⟩:=r.bx.ex;exact ⟨⟨cc,p,q,d,ns,by rw [upd_ne (YAO h5)];exact e,z⟩,r.bx.still⟩
 ·by_cases z:i = j
  ·subst z;rw [YAh hil] at e;cases e;exact ⟨l,ws,hs,zae,h3,h4,h5,h,hn⟩
  ·rw [YAi z] at e;have q:=r.slot j s e;cases s with
   | un=>trivial
   | val d=>exact q
   | own zs=>
    obtain ⟨b,us,g1,g2,g3⟩:=q;have nb:b ≠ l:=λy=>by rw [y,h2] at g2;cases g2
    exact ⟨b,us,g1,by rw [upd_ne nb];exact g2,g3⟩
   | dic k2 zs=>exact absurd (zhm ho j k2 zs e).symm z
 ·have f:∀ (m:Nat) zs,(ρ.set i (.dic ks' ys))[m]? = some (.own zs)->ρ[m]? = some (.own zs):=λm zs e=>by
   by_cases z:i = m
   ·subst z;rw [YAh hil] at e;cases e
   ·rw [YAi z] at e;exact e
  exact r.dis j k b _ _ (f j _ e1) (f k _ e2) e3 e4
end
def dcV:D->Option (List Str × List D)
 | .dct _ ks xs=>some (ks,xs)
 | .fdc ks xs=>some (ks,xs)
 | _=>none
theorem zju {c:Bk} {G:Hp} {d:D} {v:V} {ks:List Str} {xs:List D} (h:Rep c G d v) (e:dcV d = some (ks,xs)):∃ a vs,v = .ref a/\Rd G a (.dK (kvD ks vs))/\ks.length = vs.length/\Reps c G xs vs:=by
 cases d with
 | dct n ks' xs'=>cases e;obtain ⟨a,vs,h1,h2,_,h4,h5⟩:=h;exact ⟨a,vs,h1,.inl h2,h4,h5⟩
 | fdc ks' xs'=>cases e;obtain ⟨a,vs,o,h1,h2,h4,h5⟩:=h;exact ⟨a,vs,h1,.inr ⟨o,h2⟩,h4,h5⟩
 | _=>cases e
theorem zjn {G H:Hp} {a:Addr} {u:HO} (s:Same G H):Rd G a u->Rd H a u
 | .inl h=>.inl (s _ _ h)
 | .inr ⟨o,h⟩=>.inr ⟨o,s _ _ h⟩
def dcD (d:D) (Q:List Str->List D->Prop):Prop:=match dcV d with | some p=>Q p.1 p.2 | none=>False
theorem zg6 {d:D} {Q Q':List Str->List D->Prop} (k:∀ a b,Q a b->Q' a b) (q:dcD d Q):dcD d Q':=by
 unfold dcD at q ⊢;split at q
 ·exact k _ _ q
 ·exact q.elim
section
variable {X:Cx} {c:Bk} {e ie ve:Expr} {es:List Expr} {rest:List Stmt} {pos p p2 cp tp pos2:Pos}
@[reducible] def dcpW (i:Nat) (A:WE):WS:=λE ρ=>A ρ λd=>dcD d λks xs=>E.nx (ρ.set i (.dic ks xs))
theorem ztF (i:Nat) {x:Str} {A:WE} (hA:DE X c e A) (hi:X.N[i]? = some x:=by rfl) (hx:Loc X.env.scope x:=by first | exact Or.inl rfl | exact Or.inr rfl) (hg:Gl X "dict" := by rfl) (he:starEach [e] X.env = (false,eval e X.env) :: starEach [] X.env:=by rfl)
  (hs:swapsWith (.Call (.Name "dict" p2) [e] [] cp) (some (.Name x p)) pos.line X.env = pure false:=by rfl) (hf:X.fn x = true\/X.env.scope.names.lookup x = some .local:=by first | exact .inl rfl | exact .inr rfl | assumption) (hm:X.mg "dict" = none:=by decreasing_trivial) (hN:X.N.Nodup:=by decreasing_trivial):DS X c (.Assign [.Name x p] (.Call (.Name "dict" p2) [e] [] cp) pos) (dcpW i A) where
 mono:=λE E' ρ l q=>hA.mono ρ _ _ (λd z=>zg6 (λa b y=>l.nx _ y) z) q
 ps:=zbe (zdx hN hi hx (zcd zdB hg hm YBT (zaD hA.pe zbn he) (by decide) (by decide) he rfl) hs hf) λD σ H ⟨ρ,G,r,q⟩=>⟨ρ,G,r,hA.mono ρ _ _ (λd z v H' G' t e=>by
  unfold dcD at z;split at z
  ·rename_i pr ed
   obtain ⟨a,vs,h1,h2,h3,h4⟩:=zju e ed;subst h1;refine ⟨a,_,rfl,zjn t.gh h2,λl hl=>?_⟩;have r1:=r.step t;have r2:=r1.step (Stp.own (o:=.dK (kvD pr.1 vs)) r1.gh r1.bx hl);exact z _ _ G' (r2.putDic zae (zai r1.gh hl) (r1.new0 hl) (r1.neβ hl) h4 h3) t.gg
  ·exact z.elim) q⟩
def dstW (i:Nat) (I A:WE):WS:=λE ρ=>match ρ[i]? with
 | some (.dic ks xs)=>zjA i ρ = true/\ks.length < 1000/\A ρ λd=>I ρ λk=>(match k with | .str z=>E.nx (ρ.set i (.dic (putKs ks z) (putVs ks xs z d))) | _=>False)
 | _=>False
theorem zjx (i:Nat) {x:Str} {I A:WE} (hA:DE X c e A) (hI:DE X c ie I) (hN:X.N[i]? = some x:=by rfl) (hv:Vis X.env.scope x:=by first | exact Or.inl rfl | exact Or.inr (Or.inl rfl) | exact Or.inr (Or.inr rfl))
  (hd:(x == ("__debug__" : Str)) = false:=by decide) (hcd:(x == ("__classdict__" : Str)) = false:=by decide) (hs:swapsWith e (some (.Subscript (.Name x p) ie tp)) pos.line X.env = pure false:=by rfl) (hu:X.A.units + 1 < cLine:=by decreasing_trivial):DS X c (.Assign [.Subscript (.Name x p) ie tp] e pos) (dstW i I A) where
 mono:=λE E' ρ l q=>by
  unfold dstW at q ⊢;split at q
  ·exact ⟨q.1,q.2.1,hA.mono ρ _ _ (λd z=>hI.mono ρ _ _ (λk y=>by
    cases k <;> first | exact l.nx _ y | exact y) z) q.2.2⟩
  ·exact q.elim
 ps:=zbe (zjV hu (zbf hN hv hd hcd) hI.pe hA.pe hs) λD σ H ⟨ρ,G,r,q⟩=>by
  unfold dstW at q;split at q
  ·rename_i ks xs ek
   obtain ⟨ho,hk,q⟩:=q;refine ⟨ρ,G,r,hA.mono ρ _ _ (λd z v H1 G1 t1 e1=>?_) q⟩;obtain ⟨a,vs,h1,h2,h3,h4,h5,h6,h7⟩:=(r.step t1).slot i _ ek;refine ⟨.ref a,h1,ρ,G1,r.step t1,hI.mono ρ _ _ (λk y w H2 G2 t2 e2=>?_) z⟩;cases k with
   | str z=>
    have ew:w = V.str z:=e2;subst ew;have len:(kvD ks vs).length < sizeLine:=by
     unfold kvD;rw [YAc,YBm,<- h7,YBC,YAQ];omega
    refine ⟨a,_,rfl,DPut.k (k:=.inr z) (t2.fr a _ h5 h2) len,?_⟩;rw [zho h7];exact y σ _ G2 (((r.step t1).step t2).writeD ek h1 (zeH (e1.mono t2.gg) (h6.mono t2.gg)) (zhj h7) ho) (t1.gg.trans t2.gg)
   | _=>exact y.elim
  ·exact q.elim
def zk9 (i:Nat) (I A:WE):WS:=λE ρ=>match ρ[i]? with
 | some (.dic ks xs)=>zjA i ρ = true/\ks.length < 1000/\I ρ λk=>(match k with
  | .str z=>(match zaG ks xs z with
   | some (.int a)=>A ρ λd=>intD d λb=>E.nx (ρ.set i (.dic (putKs ks z) (putVs ks xs z (.int (a + b)))))
   | _=>False)
  | _=>False)
 | _=>False
theorem zrV (i:Nat) {x:Str} {I A:WE} (hI:DE X c ie I) (hA:DE X c e A) (hN:X.N[i]? = some x:=by rfl) (hv:Vis X.env.scope x:=by first | exact Or.inl rfl | exact Or.inr (Or.inl rfl) | exact Or.inr (Or.inr rfl))
  (hd:(x == ("__debug__" : Str)) = false:=by decide) (hcd:(x == ("__classdict__" : Str)) = false:=by decide)
  (ha:∀ ov iv new,augStore ie ov iv new = (do holding [new,ov,iv] (setItem ov iv new);release [new,ov,iv] [];pure .next):=by intros;rfl) (hu:X.A.units + 1 < cLine:=by decreasing_trivial):DS X c (.AugAssign (.Subscript (.Name x p) ie tp) .Add e pos) (zk9 i I A) where
 mono:=λE E' ρ l q=>by
  unfold zk9 at q ⊢;split at q
  ·refine ⟨q.1,q.2.1,hI.mono ρ _ _ (λk y=>?_) q.2.2⟩;split at y
   ·split at y
    ·exact hA.mono ρ _ _ (λd w=>zmp (λb=>l.nx _) w) y
    ·exact y.elim
   ·exact y.elim
  ·exact q.elim
 ps:=zbe (zpT hu (zbf hN hv hd hcd) hI.pe hA.pe zrT ha) λD σ H ⟨ρ,G,r,q⟩=>by
  unfold zk9 at q;split at q
  ·rename_i ks xs ek
   obtain ⟨ho,hk,q⟩:=q;obtain ⟨a,vs,h1,h2,h3,h4,h5,h6,h7⟩:=r.slot i _ ek;refine ⟨.ref a,h1,ρ,G,r,hI.mono ρ _ _ (λk y w H1 G1 t1 e1=>?_) q⟩;split at y
   ·rename_i z
    have ew:w = V.str z:=e1;subst ew;split at y
    ·rename_i n en
     obtain ⟨v,f1,f2⟩:=zeC h6 en;have ev:v = V.int n:=f2;subst ev;have g0:=DGet.k (k:=Sum.inr z) (t1.fr a _ h5 h2);rw [zeX,f1] at g0;refine ⟨a,_,rfl,g0,ρ,G1,r.step t1,hA.mono ρ _ _ (λd z2 u H2 G2 t2 e2=>?_) y⟩;cases d with
     | int b=>
      have eu:u = V.int b:=e2;subst eu;have len:(kvD ks vs).length < sizeLine:=by
       unfold kvD;rw [YAc,YBm,<- h7,YBC,YAQ];omega
      refine ⟨n,b,rfl,rfl,_,DPut.k (k:=.inr z) (t2.fr a _ h5 (t1.fr a _ h5 h2)) len,?_⟩;rw [zho h7];exact z2 σ _ G2 (((r.step t1).step t2).writeD ek h1 (zeH (d:=.int (n + b)) rfl (h6.mono (t1.gg.trans t2.gg))) (zhj h7) ho) (t1.gg.trans t2.gg)
     | _=>exact z2.elim
    ·exact y.elim
   ·exact y.elim
  ·exact q.elim
def ogW (i:Nat) (B:WE):WE:=λρ Q=>match ρ[i]? with
 | some (.dic ks xs)=>B ρ λy=>(match y with | .str z=>optD (zaG ks xs z) Q | _=>False)
 | _=>False
theorem d_og (i:Nat) {x:Str} {B:WE} (hB:DE X c e B) (hs:NoSl e:=by intro _ _;rfl) (hN:X.N[i]? = some x:=by rfl) (hv:Vis X.env.scope x:=by first | exact Or.inl rfl | exact Or.inr (Or.inl rfl) | exact Or.inr (Or.inr rfl))
  (hd:(x == ("__debug__" : Str)) = false:=by decide) (hcd:(x == ("__classdict__" : Str)) = false:=by decide) (hu:X.A.units + 1 < cLine:=by decreasing_trivial):DE X c (.Subscript (.Name x p) e pos) (ogW i B) where
 mono:=λρ Q Q' k q=>by
  unfold ogW at q ⊢;split at q
  ·exact hB.mono ρ _ _ (λy z=>by
    cases y <;> first | exact zgl k z | exact z) q
  ·exact q.elim
 pe:=zay (zl9 hu (zbf hN hv hd hcd) hB.pe hs) λσ H Q ⟨ρ,G,r,q⟩=>by
  unfold ogW at q;split at q
  ·rename_i ks xs ek
   obtain ⟨a,vs,h1,h2,h3,h4,h5,h6,h7⟩:=r.slot i _ ek;refine ⟨.ref a,h1,ρ,G,r,hB.mono ρ _ _ (λy z w H1 G1 t1 e1=>?_) q⟩;cases y with
   | str z0=>
    have ew:w = V.str z0:=e1;subst ew;have z:optD (zaG ks xs z0) _:=z;cases e0:zaG ks xs z0 with
    | none=>rw [e0] at z;exact z.elim
    | some d=>
     rw [e0] at z;obtain ⟨v,f1,f2⟩:=zeC h6 e0;have g0:=DGet.k (k:=Sum.inr z0) (t1.fr a _ h5 h2);rw [zeX,f1] at g0;exact ⟨a,v,rfl,g0,z v H1 G1 t1 (f2.mono t1.gg)⟩
   | _=>exact z.elim
  ·exact q.elim
end
end Fd
set_option maxHeartbeats 400000
namespace Fd
open PySem L2
def del (G:Hp) (a:Addr):Hp:=λb=>if b = a then none else G b
theorem zkw {G:Hp} {a b:Addr} (h:b ≠ a):del G a b = G b:=by unfold del;rw [if_neg h]
theorem zkk {G:Hp} {a:Addr}:del G a a = none:=by unfold del;rw [if_pos rfl]
theorem Stp.lend {β a:Addr} {H G H2 G3:Hp} {o:HO} (s:Stp β H (upd G a o) H2 G3) (ga:G a = none) (bx:BoxD β H G):Stp β H G H2 (del G3 a):=by
 have na:∀ b u,G b = some u->b ≠ a:=λb u e z=>by rw [z,ga] at e;cases e
 refine ⟨λb u e=>?_,λb u e=>?_,s.fr,λb e=>?_,⟨?_,?_⟩,s.b0,s.bc⟩
 ·rw [zkw (na b u e)];exact s.gg b u (by rw [upd_ne (na b u e)];exact e)
 ·by_cases z:b = a
  ·rw [z,zkk] at e;cases e
  ·rw [zkw z] at e;exact s.gh b u e
 ·have z:b ≠ a:=λz=>e (by rw [z,zkk]);rw [zkw z] at e;rcases s.nw b e with y | y
  ·rw [upd_ne z] at y;exact .inl y
  ·exact .inr y
 ·obtain ⟨cc,p,r,d,ns,h,p1,p2,p3,p4,hc,q⟩:=s.bx.ex;obtain ⟨c0,p',r',d',ns',h',_,_,_,_,hc',_⟩:=bx.ex;obtain ⟨x1,x2,x3,h2⟩:=s.bc c0 p' r' d' h';rw [h] at h2;have e:cc = c0:=by unfold boxO at h2;injection h2 with h2;injection h2 with h2;injection h2 with h2;injection h2
  subst e;exact ⟨cc,p,r,d,ns,h,p1,p2,p3,p4,by rw [zkw (na cc _ hc')];exact hc,q⟩
 ·unfold del;split
  ·rfl
  ·exact s.bx.still
def zqO:D->Prop
 | .non=>True
 | .bl _=>True
 | .int _=>True
 | .str _=>True
 | _=>False
theorem znw {c c':Bk} {G G':Hp} {d:D} {v:V} (f:zqO d) (h:Rep c' G' d v):Rep c G d v:=by
 cases d <;> first | exact h | exact f.elim
section
variable {X:Cx} {c:Bk} {e ie ve:Expr} {es:List Expr} {rest:List Stmt} {pos p p1 p2 p3 cp tp pos2:Pos}
def ziB (i n:Nat) (F:Fn) (R:WL):WE:=λρ Q=>match ρ[i]? with
 | some (.dic ks xs)=>R ρ λds=>ds.length + 1 = n/\up F (.dct true ks xs :: ds) λd=>zqO d/\Q d
 | _=>False
theorem zmq (i:Nat) {x f:Str} {k n:Nat} {ps:List Str} {F:Fn} {R:WL} (C:Cal X.prog X.w X.K X.mg X.base f k ps (spD X.K n F)) (hR:DA X c (e :: es) R) (hN:X.N[i]? = some x:=by rfl) (hv:Vis X.env.scope x:=by first | exact Or.inl rfl | exact Or.inr (Or.inl rfl) | exact Or.inr (Or.inr rfl))
  (hd:(x == ("__debug__" : Str)) = false:=by decide) (hcd:(x == ("__classdict__" : Str)) = false:=by decide) (hg:Gl X f:=by rfl)
  (hdb:(f == ("__debug__" : Str)) = false:=by decide) (he:starEach (.Name x p2 :: e :: es) X.env = (false,eval (.Name x p2) X.env) :: starEach (e :: es) X.env:=by rfl) (hpl:(backTo pos (starEach (e :: es) X.env)).any (·.1) = false:=by rfl) (hK:c.K = X.K:=by rfl) (hr:Room k X.A:=by decreasing_trivial) :
  DE X c (.Call (.Name f p) (.Name x p2 :: e :: es) [] pos) (ziB i n F R) where
 mono:=λρ Q Q' k q=>by
  unfold ziB at q ⊢;split at q
  ·exact hR.mono ρ _ _ (λds z=>⟨z.1,zbU F _ _ _ (λd w=>⟨w.1,k d w.2⟩) z.2⟩) q
  ·exact q.elim
 pe:=by
  obtain ⟨fa,fd,FO,hm,hk,hb⟩:=C.ex;refine zay (zdL FO hr hg hm hk hb .nil zjT (zaD (zbf hN hv hd hcd) hR.pa he) hdb he hpl) λσ H Q ⟨ρ,G,r,q⟩=>?_;unfold ziB at q;split at q
  ·rename_i ks xs ek
   obtain ⟨a,vs,h1,h2,h3,h4,h5,h6,h7⟩:=r.slot i _ ek;refine ⟨.ref a,h1,ρ,G,r,hR.mono ρ _ _ (λds z us H' G' t ea=>?_) q⟩;show spD X.K n F (.ref a :: us ++ []) H' Q E0;rw [YAR];have r1:=r.step t;obtain ⟨a',vs',g1,g2,g3,g4,g5,g6,g7⟩:=r1.slot i _ ek;rw [h1] at g1;cases g1;have sg:Same G' (upd G' a (.dK (kvD ks vs'))):=zbo g3;have bx':BoxD c.β H' (upd G' a (.dK (kvD ks vs'))):=by
    obtain ⟨cc,p,r,d,ns,h,p1,p2,p3,p4,hc,q⟩:=t.bx.ex;exact ⟨⟨cc,p,r,d,ns,h,p1,p2,p3,p4,sg _ _ hc,q⟩,by rw [upd_ne (YAO g5)];exact t.bx.still⟩
   refine ⟨c.β,upd G' a (.dK (kvD ks vs')),.dct true ks xs :: ds,λb u e=>?_,bx',⟨.ref a,us,rfl,⟨a,vs',rfl,zae,λ_=>rfl,g7,?_⟩,?_⟩,by rw [YAz,<- ea.length];exact z.1,zbU F _ _ _ (λd w v H2 G2 t2 e2=>?_) z.2⟩
   ·by_cases y:b = a
    ·subst y;rw [zae] at e;cases e;exact g2
    ·rw [upd_ne y] at e;exact t.gh b u e
   ·exact (Reps.back (c':=c) (c:=⟨X.K,c.β,λ_=>none,upd G' a (.dK (kvD ks vs')),True⟩) hK rfl (λ_ _=>rfl) g6).mono sg
   ·exact (Reps.back (c':=c) (c:=⟨X.K,c.β,λ_=>none,upd G' a (.dK (kvD ks vs')),True⟩) hK rfl (λ_ _=>rfl) ea).mono sg
   ·exact w.2 v H2 _ (t.trans (t2.lend g3 t.bx)) (znw w.1 e2)
  ·exact q.elim
def zou (i:Nat):WS:=λE ρ=>match ρ[i]? with
 | some (.dic ks xs)=>E.rt (.dct true ks xs)
 | _=>False
theorem zsK (i:Nat) {x:Str} (hN:X.N[i]? = some x:=by rfl) (hv:Vis X.env.scope x:=by first | exact Or.inl rfl | exact Or.inr (Or.inl rfl) | exact Or.inr (Or.inr rfl))
  (hd:(x == ("__debug__" : Str)) = false:=by decide) (hcd:(x == ("__classdict__" : Str)) = false:=by decide):DS X c (.Return (some (.Name x p)) pos) (zou i) where
 mono:=λE E' ρ l q=>by
  unfold zou at q ⊢;split at q
  ·exact l.rt _ q
  ·exact q.elim
 ps:=zbe (zgf (zbf hN hv hd hcd)) λD σ H ⟨ρ,G,r,q⟩=>by
  unfold zou at q;split at q
  ·rename_i ks xs ek
   obtain ⟨a,vs,h1,h2,h3,h4,h5,h6,h7⟩:=r.slot i _ ek;refine ⟨.ref a,h1,q (.ref a) H (upd G a (.dK (kvD ks vs))) (r.stp.still h2 h4 h5 h3) ⟨a,vs,rfl,zae,λ_=>h4,h7,h6.mono (zbo h3)⟩⟩
  ·exact q.elim
@[reducible] def dc2W (i:Nat) (A V I:WE) (B:WS):WS:=λE ρ=>i < ρ.length/\A ρ λd=>dcD d λks xs=>ks.length < 1000/\V (ρ.set i .un) λv=>I (ρ.set i .un) λk=>(match k with | .str z=>B E (ρ.set i (.val (.fdc (putKs ks z) (putVs ks xs z v)))) | _=>False)
theorem zsV (i:Nat) {x:Str} {A V I:WE} {B:WS} (hA:DE X c e A) (hV:DE X c ve V) (hI:DE X c ie I) (hB:DSs X c rest B) (hi:X.N[i]? = some x:=by rfl) (hx:Loc X.env.scope x:=by first | exact Or.inl rfl | exact Or.inr rfl) (hv:Vis X.env.scope x:=by first | exact Or.inl rfl | exact Or.inr (Or.inl rfl) | exact Or.inr (Or.inr rfl))
  (hd:(x == ("__debug__" : Str)) = false:=by decide) (hcd:(x == ("__classdict__" : Str)) = false:=by decide) (hg:Gl X "dict" := by rfl) (he:starEach [e] X.env = (false,eval e X.env) :: starEach [] X.env:=by rfl)
  (hs:swapsWith (.Call (.Name "dict" p2) [e] [] cp) (some (.Name x p)) pos.line X.env = pure false:=by rfl) (hs2:swapsWith ve (some (.Subscript (.Name x p3) ie tp)) pos2.line X.env = pure false:=by rfl) (hf:X.fn x = true\/X.env.scope.names.lookup x = some .local:=by first | exact .inl rfl | exact .inr rfl | assumption) (hm:X.mg "dict" = none:=by decreasing_trivial) (hu:X.A.units + 1 < cLine:=by decreasing_trivial) (hN:X.N.Nodup:=by decreasing_trivial) :
  DSs X c (.Assign [.Name x p] (.Call (.Name "dict" p2) [e] [] cp) pos :: .Assign [.Subscript (.Name x p3) ie tp] ve pos2 :: rest) (dc2W i A V I B) where
 mono:=λE E' ρ l q=>⟨q.1,hA.mono ρ _ _ (λd z=>zg6 (λa b y=>⟨y.1,hV.mono _ _ _ (λv w=>hI.mono _ _ _ (λk u=>by
  cases k <;> first | exact hB.mono _ _ _ l u | exact u) w) y.2⟩) z) q.2⟩
 pss:=zdi (zaL (zdx hN hi hx (zcd zdB hg hm YBT (zaD hA.pe zbn he) (by decide) (by decide) he rfl) hs hf) (zaL (zsF (zjV hu (zbf hi hv hd hcd) hI.pe hV.pe hs2)) hB.pss)) λD σ H ⟨ρ,G,r,q⟩=>⟨ρ,G,r,hA.mono ρ _ _ (λd z v H' G' t e=>by
  have hil:i < σ.length:=by rw [<- r.len];exact q.1
  unfold dcD at z;split at z
  ·rename_i pr ed
   obtain ⟨a,vs,h1,h2,h3,h4⟩:=zju e ed;subst h1;refine ⟨a,_,rfl,zjn t.gh h2,λl hl=>?_⟩;have r1:=r.step t;have t1:Stp c.β H' G' (upd H' l (.dK (kvD pr.1 vs))) G':=Stp.own r1.gh r1.bx hl;have r2:Rel c (ρ.set i .un) (σ.set i (some (.ref l))) (upd H' l (.dK (kvD pr.1 vs))) G':=(r1.step t1).unput;have lb:l ≠ c.β:=r1.neβ hl;refine ⟨_,_,r2,hV.mono _ _ _ (λdv y w H2 G2 t2 e2=>?_) z.2⟩;have r3:=r2.step t2;have at_:(σ.set i (some (L2.V.ref l)))[i]? = some (some (.ref l)):=YAh hil;refine ⟨.ref l,at_,_,_,r3,hI.mono _ _ _ (λk u wk H3 G3 t3 e3=>?_) y⟩;cases k with
   | str zz=>
    have ek:wk = L2.V.str zz:=e3;subst ek;have hl3:H3 l = some (.dK (kvD pr.1 vs)):=t3.fr l _ lb (t2.fr l _ lb zae);have len:(kvD pr.1 vs).length < sizeLine:=by
     unfold kvD;rw [YAc,YBm,<- h3,YBC,YAQ];have:=z.1;omega
    refine ⟨l,_,rfl,DPut.k (k:=.inr zz) hl3 len,l,_,zae,λo=>?_⟩;rw [zjp,zho h3];have g3:G3 l = none:=by
     have nn:∀ {Ga Gb Ha Hb:Hp} {o:HO},Stp c.β Ha Ga Hb Gb->Ga l = none->Ha l = some o->¬ zeE o->Gb l = none:=λ{Ga Gb Ha Hb o} tt g h ns=>by
      cases zz:Gb l with
      | none=>rfl
      | some u=>
       rcases tt.nw l (by rw [zz];simp) with y | y | ⟨u',y,su⟩
       ·exact absurd g y
       ·rw [h] at y;cases y
       ·rw [h] at y;cases y;exact absurd su ns
     exact nn t3 (nn t2 (zai r1.gh hl) zae (λz=>z)) (t2.fr l _ lb zae) (λz=>z)
    have tt:Stp c.β H' G' H3 G3:=(t1.trans t2).trans t3;have tw:Stp c.β H' G' (upd H3 l (.frz o (.dK (kvD (putKs pr.1 zz) (putVs pr.1 vs zz w))))) (upd G3 l (.frz o (.dK (kvD (putKs pr.1 zz) (putVs pr.1 vs zz w))))):=tt.wrS hl lb g3;have rp:Rep c (upd G3 l (.frz o (.dK (kvD (putKs pr.1 zz) (putVs pr.1 vs zz w))))) (.fdc (putKs pr.1 zz) (putVs pr.1 pr.2 zz dv)) (.ref l):=⟨l,_,o,rfl,zae,zhj h3,(zeH (e2.mono t3.gg) (h4.mono tt.gg)).mono (zbo g3)⟩;exact ⟨_,_,(r1.step tw).put rp,hB.mono _ _ _ (zfP (t.gg.trans tw.gg)) u⟩
   | _=>exact u.elim
  ·exact z.elim) q.2⟩
@[reducible] def zss:WE:=λ_ Q=>Q (.fdc [] [])
theorem zpO:DE X c (.Dict [] [] pos) zss where
 mono:=λρ Q Q' k q=>k _ q
 pe:=zay (zrN zok) λσ H Q ⟨ρ,G,r,q⟩=>λl hl=>⟨l,[],rfl,zae,λo=>by
  rw [zjp];exact q (.ref l) _ _ (Stp.new r.gh r.bx hl) ⟨l,[],o,rfl,zae,rfl,rfl⟩⟩
@[reducible] def zoN (A:WE):WL:=λρ Q=>A ρ λd=>dcD d λks xs=>ks.length <= 1000/\Q (ks.map D.str)
theorem zlT:∀ {ks:List Str} {vs:List V},ks.length = vs.length->(kvD ks vs).map (λp=>kV p.1) = ks.map V.str
 | [],[],_=>rfl
 | k :: ks,v :: vs,h=>by
  show kV (Sum.inr k) :: (kvD ks vs).map (λp=>kV p.1) = _;rw [zlT (by simpa using h)];rfl
theorem zpz {A:WE} {lp:Pos} (hA:DE X c e A) (hg:Gl X "list" := by rfl) (he:starEach [e] X.env = (false,eval e X.env) :: starEach [] X.env:=by rfl) (hc:X.calm = true:=by rfl) (hm:X.mg "list" = none:=by decreasing_trivial):DF X c (.Call (.Name "list" lp) [e] [] pos) (zoN A) where
 mono:=λρ Q Q' k q=>hA.mono ρ _ _ (λd z=>zg6 (λa b y=>⟨y.1,k _ y.2⟩) z) q
 pe:=zay (zcd (zis hc) hg hm YBo (zaD hA.pe zbn he) (by decide) (by decide) he rfl) λσ H Q ⟨ρ,G,r,q⟩=>⟨ρ,G,r,hA.mono ρ _ _ (λd z v H' G' t e=>by
  unfold dcD at z;split at z
  ·rename_i pr ed
   obtain ⟨a,vs,h1,h2,h3,h4⟩:=zju e ed;subst h1;refine ⟨a,_,rfl,zjn t.gh h2,by unfold kvD;rw [YAc,YBm,<- h3,YBC];exact z.1,λl hl=>?_⟩;rw [zlT h3];exact z.2 l _ _ _ (t.trans (Stp.own t.gh t.bx hl)) zae (zai t.gh hl) (t.free hl) (reps_strs.mpr rfl)
  ·exact z.elim) q⟩
@[reducible] def zof (A:WE):WL:=λρ Q=>A ρ λd=>(match d with | .fdc ks _=>Q (ks.map D.str) | _=>False)
theorem zqN {G:Hp} {a:Addr} {o:Obj} {ks:List Str} {vs:List V} (ha:G a = some (.frz o (.dK (kvD ks vs)))) (hl:ks.length = vs.length):ItOk c (Itk a o (kvD ks vs)) (ks.map D.str) G:=by
 intro i H2 G2 s1 s2 bx h0;have hh:H2 a = some (.frz o (.dK (kvD ks vs))):=s2 _ _ (s1 _ _ ha);have hz:(kvD ks vs).length = ks.length:=by unfold kvD;rw [YAc,YBm,<- hl,YBC]
 refine ⟨λe=>⟨by rw [e,hz,YAc],hh⟩,λd e=>?_⟩;have hi:i < ks.length:=by have:=(YAd.mp e).1;simpa using this
 refine ⟨⟨by rw [hz];exact hi,hh⟩,λx H3 y=>?_⟩;obtain ⟨rfl,p,hp,rfl⟩:=y;have e1:((kvD ks vs).map (λp=>kV p.1))[i]? = some (kV p.1):=by rw [YAt,hp];rfl
 rw [zlT hl,YAt] at e1;rw [YAt] at e;cases hk:ks[i]? with
 | none=>rw [hk] at e;cases e
 | some k=>
  rw [hk] at e e1;cases e;exact ⟨G2,Stp.refl s2 bx,(Option.some.inj e1).symm⟩
theorem zrm {A:WE} {tg:Expr} (hA:DE X c e A):DI X c tg e (zof A) where
 mono:=λρ Q Q' k q=>hA.mono ρ _ _ (λd z=>by
  cases d <;> first | exact k _ z | exact z) q
 pi:=zkR (zqW hA.pe) λσ H R ⟨ρ,G,r,q⟩=>⟨ρ,G,r,hA.mono ρ _ _ (λd z v H' G' t e=>by
  cases d with
  | fdc ks xs=>
   obtain ⟨a,vs,o,h1,h2,h4,h5⟩:=e;exact ⟨a,o,_,h1,t.gh _ _ h2,z _ H' G' t (zqN h2 h4)⟩
  | _=>exact z.elim) q⟩
end
end Fd
set_option maxHeartbeats 400000
namespace L2
open PySem PySem.Spec PyProof.Rows PySem.W
section
variable {X:Cx} {pins:List (Addr × Obj)} {σ:St} {H H':Hp} {s s':Shared} {ea C:Addr} {oe:Obj} {E:Value->Shared->Prop}
theorem zpR {Q:Flow->Shared->Prop} {x:Str} {D:Addr} {b₀:Stmt} {suite:List Stmt} {pos np:Pos} {rest:List ExceptHandler} (I:Inv X pins σ H s) (hs:X.stack = X.env :: X.outer) (hf:X.env.frame = some X.env.locals) (N:ExN X.prog X.w X.stack H s ea C H' s') (hg:Gl X x) (hm:X.mg x = some (.ref D))
  (he:exmOne X.K (.ref C) (.ref D) = some true)
  (k:∀ oe s2,oe.cls = .ref C->Inv (X.sup ea oe λ_ _=>False) pins σ H' s2->wpAny (model X.prog X.w) (X.A.mark (some (.ref ea))) (execs (b₀ :: suite) X.env) Q (λ_ _=>False) s2)
  (hd:(x == ("__debug__" : Str)) = false:=by decide) :
  wpAny (model X.prog X.w) X.A (noteFrame (.ref ea) X.env) (λ_ s₂=>wpAny (model X.prog X.w) X.A (setFlight (.ref ea) none) (λ_ s₃=>wpAny (model X.prog X.w) X.A (handleBy (.ref ea) X.env (.ExceptHandler (some (.Name x np)) none (b₀ :: suite) pos :: rest)) Q E s₃) E s₂) E s':=by
 obtain ⟨B,a0,fl,hB⟩:=id N.fly;have fl':=fl;rw [hs] at fl';have hA:X.A.frames = some (X.env :: X.outer):=by rw [<- hs];exact I.ok.frames
 have frx:∀ b ∈ frs X.stack,∃ o,s.heap.get? b = some o:=λb hb=>by
  obtain ⟨_,o,ho,_⟩:=I.stack.mem hb;exact ⟨o,ho⟩
 refine wpAny_looks_onW hA hf fl' λh4 held sm4=>?_;refine wpAny_landsW held λh5 fl5 sm5=>?_;have on5:=N.on hB fl.2.2.1 I.stkFree fl5.1 (sm4.trans sm5) frx;have I5:Inv X pins σ H' { s' with heap:=h5 }:=I.call' (s':={ s' with heap:=h5 }) N.os on5.1 on5.2 N.bare λb z=>nomatch z;have sub:∀ {b},b = X.env.locals\/b ∈ X.fs->b ∈ frs (X.env :: X.outer):=λ{b} z=>by
  show b ∈ (X.env :: X.outer).filterMap (·.frame);rw [YAG,hf];exact YAu.mpr z
 have apart:∀ {h:Heap} {oe:Obj} {vs:Array Value},h.FunFrames B (X.env :: X.outer)->h.get? ea = some oe->oe.data = .fields vs->∀ {b},b = X.env.locals\/b ∈ X.fs->ea ≠ b:=λ{h oe vs} ff e1 e2 {b} z e3=>by
  obtain ⟨_,o,ho,hd⟩:=ff.mem (sub z);rw [<- e3,e1] at ho;cases ho;exact hd _ e2
 have hea:H' ea = none:=by
  cases q:H' ea with
  | none=>rfl
  | some u=>
   obtain ⟨v,hv⟩:=(N.hok ea u q).ex;obtain ⟨oe,vs,e1,_,e3,_⟩:=fl'.first
   have nf:ea ∉ frs X.stack:=λz=>by
    rw [hs] at z;obtain ⟨_,o,ho,hd⟩:=fl'.2.2.1.mem z;rw [e1] at ho;cases ho;exact hd _ e3
   have:=hB ea v hv (.inl ⟨u,q⟩) nf
   rw [fl.2.1] at this;cases this
 have sup:∀ {h:Heap} {σ:St} {t:Nat},Heap.FlyingW B (X.env :: X.outer) ea (.ref C) a0 h->Inv X pins σ H' { s' with heap:=h,toks:=t }->∃ oe,oe.cls = .ref C/\h.get? ea = some oe/\Inv (X.sup ea oe λ_ _=>False) pins σ H' { s' with heap:=h,toks:=t }:=λfl I=>by
  obtain ⟨oe,vs,e1,e2,e3,_⟩:=fl.first
  exact ⟨oe,e2,e1,I.sup e1 hea (apart fl.2.2.1 e1 e3 (.inl rfl)) (λz=>apart fl.2.2.1 e1 e3 (.inr z) rfl) λv q=>by rw [e3] at q;cases q⟩
 obtain ⟨oe5,c5,g5,S5⟩:=sup fl5 I5;refine wpAny_handleBy_cons (codeAny_handlers_test (zes S5 hg hm ?_ hd)) (by intro q;cases q);refine (exm_one (M:=model X.prog X.w) I5.kIn (c5 ▸ (Looks.ld g5).andThen .now) he).here (codeAny_handlers_suite ?_);refine lands_againW fl5 λh6 fl6 sm6=>?_;have on6:=N.on hB fl.2.2.1 I.stkFree fl6.1 ((sm4.trans sm5).trans sm6) frx;have I6:Inv X pins σ H' { s' with heap:=h6 }:=I.call' (s':={ s' with heap:=h6 }) N.os on6.1 on6.2 N.bare λb z=>nomatch z;obtain ⟨oe,c6,g6,S6⟩:=sup fl6 I6;exact YAT (k oe _ c6 S6) (λ_ _ z=>z) λ_ _ z=>z.elim
abbrev Cx.trd (X:Cx) (pn:List (Addr × Obj)) (E:Value->Shared->Prop):Cx:={ X with pn:=pn,xe:=E }
theorem Cx.Ok.trd {pn:List (Addr × Obj)} (ok:X.Ok):(X.trd pn E).Ok:=
 ⟨ok.mod,ok.kind,ok.glob,ok.blt,ok.above,ok.inj,ok.has,ok.cab,ok.hd,ok.frames,ok.stk,ok.exf,ok.bs,ok.bsz,ok.noex,ok.exfs,ok.funs,ok.frf⟩
theorem Inv.trd (I:Inv X pins σ H s):Inv (X.trd (X.pn ++ pins) E) [] σ H s:=
 ⟨I.ok.trd,I.os,I.bare,I.base,I.loc,I.cell,I.free,I.freeC,λp hp=>I.pin p (by simpa using hp),I.hok,I.len⟩
theorem Inv.untrd {ps:List (Addr × Obj)} (I:Inv (X.trd (X.pn ++ pins) E) ps σ H s) (ok:X.Ok):Inv X pins σ H s:=
 ⟨ok,I.os,I.bare,I.base,I.loc,I.cell,I.free,I.freeC,λp hp=>I.pin p (YBF _ hp),I.hok,I.len⟩
end
end L2
namespace Fd
open PySem L2
def zgE (b:Bo) (Ds:Ends):EnF where
 nx:=λS ρ=>∀ σ H' G' M',RelF b S M' ρ σ H' G'->Ds.nx σ H'
 rt:=λS d=>∀ v H' G' M' G1,(∃ ad,Kn b.K b.β G1 S M' ad)->Out b M' G1->Stp b.β (ov b.H0 M') G1 H' G'->Rep (reB b S M' G1) G' d v->Ds.rt v H'
 bk:=λS ρ=>∀ σ H' G' M',RelF b S M' ρ σ H' G'->Ds.bk σ H'
 ct:=λS ρ=>∀ σ H' G' M',RelF b S M' ρ σ H' G'->Ds.ct σ H'
theorem ends0_le {b:Bo} {G M:Hp} {Ds:Ends}:EnF.Le (zgE b Ds) (ze1 b G M Ds):=
 ⟨λS ρ h σ H' G' M' r _ _=>h σ H' G' M' r,λS d h v H' G' M' G2 k o t _ e=>h v H' G' M' G2 k o t e,λS ρ h σ H' G' M' r _ _=>h σ H' G' M' r,λS ρ h σ H' G' M' r _ _=>h σ H' G' M' r⟩
structure OTs (X:Cx) (b:Bo) (sts:List Stmt) (W:WF):Prop where
 mono:zmW W
 pss:PSs X sts (λDs σ H=>∃ ρ G S M,RelF b S M ρ σ H G/\W (zgE b Ds) S ρ)
section
variable {X:Cx} {b:Bo} {st b₀:Stmt} {rest body suite:List Stmt} {pos hpos np:Pos}
theorem ztl {W:WF} (h:OSs X b rest W):OTs X b rest W:=⟨h.mono,zdi h.pss λD σ H ⟨ρ,G,S,M,r,q⟩=>⟨ρ,G,S,M,r,h.mono _ _ S ρ ends0_le q⟩⟩
theorem zmS {A B:WF} (h1:OS X b st A) (h2:OTs X b rest B):OTs X b (st :: rest) (seqF A B) where
 mono:=λE E' S ρ l q=>h1.mono { E with nx:=B E } _ S ρ ⟨λS' ρ' z=>h2.mono _ _ S' ρ' l z,l.rt,l.bk,l.ct⟩ q
 pss:=zdi (zaL h1.ps h2.pss) λD σ H ⟨ρ,G,S,M,r,q⟩=>⟨ρ,G,S,M,r,h1.mono { zgE b D with nx:=B (zgE b D) } _ S ρ ⟨λS' ρ' z σ' H' G' M' r' _ _=>⟨ρ',G',S',M',r',z⟩,λS' d z=>ends0_le.rt S' d z,λS' ρ' z=>ends0_le.bk S' ρ' z,λS' ρ' z=>ends0_le.ct S' ρ' z⟩ q⟩
theorem RelF.blank {S:Sto} {M H G:Hp} {ρ:Env} {σ σ':St} {n:Nat} (r:RelF b S M ρ σ H G) (h:σ'.length = n):RelF b S M (List.replicate n .un) σ' H G:=by
 obtain ⟨G1,o,r⟩:=r;have nn:∀ (i:Nat) s,(List.replicate n Sl.un)[i]? = some s->s = .un:=λi s e=>by
  rw [YA6] at e;split at e <;> cases e
  rfl
 exact ⟨G1,o,by simp [h],r.stp,λi s e=>by rw [nn i s e];trivial,λi j a xs ys e1=>(by have:=nn i _ e1;cases this),r.kn⟩
def zqg (n:Nat) (xc:Str) (B:(Str->Sto->Prop)->WF) (V R:WF):WF:=λE S ρ=>∃ Y,B Y { E with nx:=R E } S ρ/\∀ nm S',Y nm S'->nm = xc/\V { E with nx:=R E } S' (List.replicate n .un)
theorem zqz {xc:Str} {Dc:Addr} {B:(Str->Sto->Prop)->WF} {V R:WF} {n:Nat} (hB:∀ (Y:Str->Sto->Prop) (pn:List (Addr × Obj)) (xe:Value->Shared->Prop),zbp (CXN X.prog X.w) (X.trd pn xe) (XO b X.mg Y)->OSs (X.trd pn xe) b body (B Y))
  (hV:∀ ea oe,OSs (X.sup ea oe λ_ _=>False) b (b₀ :: suite) V) (hR:OTs X b rest R) (hm:X.mg xc = some (.ref Dc)) (hx:PySem.W.exmOne X.K (.ref Dc) (.ref Dc) = some true)
  (hst:X.stack = X.env :: X.outer:=by rfl) (hfr:X.env.frame = some X.env.locals:=by rfl) (hg:Gl X xc:=by rfl) (hn:X.N.length = n:=by rfl) (hdc:(xc == ("__debug__" : Str)) = false:=by decide) :
  OTs X b (.Try body [.ExceptHandler (some (.Name xc np)) none (b₀ :: suite) hpos] [] [] pos :: rest) (zqg n xc B V R) where
 mono:=λE E' S ρ l ⟨Y,q,h⟩=>by
  have l':EnF.Le { E with nx:=R E } { E' with nx:=R E' }:=⟨λS' ρ' z=>hR.mono _ _ S' ρ' l z,l.rt,l.bk,l.ct⟩;exact ⟨Y,(hB Y [] (λ_ _=>True) λ_ _ _ _ _ _ _ _=>trivial).mono _ _ S ρ l' q,λnm S' y=>⟨(h nm S' y).1,(hV 0 { cls:=.none,data:=.fields #[] }).mono _ _ S' _ l' (h nm S' y).2⟩⟩
 pss:=by
  refine zdi (zaL (t:=λDs σ H=>∃ ρ G S M Y,RelF b S M ρ σ H G/\B Y (zgE b Ds) S ρ/\∀ nm S',Y nm S'->nm = xc/\V (zgE b Ds) S' (List.replicate n .un)) ?_ hR.pss) λD σ H ⟨ρ,G,S,M,r,Y,q,h⟩=>⟨ρ,G,S,M,Y,r,?_⟩
  ·intro pins s σ H Ds I ⟨ρ,G,S,M,Y,r,q,hY⟩;have ps:zbp (CXN X.prog X.w) (X.trd (X.pn ++ pins) λe s'=>∃ σ1 H1 s1,Inv X pins σ1 H1 s1/\CXN X.prog X.w X.stack H1 s1 (XO b X.mg Y) e s') (XO b X.mg Y):=λps' σ1 H1 s1 e s' I1 cx=>⟨σ1,H1,s1,I1.untrd I.ok,cx⟩;have h:=hB Y _ _ ps;refine wpAny_Try_except (YAT (h.pss [] s σ H Ds I.trd ⟨ρ,G,S,M,r,h.mono _ _ S ρ ends0_le q⟩) (λf s1 z=>?_) λe s1 ⟨σ1,H1,s0,I1,ea,C,H',ee,N,nm,C',S',M',ρ',σ',G',ec,y,hc,r'⟩=>?_)
   ·cases f with
    | next=>obtain ⟨σ1,H1,I1,z⟩:=z;exact YCb ⟨σ1,H1,I1.untrd I.ok,z⟩
    | brk=>obtain ⟨σ1,H1,I1,z⟩:=z;exact ⟨σ1,H1,I1.untrd I.ok,z⟩
    | cont=>obtain ⟨σ1,H1,I1,z⟩:=z;exact ⟨σ1,H1,I1.untrd I.ok,z⟩
    | ret u=>obtain ⟨v,σ1,H1,I1,rv,z⟩:=z;exact ⟨v,σ1,H1,I1.untrd I.ok,rv,z⟩
   ·subst ee;cases ec;obtain ⟨e1,v⟩:=hY nm S' y;subst e1;rw [hm] at hc;cases hc;refine zpR I1 hst hfr N hg hm hx (λoe s2 hoc I2=>?_) hdc;have hv:=hV ea oe;have r2:RelF b S' M' (List.replicate n .un) σ1 H' G':=r'.blank (I1.len.trans hn);refine YAT (hv.pss pins s2 σ1 H' Ds I2 ⟨_,G',S',M',r2,hv.mono _ _ S' _ ends0_le v⟩) (λf s4 z=>?_) λ_ _ w=>w;cases f with
    | next=>obtain ⟨σ1,H1,I1,z⟩:=z;exact ⟨σ1,H1,I1.unsup I.ok,z⟩
    | brk=>obtain ⟨σ1,H1,I1,z⟩:=z;exact ⟨σ1,H1,I1.unsup I.ok,z⟩
    | cont=>obtain ⟨σ1,H1,I1,z⟩:=z;exact ⟨σ1,H1,I1.unsup I.ok,z⟩
    | ret u=>obtain ⟨v,σ1,H1,I1,rv,z⟩:=z;exact ⟨v,σ1,H1,I1.unsup I.ok,rv,z⟩
  ·have l:EnF.Le { zgE b D with nx:=R (zgE b D) } (zgE b { D with nx:=λσ H=>∃ ρ G S M,RelF b S M ρ σ H G/\R (zgE b D) S ρ }):=⟨λS' ρ' z σ' H' G' M' r'=>⟨ρ',G',S',M',r',z⟩,λS' d z=>z,λS' ρ' z=>z,λS' ρ' z=>z⟩;exact ⟨(hB Y [] (λ_ _=>True) λ_ _ _ _ _ _ _ _=>trivial).mono _ _ S ρ l q,λnm S' y=>⟨(h nm S' y).1,(hV 0 { cls:=.none,data:=.fields #[] }).mono _ _ S' _ l (h nm S' y).2⟩⟩
end
theorem zrb {P:Program} {w:World} {K:PySem.W.Frag} {mg:Str->Option Value} {base:Heap} {x qual:Str} {st:Stmt} {f:Addr} {fd:FuncData} {N ps:List Str} {k:Nat} {B:(Str->Sto->Prop)->WF} (F:Fun K x qual st f fd)
  (hB:∀ {cdv:Value} {A:Around} {outer:List PySem.Env} {s:Shared} {H:Hp} {E:XK} {β:Addr} {G M:Hp} (Y:Str->Sto->Prop),(∀ nm C H' G' S M' G1,Y nm S->mg nm = some (.ref C)->(∃ ad,Kn K β G1 S M' ad)->Out ⟨K,β,mi H M,G,M⟩ M' G1->Stp β (ov (mi H M) M') G1 H' G'->E (.ref C) none H')->N.Nodup->Room k (A.deeper (PyProof.Rows.envOfC qual (zak st) s.heap.objs.size f cdv)) ->
   OTs (cxOf (CXN P w) P w K mg base N qual (zak st) f cdv A outer s H E) ⟨K,β,mi H M,G,M⟩ (zbd st) (B Y)) (S:FnScope N ps (zak st):=by exact ⟨rfl,rfl,rfl,by decide +kernel,rfl,by decide +kernel,by decide +kernel⟩):FnOk P w K mg base (CXN P w) (k + 1) f fd ps (spO K mg ps.length (fnWF N.length B)):=by
 obtain ⟨oc,od,kV,doc,pm,an,cdv,ct,osl,rfl,lk,hcd⟩:=F.ex;refine zn5 lk hcd S (λvs H Q E ⟨β,G,S,M,ad,ds,_,_,_,_,_,h,_⟩=>h) λA outer s H vs Q E hr ⟨β,G,So,M,ad,ds,gh,bx,mh,kn,hv,hl,P',Z,q,hP,hZ⟩=>?_;have mb:M β = none:=by
  cases e:M β with
  | none=>rfl
  | some u=>exact absurd rfl (kn.ap β (by rw [e];simp)).2
 have h:=@hB cdv A outer s H E β G M Z (λnm C H' G' S M' G1 z hm ⟨ad',k'⟩ o' t=>by
  obtain ⟨e1,e2,_⟩:=Out.whole mb k' o' t;exact hZ nm S z C H' G' M' ad' hm e1 e2) S.nd hr
 have r0:RelF ⟨K,β,mi H M,G,M⟩ So M (zaz N.length ds) (L2.zen N vs) H G:=by
  refine ⟨G,⟨λa z=>⟨zqB z,(kn.ap a z).1,(kn.ap a z).2⟩,Same.refl _,λa z=>.inl z,λa o z=>(zed (by
   cases y:M a with
   | none=>rfl
   | some u=>exact absurd ((kn.ap a (by rw [y];simp)).1.symm.trans z) (by simp))).trans (gh a o z),Dm.refl M⟩,?_⟩
  have h0:=zc9 (N:=N) gh bx hv;unfold reB;rw [show ov (Bo.H0 ⟨K,β,mi H M,G,M⟩) M = H from zsk mh];exact h0.hyp ⟨ad,kn⟩
 refine ⟨_,h.pss,zaz N.length ds,G,So,M,r0,h.mono { nx:=λS' _=>P' .non S',rt:=λS' d=>P' d S',bk:=λ_ _=>False,ct:=λ_ _=>False } _ So _ ⟨λS' ρ z σ H' G' M' ⟨G1,o',r'⟩=>?_,λS' d z v H' G' M' G1 ⟨ad',k'⟩ o' t e=>?_,λS ρ z=>z.elim,λS ρ z=>z.elim⟩ q⟩
 ·obtain ⟨ad',k'⟩:=r'.kn;obtain ⟨e1,e2,_⟩:=Out.whole mb k' o' r'.stp;exact hP _ _ z .non H' G' M' ad' e1 e2 rfl
 ·obtain ⟨e1,e2,e3⟩:=Out.whole mb k' o' t;exact hP _ _ z v H' G' M' ad' e1 e2 (e3 d v e)
end Fd
set_option maxHeartbeats 400000
namespace Fd
open PySem L2
theorem zel {S:Sto} {p:Addr} {o u:Ob}:upS (upS S p o) p u = upS S p u:=by
 funext a
 by_cases e:a = p
 ·subst e;rw [zaR,zaR]
 ·rw [zc0 e,zc0 e,zc0 e]
theorem IsF.set {o:Ob} {f g:Str} {i j:Nat} {xs ys zs:List D} (h:IsF o g j zs) (hf:IsF o f i xs) (n:i ≠ j):IsF (setF o i f ys) g j zs:=by
 refine ⟨?_,λk y hk e=>?_⟩
 ·show (o.fs.set i (f,ys))[j]? = _;rw [YAi n];exact h.1
 ·have e:(o.fs.set i (f,ys))[k]? = some y:=e;by_cases z:i = k
  ·subst z;rw [YAh (YAd.mp hf.1).1] at e;cases e;exact h.2 i (f,xs) hk hf.1
  ·rw [YAi z] at e;exact h.2 k y hk e
section
variable {X:Cx} {b:Bo} {pos p p2 p3 fp fp2 fp3 ap ap2 ap3 cp cp2 cp3 tp:Pos}
def zoD (i:Nat) (f g h:Str) (C:Addr):WF:=λE S ρ=>match ρ[i]? with
 | some (.val (.obj q))=>∃ o jf jg jh xs ys zs y z,S q = some o/\o.C = C/\IsF o f jf xs/\IsF o g jg (ys ++ [y])/\IsF o h jh (zs ++ [z])/\jg ≠ jh/\jg ≠ jf/\jh ≠ jf/\xs.length < 100000 /\
   E.nx (upS S q (setF (setF (setF o jg g ys) jh h zs) jf f (xs ++ [.tup [y.old,z.old]]))) ρ
 | _=>False
theorem zoP (i:Nat) {x f g h:Str} {C:Addr} {k1:_} (hc:Cls X.K C) (hnf:NoAttr X.K C f) (hng:NoAttr X.K C g) (hnh:NoAttr X.K C h) (hN:X.N[i]? = some x:=by rfl) (hv:Vis X.env.scope x:=by first | exact Or.inl rfl | exact Or.inr (Or.inl rfl) | exact Or.inr (Or.inr rfl))
  (hd:(x == ("__debug__" : Str)) = false:=by decide) (hcd:(x == ("__classdict__" : Str)) = false:=by decide)
  (hb1:attributeBase (.Name x p) f X.env (eval (.Name x p) X.env) = eval (.Name x p) X.env:=by rfl) (hb2:attributeBase (.Name x p2) g X.env (eval (.Name x p2) X.env) = eval (.Name x p2) X.env:=by rfl) (hb3:attributeBase (.Name x p3) h X.env (eval (.Name x p3) X.env) = eval (.Name x p3) X.env:=by rfl)
  (ha1:attributeBase (.Attribute (.Name x p) f fp) "append" X.env (eval (.Attribute (.Name x p) f fp) X.env) = eval (.Attribute (.Name x p) f fp) X.env:=by rfl)
  (ha2:attributeBase (.Attribute (.Name x p2) g fp2) "pop" X.env (eval (.Attribute (.Name x p2) g fp2) X.env) = eval (.Attribute (.Name x p2) g fp2) X.env:=by rfl)
  (ha3:attributeBase (.Attribute (.Name x p3) h fp3) "pop" X.env (eval (.Attribute (.Name x p3) h fp3) X.env) = eval (.Attribute (.Name x p3) h fp3) X.env:=by rfl)
  (hl1:(ap.endLine == cp.line) = true:=by rfl) (hl2:(ap2.endLine == cp2.line) = true:=by rfl) (hl3:(ap3.endLine == cp3.line) = true:=by rfl)
  (hfew:((backTo cp (starEach [.Tuple [.Call (.Attribute (.Attribute (.Name x p2) g fp2) "pop" ap2) [] [] cp2,.Call (.Attribute (.Attribute (.Name x p3) h fp3) "pop" ap3) [] [] cp3] k1 tp] X.env)).all (λx=>!x.1) && (backToKw cp (keywordEach [] X.env)).all (λx=>x.1.isSome)
   && decide (([.Tuple [.Call (.Attribute (.Attribute (.Name x p2) g fp2) "pop" ap2) [] [] cp2,.Call (.Attribute (.Attribute (.Name x p3) h fp3) "pop" ap3) [] [] cp3] k1 tp]:List Expr).length + ([]:List Keyword).length + (if ([]:List Keyword).isEmpty then 0 else 1) < 30)) = true:=by rfl)
  (hs1:starEach [.Tuple [.Call (.Attribute (.Attribute (.Name x p2) g fp2) "pop" ap2) [] [] cp2,.Call (.Attribute (.Attribute (.Name x p3) h fp3) "pop" ap3) [] [] cp3] k1 tp] X.env = (false,eval (.Tuple [.Call (.Attribute (.Attribute (.Name x p2) g fp2) "pop" ap2) [] [] cp2,.Call (.Attribute (.Attribute (.Name x p3) h fp3) "pop" ap3) [] [] cp3] k1 tp) X.env) :: starEach [] X.env:=by rfl)
  (hsw:swapsWith (.Call (.Attribute (.Attribute (.Name x p) f fp) "append" ap) [.Tuple [.Call (.Attribute (.Attribute (.Name x p2) g fp2) "pop" ap2) [] [] cp2,.Call (.Attribute (.Attribute (.Name x p3) h fp3) "pop" ap3) [] [] cp3] k1 tp] [] cp) none pos.line X.env = pure false:=by rfl) (hK:b.K = X.K:=by rfl) :
  OS X b (.Expr (.Call (.Attribute (.Attribute (.Name x p) f fp) "append" ap) [.Tuple [.Call (.Attribute (.Attribute (.Name x p2) g fp2) "pop" ap2) [] [] cp2,.Call (.Attribute (.Attribute (.Name x p3) h fp3) "pop" ap3) [] [] cp3] k1 tp] [] cp) pos) (zoD i f g h C) where
 mono:=λE E' S ρ l q=>by
  unfold zoD at q ⊢;split at q
  ·obtain ⟨o,jf,jg,jh,xs,ys,zs,y,z,h1,h2,h3,h4,h5,n1,n2,n3,h6,q⟩:=q;exact ⟨o,jf,jg,jh,xs,ys,zs,y,z,h1,h2,h3,h4,h5,n1,n2,n3,h6,l.nx _ _ q⟩
  ·exact q.elim
 ps:=zbe (zfR (zmL YA8 YBL YBM zeS (zgr (zbf hN hv hd hcd) hb1)
   (zaD (zoW (zaD (zpt YA8 PySem.F.slot_list_pop PySem.F.type_list_pop zpo (zgr (zbf hN hv hd hcd) hb2) ha2 hl2)
    (zaD (zpt YA8 PySem.F.slot_list_pop PySem.F.type_list_pop zpo (zgr (zbf hN hv hd hcd) hb3) ha3 hl3) zbn))) zbn hs1) ha1 hfew hl1 hs1 rfl) hsw) λD σ H ⟨ρ,G,S,M,⟨G1,u,r⟩,q⟩=>by
  unfold zoD at q;split at q
  ·rename_i a0 ei
   obtain ⟨o,jf,jg,jh,xs,ys,zs,y,z,h1,h2,h3,h4,h5,n1,n2,n3,h6,q⟩:=q;obtain ⟨v,ev,rv⟩:=r.slot i _ ei;have rv':v = V.ref a0:=rv;subst rv';have hMH:∀ {M H G G1:Hp} {S:Sto},Out b M G1->Rel (reB b S M G1) ρ σ H G->∀ c w,M c = some w->H c = some w:=λu r c w hc=>r.stp.fr c w (u.mb c (by rw [hc];simp)).2.2 (zfa hc);obtain ⟨ad,k⟩:=id r.kn
   -- the list that is appended to
   obtain ⟨dx,af,vf,k1,k2,k3,k4,k5⟩:=k.at h1 h3;have hM:=hMH u r;refine ⟨.ref a0,ev,a0,o.C,dx,_,.ref af,rfl,hM _ _ k1,h2 ▸ hc,h2 ▸ hnf,k2,.inl ⟨rfl,vf,SqL.of (hM _ _ k4)⟩,?_⟩
   -- the first pop
   obtain ⟨dx',ag,vg,l1,l2,l3,l4,l5⟩:=k.at h1 h4;obtain ⟨wg,vy,e1,e2,e3⟩:=zgg l5;subst e1;refine ⟨.ref a0,ev,a0,o.C,dx',_,.ref ag,rfl,hM _ _ l1,h2 ▸ hc,h2 ▸ hng,l2,.inl ⟨rfl,_,SqL.of (hM _ _ l4)⟩,?_⟩;refine ⟨ag,wg ++ [vy],vy,rfl,rfl,hM _ _ l4,by simp,?_⟩;rw [List.dropLast_concat];obtain ⟨u2,r2,kk2,dm2⟩:=RelF.put' u r k h1 h4 l3 l4 (nub_at e2 r.stp.gg);have hM2:=hMH u2 r2;have S2:upS S a0 (setF o jg g ys) a0 = some (setF o jg g ys):=zaR
   -- the second
   obtain ⟨dx2,ah,vh,m1,m2,m3,m4,m5⟩:=kk2.at S2 (h5.set h4 n1);obtain ⟨wh,vz,f1,f2,f3⟩:=zgg m5;subst f1;refine ⟨.ref a0,ev,a0,(setF o jg g ys).C,dx2,_,.ref ah,rfl,hM2 _ _ m1,h2 ▸ hc,h2 ▸ hnh,m2,.inl ⟨rfl,_,SqL.of (hM2 _ _ m4)⟩,?_⟩;refine ⟨ah,wh ++ [vz],vz,rfl,rfl,hM2 _ _ m4,by simp,?_⟩;rw [List.dropLast_concat];obtain ⟨u3,r3,kk3,dm3⟩:=RelF.put' u2 r2 kk2 S2 (h5.set h4 n1) m3 m4 (nub_at f2 r2.stp.gg)
   -- the tuple
   refine ⟨by rw [YAQ];show 2 <= 16777216;decide,λt ht=>?_⟩;have tn:G t = none:=zai r3.gh ht;have r4:=r3.step (Stp.new (o:=.tup [vy,vz]) r3.gh r3.bx ht);have S3:upS (upS S a0 (setF o jg g ys)) a0 (setF (setF o jg g ys) jh h zs) a0 = some (setF (setF o jg g ys) jh h zs):=zaR;have if3:IsF (setF (setF o jg g ys) jh h zs) f jf xs:=(h3.set h4 n2).set (h5.set h4 n1) n3;obtain ⟨dx3,af',vf',q1,q2,q3,q4,q5⟩:=kk3.at S3 if3;have eaf:af' = af:=by rw [k3] at q3;exact (Option.some.inj q3).symm
   subst eaf;have hM4:=hMH u3 r4;have hy:Reps (nub b.K b.β (upd G t (.tup [vy,vz]))) (upd G t (.tup [vy,vz])) (xs ++ [.tup [y.old,z.old]]) (vf' ++ [.ref t]):=by
    refine (nub_at q5 (zbo tn)).append (.one ⟨t,[vy,vz],rfl,SqT.of zae,vy,[vz],rfl,?_,vz,[],rfl,?_,rfl⟩)
    ·exact (Rep.hand (c:=nub b.K b.β G1) (c':=nub b.K b.β (upd G t (.tup [vy,vz]))) rfl rfl (e3.mono r.stp.gg)).mono (zbo tn)
    ·exact (Rep.hand (c:=nub b.K b.β G) (c':=nub b.K b.β (upd G t (.tup [vy,vz]))) rfl rfl (f3.mono r2.stp.gg)).mono (zbo tn)
   obtain ⟨u5,r5,kk5,dm5⟩:=RelF.put' u3 r4 kk3 S3 if3 q3 q4 hy;refine ⟨af',vf',.ref t,rfl,rfl,hM4 _ _ q4,by rw [<- q5.length,YAQ];omega,?_⟩;rw [<- zel (o:=setF (setF o jg g ys) jh h zs),<- zel (S:=S) (o:=setF o jg g ys) (u:=setF (setF o jg g ys) jh h zs)] at q;exact q σ _ _ _ ⟨_,u5,r5⟩ (zbo tn) (dm2.trans (dm3.trans dm5))
  ·exact q.elim
end
section
variable {X:Cx} {c:Bk} {o e:Expr} {A B:WE} {apos cpos:Pos}
def lstD (x:D) (Q:List D->Prop):Prop:=match x with | .lst _ xs=>Q xs | _=>False
theorem zsY {x:D} {Q Q':List D->Prop} (k:∀ xs,Q xs->Q' xs) (q:lstD x Q):lstD x Q':=by
 cases x <;> first | exact k _ q | exact q
end
end Fd
set_option maxHeartbeats 400000
namespace Fd
open PySem L2
structure Bd (mg:Str->Option Value):Prop where
 dict:mg "dict" = none
 abs:mg "abs" = none
def lawF (n:Nat) (B:WF):Prop:=B { nx:=λ_ _=>False,rt:=λ_ d=>d = .bl true,bk:=λ_ _=>False,ct:=λ_ _=>False } (λ_=>none) (.un :: .val .box :: List.replicate n .un)
def absF:FL
 | [.int i],Q=>Q (.int (if i < 0 then -i else i))
 | _,_=>False
theorem ztx:zdP absF:=λds Q Q' k q=>by
 unfold absF at q ⊢;split at q <;> first | exact k _ q | exact q.elim
section
variable {X:Cx} {c:Bk} {b:Bo} {st:Stmt} {e a:Expr} {es:List Expr} {sts x y:List Stmt} {pos p npos bpos:Pos}
theorem znX:CallR X (.builtin "abs") (λxs H Q=>∃ i,xs = [.int i]/\Q (.int (if i < 0 then -i else i)) H):=by
 intro pins s σ H xs us Q I r h;obtain ⟨i,rfl,q⟩:=h;obtain ⟨u,rfl,t,rfl⟩:=zft r;exact PyProof.Rows.call_abs_int λu tk=>⟨.int _,H,I.tok _,⟨_,rfl⟩,q⟩
theorem zsm:zgD c absF (λxs H Q=>∃ i,xs = [.int i]/\Q (.int (if i < 0 then -i else i)) H):=by
 intro H G ds vs Q gh bx h0 rv q;unfold absF at q;split at q
 ·obtain ⟨v,rfl,h⟩:=zgw rv;cases h;exact ⟨_,rfl,q _ H G (Stp.refl gh bx) rfl⟩
 ·exact q.elim
theorem zts {R:WL} (hR:DA X c [e] R) (hg:Gl X "abs" := by rfl) (he:starEach [e] X.env = (false,eval e X.env) :: starEach [] X.env:=by rfl) (hm:X.mg "abs" = none:=by decreasing_trivial):DE X c (.Call (.Name "abs" p) [e] [] pos) (cbW absF R):=
 zjK ztx znX zsm hm PyProof.Rows.boot_abs hR hg (by decide) (by decide) he rfl
theorem zmi {x:Str} {k:Nat} {ps:List Str} {F:Fn} (C:Cal X.prog X.w X.K X.mg X.base x k ps (spD X.K 0 F)) (hg:Gl X x:=by rfl) (hdb:(x == ("__debug__" : Str)) = false:=by decide) (hK:c.K = X.K:=by rfl) (hr:Room k X.A:=by decreasing_trivial):DE X c (.Call (.Name x p) [] [] pos) (zam 0 F nilA) where
 mono:=λρ Q Q' k q=>⟨q.1,zbU F _ _ _ k q.2⟩
 pe:=by
  obtain ⟨f,fd,FO,hm,hk,hb⟩:=C.ex;refine zay (zoe FO hr hg hm hk hb .nil zjT hdb) λσ H Q ⟨ρ,G,r,q⟩=>?_;show spD X.K 0 F ([] ++ []) H Q E0;exact ⟨c.β,G,[],r.gh,r.bx,rfl,rfl,zbU F _ _ _ (λd z v H2 G2 t2 e2=>z v H2 G2 t2 (Rep.back (c':=⟨X.K,c.β,H,G,True⟩) (c:=c) hK.symm rfl (λa h=>r.new0 h) e2)) q.2⟩
@[reducible] def za2 (A:Sto->WE):WOE:=λρ S Q=>A S ρ λd=>Q d S
theorem oe_l {A:Sto->WE} (h:∀ S M G1,DE X (reB b S M G1) e (A S)):OE X b e (za2 A):=zjX h
theorem DA.nox {W:WL} (h:DA X.nox c es W):DA X c es W:=⟨h.mono,PA.nox h.pa⟩
theorem PSs.nox {t:TS} (h:PSs X.nox sts t):PSs X sts t:=λpins s σ H D I hw=>YAT (h pins s σ H D (I.wish _) hw) (λf s1 z=>by
 cases f with
 | next=>obtain ⟨σ1,H1,I1,z⟩:=z;exact ⟨σ1,H1,I1.unwish,z⟩
 | brk=>obtain ⟨σ1,H1,I1,z⟩:=z;exact ⟨σ1,H1,I1.unwish,z⟩
 | cont=>obtain ⟨σ1,H1,I1,z⟩:=z;exact ⟨σ1,H1,I1.unwish,z⟩
 | ret u=>obtain ⟨v,σ1,H1,I1,rv,z⟩:=z;exact ⟨v,σ1,H1,I1.unwish,rv,z⟩) λ_ _ z=>z.elim
theorem OSs.nox {W:WF} (h:OSs X.nox b sts W):OSs X b sts W:=⟨h.mono,PSs.nox h.pss⟩
@[reducible] def frzF (i:Nat) (A:WF):WF:=λE S ρ=>A E S (frz i ρ)
theorem zsv (i:Nat) {A:WF} (h:OS X b st A):OS X b st (frzF i A) where
 mono:=λE E' S ρ l q=>h.mono E E' S _ l q
 ps:=zbe h.ps λD σ H ⟨ρ,G,S,M,⟨G1,o,r⟩,q⟩=>by
  obtain ⟨G',s',r'⟩:=zmf r i;exact ⟨frz i ρ,G',S,M,⟨G1,o,r'⟩,h.mono _ _ S _ (zcm s' (Dm.refl M)) q⟩
@[reducible] def ifAN (C:Sto->WT) (A:WOE) (U V:WF):WF:=λE S ρ=>C S ρ λt=>if t = true then (A ρ S λd S1=>truD d λt2=>if t2 = true then V E S1 ρ else U E S1 ρ) else V E S ρ
theorem zpN {C:Sto->WT} {A:WOE} {U V:WF} (hC:∀ S M G1,DT X (reB b S M G1) a (C S)) (hA:OE X b e A) (hU:OSs X b x U) (hV:OSs X b y V) (he:∀ whole,isTrue e X.env whole = (do let v <- whole;standAt e.pos;holding [v] (truthy v)):=by intro _;rfl) (hK:b.K = X.K:=by rfl) :
  OS X b (.If (.BoolOp .And [a,.UnaryOp .Not e npos] bpos) x y pos) (ifAN C A U V) where
 mono:=λE E' S ρ l q=>(hC S (λ_=>none) (λ_=>none)).mono ρ _ _ (λt z=>by
  cases t
  ·exact hV.mono _ _ S ρ l z
  ·exact hA.mono ρ S _ _ (λd S1 z=>zf0 d (λt z=>by
    cases t
    ·exact hU.mono _ _ S1 ρ l z
    ·exact hV.mono _ _ S1 ρ l z) z) z) q
 ps:=λpins s σ H D I ⟨ρ,G,S,M,⟨G1,o,r⟩,q⟩=>zjO ((zpi (hC S M G1).pt (zmy (zmE (zfx hA.pe he)))).pt) hU.pss hV.pss pins s σ H D I ⟨ρ,G,r,(hC S M G1).mono ρ _ _ (λt z H' G' t1=>by
  cases t
  ·exact ⟨ρ,G',S,M,⟨G1,o,r.step t1⟩,hV.mono _ _ S ρ (zcm t1.gg (Dm.refl M)) z⟩
  ·refine ⟨ρ,G',S,M,⟨G1,o,r.step t1⟩,hA.mono ρ S _ _ (λd S1 z v H2 G2 M2 r2 s2 m2=>?_) z⟩;obtain ⟨Ga,oa,ra,ea⟩:=r2;unfold truD at z;split at z
   ·rename_i k hk
    refine ⟨k,hK ▸ zjy ra.gh ea hk,?_⟩;cases k
    ·exact ⟨ρ,G2,S1,M2,⟨Ga,oa,ra⟩,hU.mono _ _ S1 ρ (zcm (t1.gg.trans s2) m2) z⟩
    ·exact ⟨ρ,G2,S1,M2,⟨Ga,oa,ra⟩,hV.mono _ _ S1 ρ (zcm (t1.gg.trans s2) m2) z⟩
   ·exact z.elim) q⟩
end
theorem zsc {k:Nat} {A:Around} (r:Room k A):A.units + 1 < cLine:=by have:=Room.units r;omega
theorem zi7 {X:Cx} {b:Bo}:zbp (CXN X.prog X.w) X (XO b X.mg λ_ _=>False):=by
 rintro pins σ H s _ s' I ⟨ea,C,H',rfl,N,nm,C',S',M',ρ,σ',G',ec,y,r⟩;exact y.elim
section
variable {P:Program} {w:World} {K:PySem.W.Frag} {mg:Str->Option Value} {base:Heap} {N:List Str} {qual:Str} {scope:Scope} {f:Addr} {cd:Value} {A:Around} {outer:List PySem.Env} {s0:Shared} {H0 H G M:Hp} {E:XK} {β:Addr}
theorem zhM {Y:Str->Prop} (hY:∀ nm C H' G',Y nm->mg nm = some (.ref C)->Stp β H G H' G'->E (.ref C) none H'):zbp (CXN P w) (cxOf (CXN P w) P w K mg base N qual scope f cd A outer s0 H0 E) (XD ⟨K,β,H,G,True⟩ mg Y):=
 zrW λC H' ⟨nm,C',G',ec,y,hm,t⟩=>by cases ec;exact hY nm C H' G' y hm t
theorem zqi {Y:Str->Sto->Prop} (hY:∀ nm C H' G' S M' G1,Y nm S->mg nm = some (.ref C)->(∃ ad,Kn K β G1 S M' ad)->Out ⟨K,β,mi H M,G,M⟩ M' G1->Stp β (ov (mi H M) M') G1 H' G'->E (.ref C) none H'):zbp (CXN P w) (cxOf (CXN P w) P w K mg base N qual scope f cd A outer s0 H0 E) (XO ⟨K,β,mi H M,G,M⟩ mg Y):=
 zrW λC H' ⟨nm,C',S',M',ρ,σ,G',ec,y,hm,G1,o,r⟩=>by cases ec;exact hY nm C H' G' S' M' G1 y hm r.kn o r.stp
end
structure TabP (P:Program) (w:World) (K:PySem.W.Frag) (mg:Str->Option Value) (base:Heap) (lv n:Nat) (T:List (Addr × FnX)):Prop where
 ex:∀ q ∈ T,∃ fd k ps,FnOk P w K mg base (CXN P w) k q.1 fd ps (spDX K mg n q.2)/\k <= lv/\PySem.W.keepIn K (.ref q.1) = true/\Binds K fd ps []
theorem TabP.at {X:Cx} {lv n:Nat} {T:List (Addr × FnX)} (h:TabP X.prog X.w X.K X.mg X.base lv n T) (hr:Room lv X.A):Tab X n T:=
 ⟨λq hq=>by
  obtain ⟨fd,k,ps,h1,h2,h3,h4⟩:=h.ex q hq;exact ⟨fd,k,ps,h1,hr.mono h2,h3,h4⟩⟩
theorem TabP.nil {P:Program} {w:World} {K:PySem.W.Frag} {mg:Str->Option Value} {base:Heap} {lv n:Nat}:TabP P w K mg base lv n []:=⟨λq h=>by cases h⟩
theorem TabP.cons {P:Program} {w:World} {K:PySem.W.Frag} {mg:Str->Option Value} {base:Heap} {lv n k:Nat} {T:List (Addr × FnX)} {f:Addr} {fd:FuncData} {ps:List Str} {F:FnX} {x qual:Str} {st:Stmt} (Fu:Fun K x qual st f fd) (h:FnOk P w K mg base (CXN P w) k f fd ps (spDX K mg n F)) (hb:Binds K fd ps []) (r:TabP P w K mg base lv n T) (hk:k <= lv:=by decide):TabP P w K mg base lv n ((f,F) :: T):=
 ⟨λq hq=>by
  rcases YAu.mp hq with rfl | hq
  ·exact ⟨fd,k,ps,h,hk,Fu.kp,hb⟩
  ·exact r.ex q hq⟩
theorem zcj {K:PySem.W.Frag} {x:Str} {t:Tok} {f:Addr}:GRow K (x,t,.ref f) (x,.obj f):=⟨rfl,.ref f,rfl,λc G hK=>rfl⟩
end Fd
set_option maxHeartbeats 400000
namespace Fd
open PySem L2
def ztR (K:PySem.W.Frag):V->List V->Hp->VK->Prop:=λx vs H Q=>∃ (c:Bk) (G:Hp) (n:Bool) (ds:List D) (d:D) (v:V) (j:Nat) (e:D),c.K = K/\Same G H/\Rep c G (.lst n ds) x/\vs = [v]/\Rep c G d v/\inOk d ds/\ds.length <= 100000/\ds[j]? = some e/\eqB e d = true/\(∀ m,m < j->∀ y,ds[m]? = some y->eqB y d = false)/\Q (.int j) H
theorem zpP {X:Cx} (hu:X.A.units + 64 < cLine):MtR X "list.index" (ztR X.K):=by
 intro pins s σ H x vs v us Q I rx rv ⟨c,G,n,ds,d,v1,j,e,hK,gh,hx,e1,hv,⟨lx,ly,ld⟩,hl,hj,he,hno,q⟩;subst e1;obtain ⟨u,rfl,ru⟩:=rv.one;obtain ⟨as,qa⟩:=hv.reads hK I gh d ru lx;obtain ⟨bs,qb⟩:=hx.reads hK I gh (.lst n ds) rx (by unfold layD;exact ly);unfold toPy at qb;have hxs:=zcN ds ly;have hd:=zcV d lx;obtain ⟨ra,_,er,_⟩:=id hx;subst er;obtain rfl:v = Value.ref ra:=rx;cases qb with
 | @list _ o items n2 _ as2 h1 h2 h3 h4=>
  have ho:s.heap.get? ra = some { cls:=.type "list",dict:=o.dict,data:=.seq items n2,slots:=o.slots }:=by rw [h1,<- h2,<- h3]
  have mp:=SeqAt.readsAll_map _ _ _ hxs h4;have hsz:items.size = ds.length:=by
   have:=congrArg List.length mp
   rw [zgu,YAc,YAc,YBa] at this;exact this
  have at_:∀ (m:Nat) (hm:m < items.size) (y:D),ds[m]? = some y->SeqAt.readOf s.heap items[m] = toPy y:=λm hm y hy=>by
   have:=congrArg (λl=>l[m]?) mp
   simp only [zgu,YAt,hy,YBz,YBe hm,YCC,YCp] at this;exact this
  have hjl:j < ds.length:=(YAd.mp hj).1;refine YCH F.slot_list_index ⟨_,ho,rfl⟩ F.entry_list_index (F.args_list_index_2 _ _) (SeqAt.list_indexAt ra items n2 o.dict o.slots u (λy=>PyData.eqv (SeqAt.readOf s.heap y) (toPy d)) j (by omega) (by omega) ?_ ?_) ⟨ho,?_,⟨.int j,H,I.tok _,⟨_,rfl⟩,q⟩⟩
  ·show PyData.eqv (SeqAt.readOf s.heap items[j]) (toPy d) = true;rw [at_ j (by omega) e hj];exact he
  ·intro m hm hmj;show PyData.eqv (SeqAt.readOf s.heap items[m]) (toPy d) = false;rw [at_ m hm _ (YAk (by omega))];exact hno m hmj _ (YAk (by omega))
  ·exact SeqAt.items_eqAt h4 qa hxs hd (by omega)
def zsH (xs:List D) (y:D) (Q:D->Prop):Prop:=inOk y xs/\xs.length <= 100000/\∃ (j:Nat) (e:D),xs[j]? = some e/\eqB e y = true/\(∀ m,m < j->∀ z,xs[m]? = some z->eqB z y = false)/\Q (.int j)
@[reducible] def zqk (A B:WE):WE:=λρ Q=>A ρ λx=>lstD x λxs=>B ρ λy=>zsH xs y Q
theorem zrS {X:Cx} {c:Bk} {o e:Expr} {A B:WE} {apos cpos:Pos} (hA:DE X c o A) (hB:DE X c e B) (hbase:attributeBase o "index" X.env (eval o X.env) = eval o X.env:=by rfl)
  (hfew:((backTo cpos (starEach [e] X.env)).all (λx=>!x.1) && (backToKw cpos (keywordEach [] X.env)).all (λx=>x.1.isSome)
   && decide (([e]:List Expr).length + ([]:List Keyword).length + (if ([]:List Keyword).isEmpty then 0 else 1) < 30)) = true:=by rfl)
  (hline:(apos.endLine == cpos.line) = true:=by rfl) (hs:starEach [e] X.env = (false,eval e X.env) :: starEach [] X.env:=by rfl) (hplain:(backTo cpos (starEach [] X.env)).any (·.1) = false:=by rfl) (hK:c.K = X.K:=by rfl) (hu:X.A.units + 64 < cLine:=by decreasing_trivial) :
  DE X c (.Call (.Attribute o "index" apos) [e] [] cpos) (zqk A B) where
 mono:=λρ Q Q' k q=>hA.mono ρ _ _ (λx z=>zsY (λt y=>hB.mono ρ _ _ (λy ⟨h1,h2,j,e,h3,h4,h5,h6⟩=>⟨h1,h2,j,e,h3,h4,h5,k _ h6⟩) y) z) q
 pe:=zay (zmL YA8 PySem.F.slot_list_index PySem.F.type_list_index (zpP hu) hA.pe (zaD hB.pe zbn hs) hbase hfew hline hs hplain) λσ H Q ⟨ρ,G,R,q⟩=>⟨ρ,G,R,hA.mono ρ _ _ (λx z v H1 G1 t1 e1=>by
  cases x with
  | lst n xs=>
   obtain ⟨a,vs,ea,ha,hn,rv⟩:=id e1;subst ea;refine ⟨.inl ⟨rfl,vs,SqL.of (t1.gh _ _ ha)⟩,ρ,G1,R.step t1,hB.mono ρ _ _ (λy ⟨h1,h2,j,e,h3,h4,h5,h6⟩ v H2 G2 t2 e2=>?_) z⟩;exact ⟨c,G2,n,xs,y,v,j,e,hK,t2.gh,e1.mono t2.gg,rfl,e2,h1,h2,h3,h4,h5,h6 _ H2 G2 (t1.trans t2) rfl⟩
  | _=>exact z.elim) q⟩
structure Ads where
 fen:Addr
 mark_entered:Addr
 hand_entered:Addr
 run_entered:Addr
 run_struck:Addr
 run_mended:Addr
 mark_settled:Addr
 hand_set_aside:Addr
 hand_heeded:Addr
 number_allowed:Addr
def zbD:Fn:=fnW 0 ((retW (zpJ ["stands","hands","aside","runs","entered","allowed"] (zab (tupW nilA) (zab (tupW nilA) (zab (tupW nilA) (zab (tupW nilA) (zab (kW (.int 0)) (zab (kW (.int 0)) nilA)))))))))
def zb4 (A:Ads):FnF:=fnWF 1 (λY=>(seqF (setO 0 "kept" A.fen (λS=>(lstW nilA)))
  (seqF (setO 0 "books" A.fen (λS=>(lstW (zab (zam 0 zbD nilA) nilA))))
  (setO 0 "undone" A.fen (λS=>(lstW nilA))))))
def zcI:Fn:=fnW 0 ((retW (zpJ ["places","heeded","rows","entered","many","deeds"] (zab (valW (lstW nilA)) (zab zss (zab (valW (lstW nilA)) (zab (kW (.int 0)) (zab (kW (.int 0)) (zab (valW (lstW nilA)) nilA)))))))))
def za7:Fn:=fnW 2 ((retW (cbW zbx (zab (valW (zaC [none,some 1] (za4 (binW zas (vW 0) (kW (.str "places")))) (.nm 0) (blW (binW eqD (binW ixXD (vW 0) (kW (.int 0))) (vW 1))) (vW 0))) nilA))))
def zaN:Fn:=fnW 2 ((retW (zqk (binW zas (vW 0) (kW (.str "places"))) (tupW (zab (vW 1) (zab (zam 2 za7 (zab (vW 0) (zab (vW 1) nilA))) nilA))))))
def zcB:Fn:=fnW 6 ((seqW (dcpW 0 (vW 0))
  (seqW (dstW 0 (kW (.str "deeds")) (binW addD (ogW 0 (kW (.str "deeds"))) (valW (lstW (zab (vW 1) nilA)))))
  (seqW (asgW (.nm 2) (binW ixXD (vW 1) (kW (.int 0))))
  (seqW (ifS (orT (blW (binW eqD (vW 2) (kW (.str "mark")))) (blW (binW eqD (vW 2) (kW (.str "settle"))))) (dstW 0 (kW (.str "places")) (binW addD (ogW 0 (kW (.str "places"))) (valW (lstW (zab (tupW (zab (binW ixXD (vW 1) (kW (.int 1))) (zab (binW addD (ziB 0 2 za7 (zab (binW ixXD (vW 1) (kW (.int 1))) nilA)) (kW (.int 1))) nilA))) nilA))))) (ifS (blW (binW (inXD false) (vW 2) (tupW (zab (kW (.str "hand")) (zab (kW (.str "heed")) (zab (kW (.str "aside")) nilA)))))) (dc2W 3 (ogW 0 (kW (.str "heeded"))) (binW neD (vW 2) (kW (.str "aside"))) (binW ixXD (vW 1) (kW (.int 1)))
  (dstW 0 (kW (.str "heeded")) (vW 3))) (ifS (blW (binW eqD (vW 2) (kW (.str "run")))) (seqW (zk9 0 (kW (.str "entered")) (kW (.int 1)))
  (seqW (asgW (.nm 4) (binW addD (tupW (zab (ogW 0 (kW (.str "entered"))) (zab (ziB 0 2 zaN (zab (binW ixXD (vW 1) (kW (.int 1))) nilA)) (zab (ziB 0 2 zaN (zab (binW ixXD (vW 1) (kW (.int 2))) nilA)) nilA)))) (slXW (vW 1) (ziG (kW (.int 3))) noO)))
  (dstW 0 (kW (.str "rows")) (binW addD (ogW 0 (kW (.str "rows"))) (valW (lstW (zab (vW 4) nilA))))))) (ifS (blW (binW eqD (vW 2) (kW (.str "strike")))) (dstW 0 (kW (.str "rows")) (valW (zaC [none,some 1] (za4 (ogW 0 (kW (.str "rows")))) (.nm 0) (blW (binW neD (binW ixXD (vW 0) (kW (.int 0))) (binW ixXD (vW 1) (kW (.int 1))))) (vW 0)))) (ifS (blW (binW eqD (vW 2) (kW (.str "mend")))) (seqW (ownW 5 (lstW nilA))
  (seqW (forW (za4 (ogW 0 (kW (.str "rows")))) (.nm 4) (appW 5 (binW ixXD (valW (lstW (zab (vW 4) (zab (binW addD (slXW (vW 4) noO (ziG (kW (.int 3)))) (tupW (zab (binW ixXD (vW 1) (kW (.int 2))) (zab (binW ixXD (vW 4) (kW (.int 4))) nilA)))) nilA)))) (cbW zjh (zab (binW eqD (binW ixXD (vW 4) (kW (.int 0))) (binW ixXD (vW 1) (kW (.int 1)))) nilA)))))
  (frzW 5 (dstW 0 (kW (.str "rows")) (vW 5))))) (dstW 0 (kW (.str "many")) (binW ixXD (vW 1) (kW (.int 1)))))))))
  (zou 0))))))
def zap:Fn:=fnW 4 ((zoc 0 1 2 3))
def zbl:Fn:=fnW 2 ((retW (cbW zbx (zab (valW (zaC [none,none,some 1] (za4 (vW 0)) (.tp 2 (.cons (.nm 0) (.cons (.nm 1) .nil))) (blW (binW eqD (vW 0) (vW 2))) (vW 1))) nilA))))
def zcL:Fn:=fnW 2 ((retW (tupW (zab (vW 1) (zab (binW addD (zam 2 zbl (zab (vW 0) (zab (vW 1) nilA))) (kW (.int 1))) nilA)))))
def zbm:FnX:=fnWX 3 (λY=>(seqW (asgW (.nm 2) (binW zas (vW 0) (kW (.str "stands"))))
  (seqW (ifS (blW (binW geD (cbW zbx (zab (vW 2) nilA)) (kW (.int 12)))) (rzW (zab (kW (.str "there is no room for another stand")) nilA) (Y "Full")) nilS)
  (retW (zam 3 zap (zab (vW 0) (zab (kW (.str "stands")) (zab (binW addD (vW 2) (tupW (zab (zam 2 zcL (zab (vW 2) (zab (vW 1) nilA))) nilA))) nilA))))))))
def zcE:FnX:=fnWX 4 (λY=>(seqW (asgW (.tp 2 (.cons (.nm 2) (.cons (.nm 3) .nil))) (vW 1))
  (seqW (ifS (notT (truW (zam 1 zce (zab (vW 3) nilA)))) (rzW (zab (kW (.str "a mark's name is 1 to 8 small letters")) nilA) (Y "BadName")) nilS)
  (seqW (ifS (blW (binW gtD (zam 2 zbl (zab (binW zas (vW 0) (kW (.str "stands"))) (zab (vW 3) nilA))) (kW (.int 0)))) (rzW (zab (kW (.str "there is a mark of this name")) nilA) (Y "Taken")) nilS)
  (retW (zdY 2 zbm Y (zab (vW 0) (zab (vW 3) nilA))))))))
def zcv:FnX:=fnWX 5 (λY=>(seqW (asgW (.tp 2 (.cons (.nm 2) (.cons (.nm 3) .nil))) (vW 1))
  (seqW (asgW (.nm 4) (binW zas (vW 0) (kW (.str "hands"))))
  (seqW (ifS (notT (truW (zam 1 zce (zab (vW 3) nilA)))) (rzW (zab (kW (.str "a hand's name is 1 to 8 small letters")) nilA) (Y "BadName")) nilS)
  (seqW (ifS (blW (binW (inXD false) (vW 3) (vW 4))) (rzW (zab (kW (.str "there is a hand of this name")) nilA) (Y "Taken")) nilS)
  (seqW (ifS (blW (binW geD (cbW zbx (zab (vW 4) nilA)) (kW (.int 10)))) (rzW (zab (kW (.str "there is no room for another hand")) nilA) (Y "Full")) nilS)
  (retW (zam 3 zap (zab (vW 0) (zab (kW (.str "hands")) (zab (binW addD (vW 4) (tupW (zab (vW 3) nilA))) nilA)))))))))))
def zbL:FnX:=fnWX 3 (λY=>(seqW (asgW (.nm 2) (zam 2 zbl (zab (vW 0) (zab (vW 1) nilA))))
  (seqW (ifS (blW (binW eqD (vW 2) (kW (.int 0)))) (rzW (zab (kW (.str "there is no mark of this name")) nilA) (Y "NoMark")) nilS)
  (retW (tupW (zab (vW 1) (zab (vW 2) nilA)))))))
def zcK:FnX:=fnWX 2 (λY=>(ifS (blW (binW (inXD true) (vW 1) (binW zas (vW 0) (kW (.str "hands"))))) (rzW (zab (kW (.str "there is no hand of this name")) nilA) (Y "NoHand")) nilS))
def zbE:FnX:=fnWX 1 (λY=>(ifS (blW (binW gtD (cbW absF (zab (vW 0) nilA)) (kW (.int 1000000000)))) (rzW (zab (kW (.str "the rise is beyond the bounds")) nilA) (Y "BadRise")) nilS))
def zcW:FnX:=fnWX 13 (λY=>(seqW (asgW (.tp 5 (.cons (.nm 2) (.cons (.nm 3) (.cons (.nm 4) (.cons (.nm 5) (.cons (.nm 6) .nil)))))) (vW 1))
  (seqW (asgW (.tp 2 (.cons (.nm 7) (.cons (.nm 8) .nil))) (zdY 2 zbL Y (zab (binW zas (vW 0) (kW (.str "stands"))) (zab (vW 3) nilA))))
  (seqW (asgW (.tp 2 (.cons (.nm 9) (.cons (.nm 10) .nil))) (zdY 2 zbL Y (zab (binW zas (vW 0) (kW (.str "stands"))) (zab (vW 4) nilA))))
  (seqW (ifS (blW (binW eqD (vW 3) (vW 4))) (rzW (zab (kW (.str "a run goes between two marks")) nilA) (Y "Same")) nilS)
  (seqW (zjP (zdY 2 zcK Y (zab (vW 0) (zab (vW 6) nilA))))
  (seqW (zjP (zdY 1 zbE Y (zab (vW 5) nilA)))
  (seqW (ifS (blW (binW geD (cbW zbx (zab (binW zas (vW 0) (kW (.str "runs"))) nilA)) (kW (.int 40)))) (rzW (zab (kW (.str "there is no room for another run")) nilA) (Y "Full")) nilS)
  (seqW (asgW (.nm 11) (binW addD (binW zas (vW 0) (kW (.str "entered"))) (kW (.int 1))))
  (seqW (asgW (.nm 12) (tupW (zab (vW 11) (zab (vW 7) (zab (vW 8) (zab (vW 9) (zab (vW 10) (zab (vW 5) (zab (vW 6) nilA)))))))))
  (retW (zam 3 zap (zab (zam 3 zap (zab (vW 0) (zab (kW (.str "entered")) (zab (vW 11) nilA)))) (zab (kW (.str "runs")) (zab (binW addD (binW zas (vW 0) (kW (.str "runs"))) (tupW (zab (vW 12) nilA))) nilA)))))))))))))))
def zbz:FnX:=fnWX 2 (λY=>(ifS (blW (binW (inXD true) (vW 1) (valW (zaC [none] (za4 (binW zas (vW 0) (kW (.str "runs")))) (.nm 0) noIf (binW ixXD (vW 0) (kW (.int 0))))))) (rzW (zab (kW (.str "no run of this number stands")) nilA) (Y "NoRun")) nilS))
def zco:FnX:=fnWX 4 (λY=>(seqW (asgW (.tp 2 (.cons (.nm 2) (.cons (.nm 3) .nil))) (vW 1))
  (seqW (zjP (zdY 2 zbz Y (zab (vW 0) (zab (vW 3) nilA))))
  (retW (zam 3 zap (zab (vW 0) (zab (kW (.str "runs")) (zab (cbW zf5 (zab (valW (zaC [none,some 3] (za4 (binW zas (vW 0) (kW (.str "runs")))) (.nm 0) (blW (binW neD (binW ixXD (vW 0) (kW (.int 0))) (vW 1))) (vW 0))) nilA)) nilA))))))))
def zdn:FnX:=fnWX 6 (λY=>(seqW (asgW (.tp 3 (.cons (.nm 2) (.cons (.nm 3) (.cons (.nm 4) .nil)))) (vW 1))
  (seqW (zjP (zdY 2 zbz Y (zab (vW 0) (zab (vW 3) nilA))))
  (seqW (zjP (zdY 1 zbE Y (zab (vW 4) nilA)))
  (seqW (asgW (.nm 5) (valW (zaC [none,some 3,some 4] (za4 (binW zas (vW 0) (kW (.str "runs")))) (.nm 0) noIf (ifW (blW (binW eqD (binW ixXD (vW 0) (kW (.int 0))) (vW 1))) (binW addD (slXW (vW 0) noO (ziG (kW (.int 5)))) (tupW (zab (vW 2) (zab (binW ixXD (vW 0) (kW (.int 6))) nilA)))) (vW 0)))))
  (retW (zam 3 zap (zab (vW 0) (zab (kW (.str "runs")) (zab (cbW zf5 (zab (vW 5) nilA)) nilA))))))))))
def zbO:FnX:=fnWX 4 (λY=>(seqW (asgW (.tp 2 (.cons (.nm 2) (.cons (.nm 3) .nil))) (vW 1))
  (seqW (ifS (orT (blW (binW ltD (vW 3) (kW (.int 0)))) (blW (binW gtD (vW 3) (kW (.int 3))))) (rzW (zab (kW (.str "so many false hands can't be allowed for")) nilA) (Y "BadNumber")) nilS)
  (retW (zam 3 zap (zab (vW 0) (zab (kW (.str "allowed")) (zab (vW 3) nilA))))))))
def kvA (A:Ads):List (Str × D):=[("mark",.obj A.mark_entered),("hand",.obj A.hand_entered),("run",.obj A.run_entered),("strike",.obj A.run_struck),("mend",.obj A.run_mended),("settle",.obj A.mark_settled),("aside",.obj A.hand_set_aside),("heed",.obj A.hand_heeded),("allow",.obj A.number_allowed)]
def tabA (A:Ads):List (Addr × FnX):=[(A.mark_entered,zcE),(A.hand_entered,zcv),(A.run_entered,zcW),(A.run_struck,zco),(A.run_mended,zdn),(A.number_allowed,zbO)]
def zaP (A:Ads):FnX:=fnWX 3 (λY=>(seqW (asgW (.nm 2) (ixGW (kvA A) (binW ixXD (vW 1) (kW (.int 0)))))
  (retW (zkh 2 2 (tabA A) Y (zab (vW 0) (zab (vW 1) nilA))))))
def zaB (A:Ads):Sto->Fn:=λS=>fnW 1 ((retW (fixW S 0 "books" A.fen (unW negD (kW (.int 1))))))
def zaT (A:Ads):FnF:=fnWF 3 (λY=>(seqF (asgO (.nm 2) (zo1 2 (zaP A) Y (za1 (za2 λS=>(zbN S 0 A.fen "now" 1 (zaB A) (λ_ Q=>Q []))) (za1 (za2 λS=>(vW 1)) nilO))))
  (seqF (appO 0 "kept" A.fen (λS=>(vW 1)))
  (seqF (appO 0 "books" A.fen (λS=>(vW 2)))
  (seqF (setO 0 "undone" A.fen (λS=>(lstW nilA)))
  (seqF (zbS λS=>(ifS (blW (binW eqD (binW ixXD (vW 1) (kW (.int 0))) (kW (.str "run")))) (retW (binW zas (vW 2) (kW (.str "entered")))) nilS))
  (zbS λS=>(retW (kW .non)))))))))
def zbj:Fn:=fnW 2 ((retW (binW ixXD (valW (lstW (zab (kW .non) (zab (binW addD (binW zas (vW 0) (kW (.str "entered"))) (kW (.int 1))) nilA)))) (cbW zjh (zab (binW eqD (binW ixXD (vW 1) (kW (.int 0))) (kW (.str "run"))) nilA)))))
def za0 (A:Ads):FnF:=fnWF 3 (λY=>(seqF (ifNO (zsM 2 (zaQ 6) (za1 (zc8 0 A.fen "deed" 2 (zaT A) (λ_ _=>False) (za1 (za2 λS=>(vW 2)) nilO)) (za1 (za2 λS=>(zam 2 zbj (zab (vW 1) (zab (vW 2) nilA)))) nilO))) (zbS λS=>(retW (kW .non))) nilF)
  (zbS λS=>(retW (zam 2 zcB (zab (vW 1) (zab (vW 2) nilA)))))))
def zbC:Fn:=fnW 1 ((retW (valW (zaC [none,none] (za4 (binW zas (vW 0) (kW (.str "places")))) (.tp 2 (.cons (.nm 0) (.cons (.nm 1) .nil))) (blW (binW eqD (vW 1) (kW (.int 1)))) (vW 0)))))
def zb8:Fn:=fnW 1 ((retW (binW subD (binW modD (binW mulD (binW mulD (vW 0) (vW 0)) (kW (.int 3))) (kW (.int 17))) (vW 0))))
def za3:Fn:=fnW 8 ((seqW (asgW (.nm 2) (zam 1 zbC (zab (vW 1) nilA)))
  (seqW (asgW (.nm 3) (valW (zoN (binW zas (vW 1) (kW (.str "heeded"))))))
  (seqW (ifS (orT (blW (binW ltD (cbW zbx (zab (vW 2) nilA)) (kW (.int 2)))) (orT (blW (binW eqD (vW 3) (valW (lstW nilA)))) (blW (binW geD (cbW zbx (zab (binW zas (vW 1) (kW (.str "rows"))) nilA)) (kW (.int 40)))))) (retW (kW .non)) nilS)
  (seqW (asgW (.nm 4) (zam 2 zad (zab (vW 0) (zab (cbW zbx (zab (vW 2) nilA)) nilA))))
  (seqW (parW 5 6 (binW ixXD (vW 2) (vW 4)) (binW ixXD (vW 2) (binW modD (binW addD (binW addD (vW 4) (kW (.int 1))) (zam 2 zad (zab (vW 0) (zab (binW subD (cbW zbx (zab (vW 2) nilA)) (kW (.int 1))) nilA)))) (cbW zbx (zab (vW 2) nilA)))))
  (seqW (asgW (.nm 7) (binW subD (zam 1 zb8 (zab (zam 2 zaN (zab (vW 1) (zab (vW 6) nilA))) nilA)) (zam 1 zb8 (zab (zam 2 zaN (zab (vW 1) (zab (vW 5) nilA))) nilA))))
  (seqW (ifS (blW (binW eqD (zam 2 zad (zab (vW 0) (zab (kW (.int 4)) nilA))) (kW (.int 0)))) (asgW (.nm 7) (binW ixXD (valW (lstW (zab (binW addD (vW 7) (kW (.int 1))) (zab (binW subD (vW 7) (kW (.int 2))) (zab (zam 2 zad (zab (vW 0) (zab (kW (.int 1000000000)) nilA))) (zab (unW negD (kW (.int 1000000000))) nilA)))))) (zam 2 zad (zab (vW 0) (zab (kW (.int 4)) nilA))))) nilS)
  (retW (tupW (zab (kW (.str "run")) (zab (vW 5) (zab (vW 6) (zab (vW 7) (zab (binW ixXD (vW 3) (zam 2 zad (zab (vW 0) (zab (cbW zbx (zab (vW 3) nilA)) nilA)))) nilA)))))))))))))))
def zcG (A:Ads):FnF:=fnWF 10 (λY=>(seqF (zbS λS=>(asgW (.nm 4) (zam 2 zcc (zab (vW 0) (zab (kW (.int 16)) nilA)))))
  (seqF (asgO (.nm 5) (zq6 A.fen (zb4 A) (λ_ _=>False)))
  (seqF (zbS λS=>(asgW (.nm 6) (zam 0 zcI nilA)))
  (seqF (zbS λS=>(ownW 7 (zaC [none,some 4] (ziw (binW addD (kW (.int 1)) (zam 2 zad (zab (vW 0) (zab (vW 1) nilA))))) (.nm 0) noIf (tupW (zab (kW (.str "mark")) (zab (binW ixXD (vW 1) (vW 0)) nilA))))))
  (seqF (zbS λS=>(frzW 7 (ownW 7 (addL (vW 7) (valW (zaC [none,some 4] (ziw (binW addD (kW (.int 1)) (zam 2 zad (zab (vW 0) (zab (vW 2) nilA))))) (.nm 0) noIf (tupW (zab (kW (.str "hand")) (zab (binW ixXD (vW 1) (binW subD (kW (.int 15)) (vW 0))) nilA)))))))))
  (seqF (zbS λS=>(appW 7 (tupW (zab (kW (.str "allow")) (zab (zam 2 zad (zab (vW 0) (zab (kW (.int 4)) nilA))) nilA)))))
  (seqF (frzF 7 (forF (λS=>(za4 (vW 7))) (.nm 8) (ifF (λS=>(blW (zef (vW 6)))) (asgO (.nm 6) (zf7 3 (za0 A) (λ_ _=>False) (za1 (za2 λS=>(vW 5)) (za1 (za2 λS=>(vW 6)) (za1 (za2 λS=>(vW 8)) nilO))))) nilF)))
  (seqF (forF (λS=>(ziw (zam 2 zad (zab (vW 0) (zab (binW addD (vW 3) (kW (.int 1))) nilA))))) (.nm 9) (ifF (λS=>(blW (zef (vW 6)))) (seqF (zbS λS=>(asgW (.nm 8) (zam 2 za3 (zab (vW 0) (zab (vW 6) nilA)))))
  (ifF (λS=>(blW (zef (vW 8)))) (asgO (.nm 6) (zf7 3 (za0 A) (λ_ _=>False) (za1 (za2 λS=>(vW 5)) (za1 (za2 λS=>(vW 6)) (za1 (za2 λS=>(vW 8)) nilO))))) nilF)) nilF))
  (zbS λS=>(retW (tupW (zab (vW 5) (zab (vW 6) (zab (vW 4) nilA)))))))))))))))
def zd3:Fn:=fnW 1 ((retW (valW (zaC [none,none] (za4 (vW 0)) (.tp 2 (.cons (.nm 0) (.cons (.nm 1) .nil))) (blW (binW eqD (vW 1) (kW (.int 1)))) (vW 0)))))
def zdo (A:Ads):Sto->Fn:=λS=>fnW 1 ((retW (zam 1 zd3 (zab (binW zas (zbN S 0 A.fen "now" 1 (zaB A) (λ_ Q=>Q [])) (kW (.str "stands"))) nilA))))
def zdh (A:Ads):Sto->Fn:=λS=>fnW 1 ((retW (valW (zk8 (binW zas (zbN S 0 A.fen "now" 1 (zaB A) (λ_ Q=>Q [])) (kW (.str "hands")))))))
def zcR (A:Ads):Sto->Fn:=λS=>fnW 2 ((seqW (asgW (.nm 1) (zbN S 0 A.fen "now" 1 (zaB A) (λ_ Q=>Q [])))
  (retW (valW (zaC [none,some 1] (za4 (binW zas (vW 1) (kW (.str "hands")))) (.nm 0) (blW (binW (inXD false) (vW 0) (binW zas (vW 1) (kW (.str "aside"))))) (vW 0))))))
def zcM (A:Ads):Sto->Fn:=λS=>fnW 1 ((retW (valW (zk8 (binW zas (zbN S 0 A.fen "now" 1 (zaB A) (λ_ Q=>Q [])) (kW (.str "stands")))))))
def zcl (A:Ads):Sto->Fn:=λS=>fnW 1 ((retW (binW zas (zbN S 0 A.fen "now" 1 (zaB A) (λ_ Q=>Q [])) (kW (.str "allowed")))))
def zcp (A:Ads):Sto->Fn:=λS=>fnW 1 ((retW (valW (zk8 (binW zas (zbN S 0 A.fen "now" 1 (zaB A) (λ_ Q=>Q [])) (kW (.str "runs")))))))
def zbk:Fn:=fnW 1 ((retW (valW (zaC [none,some 0] (za4 (binW zas (vW 0) (kW (.str "runs")))) (.nm 0) (blW (binW (inXD true) (binW ixXD (vW 0) (kW (.int 6))) (binW zas (vW 1) (kW (.str "aside"))))) (vW 0)))))
def zb3 (A:Ads):Sto->Fn:=λS=>fnW 1 ((retW (valW (zaC [none] (za4 (zam 1 zbk (zab (zbN S 0 A.fen "now" 1 (zaB A) (λ_ Q=>Q [])) nilA))) (.nm 0) noIf (binW ixXD (vW 0) (kW (.int 0)))))))
def zdr (A:Ads):Sto->Fn:=λS=>fnW 1 ((retW (valW (lstF S 0 "kept" A.fen))))
def zdk (A:Ads):Sto->Fn:=λS=>fnW 2 ((seqW (asgW (.nm 1) (valW (lstW (zab (zbN S 0 A.fen "marks" 1 (zdo A) (λ_ Q=>Q [])) (zab (zbN S 0 A.fen "hands" 1 (zdh A) (λ_ Q=>Q [])) (zab (zbN S 0 A.fen "asides" 1 (zcR A) (λ_ Q=>Q [])) (zab (zbN S 0 A.fen "stands" 1 (zcM A) (λ_ Q=>Q [])) (zab (zbN S 0 A.fen "allowed" 1 (zcl A) (λ_ Q=>Q [])) (zab (zbN S 0 A.fen "runs" 1 (zcp A) (λ_ Q=>Q [])) (zab (zbN S 0 A.fen "counting" 1 (zb3 A) (λ_ Q=>Q [])) nilA))))))))))
  (retW (binW addD (vW 1) (valW (lstW (zab (zbN S 0 A.fen "deeds" 1 (zdr A) (λ_ Q=>Q [])) nilA)))))))
def zb1:Fn:=fnW 1 ((retW (valW (zaC [none,some 0] (za4 (binW zas (vW 0) (kW (.str "rows")))) (.nm 0) (truW (binW zas (binW zas (vW 1) (kW (.str "heeded"))) (binW ixXD (vW 0) (kW (.int 4))))) (vW 0)))))
def zd4:Fn:=fnW 5 ((seqW (asgW (.nm 1) (binW zas (vW 0) (kW (.str "places"))))
  (seqW (asgW (.nm 2) (valW (zaC [none,some 1] (za4 (binW zas (vW 0) (kW (.str "rows")))) (.nm 0) noIf (binW addD (binW addD (binW addD (tupW (zab (binW ixXD (vW 0) (kW (.int 0))) nilA)) (binW ixXD (vW 1) (binW ixXD (vW 0) (kW (.int 1))))) (binW ixXD (vW 1) (binW ixXD (vW 0) (kW (.int 2))))) (slXW (vW 0) (ziG (kW (.int 3))) noO)))))
  (seqW (asgW (.nm 3) (valW (zaC [none,some 0] (zof (binW zas (vW 0) (kW (.str "heeded")))) (.nm 0) (notT (truW (binW zas (binW zas (vW 1) (kW (.str "heeded"))) (vW 0)))) (vW 0))))
  (seqW (asgW (.nm 4) (valW (lstW (zab (zam 1 zbC (zab (vW 0) nilA)) (zab (valW (zoN (binW zas (vW 0) (kW (.str "heeded"))))) (zab (vW 3) (zab (vW 1) (zab (binW zas (vW 0) (kW (.str "many"))) (zab (vW 2) nilA)))))))))
  (retW (binW addD (vW 4) (valW (lstW (zab (valW (zaC [none] (za4 (zam 1 zb1 (zab (vW 0) nilA))) (.nm 0) noIf (binW ixXD (vW 0) (kW (.int 0))))) (zab (binW zas (vW 0) (kW (.str "deeds"))) nilA)))))))))))
def zcO (A:Ads):Sto->Fn:=λS=>fnW 2 ((retW (zam 2 (zaQ 6) (zab (zqE S 1 (zdk A) (zab (vW 0) nilA)) (zab (zam 1 zd4 (zab (vW 1) nilA)) nilA)))))
def zc7 (A:Ads):FnF:=fnWF 1 (λY=>(seqF (ifF (λS=>(notT (truF S 0 "kept" A.fen))) (rzF (λS=>(zab (kW (.str "there is nothing to take back")) nilA)) (Y "NothingLeft")) nilF)
  (zoD 0 "undone" "kept" "books" A.fen)))
def zb7 (A:Ads):FnF:=fnWF 2 (λY=>(zlc (zc8 0 A.fen "deed" 2 (zaT A) Y (za1 (za2 λS=>(tupW (zab (kW (.str "strike")) (zab (vW 1) nilA)))) nilO))))
def zc2 (A:Ads):FnF:=fnWF 3 (λY=>(zlc (zc8 0 A.fen "deed" 2 (zaT A) Y (za1 (za2 λS=>(tupW (zab (kW (.str "mend")) (zab (vW 1) (zab (vW 2) nilA))))) nilO))))
def zcn (A:Ads):FnF:=fnWF 4 (λY=>(seqF (zbS λS=>(asgW (.nm 3) (kW (.bl false))))
  (zqg 4 "NoRun" (λY1=>(ifF (λS=>(blW (binW eqD (vW 2) (kW (.int 0))))) (zlc (zc8 0 A.fen "strike" 2 (zb7 A) Y1 (za1 (za2 λS=>(vW 1)) nilO))) (zlc (zc8 0 A.fen "mend" 3 (zc2 A) Y1 (za1 (za2 λS=>(vW 1)) (za1 (za2 λS=>(kW (.int 1))) nilO)))))) (zbS λS=>(asgW (.nm 3) (kW (.bl true))))
  (seqF (zbS λS=>(retW (vW 3)))
  nilF))))
def zdM (A:Ads):WF:=(seqF (asgO (.tp 3 (.cons (.nm 2) (.cons (.nm 3) (.cons (.nm 4) .nil)))) (zf7 4 (zcG A) (λ_ _=>False) (za1 (za2 λS=>(vW 1)) (za1 (za2 λS=>(kW (.int 4))) (za1 (za2 λS=>(kW (.int 3))) (za1 (za2 λS=>(kW (.int 8))) nilO))))))
  (seqF (zbS λS=>(ifS (blW (isNW (vW 3))) (retW (kW (.bl false))) nilS))
  (seqF (forF (λS=>(ziw (binW addD (kW (.int 6)) (zam 2 zad (zab (vW 1) (zab (kW (.int 11)) nilA)))))) (.nm 5) (seqF (zbS λS=>(asgW (.nm 6) (zam 2 za3 (zab (vW 1) (zab (vW 3) nilA)))))
  (seqF (zbS λS=>(asgW (.nm 7) (zam 2 zad (zab (vW 1) (zab (kW (.int 3)) nilA)))))
  (seqF (zbS λS=>(ifS (andT (blW (binW eqD (vW 7) (kW (.int 0)))) (blW (binW neD (binW zas (vW 3) (kW (.str "rows"))) (valW (lstW nilA))))) (asgW (.nm 6) (tupW (zab (kW (.str "strike")) (zab (binW ixXD (binW ixXD (binW zas (vW 3) (kW (.str "rows"))) (zam 2 zad (zab (vW 1) (zab (cbW zbx (zab (binW zas (vW 3) (kW (.str "rows"))) nilA)) nilA)))) (kW (.int 0))) nilA)))) nilS))
  (seqF (ifF (λS=>(blW (zef (vW 6)))) (seqF (asgO (.nm 8) (zf7 3 (za0 A) (λ_ _=>False) (za1 (za2 λS=>(vW 2)) (za1 (za2 λS=>(vW 3)) (za1 (za2 λS=>(vW 6)) nilO)))))
  (seqF (zbS λS=>(ifS (blW (isNW (vW 8))) (retW (kW (.bl false))) nilS))
  (ifF (λS=>(blW (binW eqD (zam 2 zad (zab (vW 1) (zab (kW (.int 4)) nilA))) (kW (.int 0))))) (zlc (zc8 2 A.fen "back" 1 (zc7 A) (λ_ _=>False) nilO)) (zbS λS=>(asgW (.nm 3) (vW 8)))))) nilF)
  (seqF (zbS λS=>(asgW (.nm 9) (valW (zaC [none] (za4 (binW zas (vW 3) (kW (.str "rows")))) (.nm 0) noIf (binW ixXD (vW 0) (kW (.int 0)))))))
  (seqF (zbS λS=>(ifS (notT (truW (zam 2 (zaQ 6) (zab (valW (zaC [none] (za4 (zbN S 2 A.fen "runs" 1 (zcp A) (λ_ Q=>Q []))) (.nm 0) noIf (binW ixXD (vW 0) (kW (.int 0))))) (zab (vW 9) nilA))))) (retW (kW (.bl false))) nilS))
  (forF (λS=>(za4 (tupW (zab (kW (.int 0)) (zab (binW addD (binW zas (vW 3) (kW (.str "entered"))) (kW (.int 1))) (zab (zam 2 zad (zab (vW 1) (zab (kW (.int 30)) nilA))) nilA)))))) (.nm 10) (ifAN (λS=>(blW (binW (inXD true) (vW 10) (vW 9)))) (zf7 3 (zcn A) (λ_ _=>False) (za1 (za2 λS=>(vW 2)) (za1 (za2 λS=>(vW 10)) (za1 (za2 λS=>(binW modD (vW 7) (kW (.int 2)))) nilO)))) (zbS λS=>(retW (kW (.bl false)))) nilF)))))))))
  (zbS λS=>(retW (zqE S 2 (zcO A) (zab (vW 2) (zab (vW 3) nilA))))))))
theorem zd9  (h:F ds P) (k:∀ d,P d->Q d):up F ds Q:=⟨P,h,k⟩
def zlf (t:Tg) (C:WT) (E:WE) (ρc:Env) (x:D) (o:Option D):Prop:=∀ (Y:D->Prop) (N:Prop),(match o with | some d=>Y d | none=>N)->gD t x ρc λρ2=>C ρ2 λb=>if b = true then E ρ2 Y else N
theorem zeI {α:Type}   (emb:α->D) (g:α->Option D):∀ (xs:List α) (acc:List D),(∀ x ∈ xs,zlf t C E ρc (emb x) (g x))->Q (acc ++ xs.filterMap g)->zcT t C E ρc Q (xs.map emb) acc
 | [],acc,_,q=>by simpa [zcT] using q
 | x :: xs,acc,h,q=>by
  show gD t (emb x) ρc λρ2=>C ρ2 λb=>if b = true then E ρ2 λd=>zcT t C E ρc Q (xs.map emb) (acc ++ [d]) else zcT t C E ρc Q (xs.map emb) acc;refine h x YAs _ _ ?_;cases e:g x with
  | none=>
   refine zeI emb g xs acc (λy hy=>h y (YAf _ hy)) ?_;rw [YAG,e] at q;exact q
  | some d=>
   refine zeI emb g xs (acc ++ [d]) (λy hy=>h y (YAf _ hy)) ?_;rw [YAG,e] at q;rw [YBV];exact q
theorem zix {α β:Type}   (emb:α->D) (out:β->D) (R:α->β->Prop):∀ (xs:List α) (ys:List β),(∀ x ∈ xs,∀ Y:D->Prop,(∀ y,R x y->Y (out y))->gD t (emb x) ρc λρ2=>C ρ2 λb=>b = true/\E ρ2 Y) ->
  zhd C->(∀ zs:List β,zs.length = xs.length->(∀ z ∈ zs,∃ x ∈ xs,R x z)->Q ((ys ++ zs).map out))->zcT t C E ρc Q (xs.map emb) (ys.map out)
 | [],ys,_,_,q=>by simpa [zcT] using q [] rfl (λz h=>by cases h)
 | x :: xs,ys,h,mC,q=>by
  show gD t (emb x) ρc λρ2=>C ρ2 λb=>if b = true then E ρ2 λd=>zcT t C E ρc Q (xs.map emb) (ys.map out ++ [d]) else zcT t C E ρc Q (xs.map emb) (ys.map out);refine zbT t (emb x) ρc (λρ2 z=>mC ρ2 _ _ (λb z=>?_) z) (h x YAs (λd=>zcT t C E ρc Q (xs.map emb) (ys.map out ++ [d])) λy hy=>?_)
  ·rw [z.1,if_pos rfl];exact z.2
  ·have:=zix (t:=t) (C:=C) (E:=E) (ρc:=ρc) (Q:=Q) emb out R xs (ys ++ [y]) (λx' hx'=>h x' (YAf _ hx')) mC (λzs hl hz=>by
    have:=q (y :: zs) (by simp [hl]) (λz hz'=>by
     rcases YAu.mp hz' with e | e
     ·exact ⟨x,YAs,e ▸ hy⟩
     ·obtain ⟨x',h1,h2⟩:=hz z e;exact ⟨x',YAf _ h1,h2⟩)
    simpa using this)
   simpa using this
theorem zmP:zhd noIf:=λρ Q Q' k q=>k _ q
theorem zhf  (I:List D->Env->Prop)
  (hs:∀ x rest ρ (E':En),(∀ ρ,I rest ρ->E'.nx ρ)->(∀ ρ,I rest ρ->E'.ct ρ)->(∀ d,E.rt d->E'.rt d)->(∀ ρ,E.nx ρ->E'.bk ρ)->I (x :: rest) ρ->gD t x ρ λρ'=>B E' ρ') (hd:∀ ρ,I [] ρ->E.nx ρ) :
  ∀ (xs:List D) (ρ:Env),I xs ρ->zeW t B E xs ρ
 | [],ρ,h=>hd ρ h
 | x :: xs,ρ,h=>hs x xs ρ { nx:=zeW t B E xs,ct:=zeW t B E xs,bk:=E.nx,rt:=E.rt } (zhf I hs hd xs) (zhf I hs hd xs) (λd z=>z) (λρ z=>z) h
theorem zan (i:Int):D.old (.int i) = .int i:=by unfold D.old;rfl
theorem zkM (x:Int):∀ hs:List Int,inB (.int x) (hs.map D.int) = hs.contains x
 | []=>rfl
 | y :: hs=>by
  have:=zkM x hs
  unfold inB at this ⊢;rw [YAg,zdd,YB6,this,List.contains_cons];congr 1;show (y == x) = (x == y);exact Bool.beq_comm
theorem zj4:∀ hs:List Int,zcF (hs.map D.int) = true
 | []=>rfl
 | y :: hs=>by rw [YAg,zcF,zj4 hs];rfl
theorem zke:∀ hs:List Int,PyData.depthAll (zdd (hs.map D.int)) = 0
 | []=>rfl
 | y :: hs=>by rw [YAg,zdd,PyData.depthAll,zke hs];rfl
theorem znc (x:Int) (hs:List Int):inOk (.int x) (hs.map D.int):=⟨rfl,zj4 hs,by rw [zke];exact YAB (Nat.min_le_left _ _) (by decide)⟩
theorem zcJ (x y:Int):eqOk (.int x) (.int y):=⟨rfl,rfl,by show min 0 0 <= 50;decide⟩
theorem ze4 (x y:Int):eqB (.int x) (.int y) = decide (x = y):=by
 show (x == y) = _;by_cases h:x = y <;> simp [h]
theorem zbR (x y:Bool):eqOk (.bl x) (.bl y):=⟨rfl,rfl,by show min 0 0 <= 50;decide⟩
theorem znv {x:Int} {hs:List Int} {n:Bool} {Q:D->Prop} (q:Q (.bl (!hs.contains x))):inD true (.int x) (.lst n (hs.map D.int)) Q:=⟨znc _ _,by
 have:(if true = true then !inB (.int x) (hs.map D.int) else inB (.int x) (hs.map D.int)) = !hs.contains x:=congrArg (!·) (zkM x hs)
 rw [this];exact q⟩
theorem zrt  (q:Q (.bl (decide (x = y)))):eqD (.int x) (.int y) Q:=⟨zcJ _ _,by rw [ze4];exact q⟩
theorem zq2  (q:Q (.bl (!decide (x = y)))):neD (.int x) (.int y) Q:=⟨zcJ _ _,by rw [ze4];exact q⟩
theorem zjs:D.old .box = .box:=by rw [D.old]
theorem zaE (x:Str):D.old (.str x) = .str x:=by rw [D.old]
theorem zgT (x:Bool):D.old (.bl x) = .bl x:=by rw [D.old]
theorem zd8 {m:Int} {Q:D->Prop} (h0:0 < m) (h1:m < 2 ^ 64) (k:∀ x:Int,0 <= x->x < m->Q (.int x)):up zad [.box,.int m] Q:=⟨Q,⟨⟨h0,h1⟩,k⟩,λd z=>z⟩
theorem zl3 (m:Int) (n:Nat):rngL m (n + 1) = .int m :: rngL (m + 1) n:=by
 unfold rngL;rw [List.range_succ_eq_map,YAg,YAH];congr 1
 ·simp
 ·refine YCg λk _=>?_;simp only [Function.comp_apply,Nat.succ_eq_add_one];congr 1;omega
theorem zhO (n:Nat):rngL 0 n = (List.range n).map λ(k:Nat)=>D.int (k:Int):=by
 unfold rngL;refine YCg λk _=>?_;simp
theorem zbA (m:Int) (n:Nat):(rngL m n).length = n:=by unfold rngL;simp
theorem zq8 {α:Type} (f:α->Bool) (xs:List α):(xs.map λx=>D.bl (f x)) = (xs.map f).map D.bl:=by rw [YAH];rfl
theorem zhA {α:Type} {f:α->Bool} {xs:List α} {n:Bool} {Q:D->Prop} (q:Q (.bl (xs.all f))):allF [.lst n (xs.map λx=>D.bl (f x))] Q:=
 ⟨xs.map f,zq8 f xs,by rw [List.all_map];exact q⟩
theorem zaO {α β:Type} (f:α->β) (xs:List α):xs.filterMap (λx=>some (f x)) = xs.map f:=by rw [List.filterMap_eq_map']
theorem zdJ {α:Type} {t:Tg} {C:WT} {E:WE} {ρc:Env} {Q:List D->Prop} (emb:α->D) (g:α->D) (xs:List α) (h:∀ x ∈ xs,zlf t C E ρc (emb x) (some (g x))) (q:Q (xs.map g)):zcT t C E ρc Q (xs.map emb) []:=
 zeI emb (λx=>some (g x)) xs [] h (by rw [zaO];exact q)
mutual
def sameOk:D->Nat->Bool
 | .non,_=>true
 | .bl _,_=>true
 | .int _,_=>true
 | .str x,_=>PyData.canLay0 (.str x)
 | .box,_=>false
 | .obj _,_=>false
 | .dct _ _ _,_=>false
 | .fdc _ _,_=>false
 | .tup xs,n + 1=>decide (xs.length <= 1000) && zbZ xs n
 | .lst _ xs,n + 1=>decide (xs.length <= 1000) && zbZ xs n
 | .tup _,0=>false
 | .lst _ _,0=>false
def zbZ:List D->Nat->Bool
 | [],_=>true
 | x :: xs,n=>sameOk x n && zbZ xs n
end
theorem zeo:∀ {xs:List D} {n:Nat} {x:D},zbZ xs n = true->x ∈ xs->sameOk x n = true
 | y :: ys,n,x,h,hx=>by
  rw [zbZ,YAA] at h;rcases YAu.mp hx with e | e
  ·rw [e];exact h.1
  ·exact zeo h.2 e
theorem zfL:∀ xs:List D,zipL xs xs = xs.map λx=>.tup [x,x]
 | []=>rfl
 | x :: xs=>by rw [zipL,zfL xs];rfl
mutual
theorem zjH:∀ d:D,d.old.old = d.old
 | .non=>by simp [D.old]
 | .bl _=>by simp [D.old]
 | .int _=>by simp [D.old]
 | .str _=>by simp [D.old]
 | .box=>by simp [D.old]
 | .obj _=>by simp [D.old]
 | .dct _ _ xs=>by rw [D.old,D.old,YAH];congr 1;exact zeK xs
 | .fdc _ xs=>by rw [D.old,D.old,YAH];congr 1;exact zeK xs
 | .tup xs=>by rw [D.old,D.old,YAH];congr 1;exact zeK xs
 | .lst _ xs=>by rw [D.old,D.old,YAH];congr 1;exact zeK xs
theorem zeK:∀ xs:List D,xs.map (D.old ∘ D.old) = xs.map D.old
 | []=>rfl
 | x :: xs=>by rw [YAg,YAg,zeK xs,Function.comp_apply,zjH x]
end
mutual
theorem zfg:∀ (d:D) (n:Nat),sameOk d.old n = sameOk d n
 | .non,_=>by rw [D.old]
 | .bl _,_=>by rw [D.old]
 | .int _,_=>by rw [D.old]
 | .str _,_=>by rw [D.old]
 | .box,_=>by rw [D.old]
 | .obj _,_=>by rw [D.old]
 | .dct _ _ _,_=>by rw [D.old,sameOk,sameOk]
 | .fdc _ _,_=>by rw [D.old,sameOk,sameOk]
 | .tup xs,n + 1=>by rw [D.old,sameOk,sameOk,YAc,zej xs n]
 | .lst _ xs,n + 1=>by rw [D.old,sameOk,sameOk,YAc,zej xs n]
 | .tup xs,0=>by rw [D.old,sameOk,sameOk]
 | .lst _ xs,0=>by rw [D.old,sameOk,sameOk]
theorem zej:∀ (xs:List D) (n:Nat),zbZ (xs.map D.old) n = zbZ xs n
 | [],_=>rfl
 | x :: xs,n=>by rw [YAg,zbZ,zbZ,zfg x n,zej xs n]
end
theorem lay_sc:∀ {d:D} {n:Nat},sameOk d n = true->(∀ xs,d ≠ .tup xs)->(∀ b xs,d ≠ .lst b xs)->layD d = true
 | .non,_,_,_,_=>rfl
 | .bl _,_,_,_,_=>rfl
 | .int _,_,_,_,_=>rfl
 | .str x,_,h,_,_=>by rw [sameOk] at h;rw [layD];exact h
 | .box,_,h,_,_=>by rw [sameOk] at h;cases h
 | .obj _,_,h,_,_=>by rw [sameOk] at h;cases h
 | .dct _ _ _,_,h,_,_=>by rw [sameOk] at h;cases h
 | .fdc _ _,_,h,_,_=>by rw [sameOk] at h;cases h
 | .tup xs,_,_,h,_=>absurd rfl (h xs)
 | .lst b xs,_,_,_,h=>absurd rfl (h b xs)
theorem zdH:∀ (n:Nat) (d e:D),d.old = e.old->sameOk d n = true->zaQ (n + 1) [d,e] (· = .bl true)
 | n,d,e,he,h=>by
  have ho:=h;rw [<- zfg] at ho;unfold zaQ fnW zaz;rw [YAg,YAg,<- he];have hoo:d.old.old = d.old:=zjH d;revert ho hoo;generalize d.old = x;intro ho hoo;cases x with
  | non=>rfl
  | bl b=>exact ⟨zbR _ _,zbR _ _,zbR _ _,⟨rfl,rfl,by show min 0 0 <= 50;decide⟩,by show D.bl (b == b) = _;simp⟩
  | int i=>exact ⟨zbR _ _,zbR _ _,zbR _ _,zcJ _ _,by show D.bl (i == i) = _;simp⟩
  | str z=>exact ⟨zbR _ _,zbR _ _,zbR _ _,⟨lay_sc ho (λ_ h=>by cases h) (λ_ _ h=>by cases h),lay_sc ho (λ_ h=>by cases h) (λ_ _ h=>by cases h),by show min 0 0 <= 50;decide⟩,by show D.bl (z == z) = _;simp⟩
  | box=>rw [sameOk] at ho;cases ho
  | obj a=>rw [sameOk] at ho;cases ho
  | dct n ks xs=>rw [sameOk] at ho;cases ho
  | fdc ks xs=>rw [sameOk] at ho;cases ho
  | tup xs=>
   cases n with
   | zero=>rw [sameOk] at ho;cases ho
   | succ n=>
    rw [sameOk,YAA] at ho;have hl:=YAZ ho.1;refine ⟨zbR _ _,zbR _ _,zcJ _ _,?_⟩;show blD (.bl (eqB (.int (xs.length:Int)) (.int (xs.length:Int)))) _;rw [ze4,YAy rfl];show _/\zcT _ _ _ _ _ (zipL xs xs) [];rw [zfL];refine ⟨by rw [YAc];omega,zdJ (λx=>.tup [x,x]) (λ_=>.bl true) xs (λx hx Y N y=>⟨rfl,rfl,zd9 (zdH n x x rfl (zeo ho.2 hx)) λd hd=>by subst hd;exact y⟩) ?_⟩;exact zhA (f:=λ_=>true) (xs:=xs) (n:=true) (by show D.bl _ = _;congr 1;simp)
  | lst b xs=>
   cases n with
   | zero=>rw [sameOk] at ho;cases ho
   | succ n=>
    rw [sameOk,YAA] at ho;have hl:=YAZ ho.1;refine ⟨zbR _ _,zbR _ _,zcJ _ _,?_⟩;show blD (.bl (eqB (.int (xs.length:Int)) (.int (xs.length:Int)))) _;rw [ze4,YAy rfl];show _/\zcT _ _ _ _ _ (zipL xs xs) [];rw [zfL];refine ⟨by rw [YAc];omega,zdJ (λx=>.tup [x,x]) (λ_=>.bl true) xs (λx hx Y N y=>⟨rfl,rfl,zd9 (zdH n x x rfl (zeo ho.2 hx)) λd hd=>by subst hd;exact y⟩) ?_⟩;exact zhA (f:=λ_=>true) (xs:=xs) (n:=true) (by show D.bl _ = _;congr 1;simp)
abbrev sg (x:Str):List Nat:=x.cps.toList
theorem zpp (x:Str):x.length = (sg x).length:=by unfold Str.length;simp
theorem zoU (x y:Str):sg (x ++ y) = sg x ++ sg y:=by show (x.cps ++ y.cps).toList = _;simp
theorem zfJ (x y:Str):eqB (.str x) (.str y) = decide (x = y):=by
 show (x == y) = _;by_cases h:x = y <;> simp [h]
def okS (x:Str):Bool:=PyData.canLay0 (.str x)
theorem zpj {x:Str} (h:∀ ch ∈ sg x,ch < 0x110000):okS x = true:=by
 show x.cps.all (· < 0x110000) = true;rw [<- Array.all_toList,YBG];intro ch hc;exact YAy (h ch hc)
theorem zeQ {x:Str} (h:(sg x).all (λch=>decide (ch < 0x110000)) = true:=by decide +kernel):okS x = true:=zpj λch hc=>YAZ (YBG.mp h ch hc)
theorem zg7 {x y:Str} (hx:okS x = true) (hy:okS y = true):eqOk (.str x) (.str y):=⟨by rw [layD];exact hx,by rw [layD];exact hy,by show min 0 0 <= 50;decide⟩
theorem zqh (s:Str) (ch:Nat):hasS s ⟨#[ch]⟩ = decide (ch ∈ sg s):=StrLaws.found_one s ch
def zlE (x signs:Str) (n:Int):Bool:=(decide (1 <= (x.length:Int)) && decide ((x.length:Int) <= n)) && (sg x).all λch=>decide (ch ∈ sg signs)
theorem zl0 {i:Nat} {ρ:Env} {d:D} {Q:D->Prop} (h:ρ[i]? = some (.val d)) (q:Q d):vW i ρ Q:=by unfold vW;rw [h];exact q
theorem bl_t {b:Bool} {f:Bool->Prop} (q:f b):blD (.bl b) f:=q
theorem ztM {p q:Prop} (h:p):if true = true then p else q:=h
theorem zpm {i j:Int} {Q:D->Prop} (q:Q (.bl (decide (i <= j)))):leD (.int i) (.int j) Q:=q
theorem zgF (x signs:Str) (n:Int) (hx:x.length <= 100000):zb6 [.str x,.str signs,.int n] (· = .bl (zlE x signs n)):=by
 unfold zb6 fnW zaz;rw [YAg,YAg,YAg,zaE,zaE,zan];refine ⟨hx,zpm ?_⟩;unfold zlE;cases decide (1 <= (x.length:Int)) with
 | false=>rfl
 | true=>
  refine bl_t (ztM (zl0 (d:=.int n) rfl (zpm ?_)));cases decide ((x.length:Int) <= n) with
  | false=>rfl
  | true=>
   show _/\zcT _ _ _ _ _ (chs x) [];refine ⟨by unfold chs;rw [YAc,<- zpp];exact hx,?_⟩;unfold chs;refine zdJ (λch=>D.str ⟨#[ch]⟩) (λch=>.bl (decide (ch ∈ sg signs))) (sg x) (λch _ Y N y=>?_) ?_
   ·show Y (.bl (if false = true then !hasS signs ⟨#[ch]⟩ else hasS signs ⟨#[ch]⟩));rw [if_neg (by decide),zqh];exact y
   ·exact zhA (f:=λch=>decide (ch ∈ sg signs)) (xs:=sg x) (n:=true) (by simp)
abbrev LET:Str := "abcdefghijklmnopqrstuvwxyz"
theorem zlX (ch:Nat):ch ∈ sg LET ↔ 97 <= ch/\ch <= 122:=by
 have:sg LET = List.range' 97 26:=by decide +kernel
 rw [this,List.mem_range'];constructor
 ·rintro ⟨i,h,rfl⟩;omega
 ·intro h;exact ⟨ch - 97,by omega,by omega⟩
def zcY (x:Str):Bool:=zlE x LET 8
theorem zja (x:Str) (hx:x.length <= 100000):zce [.str x] (· = .bl (zcY x)):=by
 unfold zce fnW zaz;rw [YAg,zaE];exact ⟨rfl,zd9 (zgF x LET 8 hx) λd z=>z⟩
theorem zoi {b:Bool} {hs:List Int} {i:Int} {Q:D->Prop} (h0:0 <= i) (h1:i < hs.length) (q:∀ k,k ∈ hs->Q (.int k)):ixXD (.lst b (hs.map D.int)) (.int i) Q:=by
 have hn:i.toNat < hs.length:=by omega
 have e:atI (hs.map D.int) i = some (.int hs[i.toNat]):=by
  obtain ⟨j,rfl⟩:=YBk h0;exact zar (by rw [YAt,YAk (by omega)];rfl)
 show (match atI (hs.map D.int) i with | some d=>Q d | none=>False);rw [e];exact q _ (YBj hn)
abbrev sE:Str := ""
theorem zkb:∀ ts:List Str,sg (Str.join sE ts) = (ts.map sg).flatten
 | []=>rfl
 | [t]=>by show sg t = _;simp
 | t :: u :: r=>by
  show sg (t ++ sE ++ Str.join sE (u :: r)) = _;rw [zoU,zoU,zkb (u :: r)]
  have:sg sE = []:=by decide +kernel
  rw [this,YAR];rfl
theorem ziS (cs:List Nat):sg (Str.join sE (cs.map λch=>⟨#[ch]⟩)) = cs:=by
 rw [zkb,YAH]
 induction cs with
 | nil=>rfl
 | cons ch cs ih=>rw [YAg,YBl,ih];rfl
theorem zpC {cs:List Nat} (h1:1 <= cs.length) (h2:cs.length <= 8) (h:∀ ch ∈ cs,ch ∈ sg LET):zcY (Str.join sE (cs.map λch=>⟨#[ch]⟩)) = true:=by
 unfold zcY zlE;rw [zpp,ziS,YAy (by omega:1 <= (cs.length:Int)),YAy (by omega:(cs.length:Int) <= 8),YBG.mpr λch hc=>YAy (h ch hc)];rfl
def In26 (ns:List Int):Prop:=∀ n ∈ ns,0 <= n/\n < 26
theorem zmI (d e:D) (n:Nat):zaz (n + 2) [d,e] = .val d.old :: .val e.old :: List.replicate n .un:=by unfold zaz;rfl
theorem zpu {ρ:Env} {j:Nat} {n:Nat} {Q:List D->Prop} (hj:ρ[j]? = some (.val .box)) (hn:n <= 1000) (q:∀ ns:List Int,ns.length = n->In26 ns->Q (ns.map D.int)) :
  (rngL 0 n).length <= 100000/\zcT (.nm 0) noIf (zam 2 zad (zab (vW 1) (zab (kW (.int 26)) nilA))) (subE [none,some j] ρ) Q (rngL 0 n) []:=by
 refine ⟨by rw [zbA];omega,?_⟩;rw [zhO]
 have:=zix (t:=.nm 0) (C:=noIf) (E:=zam 2 zad (zab (vW 1) (zab (kW (.int 26)) nilA))) (ρc:=subE [none,some j] ρ) (Q:=Q) (λk:Nat=>D.int (k:Int)) D.int (λ_ x=>0 <= x/\x < 26) (List.range n) [] (λx hx Y y=>by
  have e:(subE [none,some j] ρ)[1]? = some (.val .box):=by
   unfold subE;simp only [YAg,YAK,YAw,List.getElem?_cons_zero];rw [hj]
  have e2:((subE [none,some j] ρ).set 0 (.val (.int x)))[1]? = some (.val .box):=by rw [YAi (by decide)];exact e
  exact ⟨rfl,zl0 e2 ⟨rfl,zd8 (by decide) (by decide) λz z0 z1=>y z ⟨z0,z1⟩⟩⟩) zmP (λzs hl hz=>q zs (by rw [hl,YA0]) λz hz'=>by obtain ⟨x,_,h⟩:=hz z hz';exact h)
 exact this
end Fd
set_option maxHeartbeats 400000
namespace Fd
open PySem L2
def Ev (A:WE) (ρ:Env) (d:D):Prop:=∀ P:D->Prop,P d->A ρ P
def EvL (A:WL) (ρ:Env) (ds:List D):Prop:=∀ P:List D->Prop,P ds->A ρ P
def EvT (A:WT) (ρ:Env) (b:Bool):Prop:=∀ P:Bool->Prop,P b->A ρ P
def EvO (A:WO) (ρ:Env) (o:Option Int):Prop:=∀ P:Option Int->Prop,P o->A ρ P
section
variable {ρ:Env} {A B V:WE} {R:WL} {C C':WT} {d x y:D} {ds xs:List D} {i n:Nat} {b b':Bool}
theorem ev_v (h:ρ[i]? = some (.val d)):Ev (vW i) ρ d:=λP p=>zl0 h p
theorem ev_k:Ev (kW d) ρ d:=λP p=>p
theorem zbt {f:F2} (hA:Ev A ρ x) (hB:Ev B ρ y) (h:∀ P:D->Prop,P d->f x y P):Ev (binW f A B) ρ d:=λP p=>hA _ (hB _ (h P p))
theorem zaj:EvL nilA ρ []:=λP p=>p
theorem zac (hA:Ev A ρ d) (hR:EvL R ρ ds):EvL (zab A R) ρ (d :: ds):=λP p=>hA _ (hR _ p)
theorem zcD (hR:EvL R ρ ds) (h:ds.length <= 100000:=by simp):Ev (tupW R) ρ (.tup ds):=λP p=>hR _ ⟨h,p⟩
theorem zdu (hR:EvL R ρ ds) (h:ds.length <= 100000:=by simp):EvL (lstW R) ρ ds:=λP p=>hR _ ⟨h,p⟩
theorem za5 (hR:EvL R ρ ds):Ev (valW R) ρ (.lst true ds):=λP p=>hR _ p
theorem za8 {F:Fn} (hR:EvL R ρ ds) (h:F ds (· = d)) (hl:ds.length = n:=by rfl):Ev (zam n F R) ρ d:=λP p=>hR _ ⟨hl,zd9 h λe z=>by subst z;exact p⟩
theorem zeJ {F:FnX} {Y:Str->Prop} (hR:EvL R ρ ds) (h:F ds (· = d) λ_=>False) (hl:ds.length = n:=by rfl):Ev (zdY n F Y R) ρ d:=λP p=>hR _ ⟨hl,_,_,h,(λe z=>by subst z;exact p),λ_ z=>z.elim⟩
theorem zml {f:FL} (hR:EvL R ρ ds) (h:∀ P:D->Prop,P d->f ds P):Ev (cbW f R) ρ d:=λP p=>hR _ (h P p)
theorem zgB {nn:Bool} {ks:List Str} {z:Str} (hA:Ev A ρ (.dct nn ks xs)) (h:zaG ks xs z = some d):Ev (binW zas A (kW (.str z))) ρ d:=zbt hA ev_k λP p=>by show optD (zaG ks xs z) P;rw [h];exact p
theorem zsl {ks:List Str} {z:Str} (hA:Ev A ρ (.fdc ks xs)) (hB:Ev B ρ (.str z)) (h:zaG ks xs z = some d):Ev (binW zas A B) ρ d:=zbt hA hB λP p=>by show optD (zaG ks xs z) P;rw [h];exact p
theorem zbr {t:List D} {k:Int} (hA:Ev A ρ (.tup t)) (hB:Ev B ρ (.int k)) (h:atI t k = some d):Ev (binW ixXD A B) ρ d:=zbt hA hB λP p=>by show (match atI t k with | some d=>P d | none=>False);rw [h];exact p
theorem zfF {m:Bool} {t:List D} {k:Int} (hA:Ev A ρ (.lst m t)) (hB:Ev B ρ (.int k)) (h:atI t k = some d):Ev (binW ixXD A B) ρ d:=zbt hA hB λP p=>by show (match atI t k with | some d=>P d | none=>False);rw [h];exact p
theorem zei {j k:Int} (hA:Ev A ρ (.int j)) (hB:Ev B ρ (.int k)):Ev (binW addD A B) ρ (.int (j + k)):=zbt hA hB λP p=>p
theorem zhs {j k:Int} (hA:Ev A ρ (.int j)) (hB:Ev B ρ (.int k)):Ev (binW subD A B) ρ (.int (j - k)):=zbt hA hB λP p=>p
theorem zj2 {j k:Int} (hA:Ev A ρ (.int j)) (hB:Ev B ρ (.int k)) (h:∀ P:D->Prop,P (.int (j * k))->mulD (.int j) (.int k) P):Ev (binW mulD A B) ρ (.int (j * k)):=zbt hA hB h
theorem zjz {j k:Int} (hA:Ev A ρ (.int j)) (hB:Ev B ρ (.int k)) (h:0 < k:=by decide):Ev (binW modD A B) ρ (.int (j % k)):=zbt hA hB λP p=>⟨h,p⟩
theorem zeh {s t:List D} (hA:Ev A ρ (.tup s)) (hB:Ev B ρ (.tup t)) (h:s.length + t.length <= 100000):Ev (binW addD A B) ρ (.tup (s ++ t)):=zbt hA hB λP p=>⟨h,p⟩
theorem zgp {m l:Bool} {s t:List D} (hA:Ev A ρ (.lst m s)) (hB:Ev B ρ (.lst l t)) (h:s.length + t.length <= 100000):Ev (binW addD A B) ρ (.lst true (s ++ t)):=zbt hA hB λP p=>⟨h,p⟩
theorem zmO {t:List D} (hA:Ev A ρ (.tup t)):Ev (cbW zbx (zab A nilA)) ρ (.int t.length):=zml (zac hA zaj) λP p=>p
theorem zeY {m:Bool} {t:List D} (hA:Ev A ρ (.lst m t)):Ev (cbW zbx (zab A nilA)) ρ (.int t.length):=zml (zac hA zaj) λP p=>p
theorem zcS {s t:Str} (hA:Ev A ρ (.str s)) (hB:Ev B ρ (.str t)) (hs:okS s = true) (ht:okS t = true):Ev (binW eqD A B) ρ (.bl (decide (s = t))):=zbt hA hB λP p=>⟨zg7 hs ht,by rw [zfJ];exact p⟩
theorem zsd {s t:Str} (hA:Ev A ρ (.str s)) (hB:Ev B ρ (.str t)) (hs:okS s = true) (ht:okS t = true):Ev (binW neD A B) ρ (.bl (!decide (s = t))):=zbt hA hB λP p=>⟨zg7 hs ht,by rw [zfJ];exact p⟩
theorem zk1 {s t:Int} (hA:Ev A ρ (.int s)) (hB:Ev B ρ (.int t)):Ev (binW eqD A B) ρ (.bl (decide (s = t))):=zbt hA hB λP p=>zrt p
theorem zkm {s t:Int} (hA:Ev A ρ (.int s)) (hB:Ev B ρ (.int t)):Ev (binW neD A B) ρ (.bl (!decide (s = t))):=zbt hA hB λP p=>zq2 p
theorem zsO {s t:Int} (hA:Ev A ρ (.int s)) (hB:Ev B ρ (.int t)):Ev (binW ltD A B) ρ (.bl (decide (s < t))):=zbt hA hB λP p=>p
theorem zqd {s t:Int} (hA:Ev A ρ (.int s)) (hB:Ev B ρ (.int t)):Ev (binW gtD A B) ρ (.bl (decide (t < s))):=zbt hA hB λP p=>p
theorem zoC {s t:Int} (hA:Ev A ρ (.int s)) (hB:Ev B ρ (.int t)):Ev (binW geD A B) ρ (.bl (decide (t <= s))):=zbt hA hB λP p=>p
theorem zo5 (hA:Ev A ρ x):Ev (isNW A) ρ (.bl (isN x)):=λP p=>hA _ p
theorem zfi (hA:Ev A ρ x):Ev (zef A) ρ (.bl (!isN x)):=λP p=>hA _ p
theorem zaY (h:Ev A ρ (.bl b)):EvT (blW A) ρ b:=λP p=>h _ p
theorem zkW (h:Ev A ρ (.bl b)):EvT (truW A) ρ b:=λP p=>h _ p
theorem zkP (h:EvT C ρ b):EvT (notT C) ρ (!b):=λP p=>h _ p
theorem zsq (h:EvT C ρ b) (h':b = true->EvT C' ρ b'):EvT (andT C C') ρ (b && b'):=λP p=>h _ (by
 cases b
 ·exact p
 ·exact h' rfl P p)
theorem zgC (h:EvT C ρ b) (h':b = false->EvT C' ρ b'):EvT (orT C C') ρ (b || b'):=λP p=>h _ (by
 cases b
 ·exact h' rfl P p
 ·exact p)
theorem zao (h:EvT C ρ b) (e:b = b'):EvT C ρ b':=e ▸ h
theorem zgA (h:Ev A ρ x) (e:x = y):Ev A ρ y:=e ▸ h
theorem zps:EvO noO ρ none:=λP p=>p
theorem zks {k:Int} (h:Ev A ρ (.int k)):EvO (ziG A) ρ (some k):=λP p=>h _ p
theorem zpw {L U:WO} {l u:Option Int} {t:List D} (hA:Ev A ρ (.tup t)) (hL:EvO L ρ l) (hU:EvO U ρ u):Ev (slXW A L U) ρ (.tup (cutD t l u)):=λP p=>hA _ (hL _ (hU _ p))
theorem zcg {α:Type} {sub:List (Option Nat)} {I:WL} {t:Tg} {E:WE} (emb:α->D) (g:α->Option D) (ys:List α) (hI:EvL I ρ (ys.map emb)) (hl:ys.length <= 100000) (h:∀ x ∈ ys,zlf t C E (subE sub ρ) (emb x) (g x)):EvL (zaC sub I t C E) ρ (ys.filterMap g):=λP p=>
 hI _ ⟨by rw [YAc];exact hl,zeI emb g ys [] h (by rw [YCe];exact p)⟩
theorem ziL {t:List D} (hA:Ev A ρ (.tup t)):EvL (za4 A) ρ t:=λP p=>hA _ p
theorem zcU {m:Bool} {t:List D} (hA:Ev A ρ (.lst m t)):EvL (za4 A) ρ t:=λP p=>hA _ p
theorem zjI {t:List D} (hA:Ev A ρ (.tup t)):EvL (zk8 A) ρ t:=λP p=>hA _ p
theorem zf4 {C:WT} {E:WE} {ρc:Env} {x d:D} {i:Nat} (hC:EvT C (ρc.set i (.val x)) true) (hE:Ev E (ρc.set i (.val x)) d):zlf (.nm i) C E ρc x (some d):=λY N q=>by
 unfold gD;exact hC _ (hE _ q)
theorem zl4 {C:WT} {E:WE} {ρc:Env} {x:D} {i:Nat} (hC:EvT C (ρc.set i (.val x)) false):zlf (.nm i) C E ρc x none:=λY N q=>by
 unfold gD;exact hC _ q
theorem ztj {C:WT} {E:WE} {ρc:Env} {x y d:D} {i j:Nat} (hC:EvT C ((ρc.set i (.val x)).set j (.val y)) true) (hE:Ev E ((ρc.set i (.val x)).set j (.val y)) d):zlf (.tp 2 (.cons (.nm i) (.cons (.nm j) .nil))) C E ρc (.tup [x,y]) (some d):=λY N q=>by
 unfold gD;refine ⟨rfl,?_⟩;unfold gDs gD gDs gD gDs;exact hC _ (hE _ q)
theorem zff:EvT noIf ρ true:=λP p=>p
end
section
variable {C:WT} {A B R:WS} {E:En} {ρ:Env} {V:WE} {d x y:D} {i j k:Nat}
theorem zdO (h:EvT C ρ false) (q:R E ρ):seqW (ifS C A nilS) R E ρ:=h _ q
theorem zly (h:EvT C ρ false) (q:B E ρ):ifS C A B E ρ:=h _ q
theorem zpf (h:EvT C ρ true) (q:A E ρ):ifS C A B E ρ:=h _ q
theorem zcr (h:EvT C ρ false) (q:seqW B R E ρ):seqW (ifS C A B) R E ρ:=h _ q
theorem zfE (h:EvT C ρ true) (q:seqW A R E ρ):seqW (ifS C A B) R E ρ:=h _ q
theorem zbi (h:Ev V ρ d) (q:R E (ρ.set i (.val d))):seqW (asgW (.nm i) V) R E ρ:=h _ (by unfold gD;exact q)
theorem zlR (h:Ev V ρ d) (q:R E ρ):seqW (zjP V) R E ρ:=h _ q
theorem zbc (h:Ev V ρ d) (q:E.rt d):retW V E ρ:=h _ q
theorem zeq (h:Ev V ρ (.tup [x,y])) (q:R E ((ρ.set i (.val x)).set j (.val y))):seqW (asgW (.tp 2 (.cons (.nm i) (.cons (.nm j) .nil))) V) R E ρ:=by
 refine h _ ?_;unfold gD;refine ⟨rfl,?_⟩;unfold gDs gD gDs gD gDs;exact q
theorem zql {i1 i2 i3 i4 i5:Nat} {x1 x2 x3 x4 x5:D} (h:Ev V ρ (.tup [x1,x2,x3,x4,x5])) (q:R E (((((ρ.set i1 (.val x1)).set i2 (.val x2)).set i3 (.val x3)).set i4 (.val x4)).set i5 (.val x5))) :
  seqW (asgW (.tp 5 (.cons (.nm i1) (.cons (.nm i2) (.cons (.nm i3) (.cons (.nm i4) (.cons (.nm i5) .nil)))))) V) R E ρ:=by
 refine h _ ?_;unfold gD;refine ⟨rfl,?_⟩;unfold gDs gD gDs gD gDs gD gDs gD gDs gD gDs;exact q
theorem zqo {i1 i2 i3:Nat} {x1 x2 x3:D} (h:Ev V ρ (.tup [x1,x2,x3])) (q:R E (((ρ.set i1 (.val x1)).set i2 (.val x2)).set i3 (.val x3))) :
  seqW (asgW (.tp 3 (.cons (.nm i1) (.cons (.nm i2) (.cons (.nm i3) .nil)))) V) R E ρ:=by
 refine h _ ?_;unfold gD;refine ⟨rfl,?_⟩;unfold gDs gD gDs gD gDs gD gDs;exact q
end
end Fd
set_option maxHeartbeats 400000
namespace Fd
open PySem L2
structure Zr where
 n:Int
 a:Nat
 b:Nat
 r:Int
 h:Str
structure Za where
 ms:List Str
 hs:List Str
 rs:List Zr
 en:Int
 al:Int
 ds:List D
def nmZ (ms:List Str) (i:Nat):Str:=ms.getD i ""
def zSt (x:Str):D:=.tup [.str x,.int 1]
def zRun (ms:List Str) (r:Zr):D:=.tup [.int r.n,.str (nmZ ms r.a),.int 1,.str (nmZ ms r.b),.int 1,.int r.r,.str r.h]
def zRow (r:Zr):D:=.tup [.int r.n,.int r.a,.int r.b,.int r.r,.str r.h]
abbrev BK:List Str:=["stands","hands","aside","runs","entered","allowed"]
abbrev MK:List Str:=["places","heeded","rows","entered","many","deeds"]
def za6 (s:Za):List D:=[.tup (s.ms.map zSt),.tup (s.hs.map D.str),.tup [],.tup (s.rs.map (zRun s.ms)),.int s.en,.int s.al]
def zav (s:Za):D:=.dct false BK (za6 s)
def modL (s:Za):List D:=[.lst false (s.ms.map zSt),.fdc s.hs (s.hs.map λ_=>.bl true),.lst false (s.rs.map zRow),.int s.en,.int s.al,.lst false s.ds]
def zMod (s:Za):D:=.dct false MK (modL s)
theorem zbP {xs:List D} (h:∀ x ∈ xs,x.old = x):xs.map D.old = xs:=by
 conv=>rhs;rw [<- List.map_id xs]
 exact YCg h
theorem zaI {xs:List D} (h:∀ x ∈ xs,x.old = x):(D.tup xs).old = .tup xs:=by rw [D.old,zbP h]
theorem zaH {n:Bool} {xs:List D} (h:∀ x ∈ xs,x.old = x):(D.lst n xs).old = .lst false xs:=by rw [D.old,zbP h]
theorem zgn {n:Bool} {ks:List Str} {xs:List D} (h:∀ x ∈ xs,x.old = x):(D.dct n ks xs).old = .dct false ks xs:=by rw [D.old,zbP h]
theorem zep {ks:List Str} {xs:List D} (h:∀ x ∈ xs,x.old = x):(D.fdc ks xs).old = .fdc ks xs:=by rw [D.old,zbP h]
theorem za9 (a:Addr):D.old (.obj a) = .obj a:=by rw [D.old]
theorem zbB (x:Str):(zSt x).old = zSt x:=zaI (by simp [zaE,zan])
theorem zfA (ms:List Str) (r:Zr):(zRun ms r).old = zRun ms r:=zaI (by simp [zaE,zan])
theorem zdZ (r:Zr):(zRow r).old = zRow r:=zaI (by simp [zaE,zan])
theorem zax {α:Type} {f:α->D} (h:∀ x,(f x).old = f x) (xs:List α):∀ y ∈ xs.map f,y.old = y:=λy hy=>by
 obtain ⟨x,_,rfl⟩:=YAS.mp hy;exact h x
theorem zck (s:Za):∀ x ∈ za6 s,x.old = x:=by
 unfold za6;simp only [YB4,YAC,false_implies,implies_true,and_true];exact ⟨zaI (zax zbB _),zaI (zax zaE _),zaI (by simp),zaI (zax (zfA _) _),zan _,zan _⟩
theorem zaX (s:Za):(zav s).old = zav s:=zgn (zck s)
theorem zmx {s:Za} (h:∀ d ∈ s.ds,d.old = d):∀ x ∈ modL s,x.old = x:=by
 unfold modL;simp only [YB4,YAC,false_implies,implies_true,and_true];exact ⟨zaH (zax zbB _),zep (zax (λ_=>zgT _) _),zaH (zax zdZ _),zan _,zan _,zaH h⟩
theorem zeL {s:Za} (h:∀ d ∈ s.ds,d.old = d):(zMod s).old = zMod s:=zgn (zmx h)
theorem zbV {n:Nat} {B:WS} {ds:List D} {Q:D->Prop} {ρ:Env} (e:zaz n ds = ρ) (q:B { nx:=λ_=>Q .non,rt:=Q,bk:=λ_=>False,ct:=λ_=>False } ρ):fnW n B ds Q:=by unfold fnW;rw [e];exact q
theorem zeM {n:Nat} {B:(Str->Prop)->WS} {ds:List D} {Q:D->Prop} {Y:Str->Prop} {ρ:Env} (e:zaz n ds = ρ) (q:B Y { nx:=λ_=>Q .non,rt:=Q,bk:=λ_=>False,ct:=λ_=>False } ρ):fnWX n B ds Q Y:=by unfold fnWX;rw [e];exact q
theorem zhh {n:Nat} {B:(Str->Sto->Prop)->WF} {ds:List D} {S:Sto} {Q:D->Sto->Prop} {Y:Str->Sto->Prop} {ρ:Env} (e:zaz n ds = ρ) (q:B Y { nx:=λS' _=>Q .non S',rt:=λS' d=>Q d S',bk:=λ_ _=>False,ct:=λ_ _=>False } S ρ):fnWF n B ds S Q Y:=by unfold fnWF;rw [e];exact q
theorem zgX {F:FnX} {ds:List D} {P Q:D->Prop} {Z Y:Str->Prop} (h:F ds P Z) (k:∀ d,P d->Q d) (l:∀ n,Z n->Y n):upX F ds Q Y:=⟨P,Z,h,k,l⟩
theorem zmX {F:FnF} {ds:List D} {S:Sto} {P Q:D->Sto->Prop} {Z Y:Str->Sto->Prop} (h:F ds S P Z) (k:∀ d S,P d S->Q d S) (l:∀ n S,Z n S->Y n S):upF F ds S Q Y:=⟨P,Z,h,k,l⟩
theorem zdq {x:Str} (h:zcY x = true):okS x = true:=by
 unfold zcY zlE at h;rw [YAA] at h;exact zpj λch hc=>by
  have:=YAZ (YBG.mp h.2 ch hc)
  have:=(zlX ch).mp this
  omega
theorem zm2 {ms:List Str} {x:Str} (hm:∀ y ∈ ms,okS y = true) (hx:okS x = true) (hl:ms.length <= 1000):zbl [.tup (ms.map zSt),.str x] (· = .int ((ms.filter λy=>decide (y = x)).length:Nat)):=by
 refine zbV (ρ:=[.val (.tup (ms.map zSt)),.val (.str x)]) (by unfold zaz;simp [zaI (zax zbB ms),zaE]) ?_;refine ⟨by rw [YAc];omega,?_⟩;refine zeI zSt (λy=>if y = x then some (.int 1) else none) ms [] (λy hy Y N q=>?_) ?_
 ·show gD (.tp 2 (.cons (.nm 0) (.cons (.nm 1) .nil))) (.tup [.str y,.int 1]) _ _;unfold gD;refine ⟨rfl,?_⟩;unfold gDs gD gDs gD gDs;refine ⟨zg7 (hm y hy) hx,?_⟩;rw [zfJ];by_cases e:y = x
  ·rw [if_pos e] at q;rw [YAy e];exact q
  ·rw [if_neg e] at q;rw [YAq e];exact q
 ·show D.int _ = _;congr 1;rw [YCe];clear hm hl
  induction ms with
  | nil=>rfl
  | cons y ms ih=>
   rw [YAG,YBH];by_cases e:y = x
   ·simp [e] at ih ⊢;omega
   ·simp [e] at ih ⊢;omega
end Fd
set_option maxHeartbeats 400000
namespace Fd
open PySem L2
theorem bk1 {a b c d e f:D}:zaG BK [a,b,c,d,e,f] "stands" = some a:=by kernel_rfl
theorem bk2 {a b c d e f:D}:zaG BK [a,b,c,d,e,f] "hands" = some b:=by kernel_rfl
theorem bk3 {a b c d e f:D}:zaG BK [a,b,c,d,e,f] "aside" = some c:=by kernel_rfl
theorem bk4 {a b c d e f:D}:zaG BK [a,b,c,d,e,f] "runs" = some d:=by kernel_rfl
theorem bk5 {a b c d e f:D}:zaG BK [a,b,c,d,e,f] "entered" = some e:=by kernel_rfl
theorem bk6 {a b c d e f:D}:zaG BK [a,b,c,d,e,f] "allowed" = some f:=by kernel_rfl
theorem mk1 {a b c d e f:D}:zaG MK [a,b,c,d,e,f] "places" = some a:=by kernel_rfl
theorem mk2 {a b c d e f:D}:zaG MK [a,b,c,d,e,f] "heeded" = some b:=by kernel_rfl
theorem mk3 {a b c d e f:D}:zaG MK [a,b,c,d,e,f] "rows" = some c:=by kernel_rfl
theorem mk4 {a b c d e f:D}:zaG MK [a,b,c,d,e,f] "entered" = some d:=by kernel_rfl
theorem mk5 {a b c d e f:D}:zaG MK [a,b,c,d,e,f] "many" = some e:=by kernel_rfl
theorem mk6 {a b c d e f:D}:zaG MK [a,b,c,d,e,f] "deeds" = some f:=by kernel_rfl
theorem b1 (s:Za):zaG BK (za6 s) "stands" = some (.tup (s.ms.map zSt)):=by unfold za6;exact bk1
theorem b2 (s:Za):zaG BK (za6 s) "hands" = some (.tup (s.hs.map D.str)):=by unfold za6;exact bk2
theorem b3 (s:Za):zaG BK (za6 s) "aside" = some (.tup []):=by unfold za6;exact bk3
theorem b4 (s:Za):zaG BK (za6 s) "runs" = some (.tup (s.rs.map (zRun s.ms))):=by unfold za6;exact bk4
theorem b5 (s:Za):zaG BK (za6 s) "entered" = some (.int s.en):=by unfold za6;exact bk5
theorem b6 (s:Za):zaG BK (za6 s) "allowed" = some (.int s.al):=by unfold za6;exact bk6
theorem m1 (s:Za):zaG MK (modL s) "places" = some (.lst false (s.ms.map zSt)):=by unfold modL;exact mk1
theorem m2 (s:Za):zaG MK (modL s) "heeded" = some (.fdc s.hs (s.hs.map λ_=>.bl true)):=by unfold modL;exact mk2
theorem m3 (s:Za):zaG MK (modL s) "rows" = some (.lst false (s.rs.map zRow)):=by unfold modL;exact mk3
theorem m4 (s:Za):zaG MK (modL s) "entered" = some (.int s.en):=by unfold modL;exact mk4
theorem m5 (s:Za):zaG MK (modL s) "many" = some (.int s.al):=by unfold modL;exact mk5
theorem m6 (s:Za):zaG MK (modL s) "deeds" = some (.lst false s.ds):=by unfold modL;exact mk6
theorem bp1 {a b c d e f w:D}:putVs BK [a,b,c,d,e,f] "stands" w = [w,b,c,d,e,f]:=by kernel_rfl
theorem bp2 {a b c d e f w:D}:putVs BK [a,b,c,d,e,f] "hands" w = [a,w,c,d,e,f]:=by kernel_rfl
theorem bp4 {a b c d e f w:D}:putVs BK [a,b,c,d,e,f] "runs" w = [a,b,c,w,e,f]:=by kernel_rfl
theorem bp5 {a b c d e f w:D}:putVs BK [a,b,c,d,e,f] "entered" w = [a,b,c,d,w,f]:=by kernel_rfl
theorem bp6 {a b c d e f w:D}:putVs BK [a,b,c,d,e,f] "allowed" w = [a,b,c,d,e,w]:=by kernel_rfl
theorem bq1:putKs BK "stands" = BK:=by kernel_rfl
theorem bq2:putKs BK "hands" = BK:=by kernel_rfl
theorem bq4:putKs BK "runs" = BK:=by kernel_rfl
theorem bq5:putKs BK "entered" = BK:=by kernel_rfl
theorem bq6:putKs BK "allowed" = BK:=by kernel_rfl
theorem znb {ks:List Str} {xs:List D} {z:Str} {v:D} {Q:D->Prop} (hx:∀ x ∈ xs,x.old = x) (hl:ks.length < 1000) (q:Q (.dct true (putKs ks z) (putVs ks xs z v.old))) {n:Bool}:zap [.dct n ks xs,.str z,v] Q:=by
 refine zbV (ρ:=[.val (.dct false ks xs),.val (.str z),.val v.old,.un]) (by unfold zaz;simp [zgn hx,zaE]) ?_;exact ⟨by show 3 < 4;decide,hl,q⟩
theorem zfU {t:Za} {n:Bool} {xs:List D} (h:xs = za6 t):(D.dct n BK xs).old = zav t:=by rw [h,zgn (zck t)];rfl
theorem zg1 {x:Str}:∀ {ms:List Str},ms.Nodup->(ms.filter λy=>decide (y = x)).length = if x ∈ ms then 1 else 0
 | [],_=>rfl
 | y :: ms,h=>by
  rw [YAM] at h;rw [YBH];have ih:=zg1 (x:=x) h.2;by_cases e:y = x
  ·subst e;rw [if_neg h.1] at ih;simp [ih]
  ·have e':¬ x = y:=λz=>e z.symm;simp only [e,e',YCF,YAu,false_or];exact ih
structure Nms (ms:List Str):Prop where
 nd:ms.Nodup
 ok:∀ x ∈ ms,zcY x = true
 ln:ms.length <= 12
theorem Nms.okS {ms:List Str} (h:Nms ms):∀ x ∈ ms,okS x = true:=λx hx=>zdq (h.ok x hx)
theorem zhk {ms:List Str} {x:Str} (h:Nms ms) (hx:okS x = true):zbl [.tup (ms.map zSt),.str x] (· = .int (if x ∈ ms then 1 else 0)):=by
 have:=zm2 h.okS hx (by have:=h.ln;omega)
 rw [zg1 h.nd] at this;have e:(((if x ∈ ms then 1 else 0:Nat)):Int) = if x ∈ ms then 1 else 0:=by split <;> rfl
 rw [e] at this;exact this
theorem zkn (x:Str):∀ hs:List Str,inB (.str x) (hs.map D.str) = decide (x ∈ hs)
 | []=>by simp [inB,zdd]
 | y :: hs=>by
  have ih:=zkn x hs;unfold inB at ih ⊢;rw [YAg,zdd,YB6,ih]
  have:PyData.eqv (toPy (.str y)) (toPy (.str x)) = decide (y = x):=zfJ y x
  rw [this];by_cases e:y = x
  ·simp [e]
  ·have e':¬ x = y:=λz=>e z.symm;simp [e,e']
theorem zhE:∀ {hs:List Str},(∀ y ∈ hs,okS y = true)->zcF (hs.map D.str) = true
 | [],_=>by rw [YAK,zcF]
 | y :: hs,h=>by rw [YAg,zcF,zhE λz hz=>h z (YAf _ hz),layD,show PyData.canLay0 (.str y) = true from h y YAs];rfl
theorem zj7:∀ hs:List Str,PyData.depthAll (zdd (hs.map D.str)) = 0
 | []=>by rw [YAK,zdd];rfl
 | y :: hs=>by rw [YAg,zdd];show max 0 (PyData.depthAll (zdd (hs.map D.str))) = 0;rw [zj7 hs];rfl
theorem zl1 {x:Str} {hs:List Str} (hx:okS x = true) (h:∀ y ∈ hs,okS y = true):inOk (.str x) (hs.map D.str):=⟨by rw [layD];exact hx,zhE h,by rw [zj7];exact YAB (Nat.min_le_left _ _) (by decide)⟩
theorem zqv {neg:Bool} {x:Str} {hs:List Str} {Q:D->Prop} (hx:okS x = true) (h:∀ y ∈ hs,okS y = true) (q:Q (.bl (if neg then !decide (x ∈ hs) else decide (x ∈ hs)))):inXD neg (.str x) (.tup (hs.map D.str)) Q:=by
 show inOk (.str x) (hs.map D.str)/\Q (.bl (if neg then !inB (.str x) (hs.map D.str) else inB (.str x) (hs.map D.str)));rw [zkn];exact ⟨zl1 hx h,q⟩
theorem zi1 {neg:Bool} {A B:WE} {ρ:Env} {x:Str} {hs:List Str} (hA:Ev A ρ (.str x)) (hB:Ev B ρ (.tup (hs.map D.str))) (hx:okS x = true) (h:∀ y ∈ hs,okS y = true):Ev (binW (inXD neg) A B) ρ (.bl (if neg then !decide (x ∈ hs) else decide (x ∈ hs))):=zbt hA hB λP p=>zqv hx h p
theorem zhZ {A B:WE} {ρ:Env} {m:Bool} {x:Int} {hs:List Int} (hA:Ev A ρ (.int x)) (hB:Ev B ρ (.lst m (hs.map D.int))):Ev (binW (inXD true) A B) ρ (.bl (!hs.contains x)):=zbt hA hB λP p=>znv (n:=m) p
theorem zd7 {ks:List Str} {xs:List D} {z:Str} {v:D} {n:Bool} {ρ:Env} {R:WL} (hR:EvL R ρ [.dct n ks xs,.str z,v]) (hx:∀ x ∈ xs,x.old = x) (hl:ks.length < 1000):Ev (zam 3 zap R) ρ (.dct true (putKs ks z) (putVs ks xs z v.old)):=za8 hR (znb (Q:=(· = _)) hx hl rfl)
theorem ev_b {ρ:Env} {i:Nat} {s:Za} {z:Str} {d:D} (hi:ρ[i]? = some (.val (zav s))) (h:zaG BK (za6 s) z = some d):Ev (binW zas (vW i) (kW (.str z))) ρ d:=zgB (ev_v hi) h
theorem zn9 {ms:List Str} {x:Str} (h:Nms ms) (hx:okS x = true) (hn:x ∉ ms):zcL [.tup (ms.map zSt),.str x] (· = zSt x):=by
 refine zbV (ρ:=[.val (.tup (ms.map zSt)),.val (.str x)]) (by unfold zaz;simp [zaI (zax zbB ms),zaE]) ?_;refine zbc (zcD (zac (ev_v rfl) (zac (zei (za8 (zac (ev_v rfl) (zac (ev_v rfl) zaj)) (zhk h hx)) ev_k) zaj))) ?_;rw [if_neg hn];rfl
theorem zkE {ms:List Str} {x:Str} (h:Nms ms) (hx:x ∈ ms):zbL [.tup (ms.map zSt),.str x] (· = zSt x) (λ_=>False):=by
 refine zeM (ρ:=[.val (.tup (ms.map zSt)),.val (.str x),.un]) (by unfold zaz;simp [zaI (zax zbB ms),zaE]) ?_;refine zbi (za8 (zac (ev_v rfl) (zac (ev_v rfl) zaj)) (zhk h (h.okS x hx))) ?_;rw [if_pos hx];refine zdO (zao (zaY (zk1 (ev_v rfl) ev_k)) (by decide)) ?_;exact zbc (zcD (zac (ev_v rfl) (zac (ev_v rfl) zaj))) rfl
theorem zg0 {s:Za} {x:Str} (h:Nms s.ms) (h0:s.rs = []) (hx:okS x = true) (hn:x ∉ s.ms) (hl:s.ms.length < 12):zbm [zav s,.str x] (λv=>v.old = zav { s with ms:=s.ms ++ [x] }) (λ_=>False):=by
 refine zeM (ρ:=[.val (zav s),.val (.str x),.un]) (by unfold zaz;simp [zaX,zaE]) ?_;refine zbi (ev_b rfl (b1 _)) ?_;refine zdO (zao (zaY (zoC (zmO (ev_v rfl)) ev_k)) (by rw [YAc];exact YAq (by omega))) ?_;refine zbc (zd7 (zac (ev_v rfl) (zac ev_k (zac (zeh (ev_v rfl) (zcD (zac (za8 (zac (ev_v rfl) (zac (ev_v rfl) zaj)) (zn9 h hx hn)) zaj)) (by rw [YAc];show s.ms.length + 1 <= 100000;omega)) zaj))) (zck s) (by decide)) ?_;show (D.dct true (putKs BK "stands") (putVs BK (za6 s) "stands" _)).old = _;rw [bq1,show putVs BK (za6 s) "stands" (D.tup (s.ms.map zSt ++ [zSt x])).old = _ from bp1];refine zfU ?_;rw [<- YBw (f:=zSt),<- YAW,zaI (zax zbB _)];unfold za6;simp [h0]
theorem zg5 {s:Za} {h:Str} (hs:Nms s.hs) (hh:h ∈ s.hs):zcK [zav s,.str h] (· = .non) (λ_=>False):=by
 refine zeM (ρ:=[.val (zav s),.val (.str h)]) (by unfold zaz;simp [zaX,zaE]) ?_;exact zly (zao (zaY (zi1 (neg:=true) (ev_v rfl) (ev_b rfl (b2 _)) (hs.okS h hh) hs.okS)) (by rw [YAy hh];rfl)) rfl
theorem zg8 {r:Int} (h1:r <= 1000000000) (h2:-1000000000 <= r):zbE [.int r] (· = .non) (λ_=>False):=by
 refine zeM (ρ:=[.val (.int r)]) (by unfold zaz;simp [zan]) ?_;exact zly (zao (zaY (zqd (zml (d:=.int (if r < 0 then -r else r)) (zac (ev_v rfl) zaj) λP p=>p) ev_k)) (YAq (by split <;> omega))) rfl
theorem zjW {ρ:Env} {I:WL} {ms:List Str} {rs:List Zr} (hI:EvL I ρ (rs.map (zRun ms))) (hl:rs.length <= 1000):Ev (valW (zaC [none] I (.nm 0) noIf (binW ixXD (vW 0) (kW (.int 0))))) ρ (.lst true ((rs.map (·.n)).map D.int)):=by
 have:=zcg (sub:=[none]) (t:=.nm 0) (C:=noIf) (E:=binW ixXD (vW 0) (kW (.int 0))) (zRun ms) (λr=>some (.int r.n)) rs hI (by omega) λr _=>zf4 zff (zbr (ev_v rfl) ev_k rfl)
 rw [zaO] at this;have e:(rs.map λr=>D.int r.n) = (rs.map (·.n)).map D.int:=by rw [YAH];rfl
 rw [e] at this;exact za5 this
theorem zdQ {s:Za} {n:Int} (hl:s.rs.length <= 1000):(n ∈ s.rs.map (·.n)->zbz [zav s,.int n] (· = .non) (λ_=>False))/\(n ∉ s.rs.map (·.n)->zbz [zav s,.int n] (λ_=>False) (· = "NoRun")):=by
 have ev:EvT (blW (binW (inXD true) (vW 1) (valW (zaC [none] (za4 (binW zas (vW 0) (kW (.str "runs")))) (.nm 0) noIf (binW ixXD (vW 0) (kW (.int 0))))))) [.val (zav s),.val (.int n)] (!(s.rs.map (·.n)).contains n):=zaY (zhZ (ev_v rfl) (zjW (ziL (ev_b rfl (b4 _))) hl));refine ⟨λh=>?_,λh=>?_⟩
 ·refine zeM (ρ:=[.val (zav s),.val (.int n)]) (by unfold zaz;simp [zaX,zan]) ?_;exact zly (zao ev (by rw [YBD.mpr h];rfl)) rfl
 ·refine zeM (ρ:=[.val (zav s),.val (.int n)]) (by unfold zaz;simp [zaX,zan]) ?_
  have:(s.rs.map (·.n)).contains n = false:=by rw [<- Bool.not_eq_true,YBD];exact h
  exact zpf (zao ev (by rw [this];rfl)) ⟨by decide,rfl⟩
end Fd
set_option maxHeartbeats 400000
namespace Fd
open PySem L2
theorem zoq {x:Str} (h:zcY x = true):x.length <= 100000:=by
 unfold zcY zlE at h;rw [YAA,YAA] at h
 have:=YAZ h.1.2
 omega
theorem zbW {n:Nat} {d e:D} (hd:d.old = d) (he:e.old = e):zaz (n + 2) [d,e] = .val d :: .val e :: List.replicate n .un:=by rw [zmI,hd,he]
theorem rt_X {n:Nat} {F:FnX} {R:WL} {ρ:Env} {E:En} {ds:List D} {Y:Str->Prop} {P:D->Prop} (hR:EvL R ρ ds) (h:F ds P λ_=>False) (k:∀ d,P d->E.rt d) (hl:ds.length = n:=by rfl):retW (zdY n F Y R) E ρ:=hR _ ⟨hl,zgX h k λ_ z=>z.elim⟩
theorem zhX {ρ:Env} {i:Nat} {x:Str} (hi:ρ[i]? = some (.val (.str x))) (hx:zcY x = true):EvT (notT (truW (zam 1 zce (zab (vW i) nilA)))) ρ false:=zao (zkP (zkW (za8 (zac (ev_v hi) zaj) (zja x (zoq hx))))) (by rw [hx];rfl)
theorem znD {s:Za} {x:Str} (h:Nms s.ms) (h0:s.rs = []) (hx:zcY x = true) (hn:x ∉ s.ms) (hl:s.ms.length < 12):zcE [zav s,.tup [.str "mark",.str x]] (λv=>v.old = zav { s with ms:=s.ms ++ [x] }) (λ_=>False):=by
 refine zeM (zbW (n:=2) (zaX s) (zaI (by simp [zaE]))) ?_;refine zeq (ev_v rfl) ?_;refine zdO (zhX rfl hx) ?_;refine zdO (zao (zaY (zqd (za8 (zac (ev_b rfl (b1 _)) (zac (ev_v rfl) zaj)) (zhk h (zdq hx))) ev_k)) (by rw [if_neg hn];decide)) ?_;exact rt_X (zac (ev_v rfl) (zac (ev_v rfl) zaj)) (zg0 h h0 (zdq hx) hn hl) λd e=>e
theorem zn4 {s:Za} {x:Str} (h:Nms s.hs) (hx:zcY x = true) (hn:x ∉ s.hs) (hl:s.hs.length < 10):zcv [zav s,.tup [.str "hand",.str x]] (λv=>v.old = zav { s with hs:=s.hs ++ [x] }) (λ_=>False):=by
 refine zeM (zbW (n:=3) (zaX s) (zaI (by simp [zaE]))) ?_;refine zeq (ev_v rfl) ?_;refine zbi (ev_b rfl (b2 _)) ?_;refine zdO (zhX rfl hx) ?_;refine zdO (zao (zaY (zi1 (neg:=false) (ev_v rfl) (ev_v rfl) (zdq hx) h.okS)) (by rw [YAq hn];rfl)) ?_;refine zdO (zao (zaY (zoC (zmO (ev_v rfl)) ev_k)) (by rw [YAc];exact YAq (by omega))) ?_;refine zbc (zd7 (zac (ev_v rfl) (zac ev_k (zac (zeh (ev_v rfl) (zcD (zac (ev_v rfl) zaj)) (by rw [YAc];show s.hs.length + 1 <= 100000;omega)) zaj))) (zck s) (by decide)) ?_;show (D.dct true (putKs BK "hands") (putVs BK (za6 s) "hands" _)).old = _;rw [bq2,show putVs BK (za6 s) "hands" (D.tup (s.hs.map D.str ++ [D.str x])).old = _ from bp2];refine zfU ?_;rw [<- YBw (f:=D.str),<- YAW,zaI (zax zaE _)];rfl
theorem znu {s:Za} {k:Int} (h0:0 <= k) (h3:k <= 3):zbO [zav s,.tup [.str "allow",.int k]] (λv=>v.old = zav { s with al:=k }) (λ_=>False):=by
 refine zeM (zbW (n:=2) (zaX s) (zaI (by simp [zaE,zan]))) ?_;refine zeq (ev_v rfl) ?_;refine zdO (zao (zgC (zaY (zsO (ev_v rfl) ev_k)) λ_=>zaY (zqd (ev_v rfl) ev_k)) (by rw [YAq (by omega),YAq (by omega)];rfl)) ?_;refine zbc (zd7 (zac (ev_v rfl) (zac ev_k (zac (ev_v rfl) zaj))) (zck s) (by decide)) ?_;show (D.dct true (putKs BK "allowed") (putVs BK (za6 s) "allowed" _)).old = _;rw [bq6,show putVs BK (za6 s) "allowed" (D.int k).old = _ from bp6,zan];exact zfU rfl
theorem zev {ms:List Str} {a:Nat} (ha:a < ms.length):nmZ ms a = ms[a]:=by unfold nmZ;rw [List.getD_eq_getElem?_getD,YAk ha];rfl
theorem zqn {ms:List Str} (h:ms.Nodup) {a b:Nat} {ha:a < ms.length} {hb:b < ms.length} (hab:a ≠ b):ms[a] ≠ ms[b]:=by
 have p:=List.pairwise_iff_getElem.mp h;rcases Nat.lt_or_gt_of_ne hab with z | z
 ·exact p a b ha hb z
 ·exact YAO (p b a hb ha z)
theorem zse {ρ:Env} {i j:Nat} {s:Za} {k:Int} {V:WE} {rs:List Zr} (hi:ρ[i]? = some (.val (zav s))) (hj:ρ[j]? = some (.val (.int k))) (hV:Ev V ρ (.tup (rs.map (zRun s.ms)))) :
  Ev (zam 3 zap (zab (zam 3 zap (zab (vW i) (zab (kW (.str "entered")) (zab (vW j) nilA)))) (zab (kW (.str "runs")) (zab V nilA)))) ρ (.dct true BK (za6 { s with en:=k,rs:=rs })):=by
 have e5:putVs BK (za6 s) "entered" (D.int k).old = za6 { s with en:=k }:=by rw [zan];exact bp5
 have f5:=zd7 (ρ:=ρ) (R:=zab (vW i) (zab (kW (.str "entered")) (zab (vW j) nilA))) (ks:=BK) (xs:=za6 s) (z := "entered") (v:=.int k) (n:=false) (zac (ev_v hi) (zac ev_k (zac (ev_v hj) zaj))) (zck s) (by decide);rw [bq5,e5] at f5;have f6:=zd7 (zac f5 (zac (ev_k (d:=.str "runs")) (zac hV zaj))) (zck _) (by decide);have e6:putVs BK (za6 { s with en:=k }) "runs" (D.tup (rs.map (zRun s.ms))).old = za6 { s with en:=k,rs:=rs }:=by rw [zaI (zax (zfA _) _)];exact bp4
 rw [bq4,e6] at f6;exact f6
theorem zp2 {s:Za} {a b:Nat} {r:Int} {h:Str} (hm:Nms s.ms) (hh:Nms s.hs) (ha:a < s.ms.length) (hb:b < s.ms.length) (hab:a ≠ b) (hr1:r <= 1000000000) (hr2:-1000000000 <= r) (hi:h ∈ s.hs) (hl:s.rs.length < 40) :
  zcW [zav s,.tup [.str "run",.str (nmZ s.ms a),.str (nmZ s.ms b),.int r,.str h]] (λv=>v.old = zav { s with en:=s.en + 1,rs:=s.rs ++ [⟨s.en + 1,a,b,r,h⟩] }) (λ_=>False):=by
 have ma:nmZ s.ms a ∈ s.ms:=by rw [zev ha];exact YBj ha
 have mb:nmZ s.ms b ∈ s.ms:=by rw [zev hb];exact YBj hb
 have ne:nmZ s.ms a ≠ nmZ s.ms b:=by
  rw [zev ha,zev hb];exact zqn hm.nd hab
 refine zeM (zbW (n:=11) (zaX s) (zaI (by simp [zaE,zan]))) ?_;refine zql (ev_v rfl) ?_;refine zeq (zeJ (zac (ev_b rfl (b1 _)) (zac (ev_v rfl) zaj)) (zkE hm ma)) ?_;refine zeq (zeJ (zac (ev_b rfl (b1 _)) (zac (ev_v rfl) zaj)) (zkE hm mb)) ?_;refine zdO (zao (zaY (zcS (ev_v rfl) (ev_v rfl) (hm.okS _ ma) (hm.okS _ mb))) (YAq ne)) ?_;refine zlR (zeJ (zac (ev_v rfl) (zac (ev_v rfl) zaj)) (zg5 hh hi)) ?_;refine zlR (zeJ (zac (ev_v rfl) zaj) (zg8 hr1 hr2)) ?_;show seqW _ _ _ [.val (zav s),.val (.tup [.str "run",.str (nmZ s.ms a),.str (nmZ s.ms b),.int r,.str h]),.val (.str "run"),.val (.str (nmZ s.ms a)),.val (.str (nmZ s.ms b)),.val (.int r),.val (.str h),.val (.str (nmZ s.ms a)),.val (.int 1),.val (.str (nmZ s.ms b)),.val (.int 1),.un,.un];have e40:(decide ((40:Int) <= ((s.rs.map (zRun s.ms)).length:Int))) = false:=by rw [YAc];exact YAq (by omega)
 refine zdO (zao (zaY (zoC (zmO (t:=s.rs.map (zRun s.ms)) (ev_b (s:=s) rfl (b4 s))) ev_k)) e40) ?_;refine zbi (zei (ev_b rfl (b5 _)) ev_k) ?_;refine zbi (zcD (zac (ev_v rfl) (zac (ev_v rfl) (zac (ev_v rfl) (zac (ev_v rfl) (zac (ev_v rfl) (zac (ev_v rfl) (zac (ev_v rfl) zaj)))))))) ?_;refine zbc (zse (s:=s) (k:=s.en + 1) (rs:=s.rs ++ [⟨s.en + 1,a,b,r,h⟩]) rfl rfl ?_) (zfU rfl);rw [YAW];exact zeh (ev_b rfl (b4 _)) (zcD (zac (ev_v rfl) zaj)) (by rw [YAc];show s.rs.length + 1 <= 100000;omega)
theorem zlb {s:Za} {n:Int} (hl:s.rs.length <= 1000) (hn:n ∈ s.rs.map (·.n)):zco [zav s,.tup [.str "strike",.int n]] (λv=>v.old = zav { s with rs:=s.rs.filter λr=>!decide (r.n = n) }) (λ_=>False):=by
 refine zeM (zbW (n:=2) (zaX s) (zaI (by simp [zaE,zan]))) ?_;refine zeq (ev_v rfl) ?_;refine zlR (zeJ (zac (ev_v rfl) (zac (ev_v rfl) zaj)) ((zdQ hl).1 hn)) ?_;have hc:=zcg (sub:=[none,some 3]) (I:=za4 (binW zas (vW 0) (kW (.str "runs")))) (ρ:=(((.val (zav s) :: .val (.tup [.str "strike",.int n]) :: List.replicate 2 Sl.un:Env).set 2 (.val (.str "strike"))).set 3 (.val (.int n)))) (t:=.nm 0) (C:=blW (binW neD (binW ixXD (vW 0) (kW (.int 0))) (vW 1))) (E:=vW 0) (zRun s.ms) (λr=>if !decide (r.n = n) then some (zRun s.ms r) else none) s.rs (ziL (ev_b rfl (b4 _))) (by omega) (λr _=>by
  by_cases e:r.n = n
  ·rw [YAy e];exact zl4 (zao (zaY (zkm (zbr (ev_v rfl) ev_k rfl) (ev_v rfl))) (by rw [YAy e];rfl))
  ·rw [YAq e];exact zf4 (zao (zaY (zkm (zbr (ev_v rfl) ev_k rfl) (ev_v rfl))) (by rw [YAq e];rfl)) (ev_v rfl))
 have fm:∀ rs:List Zr,(rs.filterMap λr=>if !decide (r.n = n) then some (zRun s.ms r) else none) = (rs.filter λr=>!decide (r.n = n)).map (zRun s.ms):=λrs=>by
  induction rs with
  | nil=>rfl
  | cons r rs ih=>
   rw [YAG,YBH];by_cases e:r.n = n
   ·simp only [e,decide_true,Bool.not_true,YA7,YBE];exact ih
   ·simp only [e,YCF,Bool.not_false,YBU,YAg];rw [ih]
 rw [fm] at hc;refine zbc (zd7 (zac (ev_v rfl) (zac ev_k (zac (zml (d:=.tup ((s.rs.filter λr:Zr=>!decide (r.n = n)).map (zRun s.ms))) (zac (za5 hc) zaj) λP p=>p) zaj))) (zck s) (by decide)) ?_;show (D.dct true (putKs BK "runs") (putVs BK (za6 s) "runs" _)).old = _;rw [bq4,show putVs BK (za6 s) "runs" _ = _ from bp4,zaI (zax (zfA _) _)];exact zfU rfl
theorem zlJ {s:Za} {n:Int} (hl:s.rs.length <= 1000) (hn:n ∉ s.rs.map (·.n)):zco [zav s,.tup [.str "strike",.int n]] (λ_=>False) (· = "NoRun"):=by
 refine zeM (zbW (n:=2) (zaX s) (zaI (by simp [zaE,zan]))) ?_;refine zeq (ev_v rfl) ?_;exact ⟨rfl,zgX ((zdQ hl).2 hn) (λ_ z=>z.elim) λ_ z=>z⟩
theorem zqt {s:Za} {n k:Int} (hl:s.rs.length <= 1000) (hn:n ∉ s.rs.map (·.n)):zdn [zav s,.tup [.str "mend",.int n,.int k]] (λ_=>False) (· = "NoRun"):=by
 refine zeM (zbW (n:=4) (zaX s) (zaI (by simp [zaE,zan]))) ?_;refine zqo (ev_v rfl) ?_;exact ⟨rfl,zgX ((zdQ hl).2 hn) (λ_ z=>z.elim) λ_ z=>z⟩
end Fd
set_option maxHeartbeats 400000
namespace Fd
open PySem L2
inductive Zd where
 | mark (x:Str) | hand (x:Str) | allow (k:Int) | run (a b:Nat) (r:Int) (h:Str) | strike (n:Int)
def zD (s:Za):Zd->D
 | .mark x=>.tup [.str "mark",.str x]
 | .hand x=>.tup [.str "hand",.str x]
 | .allow k=>.tup [.str "allow",.int k]
 | .run a b r h=>.tup [.str "run",.str (nmZ s.ms a),.str (nmZ s.ms b),.int r,.str h]
 | .strike n=>.tup [.str "strike",.int n]
def zdN (s:Za) (d:Zd):Za:=match d with
 | .mark x=>{ s with ms:=s.ms ++ [x],ds:=s.ds ++ [zD s d] }
 | .hand x=>{ s with hs:=s.hs ++ [x],ds:=s.ds ++ [zD s d] }
 | .allow k=>{ s with al:=k,ds:=s.ds ++ [zD s d] }
 | .run a b r h=>{ s with en:=s.en + 1,rs:=s.rs ++ [⟨s.en + 1,a,b,r,h⟩],ds:=s.ds ++ [zD s d] }
 | .strike n=>{ s with rs:=s.rs.filter λr=>!decide (r.n = n),ds:=s.ds ++ [zD s d] }
def Zfit (s:Za):Zd->Prop
 | .mark x=>s.rs = []/\zcY x = true/\x ∉ s.ms/\s.ms.length < 12
 | .hand x=>zcY x = true/\x ∉ s.hs/\s.hs.length < 10
 | .allow k=>0 <= k/\k <= 3
 | .run a b r h=>a < s.ms.length/\b < s.ms.length/\a ≠ b/\r <= 1000000000/\-1000000000 <= r/\h ∈ s.hs/\s.rs.length < 40
 | .strike n=>n ∈ s.rs.map (·.n)
structure Zok (s:Za):Prop where
 m:Nms s.ms
 h:Nms s.hs
 ra:∀ r ∈ s.rs,r.a < s.ms.length/\r.b < s.ms.length/\r.h ∈ s.hs
 rl:s.rs.length <= 40
 rn:∀ r ∈ s.rs,1 <= r.n/\r.n <= s.en
 e0:0 <= s.en
 dd:∀ d ∈ s.ds,d.old = d/\sameOk d 3 = true
 dl:s.ds.length <= 1000
theorem zdv (s:Za) (d:Zd):(zD s d).old = zD s d:=by
 cases d <;> exact zaI (by simp [zaE,zan])
theorem ok_lits:okS "mark" = true/\okS "hand" = true/\okS "allow" = true/\okS "run" = true/\okS "strike" = true:=⟨zeQ,zeQ,zeQ,zeQ,zeQ⟩
theorem zos {ms:List Str} (h:Nms ms) {a:Nat} (ha:a < ms.length):okS (nmZ ms a) = true:=by rw [zev ha];exact h.okS _ (YBj ha)
theorem zfO {xs:List D} {n:Nat} (h:∀ x ∈ xs,sameOk x n = true) (hl:xs.length <= 1000:=by simp):sameOk (.tup xs) (n + 1) = true:=by
 rw [sameOk,YAy hl,Bool.true_and];clear hl
 induction xs with
 | nil=>rw [zbZ]
 | cons x xs ih=>rw [zbZ,h x YAs,ih λy hy=>h y (YAf _ hy)];rfl
theorem zeB {b:Bool} {xs:List D} {n:Nat} (h:∀ x ∈ xs,sameOk x n = true) (hl:xs.length <= 1000):sameOk (.lst b xs) (n + 1) = true:=by
 rw [sameOk,YAy hl,Bool.true_and];clear hl
 induction xs with
 | nil=>rw [zbZ]
 | cons x xs ih=>rw [zbZ,h x YAs,ih λy hy=>h y (YAf _ hy)];rfl
theorem zci {x:Str} {n:Nat} (h:okS x = true):sameOk (.str x) n = true:=by rw [sameOk];exact h
theorem zeF {i:Int} {n:Nat}:sameOk (.int i) n = true:=by rw [sameOk]
theorem ztf {s:Za} {d:Zd} (ok:Zok s) (f:Zfit s d):sameOk (zD s d) 3 = true:=by
 obtain ⟨l1,l2,l3,l4,l5⟩:=ok_lits;cases d with
 | mark x=>exact zfO (by simp [zci l1,zci (zdq f.2.1)])
 | hand x=>exact zfO (by simp [zci l2,zci (zdq f.1)])
 | allow k=>exact zfO (by simp [zci l3,zeF])
 | run a b r h=>exact zfO (by simp [zci l4,zeF,zci (zos ok.m f.1),zci (zos ok.m f.2.1),zci (ok.h.okS _ f.2.2.2.2.2.1)])
 | strike n=>exact zfO (by simp [zci l5,zeF])
theorem Nms.snoc {ms:List Str} (h:Nms ms) {x:Str} (hx:zcY x = true) (hn:x ∉ ms) (hl:ms.length < 12):Nms (ms ++ [x]):=
 ⟨List.nodup_append.mpr ⟨h.nd,by simp,λa ha b hb e=>by rw [YAF.mp hb] at e;exact hn (e ▸ ha)⟩,λy hy=>(YAV.mp hy).elim (h.ok y) λz=>by rw [YAF.mp z];exact hx,by rw [YAp];show ms.length + 1 <= 12;omega⟩
theorem zds (s:Za) (d:Zd):(zdN s d).ds = s.ds ++ [zD s d]:=by cases d <;> rfl
theorem znE {s:Za} {d:Zd} (ok:Zok s) (f:Zfit s d) (hl:s.ds.length < 1000):Zok (zdN s d):=by
 have dd:∀ y ∈ (zdN s d).ds,y.old = y/\sameOk y 3 = true:=λy hy=>by
  rw [zds] at hy;rcases YAV.mp hy with z | z
  ·exact ok.dd y z
  ·rw [YAF.mp z];exact ⟨zdv s d,ztf ok f⟩
 have dl:(zdN s d).ds.length <= 1000:=by rw [zds,YAp];show s.ds.length + 1 <= 1000;omega
 cases d with
 | mark x=>exact ⟨ok.m.snoc f.2.1 f.2.2.1 f.2.2.2,ok.h,λr hr=>(by rw [show (zdN s (.mark x)).rs = s.rs from rfl,f.1] at hr;cases hr),ok.rl,ok.rn,ok.e0,dd,dl⟩
 | hand x=>exact ⟨ok.m,ok.h.snoc f.1 f.2.1 (by have:=f.2.2;omega),λr hr=>⟨(ok.ra r hr).1,(ok.ra r hr).2.1,YBF _ (ok.ra r hr).2.2⟩,ok.rl,ok.rn,ok.e0,dd,dl⟩
 | allow k=>exact ⟨ok.m,ok.h,ok.ra,ok.rl,ok.rn,ok.e0,dd,dl⟩
 | run a b r h=>
  refine ⟨ok.m,ok.h,λq hq=>?_,?_,λq hq=>?_,by have:=ok.e0;show 0 <= s.en + 1;omega,dd,dl⟩
  ·rcases YAV.mp hq with z | z
   ·exact ok.ra q z
   ·rw [YAF.mp z];exact ⟨f.1,f.2.1,f.2.2.2.2.2.1⟩
  ·show (s.rs ++ [_]).length <= 40;rw [YAp];have:=f.2.2.2.2.2.2;show s.rs.length + 1 <= 40;omega
  ·have e0:=ok.e0;rcases YAV.mp hq with z | z
   ·have:=ok.rn q z;show 1 <= q.n/\q.n <= s.en + 1;omega
   ·rw [YAF.mp z];show 1 <= s.en + 1/\s.en + 1 <= s.en + 1;omega
 | strike n=>
  have sub:∀ {q},q ∈ (zdN s (.strike n)).rs->q ∈ s.rs:=λhq=>(YCx.mp hq).1;exact ⟨ok.m,ok.h,λq hq=>ok.ra q (sub hq),YAB (List.length_filter_le _ _) ok.rl,λq hq=>ok.rn q (sub hq),ok.e0,dd,dl⟩
theorem zcC {A:Ads} {s:Za} {w:Str} {xs:List D} {f:Addr} {F:FnX} {P:D->Prop} {Z:Str->Prop} (ho:(D.tup (.str w :: xs)).old = .tup (.str w :: xs)) (hl:(kvA A).lookup w = some (.obj f)) (hm:(f,F) ∈ tabA A) (h:F [zav s,.tup (.str w :: xs)] P Z):zaP A [zav s,.tup (.str w :: xs)] P Z:=by
 refine zeM (zbW (n:=1) (zaX s) ho) ?_;have ev:Ev (ixGW (kvA A) (binW ixXD (vW 1) (kW (.int 0)))) (.val (zav s) :: .val (.tup (.str w :: xs)) :: List.replicate 1 Sl.un) (.obj f):=λP p=>by
  refine zbr (d:=.str w) (ev_v rfl) ev_k (zar (j:=0) rfl) _ ?_;show opD ((kvA A).lookup w) P;rw [hl];exact p
 refine zbi ev ?_;exact ⟨F,hm,rfl,zgX h (λ_ z=>z) λ_ z=>z⟩
theorem zoM {A:Ads} {s:Za} {d:Zd} (ok:Zok s) (f:Zfit s d):zaP A [zav s,zD s d] (λv=>v.old = zav (zdN s d)) (λ_=>False):=by
 cases d with
 | mark x=>exact zcC (f:=A.mark_entered) (zdv s (.mark x)) (by kernel_rfl) (by unfold tabA;simp) (znD ok.m f.1 f.2.1 f.2.2.1 f.2.2.2)
 | hand x=>exact zcC (f:=A.hand_entered) (zdv s (.hand x)) (by kernel_rfl) (by unfold tabA;simp) (zn4 ok.h f.1 f.2.1 f.2.2)
 | allow k=>exact zcC (f:=A.number_allowed) (zdv s (.allow k)) (by kernel_rfl) (by unfold tabA;simp) (znu f.1 f.2)
 | run a b r h=>exact zcC (f:=A.run_entered) (zdv s (.run a b r h)) (by kernel_rfl) (by unfold tabA;simp) (zp2 ok.m ok.h f.1 f.2.1 f.2.2.1 f.2.2.2.1 f.2.2.2.2.1 f.2.2.2.2.2.1 f.2.2.2.2.2.2)
 | strike n=>exact zcC (f:=A.run_struck) (zdv s (.strike n)) (by kernel_rfl) (by unfold tabA;simp) (zlb (by have:=ok.rl;omega) f)
end Fd
set_option maxHeartbeats 400000
namespace Fd
open PySem L2
def fenO (A:Ads) (ks bs us:List D):Ob:=⟨A.fen,[("kept",ks),("books",bs),("undone",us)]⟩
theorem zfD {A:Ads} {ks bs us:List D}:IsF (fenO A ks bs us) "kept" 0 ks:=⟨rfl,λi y hi=>by omega⟩
theorem zfV {A:Ads} {ks bs us:List D}:IsF (fenO A ks bs us) "books" 1 bs:=⟨rfl,λi y hi e=>by
 have:i = 0:=by omega
 subst this;cases e;show ("kept" : Str) ≠ "books"; decide +kernel⟩
theorem zlh {A:Ads} {ks bs us:List D}:IsF (fenO A ks bs us) "undone" 2 us:=⟨rfl,λi y hi e=>by
 match i,hi with
 | 0,_=>cases e;show ("kept" : Str) ≠ "undone"; decide +kernel
 | 1,_=>cases e;show ("books" : Str) ≠ "undone"; decide +kernel⟩
theorem zpk {A:Ads} {ks bs us:List D} {m:Str} (h:m ≠ "kept" /\ m ≠ "books" /\ m ≠ "undone"):∀ x ∈ (fenO A ks bs us).fs,x.1 ≠ m:=λx hx=>by
 have hx:x ∈ [(("kept" : Str),ks),("books",bs),("undone",us)]:=hx;simp only [YAu,YAC,YBR] at hx;rcases hx with rfl | rfl | rfl
 ·exact YAO h.1
 ·exact YAO h.2.1
 ·exact YAO h.2.2
theorem zb2 {A:Ads} {S:Sto} {ρ:Env} {i:Nat} {q:Addr} {m:Str} {F:Sto->Fn} {ks bs us:List D} {d:D} (hi:ρ[i]? = some (.val (.obj q))) (hS:S q = some (fenO A ks bs us)) (hm:m ≠ "kept" /\ m ≠ "books" /\ m ≠ "undone") (h:F S [.obj q] (· = d)):Ev (zbN S i A.fen m 1 F (λ_ Q=>Q [])) ρ d:=λP p=>by
 unfold zbN;rw [hi];exact ⟨⟨_,hS,rfl,zpk hm⟩,rfl,zd9 h λe z=>by subst z;exact p⟩
theorem zoa {bs:List D} {x:D}:atI (bs ++ [x]) (-1) = some x:=by
 unfold atI ixN;rw [if_neg (by decide),YAp,if_pos (by simp;omega)];show (bs ++ [x])[(-1 + ((bs.length + 1:Nat):Int)).toNat]? = some x;rw [show (-1 + ((bs.length + 1:Nat):Int)).toNat = bs.length from by omega]
 simp
theorem zrD:(("now" : Str) ≠ "kept" /\ ("now" : Str) ≠ "books" /\ ("now" : Str) ≠ "undone"):=by decide +kernel
theorem zqY {A:Ads} {S:Sto} {q:Addr} {s:Za} {ks bs us:List D} (hS:S q = some (fenO A ks (bs ++ [zav s]) us)):zaB A S [.obj q] (· = zav s):=by
 refine zbV (ρ:=[.val (.obj q)]) (by unfold zaz;simp [za9]) ?_;refine ⟨_,1,bs ++ [zav s],hS,rfl,zfV,?_⟩;show (match atI (bs ++ [zav s]) (-1) with | some d=>d.old = zav s | none=>False);rw [zoa];exact zaX s
theorem ziX {A:Ads} {S:Sto} {q:Addr} {s:Za} {ks bs us:List D} {ρ:Env} {i:Nat} (hi:ρ[i]? = some (.val (.obj q))) (hS:S q = some (fenO A ks (bs ++ [zav s]) us)):Ev (zbN S i A.fen "now" 1 (zaB A) (λ_ Q=>Q [])) ρ (zav s):=zb2 hi hS zrD (zqY hS)
def zjr (s:Za):Zd->D
 | .run ..=>.int (s.en + 1)
 | _=>.non
theorem zfd {e:D} {k:Int} (h:e.old = .int k):e = .int k:=by
 cases e with
 | int i=>rw [D.old] at h;exact h
 | non=>rw [D.old] at h;cases h
 | bl _=>rw [D.old] at h;cases h
 | str _=>rw [D.old] at h;cases h
 | box=>rw [D.old] at h;cases h
 | obj _=>rw [D.old] at h;cases h
 | tup _=>rw [D.old] at h;cases h
 | lst _ _=>rw [D.old] at h;cases h
 | dct _ _ _=>rw [D.old] at h;cases h
 | fdc _ _=>rw [D.old] at h;cases h
theorem zrp {v:D} {s:Za} (h:v.old = zav s):∃ n xs,v = .dct n BK xs/\zaG BK xs "entered" = some (.int s.en):=by
 cases v with
 | dct n ks xs=>
  rw [D.old] at h;unfold zav at h;injection h with h1 h2 h3
  subst h2;refine ⟨n,xs,rfl,?_⟩;unfold za6 at h3;obtain ⟨a,l1,rfl,_,h3⟩:=YAv.mp h3;obtain ⟨b,l2,rfl,_,h3⟩:=YAv.mp h3;obtain ⟨c,l3,rfl,_,h3⟩:=YAv.mp h3;obtain ⟨d,l4,rfl,_,h3⟩:=YAv.mp h3;obtain ⟨e,l5,rfl,he,h3⟩:=YAv.mp h3;obtain ⟨f,l6,rfl,_,h3⟩:=YAv.mp h3
  have:l6 = []:=YBJ.mp h3
  subst this;rw [zfd he];exact bk5
 | non=>rw [D.old] at h;cases h
 | bl _=>rw [D.old] at h;cases h
 | int _=>rw [D.old] at h;cases h
 | str _=>rw [D.old] at h;cases h
 | box=>rw [D.old] at h;cases h
 | obj _=>rw [D.old] at h;cases h
 | tup _=>rw [D.old] at h;cases h
 | lst _ _=>rw [D.old] at h;cases h
 | fdc _ _=>rw [D.old] at h;cases h
section
variable {E:EnF} {S:Sto} {ρ:Env} {B:WF} {q:Addr} {A:Ads} {ks bs us:List D} {i:Nat} {d:D} {V:Sto->WE}
theorem zoo (hi:ρ[i]? = some (.val (.obj q))) (hS:S q = some (fenO A ks bs us)) (hV:Ev (V S) ρ d) (hl:ks.length < 100000) (h:B E (upS S q (fenO A (ks ++ [d.old]) bs us)) ρ):seqF (appO i "kept" A.fen V) B E S ρ:=by
 show appO i "kept" A.fen V _ S ρ;unfold appO;rw [hi];exact ⟨_,0,ks,hS,rfl,zfD,hV _ ⟨hl,h⟩⟩
theorem zm8 (hi:ρ[i]? = some (.val (.obj q))) (hS:S q = some (fenO A ks bs us)) (hV:Ev (V S) ρ d) (hl:bs.length < 100000) (h:B E (upS S q (fenO A ks (bs ++ [d.old]) us)) ρ):seqF (appO i "books" A.fen V) B E S ρ:=by
 show appO i "books" A.fen V _ S ρ;unfold appO;rw [hi];exact ⟨_,1,bs,hS,rfl,zfV,hV _ ⟨hl,h⟩⟩
theorem zlB:putO "undone" [] (fenO A ks bs us).fs = (fenO A ks bs []).fs:=by unfold fenO;kernel_rfl
theorem zlz (hi:ρ[i]? = some (.val (.obj q))) (hS:S q = some (fenO A ks bs us)) (h:B E (upS S q (fenO A ks bs [])) ρ):seqF (setO i "undone" A.fen (λS=>lstW nilA)) B E S ρ:=by
 show setO i "undone" A.fen _ _ S ρ;unfold setO;rw [hi];refine ⟨by decide,_,hS,rfl,by show 3 < 100;decide,?_⟩;show B E (upS S q ⟨A.fen,putO "undone" [] (fenO A ks bs us).fs⟩) ρ;rw [zlB];exact h
end
theorem znh {n:Nat} {a b c:D} (ha:a.old = a) (hb:b.old = b) (hc:c.old = c):zaz (n + 3) [a,b,c] = .val a :: .val b :: .val c :: List.replicate n .un:=by
 unfold zaz;simp [ha,hb,hc]
def zqr:Zd->Bool
 | .run _ _ _ _=>true
 | _=>false
theorem zrZ (s:Za) (d:Zd) {ρ:Env} {i:Nat} (hi:ρ[i]? = some (.val (zD s d))):EvT (blW (binW eqD (binW ixXD (vW i) (kW (.int 0))) (kW (.str "run")))) ρ (zqr d):=by
 obtain ⟨l1,l2,l3,l4,l5⟩:=ok_lits;cases d with
 | mark x=>exact zao (zaY (zcS (zbr (ev_v hi) ev_k (zar (j:=0) rfl)) ev_k l1 l4)) (show decide (("mark" : Str) = "run") = false by decide +kernel)
 | hand x=>exact zao (zaY (zcS (zbr (ev_v hi) ev_k (zar (j:=0) rfl)) ev_k l2 l4)) (show decide (("hand" : Str) = "run") = false by decide +kernel)
 | allow k=>exact zao (zaY (zcS (zbr (ev_v hi) ev_k (zar (j:=0) rfl)) ev_k l3 l4)) (show decide (("allow" : Str) = "run") = false by decide +kernel)
 | run a b r h=>exact zao (zaY (zcS (zbr (ev_v hi) ev_k (zar (j:=0) rfl)) ev_k l4 l4)) (show decide (("run" : Str) = "run") = true by decide +kernel)
 | strike n=>exact zao (zaY (zcS (zbr (ev_v hi) ev_k (zar (j:=0) rfl)) ev_k l5 l4)) (show decide (("strike" : Str) = "run") = false by decide +kernel)
theorem zoA {A:Ads} {S:Sto} {q:Addr} {s:Za} {d:Zd} {bs us:List D} (hS:S q = some (fenO A s.ds (bs ++ [zav s]) us)) (ok:Zok s) (f:Zfit s d) (hb:bs.length <= 1000) :
  zaT A [.obj q,zD s d] S (λv S'=>v = zjr s d/\S' = upS S q (fenO A (s.ds ++ [zD s d]) (bs ++ [zav s] ++ [zav (zdN s d)]) [])) (λ_ _=>False):=by
 refine zhh (zbW (n:=1) (za9 q) (zdv s d)) ?_;show zbN S 0 A.fen "now" 1 (zaB A) (λ_ Q=>Q []) _ _;refine ziX (ks:=s.ds) (us:=us) rfl hS _ ⟨rfl,zgX (zoM ok f) (λv hv=>?_) λ_ z=>z⟩;unfold gD;show seqF (appO 0 "kept" A.fen λ_=>vW 1) _ _ _ [.val (.obj q),.val (zD s d),.val v];refine zoo (V:=λ_=>vW 1) (d:=zD s d) (q:=q) rfl hS (ev_v rfl) (by have:=ok.dl;omega) ?_;rw [zdv];refine zm8 (V:=λ_=>vW 2) (d:=v) (q:=q) rfl zaR (ev_v rfl) (by rw [YAp];show bs.length + 1 < 100000;omega) ?_;rw [hv,zel];refine zlz (q:=q) rfl zaR ?_;rw [zel];refine zrZ s d (i:=1) rfl _ ?_;cases d with
 | run a b r h=>
  obtain ⟨n,xs,e,l⟩:=zrp hv;subst e;show retW (binW zas (vW 2) (kW (.str "entered"))) _ [.val (.obj q),.val (zD s (.run a b r h)),.val (.dct n BK xs)];exact zbc (zgB (ev_v rfl) l) ⟨rfl,rfl⟩
 | mark x=>exact ⟨rfl,rfl⟩
 | hand x=>exact ⟨rfl,rfl⟩
 | allow k=>exact ⟨rfl,rfl⟩
 | strike n=>exact ⟨rfl,rfl⟩
end Fd
set_option maxHeartbeats 400000
namespace Fd
open PySem L2
theorem mp1 {a b c d e f w:D}:putVs MK [a,b,c,d,e,f] "places" w = [w,b,c,d,e,f]:=by kernel_rfl
theorem mp2 {a b c d e f w:D}:putVs MK [a,b,c,d,e,f] "heeded" w = [a,w,c,d,e,f]:=by kernel_rfl
theorem mp3 {a b c d e f w:D}:putVs MK [a,b,c,d,e,f] "rows" w = [a,b,w,d,e,f]:=by kernel_rfl
theorem mp4 {a b c d e f w:D}:putVs MK [a,b,c,d,e,f] "entered" w = [a,b,c,w,e,f]:=by kernel_rfl
theorem mp5 {a b c d e f w:D}:putVs MK [a,b,c,d,e,f] "many" w = [a,b,c,d,w,f]:=by kernel_rfl
theorem mp6 {a b c d e f w:D}:putVs MK [a,b,c,d,e,f] "deeds" w = [a,b,c,d,e,w]:=by kernel_rfl
theorem mq1:putKs MK "places" = MK:=by kernel_rfl
theorem mq2:putKs MK "heeded" = MK:=by kernel_rfl
theorem mq3:putKs MK "rows" = MK:=by kernel_rfl
theorem mq4:putKs MK "entered" = MK:=by kernel_rfl
theorem mq5:putKs MK "many" = MK:=by kernel_rfl
theorem mq6:putKs MK "deeds" = MK:=by kernel_rfl
section
variable {ρ:Env} {E:En} {i:Nat} {V I:WE} {R B:WS} {ks:List Str} {xs:List D} {d v:D} {z:Str} {n:Bool}
theorem zq9 (h:Ev V ρ (.dct n ks xs)) (q:R E (ρ.set i (.dic ks xs))):seqW (dcpW i V) R E ρ:=h _ q
theorem zgS (hi:ρ[i]? = some (.dic ks xs)) (ho:zjA i ρ = true) (hk:ks.length < 1000) (h:Ev V ρ d) (q:E.nx (ρ.set i (.dic (putKs ks z) (putVs ks xs z d)))):dstW i (kW (.str z)) V E ρ:=by
 unfold dstW;rw [hi];exact ⟨ho,hk,h _ q⟩
theorem zpH {a b:Int} (hi:ρ[i]? = some (.dic ks xs)) (ho:zjA i ρ = true) (hk:ks.length < 1000) (hl:zaG ks xs z = some (.int a)) (h:Ev V ρ (.int b)) (q:E.nx (ρ.set i (.dic (putKs ks z) (putVs ks xs z (.int (a + b)))))):zk9 i (kW (.str z)) V E ρ:=by
 unfold zk9;rw [hi];refine ⟨ho,hk,?_⟩;show (match zaG ks xs z with | some (.int a)=>_ | _=>False);rw [hl];exact h _ q
theorem zld (hi:ρ[i]? = some (.dic ks xs)) (hl:zaG ks xs z = some d):Ev (ogW i (kW (.str z))) ρ d:=λP p=>by
 unfold ogW;rw [hi];show optD (zaG ks xs z) P;rw [hl];exact p
theorem zjJ {k:Nat} {F:Fn} {L:WL} {ds:List D} (hi:ρ[i]? = some (.dic ks xs)) (hL:EvL L ρ ds) (h:F (.dct true ks xs :: ds) (· = d)) (f:zqO d) (hl:ds.length + 1 = k:=by rfl):Ev (ziB i k F L) ρ d:=λP p=>by
 unfold ziB;rw [hi];exact hL _ ⟨hl,zd9 h λe z=>by subst z;exact ⟨f,p⟩⟩
theorem zr7 {A:WE} (hi:i < ρ.length) (hA:Ev A ρ (.fdc ks xs)) (hk:ks.length < 1000) (hV:Ev V (ρ.set i .un) v) (hI:Ev I (ρ.set i .un) (.str z)) (q:B E (ρ.set i (.val (.fdc (putKs ks z) (putVs ks xs z v))))):dc2W i A V I B E ρ:=⟨hi,hA _ ⟨hk,hV _ (hI _ q)⟩⟩
end
theorem zph (x:Str):∀ ms:List Str,(ms.filterMap λy=>if y = x then some (zSt y) else none).length = (ms.filter λy=>decide (y = x)).length
 | []=>rfl
 | y :: ms=>by
  have ih:=zph x ms;rw [YAG,YBH];by_cases e:y = x
  ·simp only [e,YBU,decide_true,YAz];rw [ih]
  ·simp only [e,YBE,YCF];exact ih
def Pls (xs:List D) (ms:List Str):Prop:=zaG MK (xs.map D.old) "places" = some (.lst false (ms.map zSt))
theorem zky {n:Bool} {ks:List Str} {xs:List D} {x:Str}:zaz 2 [.dct n ks xs,.str x] = [.val (.dct false ks (xs.map D.old)),.val (.str x)]:=by
 unfold zaz;rw [YAg,YAg,YAK,zaE,D.old];rfl
theorem zgU {n:Bool} {xs:List D} {ms:List Str} {x:Str} (hp:Pls xs ms) (h:Nms ms) (hx:okS x = true):za7 [.dct n MK xs,.str x] (· = .int (if x ∈ ms then 1 else 0)):=by
 refine zbV zky ?_;have hc:=zcg (sub:=[none,some 1]) (ρ:=[.val (.dct false MK (xs.map D.old)),.val (.str x)]) (I:=za4 (binW zas (vW 0) (kW (.str "places")))) (t:=.nm 0) (C:=blW (binW eqD (binW ixXD (vW 0) (kW (.int 0))) (vW 1))) (E:=vW 0) zSt (λy=>if y = x then some (zSt y) else none) ms (zcU (zgB (ev_v rfl) hp)) (by have:=h.ln;omega) (λy hy=>by
  by_cases e:y = x
  ·rw [if_pos e];exact zf4 (zao (zaY (zcS (zbr (ev_v rfl) ev_k (zar (j:=0) rfl)) (ev_v rfl) (h.okS y hy) hx)) (YAy e)) (ev_v rfl)
  ·rw [if_neg e];exact zl4 (zao (zaY (zcS (zbr (ev_v rfl) ev_k (zar (j:=0) rfl)) (ev_v rfl) (h.okS y hy) hx)) (YAq e)))
 refine zbc (zeY (za5 hc)) ?_;rw [zph,zg1 h.nd];show D.int (((if x ∈ ms then 1 else 0:Nat)):Int) = _;congr 1;split <;> rfl
theorem zng (y x:Str):eqB (zSt y) (zSt x) = decide (y = x):=by
 have:eqB (zSt y) (zSt x) = (eqB (.str y) (.str x) && ((1:Int) == 1 && true)):=rfl
 rw [this,zfJ];simp
theorem zlI {x:Str} (h:okS x = true):layD (zSt x) = true:=by
 show (PyData.canLay0 (.str x) && _) = true;rw [show PyData.canLay0 (.str x) = true from h];rfl
theorem zj9:∀ {ms:List Str},(∀ y ∈ ms,okS y = true)->zcF (ms.map zSt) = true
 | [],_=>by rw [YAK,zcF]
 | y :: ms,h=>by rw [YAg,zcF,zj9 λz hz=>h z (YAf _ hz),zlI (h y YAs)];rfl
theorem zd2 {n:Bool} {xs:List D} {ms:List Str} {a:Nat} (hp:Pls xs ms) (h:Nms ms) (ha:a < ms.length):zaN [.dct n MK xs,.str (nmZ ms a)] (· = .int a):=by
 have ma:nmZ ms a ∈ ms:=by rw [zev ha];exact YBj ha
 refine zbV zky ?_;have ht:=zgU (n:=false) (xs:=xs.map D.old) (x:=nmZ ms a) (ms:=ms) (by unfold Pls;rw [YAH,show (D.old ∘ D.old) = D.old from funext zjH];exact hp) h (h.okS _ ma);rw [if_pos ma] at ht;have et:Ev (tupW (zab (vW 1) (zab (zam 2 za7 (zab (vW 0) (zab (vW 1) nilA))) nilA))) [.val (.dct false MK (xs.map D.old)),.val (.str (nmZ ms a))] (zSt (nmZ ms a)):=zcD (zac (ev_v rfl) (zac (za8 (zac (ev_v rfl) (zac (ev_v rfl) zaj)) ht) zaj));have ev:Ev (zqk (binW zas (vW 0) (kW (.str "places"))) (tupW (zab (vW 1) (zab (zam 2 za7 (zab (vW 0) (zab (vW 1) nilA))) nilA)))) [.val (.dct false MK (xs.map D.old)),.val (.str (nmZ ms a))] (.int a):=λP p=>by
  refine zgB (ev_v rfl) hp _ ?_;refine et (λy=>zsH (ms.map zSt) y P) ?_;refine ⟨⟨zlI (h.okS _ ma),zj9 h.okS,?_⟩,by rw [YAc];have:=h.ln;omega,a,zSt (nmZ ms a),by rw [YAt,YAk ha,zev ha];rfl,?_,λm hm z hz=>?_,p⟩
  ·exact YAB (YBZ _ _) (by show (toPy (zSt (nmZ ms a))).depth <= 50;exact (by decide:1 <= 50))
  ·rw [zng,YAy rfl]
  ·have hml:m < ms.length:=by omega
   rw [YAt,YAk hml] at hz;cases hz;show eqB (zSt ms[m]) (zSt (nmZ ms a)) = false;rw [zng,zev ha,YAq (zqn h.nd (by omega))]
 exact zbc ev rfl
theorem zoK {s:Za} {d:Zd} (hd:∀ x ∈ s.ds,x.old = x):zbj [zMod s,zD s d] (· = zjr s d):=by
 refine zbV (zbW (n:=0) (zeL hd) (zdv s d)) ?_;have e1:Ev (binW zas (vW 0) (kW (.str "entered"))) (.val (zMod s) :: .val (zD s d) :: List.replicate 0 Sl.un) (.int s.en):=zgB (ev_v rfl) (m4 s);have er:Ev (binW eqD (binW ixXD (vW 1) (kW (.int 0))) (kW (.str "run"))) (.val (zMod s) :: .val (zD s d) :: List.replicate 0 Sl.un) (.bl (zqr d)):=λP p=>by
  obtain ⟨l1,l2,l3,l4,l5⟩:=ok_lits;cases d with
  | mark x=>exact zgA (zcS (zbr (ev_v rfl) ev_k (zar (j:=0) rfl)) ev_k l1 l4) (congrArg D.bl (show decide (("mark" : Str) = "run") = false by decide +kernel)) P p
  | hand x=>exact zgA (zcS (zbr (ev_v rfl) ev_k (zar (j:=0) rfl)) ev_k l2 l4) (congrArg D.bl (show decide (("hand" : Str) = "run") = false by decide +kernel)) P p
  | allow x=>exact zgA (zcS (zbr (ev_v rfl) ev_k (zar (j:=0) rfl)) ev_k l3 l4) (congrArg D.bl (show decide (("allow" : Str) = "run") = false by decide +kernel)) P p
  | run a b r h=>exact zgA (zcS (zbr (ev_v rfl) ev_k (zar (j:=0) rfl)) ev_k l4 l4) (congrArg D.bl (show decide (("run" : Str) = "run") = true by decide +kernel)) P p
  | strike n=>exact zgA (zcS (zbr (ev_v rfl) ev_k (zar (j:=0) rfl)) ev_k l5 l4) (congrArg D.bl (show decide (("strike" : Str) = "run") = false by decide +kernel)) P p
 have el:=za5 (zdu (zac (ev_k (d:=.non)) (zac (zei e1 (ev_k (d:=.int 1))) zaj)));refine zbc (zfF (k:=if zqr d then 1 else 0) (d:=zjr s d) el (zml (zac er zaj) λP p=>p) ?_) rfl;cases d <;> first | exact zar (j:=0) rfl | exact zar (j:=1) rfl
end Fd
set_option maxHeartbeats 400000
namespace Fd
open PySem L2
theorem zoZ {t:Za} {n:Bool} {xs:List D} (h:xs.map D.old = modL t):(D.dct n MK xs).old = zMod t:=by rw [D.old,h];rfl
def wd:Zd->Str
 | .mark _ => "mark"
 | .hand _ => "hand"
 | .allow _ => "allow"
 | .run _ _ _ _ => "run"
 | .strike _ => "strike"
theorem zsQ (s:Za) (d:Zd):∃ xs,zD s d = .tup (.str (wd d) :: xs):=by cases d <;> exact ⟨_,rfl⟩
section
variable {ρ:Env} {i:Nat} {w z:Str} {b:Bool}
theorem is_w (hi:ρ[i]? = some (.val (.str w))) (hw:okS w = true) (hz:okS z = true):EvT (blW (binW eqD (vW i) (kW (.str z)))) ρ (decide (w = z)):=zaY (zcS (ev_v hi) ev_k hw hz)
end
theorem zkx:okS "settle" = true/\okS "heed" = true/\okS "aside" = true/\okS "mend" = true:=⟨zeQ,zeQ,zeQ,zeQ⟩
theorem in3 {ρ:Env} {i:Nat} {w:Str} (hi:ρ[i]? = some (.val (.str w))) (hw:okS w = true):EvT (blW (binW (inXD false) (vW i) (tupW (zab (kW (.str "hand")) (zab (kW (.str "heed")) (zab (kW (.str "aside")) nilA)))))) ρ (decide (w ∈ [("hand" : Str),"heed","aside"])):=
 zaY (zi1 (neg:=false) (hs:=["hand","heed","aside"]) (ev_v hi) (zcD (zac ev_k (zac ev_k (zac ev_k zaj)))) hw (by
  obtain ⟨_,h1,h2,_⟩:=zkx;intro y hy;simp only [YAu,YAC,YBR] at hy;rcases hy with rfl | rfl | rfl
  ·exact ok_lits.2.1
  ·exact h1
  ·exact h2))
theorem znT:∀ {hs:List Str} {x:Str},x ∉ hs->putKs hs x = hs ++ [x]/\putVs hs (hs.map λ_=>D.bl true) x (.bl true) = (hs ++ [x]).map λ_=>D.bl true:=λ{hs x} hn=>by
 have:hs.contains x = false:=by rw [<- Bool.not_eq_true,YBD];exact hn
 unfold putKs putVs;rw [this];exact ⟨rfl,by rw [YAW];rfl⟩
theorem zjg {n:Int} {g:Zr->D}:∀ rs:List Zr,(rs.filterMap λr=>if !decide (r.n = n) then some (g r) else none) = (rs.filter λr=>!decide (r.n = n)).map g
 | []=>rfl
 | r :: rs=>by
  rw [YAG,YBH];by_cases e:r.n = n
  ·simp only [e,decide_true,Bool.not_true,YA7,YBE];exact zjg rs
  ·simp only [e,YCF,Bool.not_false,YBU,YAg];rw [zjg rs]
theorem zoO {s:Za} {d:Zd} (ok:Zok s) (f:Zfit s d):zcB [zMod s,zD s d] (λv=>v.old = zMod (zdN s d)):=by
 obtain ⟨l1,l2,l3,l4,l5⟩:=ok_lits;obtain ⟨k1,k2,k3,k4⟩:=zkx;obtain ⟨xs,ed⟩:=zsQ s d;have dfix:∀ y ∈ s.ds ++ [zD s d],y.old = y:=λy hy=>by
  rcases YAV.mp hy with z | z
  ·exact (ok.dd y z).1
  ·rw [YAF.mp z];exact zdv s d
 refine zbV (zbW (n:=4) (zeL λy hy=>(ok.dd y hy).1) (zdv s d)) ?_;refine zq9 (xs:=modL s) (ev_v rfl) ?_;refine zgS (ks:=MK) (xs:=modL s) (d:=.lst true (s.ds ++ [zD s d])) rfl rfl (by decide) (zgp (zld rfl (m6 s)) (za5 (zdu (zac (ev_v rfl) zaj))) (by have:=ok.dl;show s.ds.length + 1 <= 100000;omega)) ?_;rw [mq6,show putVs MK (modL s) "deeds" (.lst true (s.ds ++ [zD s d])) = _ from mp6];show seqW (asgW (.nm 2) (binW ixXD (vW 1) (kW (.int 0)))) _ _ [.dic MK [.lst false (s.ms.map zSt),.fdc s.hs (s.hs.map λ_=>.bl true),.lst false (s.rs.map zRow),.int s.en,.int s.al,.lst true (s.ds ++ [zD s d])],.val (zD s d),.un,.un,.un,.un];refine zbi (d:=.str (wd d)) (by rw [ed];exact zbr (ev_v rfl) ev_k (zar (j:=0) rfl)) ?_;show seqW _ _ _ [.dic MK [.lst false (s.ms.map zSt),.fdc s.hs (s.hs.map λ_=>.bl true),.lst false (s.rs.map zRow),.int s.en,.int s.al,.lst true (s.ds ++ [zD s d])],.val (zD s d),.val (.str (wd d)),.un,.un,.un];have fin:∀ {t:Za} {ys:List D},ys.map D.old = modL t->(D.dct true MK ys).old = zMod t:=λh=>zoZ h;clear ed xs;cases d with
 | mark x=>
  refine zfE (zao (zgC (is_w rfl l1 l1) λ_=>is_w rfl l1 k1) (by kernel_rfl)) ?_;have hp:Pls [.lst false (s.ms.map zSt),.fdc s.hs (s.hs.map λ_=>.bl true),.lst false (s.rs.map zRow),.int s.en,.int s.al,.lst true (s.ds ++ [zD s (.mark x)])] s.ms:=by
   unfold Pls;rw [YAg,zaH (zax zbB _)];exact mk1
  have ht:=zgU (n:=true) hp ok.m (zdq f.2.1);rw [if_neg f.2.2.1] at ht;refine zgS (d:=.lst true (s.ms.map zSt ++ [zSt x])) rfl rfl (by decide) (zgp (zld rfl mk1) (za5 (zdu (zac (zcD (zac (zbr (ev_v rfl) ev_k (zar (j:=1) rfl)) (zac (zei (zjJ rfl (zac (zbr (ev_v rfl) ev_k (zar (j:=1) rfl)) zaj) ht trivial) ev_k) zaj))) zaj))) (by rw [YAc];have:=ok.m.ln;show s.ms.length + 1 <= 100000;omega)) ?_;rw [mq1,mp1];refine fin ?_;simp only [YAg,YAK];rw [<- YBw (f:=zSt),<- YAW,zaH (zax zbB _),zep (zax (λ_=>zgT _) _),zaH (zax zdZ _),zan,zan,zaH dfix];rfl
 | hand x=>
  refine zcr (zao (zgC (is_w rfl l2 l1) λ_=>is_w rfl l2 k1) (by kernel_rfl)) ?_;refine zfE (zao (in3 rfl l2) (by kernel_rfl)) ?_;obtain ⟨p1,p2⟩:=znT f.2.1;refine zr7 (ks:=s.hs) (xs:=s.hs.map λ_=>.bl true) (v:=.bl true) (z:=x) (by show 3 < 6;decide) (zld rfl mk2) (by have:=ok.h.ln;omega) (zgA (zsd (ev_v rfl) ev_k l2 k3) (congrArg D.bl (show (!decide (("hand" : Str) = "aside")) = true by decide +kernel))) (zbr (ev_v rfl) ev_k (zar (j:=1) rfl)) ?_;rw [p1,p2];refine zgS (d:=.fdc (s.hs ++ [x]) ((s.hs ++ [x]).map λ_=>.bl true)) rfl rfl (by decide) (ev_v rfl) ?_;rw [mq2,mp2];refine fin ?_;simp only [YAg,YAK];rw [zaH (zax zbB _),zep (zax (λ_=>zgT _) _),zaH (zax zdZ _),zan,zan,zaH dfix];rfl
 | allow k=>
  refine zcr (zao (zgC (is_w rfl l3 l1) λ_=>is_w rfl l3 k1) (by kernel_rfl)) ?_;refine zcr (zao (in3 rfl l3) (by kernel_rfl)) ?_;refine zcr (zao (is_w rfl l3 l4) (by kernel_rfl)) ?_;refine zcr (zao (is_w rfl l3 l5) (by kernel_rfl)) ?_;refine zcr (zao (is_w rfl l3 k4) (by kernel_rfl)) ?_;refine zgS (d:=.int k) rfl rfl (by decide) (zbr (ev_v rfl) ev_k (zar (j:=1) rfl)) ?_;rw [mq5,mp5];refine fin ?_;simp only [YAg,YAK];rw [zaH (zax zbB _),zep (zax (λ_=>zgT _) _),zaH (zax zdZ _),zan,zan,zaH dfix];rfl
 | run a b r h=>
  refine zcr (zao (zgC (is_w rfl l4 l1) λ_=>is_w rfl l4 k1) (by kernel_rfl)) ?_;refine zcr (zao (in3 rfl l4) (by kernel_rfl)) ?_;refine zfE (zao (is_w rfl l4 l4) (by kernel_rfl)) ?_;refine zpH (a:=s.en) (b:=1) rfl rfl (by decide) mk4 ev_k ?_;rw [mq4,mp4];have hp:Pls [.lst false (s.ms.map zSt),.fdc s.hs (s.hs.map λ_=>.bl true),.lst false (s.rs.map zRow),.int (s.en + 1),.int s.al,.lst true (s.ds ++ [zD s (.run a b r h)])] s.ms:=by
   unfold Pls;rw [YAg,zaH (zax zbB _)];exact mk1
  show seqW _ _ _ [.dic MK [.lst false (s.ms.map zSt),.fdc s.hs (s.hs.map λ_=>.bl true),.lst false (s.rs.map zRow),.int (s.en + 1),.int s.al,.lst true (s.ds ++ [zD s (.run a b r h)])],.val (zD s (.run a b r h)),.val (.str "run"),.un,.un,.un];have cut:cutD [D.str "run",.str (nmZ s.ms a),.str (nmZ s.ms b),.int r,.str h] (some 3) none = [.int r,.str h]:=by kernel_rfl
  have esl:Ev (slXW (vW 1) (ziG (kW (.int 3))) noO) [.dic MK [.lst false (s.ms.map zSt),.fdc s.hs (s.hs.map λ_=>.bl true),.lst false (s.rs.map zRow),.int (s.en + 1),.int s.al,.lst true (s.ds ++ [zD s (.run a b r h)])],.val (zD s (.run a b r h)),.val (.str "run"),.un,.un,.un] (.tup [.int r,.str h]):=zgA (zpw (t:=[.str "run",.str (nmZ s.ms a),.str (nmZ s.ms b),.int r,.str h]) (ev_v rfl) (zks ev_k) zps) (congrArg D.tup cut);refine zbi (d:=zRow ⟨s.en + 1,a,b,r,h⟩) (zeh (s:=[.int (s.en + 1),.int a,.int b]) (t:=[.int r,.str h]) (zcD (zac (zld (i:=0) rfl mk4) (zac (zjJ (i:=0) rfl (zac (zbr (t:=[.str "run",.str (nmZ s.ms a),.str (nmZ s.ms b),.int r,.str h]) (k:=1) (d:=.str (nmZ s.ms a)) (ev_v (i:=1) rfl) ev_k (zar (j:=1) rfl)) zaj) (zd2 hp ok.m f.1) trivial) (zac (zjJ (i:=0) rfl (zac (zbr (t:=[.str "run",.str (nmZ s.ms a),.str (nmZ s.ms b),.int r,.str h]) (k:=2) (d:=.str (nmZ s.ms b)) (ev_v (i:=1) rfl) ev_k (zar (j:=2) rfl)) zaj) (zd2 hp ok.m f.2.1) trivial) zaj)))) esl (by show 5 <= 100000;decide)) ?_;refine zgS (d:=.lst true (s.rs.map zRow ++ [zRow ⟨s.en + 1,a,b,r,h⟩])) rfl rfl (by decide) (zgp (zld rfl mk3) (za5 (zdu (zac (ev_v rfl) zaj))) (by rw [YAc];have:=ok.rl;show s.rs.length + 1 <= 100000;omega)) ?_;rw [mq3,mp3];refine fin ?_;simp only [YAg,YAK];rw [zaH (zax zbB _),zep (zax (λ_=>zgT _) _),<- YBw (f:=zRow),<- YAW,zaH (zax zdZ _),zan,zan,zaH dfix];rfl
 | strike n=>
  refine zcr (zao (zgC (is_w rfl l5 l1) λ_=>is_w rfl l5 k1) (by kernel_rfl)) ?_;refine zcr (zao (in3 rfl l5) (by kernel_rfl)) ?_;refine zcr (zao (is_w rfl l5 l4) (by kernel_rfl)) ?_;refine zfE (zao (is_w rfl l5 l5) (by kernel_rfl)) ?_;have hc:=zcg (sub:=[none,some 1]) (ρ:=[.dic MK [.lst false (s.ms.map zSt),.fdc s.hs (s.hs.map λ_=>.bl true),.lst false (s.rs.map zRow),.int s.en,.int s.al,.lst true (s.ds ++ [zD s (.strike n)])],.val (zD s (.strike n)),.val (.str "strike"),.un,.un,.un]) (I:=za4 (ogW 0 (kW (.str "rows")))) (t:=.nm 0) (C:=blW (binW neD (binW ixXD (vW 0) (kW (.int 0))) (binW ixXD (vW 1) (kW (.int 1))))) (E:=vW 0) zRow (λr=>if !decide (r.n = n) then some (zRow r) else none) s.rs (zcU (zld rfl mk3)) (by have:=ok.rl;omega) (λr _=>by
   by_cases e:r.n = n
   ·rw [YAy e];exact zl4 (zao (zaY (zkm (zbr (ev_v rfl) ev_k (zar (j:=0) rfl)) (zbr (ev_v rfl) ev_k (zar (j:=1) rfl)))) (by rw [YAy e];rfl))
   ·rw [YAq e];exact zf4 (zao (zaY (zkm (zbr (ev_v rfl) ev_k (zar (j:=0) rfl)) (zbr (ev_v rfl) ev_k (zar (j:=1) rfl)))) (by rw [YAq e];rfl)) (ev_v rfl))
  rw [zjg] at hc;refine zgS (ρ:=[.dic MK [.lst false (s.ms.map zSt),.fdc s.hs (s.hs.map λ_=>.bl true),.lst false (s.rs.map zRow),.int s.en,.int s.al,.lst true (s.ds ++ [zD s (.strike n)])],.val (zD s (.strike n)),.val (.str "strike"),.un,.un,.un]) (d:=.lst true ((s.rs.filter λr:Zr=>!decide (r.n = n)).map zRow)) rfl rfl (by decide) (za5 hc) ?_;rw [mq3,mp3];refine fin ?_;simp only [YAg,YAK];rw [zaH (zax zbB _),zep (zax (λ_=>zgT _) _),zaH (zax zdZ _),zan,zan,zaH dfix];rfl
end Fd
set_option maxHeartbeats 400000
namespace Fd
open PySem L2
def EvA (R:WOA) (ρ:Env) (S:Sto) (ds:List D):Prop:=∀ K:List D->Sto->Prop,K ds S->R ρ S K
theorem zeN {ρ:Env} {S:Sto}:EvA nilO ρ S []:=λK k=>k
theorem zbs {V:Sto->WE} {R:WOA} {ρ:Env} {S:Sto} {d:D} {ds:List D} (h:Ev (V S) ρ d) (hR:EvA R ρ S ds):EvA (za1 (za2 V) R) ρ S (d :: ds):=λK k=>h _ (hR _ k)
theorem zrc {C:Sto->WT} {U B:WF} {E:EnF} {S:Sto} {ρ:Env} (h:EvT (C S) ρ false) (q:B E S ρ):seqF (ifF C U nilF) B E S ρ:=h _ q
theorem zmw {C:Sto->WT} {U B:WF} {E:EnF} {S:Sto} {ρ:Env} (h:EvT (C S) ρ false) (q:B E S ρ):ifF C U B E S ρ:=h _ q
theorem zfT {C:Sto->WT} {U B:WF} {E:EnF} {S:Sto} {ρ:Env} (h:EvT (C S) ρ true) (q:U E S ρ):ifF C U B E S ρ:=h _ q
theorem zd1 {A:Ads} {i n:Nat} {m:Str} {F:FnF} {y:Str->Sto->Prop} {R:WOA} {ρ:Env} {S:Sto} {Q P:D->Sto->Prop} {Z:Str->Sto->Prop} {q:Addr} {ks bs us ds:List D} (hi:ρ[i]? = some (.val (.obj q))) (hS:S q = some (fenO A ks bs us)) (hm:m ≠ "kept" /\ m ≠ "books" /\ m ≠ "undone") (hR:EvA R ρ S ds) (h:F (.obj q :: ds) S P Z) (k:∀ d S',P d S'->Q d S') (l:∀ n S',Z n S'->y n S') (hl:ds.length + 1 = n:=by rfl):zc8 i A.fen m n F y R ρ S Q:=by
 unfold zc8;rw [hi];exact ⟨⟨_,hS,rfl,zpk hm⟩,hR _ ⟨hl,zmX h k l⟩⟩
theorem zjF:(("deed" : Str) ≠ "kept" /\ ("deed" : Str) ≠ "books" /\ ("deed" : Str) ≠ "undone"):=by decide +kernel
theorem zqF:(("back" : Str) ≠ "kept" /\ ("back" : Str) ≠ "books" /\ ("back" : Str) ≠ "undone"):=by decide +kernel
theorem zlN:(("strike" : Str) ≠ "kept" /\ ("strike" : Str) ≠ "books" /\ ("strike" : Str) ≠ "undone"):=by decide +kernel
theorem zq1:(("mend" : Str) ≠ "kept" /\ ("mend" : Str) ≠ "books" /\ ("mend" : Str) ≠ "undone"):=by decide +kernel
theorem zpM (s:Za) (d:Zd) (n:Nat):sameOk (zjr s d) n = true:=by
 cases d <;> first | (show sameOk .non n = true;rw [sameOk]) | exact zeF
def fenB (A:Ads) (s:Za) (d:Zd) (bs:List D):Ob:=fenO A (s.ds ++ [zD s d]) (bs ++ [zav s] ++ [zav (zdN s d)]) []
theorem znz {A:Ads} {S:Sto} {q:Addr} {s:Za} {d:Zd} {bs us:List D} {m:D} (hm:m.old = zMod s) (hS:S q = some (fenO A s.ds (bs ++ [zav s]) us)) (ok:Zok s) (f:Zfit s d) (hb:bs.length <= 1000) :
  za0 A [.obj q,m,zD s d] S (λv S'=>v.old = zMod (zdN s d)/\S' = upS S q (fenB A s d bs)) (λ_ _=>False):=by
 refine zhh (ρ:=[.val (.obj q),.val (zMod s),.val (zD s d)]) (by unfold zaz;simp [za9,hm,zdv]) ?_;have hd:∀ x ∈ s.ds,x.old = x:=λx hx=>(ok.dd x hx).1;show zc8 0 A.fen "deed" 2 (zaT A) (λ_ _=>False) (za1 (za2 λS=>vW 2) nilO) [.val (.obj q),.val (zMod s),.val (zD s d)] S _;refine zd1 (ds:=[zD s d]) (q:=q) rfl hS zjF (zbs (ev_v rfl) zeN) (zoA hS ok f hb) (λv S' h=>?_) λ_ _ z=>z;obtain ⟨rfl,rfl⟩:=h;have et:Ev (zam 2 zbj (zab (vW 1) (zab (vW 2) nilA))) [.val (.obj q),.val (zMod s),.val (zD s d)] (zjr s d):=za8 (zac (ev_v rfl) (zac (ev_v rfl) zaj)) (zoK hd);refine et _ ⟨rfl,zd9 (zdH 5 (zjr s d) (zjr s d) rfl (zpM s d 5)) λe z=>?_⟩;subst z;show retW (zam 2 zcB (zab (vW 1) (zab (vW 2) nilA))) _ [.val (.obj q),.val (zMod s),.val (zD s d)];exact ⟨rfl,zd9 (zoO ok f) λe z=>⟨z,rfl⟩⟩
theorem zn8 {A:Ads} {S:Sto} {q:Addr} {s:Za} {d:Zd} {bs:List D} (hS:S q = some (fenB A s d bs)) (hf:∀ x ∈ s.ds,x.old = x):zc7 A [.obj q] S (λv S'=>v = .non/\∃ us,S' = upS S q (fenO A s.ds (bs ++ [zav s]) us)) (λ_ _=>False):=by
 refine zhh (ρ:=[.val (.obj q)]) (by unfold zaz;simp [za9]) ?_;have et:EvT (truF S 0 "kept" A.fen) [.val (.obj q)] true:=λP p=>⟨_,0,s.ds ++ [zD s d],hS,rfl,zfD,by rw [show (!(s.ds ++ [zD s d]).isEmpty) = true from by simp];exact p⟩;refine zrc (zkP et) ?_;refine ⟨_,2,0,1,[],s.ds,bs ++ [zav s],zD s d,zav (zdN s d),hS,rfl,zlh,zfD,zfV,by decide,by decide,by decide,by decide,rfl,[.tup [(zD s d).old,(zav (zdN s d)).old]],?_⟩;rfl
theorem zoQ {A:Ads} {S:Sto} {q:Addr} {s:Za} {bs us:List D} {row:D} (ho:row.old = row) (hS:S q = some (fenO A s.ds (bs ++ [zav s]) us)) (h:zaP A [zav s,row] (λ_=>False) (· = "NoRun")):zaT A [.obj q,row] S (λ_ _=>False) (λnm S'=>nm = "NoRun" /\ S' = S):=by
 refine zhh (zbW (n:=1) (za9 q) ho) ?_;refine ziX (ks:=s.ds) (us:=us) rfl hS _ ⟨rfl,zgX h (λ_ z=>z.elim) λnm z=>⟨z,rfl⟩⟩
theorem zmm {A:Ads} {s:Za} {n:Int} (ok:Zok s) (hn:n ∉ s.rs.map (·.n)):zaP A [zav s,.tup [.str "strike",.int n]] (λ_=>False) (· = "NoRun")/\zaP A [zav s,.tup [.str "mend",.int n,.int 1]] (λ_=>False) (· = "NoRun"):=
 ⟨zcC (f:=A.run_struck) (zaI (by simp [zaE,zan])) (by kernel_rfl) (by unfold tabA;simp) (zlJ (by have:=ok.rl;omega) hn),zcC (f:=A.run_mended) (zaI (by simp [zaE,zan])) (by kernel_rfl) (by unfold tabA;simp) (zqt (by have:=ok.rl;omega) hn)⟩
theorem zjj {A:Ads} {S:Sto} {q:Addr} {s:Za} {bs us:List D} {n:Int} (hS:S q = some (fenO A s.ds (bs ++ [zav s]) us)) (ok:Zok s) (hn:n ∉ s.rs.map (·.n)):zb7 A [.obj q,.int n] S (λ_ _=>False) (λnm S'=>nm = "NoRun" /\ S' = S):=by
 refine zhh (zbW (n:=0) (za9 q) (zan n)) ?_;have et:Ev (tupW (zab (kW (.str "strike")) (zab (vW 1) nilA))) [.val (.obj q),.val (.int n)] (.tup [.str "strike",.int n]):=zcD (zac ev_k (zac (ev_v rfl) zaj));show zc8 0 A.fen "deed" 2 (zaT A) _ (za1 (za2 λS=>tupW (zab (kW (.str "strike")) (zab (vW 1) nilA))) nilO) [.val (.obj q),.val (.int n)] S _;exact zd1 (ds:=[.tup [.str "strike",.int n]]) (q:=q) rfl hS zjF (zbs et zeN) (zoQ (zaI (by simp [zaE,zan])) hS (zmm ok hn).1) (λ_ _ z=>z.elim) λ_ _ z=>z
theorem zmc {A:Ads} {S:Sto} {q:Addr} {s:Za} {bs us:List D} {n:Int} (hS:S q = some (fenO A s.ds (bs ++ [zav s]) us)) (ok:Zok s) (hn:n ∉ s.rs.map (·.n)):zc2 A [.obj q,.int n,.int 1] S (λ_ _=>False) (λnm S'=>nm = "NoRun" /\ S' = S):=by
 refine zhh (znh (n:=0) (za9 q) (zan n) (zan 1)) ?_;have et:Ev (tupW (zab (kW (.str "mend")) (zab (vW 1) (zab (vW 2) nilA)))) [.val (.obj q),.val (.int n),.val (.int 1)] (.tup [.str "mend",.int n,.int 1]):=zcD (zac ev_k (zac (ev_v rfl) (zac (ev_v rfl) zaj)));show zc8 0 A.fen "deed" 2 (zaT A) _ (za1 (za2 λS=>tupW (zab (kW (.str "mend")) (zab (vW 1) (zab (vW 2) nilA)))) nilO) [.val (.obj q),.val (.int n),.val (.int 1)] S _;exact zd1 (ds:=[.tup [.str "mend",.int n,.int 1]]) (q:=q) rfl hS zjF (zbs et zeN) (zoQ (zaI (by simp [zaE,zan])) hS (zmm ok hn).2) (λ_ _ z=>z.elim) λ_ _ z=>z
theorem zlm {A:Ads} {S:Sto} {q:Addr} {s:Za} {bs us:List D} {n w:Int} (hS:S q = some (fenO A s.ds (bs ++ [zav s]) us)) (ok:Zok s) (hn:n ∉ s.rs.map (·.n)):zcn A [.obj q,.int n,.int w] S (λv S'=>v = .bl true/\S' = S) (λ_ _=>False):=by
 refine zhh (znh (n:=1) (za9 q) (zan n) (zan w)) ?_;show zqg 4 "NoRun" _ _ _ _ S [.val (.obj q),.val (.int n),.val (.int w),.val (.bl false)];refine ⟨λnm S'=>nm = "NoRun" /\ S' = S,?_,λnm S' h=>⟨h.1,?_⟩⟩
 ·have ec:EvT (blW (binW eqD (vW 2) (kW (.int 0)))) [.val (.obj q),.val (.int n),.val (.int w),.val (.bl false)] (decide (w = 0)):=zaY (zk1 (ev_v rfl) ev_k);by_cases e:w = 0
  ·rw [YAy e] at ec;refine zfT (C:=λ_=>blW (binW eqD (vW 2) (kW (.int 0)))) ec ?_;show zc8 0 A.fen "strike" 2 (zb7 A) _ (za1 (za2 λS=>vW 1) nilO) [.val (.obj q),.val (.int n),.val (.int w),.val (.bl false)] S _;exact zd1 (ds:=[.int n]) (q:=q) rfl hS zlN (zbs (ev_v rfl) zeN) (zjj hS ok hn) (λ_ _ z=>z.elim) λ_ _ z=>z
  ·rw [YAq e] at ec;refine zmw (C:=λ_=>blW (binW eqD (vW 2) (kW (.int 0)))) ec ?_;show zc8 0 A.fen "mend" 3 (zc2 A) _ (za1 (za2 λS=>vW 1) (za1 (za2 λS=>kW (.int 1)) nilO)) [.val (.obj q),.val (.int n),.val (.int w),.val (.bl false)] S _;exact zd1 (ds:=[.int n,.int 1]) (q:=q) rfl hS zq1 (zbs (ev_v rfl) (zbs ev_k zeN)) (zmc hS ok hn) (λ_ _ z=>z.elim) λ_ _ z=>z
 ·rw [h.2];exact ⟨rfl,rfl⟩
end Fd
set_option maxHeartbeats 400000
namespace Fd
open PySem L2
theorem zbq {n:Nat} {a:D} (ha:a.old = a):zaz (n + 1) [a] = .val a :: List.replicate n .un:=by
 unfold zaz;simp [ha]
def dueL (s:Za):List D:=[.lst false (s.ms.map D.str),.lst false (s.hs.map D.str),.lst false [],.lst false (s.ms.map zSt),.int s.al,.lst false (s.rs.map (zRun s.ms)),.lst false ((s.rs.map (·.n)).map D.int),.lst false s.ds]
theorem zgR {ρ:Env} {I:WL} {ms:List Str} (hI:EvL I ρ (ms.map zSt)) (hl:ms.length <= 1000):EvL (zaC [none,none] I (.tp 2 (.cons (.nm 0) (.cons (.nm 1) .nil))) (blW (binW eqD (vW 1) (kW (.int 1)))) (vW 0)) ρ (ms.map D.str):=by
 have:=zcg (sub:=[none,none]) (t:=.tp 2 (.cons (.nm 0) (.cons (.nm 1) .nil))) (C:=blW (binW eqD (vW 1) (kW (.int 1)))) (E:=vW 0) zSt (λx=>some (.str x)) ms hI (by omega) λx _=>ztj (zao (zaY (zk1 (ev_v rfl) ev_k)) (by decide)) (ev_v rfl)
 rw [zaO] at this;exact this
theorem zh3 {ms:List Str} (hl:ms.length <= 1000):zd3 [.tup (ms.map zSt)] (· = .lst true (ms.map D.str)):=by
 refine zbV (zbq (n:=0) (zaI (zax zbB _))) ?_;exact zbc (za5 (zgR (ziL (ev_v rfl)) hl)) rfl
section
variable {A:Ads} {S:Sto} {q:Addr} {s:Za} {bs us:List D}
theorem znn {ρ:Env} {i:Nat} {z:Str} {d:D} (hi:ρ[i]? = some (.val (.obj q))) (hS:S q = some (fenO A s.ds (bs ++ [zav s]) us)) (h:zaG BK (za6 s) z = some d):Ev (binW zas (zbN S i A.fen "now" 1 (zaB A) (λ_ Q=>Q [])) (kW (.str z))) ρ d:=zgB (ziX hi hS) h
theorem zk3 (hS:S q = some (fenO A s.ds (bs ++ [zav s]) us)) (ok:Zok s):zdo A S [.obj q] (· = .lst true (s.ms.map D.str)):=by
 refine zbV (zbq (n:=0) (za9 q)) ?_;exact zbc (za8 (zac (znn rfl hS (b1 s)) zaj) (zh3 (by have:=ok.m.ln;omega))) rfl
theorem zlF (hS:S q = some (fenO A s.ds (bs ++ [zav s]) us)):zdh A S [.obj q] (· = .lst true (s.hs.map D.str)):=by
 refine zbV (zbq (n:=0) (za9 q)) ?_;exact zbc (za5 (zjI (znn rfl hS (b2 s)))) rfl
theorem zje (hS:S q = some (fenO A s.ds (bs ++ [zav s]) us)):zcM A S [.obj q] (· = .lst true (s.ms.map zSt)):=by
 refine zbV (zbq (n:=0) (za9 q)) ?_;exact zbc (za5 (zjI (znn rfl hS (b1 s)))) rfl
theorem ziA (hS:S q = some (fenO A s.ds (bs ++ [zav s]) us)):zcl A S [.obj q] (· = .int s.al):=by
 refine zbV (zbq (n:=0) (za9 q)) ?_;exact zbc (znn rfl hS (b6 s)) rfl
theorem zhW (hS:S q = some (fenO A s.ds (bs ++ [zav s]) us)):zcp A S [.obj q] (· = .lst true (s.rs.map (zRun s.ms))):=by
 refine zbV (zbq (n:=0) (za9 q)) ?_;exact zbc (za5 (zjI (znn rfl hS (b4 s)))) rfl
theorem zji {α:Type}:∀ xs:List α,(xs.filterMap λ_=>(none:Option D)) = []
 | []=>rfl
 | x :: xs=>by rw [YAG];exact zji xs
theorem zjC (hS:S q = some (fenO A s.ds (bs ++ [zav s]) us)) (ok:Zok s):zcR A S [.obj q] (· = .lst true []):=by
 refine zbV (zbq (n:=1) (za9 q)) ?_;refine zbi (ziX rfl hS) ?_;have hc:=zcg (sub:=[none,some 1]) (ρ:=[.val (.obj q),.val (zav s)]) (I:=za4 (binW zas (vW 1) (kW (.str "hands")))) (t:=.nm 0) (C:=blW (binW (inXD false) (vW 0) (binW zas (vW 1) (kW (.str "aside"))))) (E:=vW 0) D.str (λ_=>none) s.hs (ziL (ev_b rfl (b2 s))) (by have:=ok.h.ln;omega) (λx hx=>zl4 (zao (zaY (zi1 (neg:=false) (hs:=[]) (ev_v rfl) (ev_b rfl (b3 s)) (ok.h.okS x hx) (by simp))) (by simp)));rw [zji] at hc;exact zbc (za5 hc) rfl
theorem zom {rs:List Zr} (hr:s.rs = rs) (ok:Zok s):zbk [zav s] (· = .lst true (s.rs.map (zRun s.ms))):=by
 refine zbV (zbq (n:=0) (zaX s)) ?_;have hc:=zcg (sub:=[none,some 0]) (ρ:=[.val (zav s)]) (I:=za4 (binW zas (vW 0) (kW (.str "runs")))) (t:=.nm 0) (C:=blW (binW (inXD true) (binW ixXD (vW 0) (kW (.int 6))) (binW zas (vW 1) (kW (.str "aside"))))) (E:=vW 0) (zRun s.ms) (λr=>some (zRun s.ms r)) s.rs (ziL (ev_b rfl (b4 s))) (by have:=ok.rl;omega) (λr hr=>zf4 (zao (zaY (zi1 (neg:=true) (hs:=[]) (zbr (k:=6) (t:=[.int r.n,.str (nmZ s.ms r.a),.int 1,.str (nmZ s.ms r.b),.int 1,.int r.r,.str r.h]) (ev_v rfl) ev_k (zar (j:=6) rfl)) (ev_b rfl (b3 s)) (ok.h.okS _ (ok.ra r hr).2.2) (by simp))) (by simp)) (ev_v rfl));rw [zaO] at hc;exact zbc (za5 hc) rfl
theorem zhL (hS:S q = some (fenO A s.ds (bs ++ [zav s]) us)) (ok:Zok s):zb3 A S [.obj q] (· = .lst true ((s.rs.map (·.n)).map D.int)):=by
 refine zbV (zbq (n:=0) (za9 q)) ?_;exact zbc (zjW (zcU (za8 (zac (ziX rfl hS) zaj) (zom rfl ok))) (by have:=ok.rl;omega)) rfl
theorem zlq (hS:S q = some (fenO A s.ds (bs ++ [zav s]) us)) (ok:Zok s):zdr A S [.obj q] (· = .lst true s.ds):=by
 refine zbV (zbq (n:=0) (za9 q)) ?_;refine ⟨_,0,s.ds,hS,rfl,zfD,?_⟩;show D.lst true (s.ds.map D.old) = _;rw [zbP λx hx=>(ok.dd x hx).1]
theorem zn6:(("marks" : Str) ≠ "kept" /\ ("marks" : Str) ≠ "books" /\ ("marks" : Str) ≠ "undone"):=by decide +kernel
theorem zot:(("hands" : Str) ≠ "kept" /\ ("hands" : Str) ≠ "books" /\ ("hands" : Str) ≠ "undone"):=by decide +kernel
theorem zns:(("asides" : Str) ≠ "kept" /\ ("asides" : Str) ≠ "books" /\ ("asides" : Str) ≠ "undone"):=by decide +kernel
theorem zmV:(("stands" : Str) ≠ "kept" /\ ("stands" : Str) ≠ "books" /\ ("stands" : Str) ≠ "undone"):=by decide +kernel
theorem zk6:(("allowed" : Str) ≠ "kept" /\ ("allowed" : Str) ≠ "books" /\ ("allowed" : Str) ≠ "undone"):=by decide +kernel
theorem zmU:(("runs" : Str) ≠ "kept" /\ ("runs" : Str) ≠ "books" /\ ("runs" : Str) ≠ "undone"):=by decide +kernel
theorem zjb:(("counting" : Str) ≠ "kept" /\ ("counting" : Str) ≠ "books" /\ ("counting" : Str) ≠ "undone"):=by decide +kernel
theorem znL:(("deeds" : Str) ≠ "kept" /\ ("deeds" : Str) ≠ "books" /\ ("deeds" : Str) ≠ "undone"):=by decide +kernel
theorem zm1 {s:Za} (ok:Zok s) {n1 n2 n3 n4 n5 n6 n7:Bool}:[D.lst n1 (s.ms.map D.str),.lst n2 (s.hs.map D.str),.lst n3 [],.lst n4 (s.ms.map zSt),.int s.al,.lst n5 (s.rs.map (zRun s.ms)),.lst n6 ((s.rs.map (·.n)).map D.int),.lst n7 s.ds].map D.old = dueL s:=by
 simp only [YAg,YAK];rw [zaH (zax zaE _),zaH (zax zaE _),zaH (by simp),zaH (zax zbB _),zan,zaH (zax (zfA _) _),zaH (zax zan _),zaH λx hx=>(ok.dd x hx).1];rfl
theorem zod (hS:S q = some (fenO A s.ds (bs ++ [zav s]) us)) (ok:Zok s):zdk A S [.obj q] (λv=>v.old = .lst false (dueL s)):=by
 refine zbV (zbq (n:=1) (za9 q)) ?_;refine zbi (za5 (zdu (zac (zb2 rfl hS zn6 (zk3 hS ok)) (zac (zb2 rfl hS zot (zlF hS)) (zac (zb2 rfl hS zns (zjC hS ok)) (zac (zb2 rfl hS zmV (zje hS)) (zac (zb2 rfl hS zk6 (ziA hS)) (zac (zb2 rfl hS zmU (zhW hS)) (zac (zb2 rfl hS zjb (zhL hS ok)) zaj))))))))) ?_;refine zbc (zgp (ev_v rfl) (za5 (zdu (zac (zb2 rfl hS znL (zlq hS ok)) zaj))) (by show 8 <= 100000;decide)) ?_;show (D.lst true _).old = _;rw [D.old];exact congrArg (D.lst false) (zm1 ok)
end
end Fd
set_option maxHeartbeats 400000
namespace Fd
open PySem L2
theorem ev_m {ρ:Env} {i:Nat} {s:Za} {z:Str} {d:D} (hi:ρ[i]? = some (.val (zMod s))) (h:zaG MK (modL s) z = some d):Ev (binW zas (vW i) (kW (.str z))) ρ d:=zgB (ev_v hi) h
theorem zf9 {h:Str}:∀ {hs:List Str},h ∈ hs->zaG hs (hs.map λ_=>D.bl true) h = some (.bl true)
 | x :: hs,m=>by
  rw [YAg];unfold zaG;by_cases e:x = h
  ·rw [if_pos e]
  ·rw [if_neg e];exact zf9 ((YAu.mp m).resolve_left λz=>e z.symm)
theorem zoJ {ρ:Env} {A:WE} {hs:List Str} {xs:List D} (h:Ev A ρ (.fdc hs xs)):EvL (zof A) ρ (hs.map D.str):=λP p=>h _ p
theorem zkZ {ρ:Env} {A:WE} {hs:List Str} {xs:List D} (h:Ev A ρ (.fdc hs xs)) (hl:hs.length <= 1000):EvL (zoN A) ρ (hs.map D.str):=λP p=>h _ ⟨hl,p⟩
section
variable {s:Za}
theorem zgJ (ok:Zok s):zbC [zMod s] (· = .lst true (s.ms.map D.str)):=by
 refine zbV (zbq (n:=0) (zeL λx hx=>(ok.dd x hx).1)) ?_;exact zbc (za5 (zgR (zcU (ev_m rfl (m1 s))) (by have:=ok.m.ln;omega))) rfl
theorem zjR (ok:Zok s):zb1 [zMod s] (· = .lst true (s.rs.map zRow)):=by
 refine zbV (zbq (n:=0) (zeL λx hx=>(ok.dd x hx).1)) ?_;have hc:=zcg (sub:=[none,some 0]) (ρ:=[.val (zMod s)]) (I:=za4 (binW zas (vW 0) (kW (.str "rows")))) (t:=.nm 0) (C:=truW (binW zas (binW zas (vW 1) (kW (.str "heeded"))) (binW ixXD (vW 0) (kW (.int 4))))) (E:=vW 0) zRow (λr=>some (zRow r)) s.rs (zcU (ev_m rfl (m3 s))) (by have:=ok.rl;omega) (λr hr=>zf4 (zkW (zsl (ev_m rfl (m2 s)) (zbr (k:=4) (t:=[.int r.n,.int r.a,.int r.b,.int r.r,.str r.h]) (ev_v rfl) ev_k (zar (j:=4) rfl)) (zf9 (ok.ra r hr).2.2))) (ev_v rfl));rw [zaO] at hc;exact zbc (za5 hc) rfl
theorem zkg {ρ:Env} {I:WL} {rs:List Zr} (hI:EvL I ρ (rs.map zRow)) (hl:rs.length <= 1000):Ev (valW (zaC [none] I (.nm 0) noIf (binW ixXD (vW 0) (kW (.int 0))))) ρ (.lst true ((rs.map (·.n)).map D.int)):=by
 have:=zcg (sub:=[none]) (t:=.nm 0) (C:=noIf) (E:=binW ixXD (vW 0) (kW (.int 0))) zRow (λr=>some (.int r.n)) rs hI (by omega) λr _=>zf4 zff (zbr (k:=0) (t:=[.int r.n,.int r.a,.int r.b,.int r.r,.str r.h]) (ev_v rfl) ev_k (zar (j:=0) rfl))
 rw [zaO] at this;have e:(rs.map λr=>D.int r.n) = (rs.map (·.n)).map D.int:=by rw [YAH];rfl
 rw [e] at this;exact za5 this
theorem zpa {ms:List Str} {a:Nat} (ha:a < ms.length):atI (ms.map zSt) (a:Int) = some (zSt (nmZ ms a)):=zar (by rw [YAt,YAk ha,zev ha];rfl)
theorem zqC (ok:Zok s):zd4 [zMod s] (λv=>v.old = .lst false (dueL s)):=by
 refine zbV (zbq (n:=4) (zeL λx hx=>(ok.dd x hx).1)) ?_;refine zbi (ev_m rfl (m1 s)) ?_;have hc:=zcg (sub:=[none,some 1]) (ρ:=[.val (zMod s),.val (.lst false (s.ms.map zSt)),.un,.un,.un]) (I:=za4 (binW zas (vW 0) (kW (.str "rows")))) (t:=.nm 0) (C:=noIf) (E:=binW addD (binW addD (binW addD (tupW (zab (binW ixXD (vW 0) (kW (.int 0))) nilA)) (binW ixXD (vW 1) (binW ixXD (vW 0) (kW (.int 1))))) (binW ixXD (vW 1) (binW ixXD (vW 0) (kW (.int 2))))) (slXW (vW 0) (ziG (kW (.int 3))) noO)) zRow (λr=>some (zRun s.ms r)) s.rs (zcU (ev_m rfl (m3 s))) (by have:=ok.rl;omega) (λr hr=>by
  obtain ⟨ha,hb,_⟩:=ok.ra r hr;have cut:cutD [D.int r.n,.int r.a,.int r.b,.int r.r,.str r.h] (some 3) none = [.int r.r,.str r.h]:=by kernel_rfl
  have v0:Ev (vW 0) ((subE [none,some 1] [.val (zMod s),.val (.lst false (s.ms.map zSt)),.un,.un,.un]).set 0 (.val (zRow r))) (.tup [.int r.n,.int r.a,.int r.b,.int r.r,.str r.h]):=ev_v rfl;have v1:Ev (vW 1) ((subE [none,some 1] [.val (zMod s),.val (.lst false (s.ms.map zSt)),.un,.un,.un]).set 0 (.val (zRow r))) (.lst false (s.ms.map zSt)):=ev_v rfl;have p1:=zcD (zac (zbr (k:=0) v0 ev_k (zar (j:=0) rfl)) zaj);have p2:=zfF (d:=.tup [.str (nmZ s.ms r.a),.int 1]) v1 (zbr (k:=1) (d:=.int r.a) v0 ev_k (zar (j:=1) rfl)) (zpa ha);have p3:=zfF (d:=.tup [.str (nmZ s.ms r.b),.int 1]) v1 (zbr (k:=2) (d:=.int r.b) v0 ev_k (zar (j:=2) rfl)) (zpa hb);have p4:=zgA (zpw v0 (zks (ev_k (d:=.int 3))) zps) (congrArg D.tup cut);exact zf4 zff (zeh (zeh (zeh p1 p2 (by show 3 <= 100000;decide)) p3 (by show 5 <= 100000;decide)) p4 (by show 7 <= 100000;decide)))
 rw [zaO] at hc;refine zbi (za5 hc) ?_;have hk:=zcg (sub:=[none,some 0]) (ρ:=[.val (zMod s),.val (.lst false (s.ms.map zSt)),.val (.lst true (s.rs.map (zRun s.ms))),.un,.un]) (I:=zof (binW zas (vW 0) (kW (.str "heeded")))) (t:=.nm 0) (C:=notT (truW (binW zas (binW zas (vW 1) (kW (.str "heeded"))) (vW 0)))) (E:=vW 0) D.str (λ_=>none) s.hs (zoJ (ev_m rfl (m2 s))) (by have:=ok.h.ln;omega) (λx hx=>zl4 (zkP (b:=true) (zkW (zsl (z:=x) (ev_m rfl (m2 s)) (ev_v rfl) (zf9 hx)))));rw [zji] at hk;refine zbi (za5 hk) ?_;show seqW _ _ _ [.val (zMod s),.val (.lst false (s.ms.map zSt)),.val (.lst true (s.rs.map (zRun s.ms))),.val (.lst true []),.un];refine zbi (za5 (zdu (zac (za8 (zac (ev_v rfl) zaj) (zgJ ok)) (zac (za5 (zkZ (ev_m rfl (m2 s)) (by have:=ok.h.ln;omega))) (zac (ev_v rfl) (zac (ev_v rfl) (zac (ev_m rfl (m5 s)) (zac (ev_v rfl) zaj)))))))) ?_;refine zbc (zgp (ev_v rfl) (za5 (zdu (zac (zkg (zcU (za8 (zac (ev_v rfl) zaj) (zjR ok))) (by have:=ok.rl;omega)) (zac (ev_m rfl (m6 s)) zaj)))) (by show 8 <= 100000;decide)) ?_;show (D.lst true _).old = _;rw [D.old];exact congrArg (D.lst false) (zm1 ok)
theorem zrI (ok:Zok s):sameOk (.lst false (dueL s)) 5 = true:=by
 have hm:=ok.m.ln;have hh:=ok.h.ln;have hr:=ok.rl;have hd:=ok.dl;have mono:∀ d ∈ s.ds,sameOk d 3 = true:=λd hd=>(ok.dd d hd).2;unfold dueL;refine zeB ?_ (by simp);simp only [YB4,YAC,false_implies,implies_true,and_true];refine ⟨zeB (λx hx=>?_) (by rw [YAc];omega),zeB (λx hx=>?_) (by rw [YAc];omega),zeB (by simp) (by simp),zeB (λx hx=>?_) (by rw [YAc];omega),zeF,zeB (λx hx=>?_) (by rw [YAc];omega),zeB (λx hx=>?_) (by rw [YAc,YAc];omega),zeB mono (by omega)⟩
 ·obtain ⟨y,hy,rfl⟩:=YAS.mp hx;exact zci (ok.m.okS y hy)
 ·obtain ⟨y,hy,rfl⟩:=YAS.mp hx;exact zci (ok.h.okS y hy)
 ·obtain ⟨y,hy,rfl⟩:=YAS.mp hx;exact zfO (by simp [zci (ok.m.okS y hy),zeF])
 ·obtain ⟨r,hr,rfl⟩:=YAS.mp hx;obtain ⟨ha,hb,hh⟩:=ok.ra r hr;exact zfO (by simp [zci (zos ok.m ha),zci (zos ok.m hb),zeF,zci (ok.h.okS _ hh)])
 ·obtain ⟨y,hy,rfl⟩:=YAS.mp hx;exact zeF
theorem zlL {A:Ads} {S:Sto} {q:Addr} {bs us:List D} {m:D} (hm:m.old = zMod s) (hS:S q = some (fenO A s.ds (bs ++ [zav s]) us)) (ok:Zok s):zcO A S [.obj q,m] (· = .bl true):=by
 refine zbV (ρ:=[.val (.obj q),.val (zMod s)]) (by unfold zaz;simp [za9,hm]) ?_;refine ⟨rfl,zd9 (zod hS ok) λv hv=>⟨rfl,zd9 (zqC ok) λw hw=>⟨rfl,zd9 (zdH 5 v w (hv.trans hw.symm) ?_) λe z=>z⟩⟩⟩;rw [<- zfg,hv];exact zrI ok
end
end Fd
set_option maxHeartbeats 400000
namespace Fd
open PySem L2
theorem tk {ρ:Env} {b:Nat} {M:WE} {m:Int} {Q:D->Prop} (hb:ρ[b]? = some (.val .box)) (hM:Ev M ρ (.int m)) (h0:0 < m) (h1:m < 2 ^ 64) (k:∀ x:Int,0 <= x->x < m->Q (.int x)):zam 2 zad (zab (vW b) (zab M nilA)) ρ Q:=(zac (ev_v hb) (zac hM zaj)) _ ⟨rfl,zd8 h0 h1 k⟩
theorem znR {ρ:Env} {b i:Nat} {M:WE} {m:Int} {R:WS} {E:En} (hb:ρ[b]? = some (.val .box)) (hM:Ev M ρ (.int m)) (h0:0 < m) (h1:m < 2 ^ 64) (k:∀ x:Int,0 <= x->x < m->R E (ρ.set i (.val (.int x)))):seqW (asgW (.nm i) (zam 2 zad (zab (vW b) (zab M nilA)))) R E ρ:=tk hb hM h0 h1 λx z0 z1=>by unfold gD;exact k x z0 z1
theorem zg9 {ms:List Str} {k:Int} (h0:0 <= k) (h1:k < ms.length):atI (ms.map D.str) k = some (.str (nmZ ms k.toNat)):=by
 obtain ⟨j,rfl⟩:=YBk h0;have hj:j < ms.length:=by omega
 exact zar (by rw [YAt,YAk hj];show _ = some (D.str (nmZ ms j));rw [zev hj];rfl)
theorem zmZ {n m:Bool} {xs:List D}:eqB (.lst n xs) (.lst m []) = xs.isEmpty:=by
 cases xs with
 | nil=>rfl
 | cons x xs=>rfl
theorem znP {n m:Bool} {hs:List Str} (h:∀ y ∈ hs,okS y = true):eqOk (.lst n (hs.map D.str)) (.lst m []):=⟨by unfold layD;exact zhE h,by unfold layD;rw [zcF],by
 refine YAB (YBZ _ _) ?_;show (toPy (.lst m [])).depth <= 50;exact (by decide:1 <= 50)⟩
theorem ziD {p:Int} (h0:0 <= p) (h1:p < 1000):zb8 [.int p] (· = .int (p * p * 3 % 17 - p)):=by
 refine zbV (zbq (n:=0) (zan p)) ?_;have e1:Ev (binW mulD (vW 0) (vW 0)) [.val (.int p)] (.int (p * p)):=zj2 (ev_v rfl) (ev_v rfl) λP q=>⟨.inl ⟨by omega,by omega⟩,q⟩;have e2:Ev (binW mulD (binW mulD (vW 0) (vW 0)) (kW (.int 3))) [.val (.int p)] (.int (p * p * 3)):=zj2 e1 ev_k λP q=>⟨.inr ⟨by decide,by decide⟩,q⟩;exact zbc (zhs (zjz e2 ev_k) (ev_v rfl)) rfl
theorem zlP {s:Za} (ok:Zok s):Pls (modL s) s.ms:=by
 unfold Pls;rw [zbP (zmx λx hx=>(ok.dd x hx).1)];exact m1 s
theorem zfm {s:Za} {m:D} (hm:m.old = zMod s) (ok:Zok s):za3 [.box,m] (λv=>v = .non\/∃ a b r h,v = zD s (.run a b r h)/\Zfit s (.run a b r h)):=by
 have hl:=ok.m.ln;refine zbV (ρ:=[.val .box,.val (zMod s),.un,.un,.un,.un,.un,.un]) (by unfold zaz;simp [zjs,hm]) ?_;refine zbi (za8 (zac (ev_v rfl) zaj) (zgJ ok)) ?_;refine zbi (za5 (zkZ (ev_m rfl (m2 s)) (by have:=ok.h.ln;omega))) ?_;show seqW _ _ _ [.val .box,.val (zMod s),.val (.lst true (s.ms.map D.str)),.val (.lst true (s.hs.map D.str)),.un,.un,.un,.un];have e1:EvT (blW (binW ltD (cbW zbx (zab (vW 2) nilA)) (kW (.int 2)))) [.val .box,.val (zMod s),.val (.lst true (s.ms.map D.str)),.val (.lst true (s.hs.map D.str)),.un,.un,.un,.un] (decide (((s.ms.map D.str).length:Int) < 2)):=zaY (zsO (zeY (ev_v rfl)) ev_k);have e2:EvT (blW (binW eqD (vW 3) (valW (lstW nilA)))) [.val .box,.val (zMod s),.val (.lst true (s.ms.map D.str)),.val (.lst true (s.hs.map D.str)),.un,.un,.un,.un] (s.hs.map D.str).isEmpty:=zaY (zbt (ev_v rfl) (za5 (zdu zaj)) λP p=>⟨znP ok.h.okS,by rw [zmZ];exact p⟩);have e3:EvT (blW (binW geD (cbW zbx (zab (binW zas (vW 1) (kW (.str "rows"))) nilA)) (kW (.int 40)))) [.val .box,.val (zMod s),.val (.lst true (s.ms.map D.str)),.val (.lst true (s.hs.map D.str)),.un,.un,.un,.un] (decide ((40:Int) <= ((s.rs.map zRow).length:Int))):=zaY (zoC (zeY (ev_m rfl (m3 s))) ev_k);cases hb:(decide (((s.ms.map D.str).length:Int) < 2) || ((s.hs.map D.str).isEmpty || decide ((40:Int) <= ((s.rs.map zRow).length:Int)))) with
 | true=>exact (zao (zgC e1 λ_=>zgC e2 λ_=>e3) hb) _ (.inl rfl)
 | false=>
  have hb':=hb;rw [Bool.or_eq_false_iff,Bool.or_eq_false_iff] at hb';obtain ⟨h1,h2,h3⟩:=hb';have l2:2 <= s.ms.length:=by have:=of_decide_eq_false h1;rw [YAc] at this;omega
  have l1:1 <= s.hs.length:=by
   cases e:s.hs with
   | nil=>rw [e] at h2;cases h2
   | cons x xs=>simp
  have lh:=ok.h.ln;have l4:s.rs.length < 40:=by have:=of_decide_eq_false h3;rw [YAc] at this;omega
  have em:∀ {ρ:Env},ρ[2]? = some (.val (.lst true (s.ms.map D.str)))->Ev (cbW zbx (zab (vW 2) nilA)) ρ (.int s.ms.length):=λh=>zgA (zeY (ev_v h)) (by rw [YAc]);refine zdO (zao (zgC e1 λ_=>zgC e2 λ_=>e3) hb) ?_;refine znR rfl (em rfl) (by omega) (by omega) λat_ a0 a1=>?_;show seqW _ _ _ [.val .box,.val (zMod s),.val (.lst true (s.ms.map D.str)),.val (.lst true (s.hs.map D.str)),.val (.int at_),.un,.un,.un];have hA:Ev (binW ixXD (vW 2) (vW 4)) [.val .box,.val (zMod s),.val (.lst true (s.ms.map D.str)),.val (.lst true (s.hs.map D.str)),.val (.int at_),.un,.un,.un] (.str (nmZ s.ms at_.toNat)):=zfF (ev_v rfl) (ev_v rfl) (zg9 a0 a1);have hB:∀ Q:D->Prop,(∀ ot:Int,0 <= ot->ot < s.ms.length->ot ≠ at_->Q (.str (nmZ s.ms ot.toNat)))->binW ixXD (vW 2) (binW modD (binW addD (binW addD (vW 4) (kW (.int 1))) (zam 2 zad (zab (vW 0) (zab (binW subD (cbW zbx (zab (vW 2) nilA)) (kW (.int 1))) nilA)))) (cbW zbx (zab (vW 2) nilA))) [.val .box,.val (zMod s),.val (.lst true (s.ms.map D.str)),.val (.lst true (s.hs.map D.str)),.val (.int at_),.un,.un,.un] Q:=λQ k=>by
   show zam 2 zad (zab (vW 0) (zab (binW subD (cbW zbx (zab (vW 2) nilA)) (kW (.int 1))) nilA)) [.val .box,.val (zMod s),.val (.lst true (s.ms.map D.str)),.val (.lst true (s.hs.map D.str)),.val (.int at_),.un,.un,.un] _;refine tk rfl (zhs (em rfl) ev_k) (by omega) (by omega) λt t0 t1=>?_;have hn:(0:Int) < (s.ms.length:Int):=by omega
   have o0:0 <= (at_ + 1 + t) % (s.ms.length:Int):=YBg _ (by omega);have o1:(at_ + 1 + t) % (s.ms.length:Int) < s.ms.length:=YAU _ hn;have on:(at_ + 1 + t) % (s.ms.length:Int) ≠ at_:=by
    by_cases hh:at_ + 1 + t < (s.ms.length:Int)
    ·rw [Int.emod_eq_of_lt (by omega) hh];omega
    ·have:at_ + 1 + t = (at_ + 1 + t - (s.ms.length:Int)) + (s.ms.length:Int) * 1:=by omega
     rw [this,Int.add_mul_emod_self_left,Int.emod_eq_of_lt (by omega) (by omega)];omega
   refine em (ρ:=[.val .box,.val (zMod s),.val (.lst true (s.ms.map D.str)),.val (.lst true (s.hs.map D.str)),.val (.int at_),.un,.un,.un]) rfl (λy=>modD (.int (at_ + 1 + t)) y λy=>ixXD (.lst true (s.ms.map D.str)) y Q) ⟨hn,?_⟩;show (match atI (s.ms.map D.str) ((at_ + 1 + t) % (s.ms.length:Int)) with | some d=>Q d | none=>False);rw [zg9 o0 o1];exact k _ o0 o1 on
  refine hA _ (hB _ λot o0 o1 on=>?_);show seqW _ _ _ [.val .box,.val (zMod s),.val (.lst true (s.ms.map D.str)),.val (.lst true (s.hs.map D.str)),.val (.int at_),.val (.str (nmZ s.ms at_.toNat)),.val (.str (nmZ s.ms ot.toNat)),.un];have ha:at_.toNat < s.ms.length:=by omega
  have hb:ot.toNat < s.ms.length:=by omega
  have c1:=ok.m.ln;have t1:=ziD (p:=(at_.toNat:Int)) (by omega) (by omega);have t2:=ziD (p:=(ot.toNat:Int)) (by omega) (by omega);have pl2:Ev (zam 2 zaN (zab (vW 1) (zab (vW 6) nilA))) [.val .box,.val (zMod s),.val (.lst true (s.ms.map D.str)),.val (.lst true (s.hs.map D.str)),.val (.int at_),.val (.str (nmZ s.ms at_.toNat)),.val (.str (nmZ s.ms ot.toNat)),.un] (.int ot.toNat):=za8 (zac (ev_v rfl) (zac (ev_v rfl) zaj)) (zd2 (zlP ok) ok.m hb);have pl1:Ev (zam 2 zaN (zab (vW 1) (zab (vW 5) nilA))) [.val .box,.val (zMod s),.val (.lst true (s.ms.map D.str)),.val (.lst true (s.hs.map D.str)),.val (.int at_),.val (.str (nmZ s.ms at_.toNat)),.val (.str (nmZ s.ms ot.toNat)),.un] (.int at_.toNat):=za8 (zac (ev_v rfl) (zac (ev_v rfl) zaj)) (zd2 (zlP ok) ok.m ha);refine zbi (zhs (za8 (zac pl2 zaj) t2) (za8 (zac pl1 zaj) t1)) ?_;have r0:-100 <= (ot.toNat:Int) * (ot.toNat:Int) * 3 % 17 - (ot.toNat:Int) - ((at_.toNat:Int) * (at_.toNat:Int) * 3 % 17 - (at_.toNat:Int))/\(ot.toNat:Int) * (ot.toNat:Int) * 3 % 17 - (ot.toNat:Int) - ((at_.toNat:Int) * (at_.toNat:Int) * 3 % 17 - (at_.toNat:Int)) <= 100:=by
   generalize (ot.toNat:Int) * (ot.toNat:Int) * 3 = u;generalize (at_.toNat:Int) * (at_.toNat:Int) * 3 = v;omega
  generalize (ot.toNat:Int) * (ot.toNat:Int) * 3 % 17 - (ot.toNat:Int) - ((at_.toNat:Int) * (at_.toNat:Int) * 3 % 17 - (at_.toNat:Int)) = rise at r0;show seqW _ _ _ [.val .box,.val (zMod s),.val (.lst true (s.ms.map D.str)),.val (.lst true (s.hs.map D.str)),.val (.int at_),.val (.str (nmZ s.ms at_.toNat)),.val (.str (nmZ s.ms ot.toNat)),.val (.int rise)];have last:∀ rise:Int,rise <= 1000000000->-1000000000 <= rise->retW (tupW (zab (kW (.str "run")) (zab (vW 5) (zab (vW 6) (zab (vW 7) (zab (binW ixXD (vW 3) (zam 2 zad (zab (vW 0) (zab (cbW zbx (zab (vW 3) nilA)) nilA)))) nilA)))))) { nx:=λ_=>D.non = .non\/∃ a b r h,D.non = zD s (.run a b r h)/\Zfit s (.run a b r h),rt:=λv=>v = .non\/∃ a b r h,v = zD s (.run a b r h)/\Zfit s (.run a b r h),bk:=λ_=>False,ct:=λ_=>False } [.val .box,.val (zMod s),.val (.lst true (s.ms.map D.str)),.val (.lst true (s.hs.map D.str)),.val (.int at_),.val (.str (nmZ s.ms at_.toNat)),.val (.str (nmZ s.ms ot.toNat)),.val (.int rise)]:=λrise u1 u2=>by
   show zam 2 zad (zab (vW 0) (zab (cbW zbx (zab (vW 3) nilA)) nilA)) [.val .box,.val (zMod s),.val (.lst true (s.ms.map D.str)),.val (.lst true (s.hs.map D.str)),.val (.int at_),.val (.str (nmZ s.ms at_.toNat)),.val (.str (nmZ s.ms ot.toNat)),.val (.int rise)] _;refine tk rfl (zgA (zeY (ev_v rfl)) (show D.int ((s.hs.map D.str).length:Nat) = D.int (s.hs.length:Nat) by rw [YAc])) (by omega) (by omega) λk k0 k1=>?_;show (match atI (s.hs.map D.str) k with | some d=>(_/\_:Prop) | none=>False);rw [zg9 k0 k1];refine ⟨by show 5 <= 100000;decide,.inr ⟨at_.toNat,ot.toNat,rise,nmZ s.hs k.toNat,rfl,ha,hb,by omega,u1,u2,?_,l4⟩⟩;rw [zev (by omega)];exact YBj _
  show zam 2 zad (zab (vW 0) (zab (kW (.int 4)) nilA)) [.val .box,.val (zMod s),.val (.lst true (s.ms.map D.str)),.val (.lst true (s.hs.map D.str)),.val (.int at_),.val (.str (nmZ s.ms at_.toNat)),.val (.str (nmZ s.ms ot.toNat)),.val (.int rise)] _;refine tk rfl ev_k (by decide) (by decide) λx x0 x1=>?_;refine ⟨zcJ _ _,?_⟩;rw [ze4];by_cases hx:x = 0
  ·rw [YAy hx];show zam 2 zad (zab (vW 0) (zab (kW (.int 1000000000)) nilA)) [.val .box,.val (zMod s),.val (.lst true (s.ms.map D.str)),.val (.lst true (s.hs.map D.str)),.val (.int at_),.val (.str (nmZ s.ms at_.toNat)),.val (.str (nmZ s.ms ot.toNat)),.val (.int rise)] _;refine tk rfl ev_k (by decide) (by decide) λy y0 y1=>?_;refine ⟨by show 4 <= 100000;decide,?_⟩;show zam 2 zad (zab (vW 0) (zab (kW (.int 4)) nilA)) [.val .box,.val (zMod s),.val (.lst true (s.ms.map D.str)),.val (.lst true (s.hs.map D.str)),.val (.int at_),.val (.str (nmZ s.ms at_.toNat)),.val (.str (nmZ s.ms ot.toNat)),.val (.int rise)] _;refine tk rfl ev_k (by decide) (by decide) λk k0 k1=>?_;refine zoi (b:=true) (hs:=[rise + 1,rise - 2,y,-1000000000]) k0 k1 λv hv=>?_;unfold gD;simp only [YAu,YAC,YBR] at hv;exact last v (by rcases hv with rfl | rfl | rfl | rfl <;> omega) (by rcases hv with rfl | rfl | rfl | rfl <;> omega)
  ·rw [YAq hx];exact last rise (by omega) (by omega)
end Fd
set_option maxHeartbeats 400000
namespace Fd
open PySem L2
theorem zrl {x:Int} (h0:0 <= x) (h1:x < 26):atI (sg LET) x = some (97 + x.toNat):=by
 obtain ⟨j,rfl⟩:=YBk h0
 have:∀ j < 26,(sg LET)[j]? = some (97 + j):=by decide +kernel
 exact zar (this j (by omega))
def chS (ns:List Int):Str:=Str.join sE (ns.map λn=>⟨#[97 + n.toNat]⟩)
theorem chS_sg (ns:List Int):sg (chS ns) = ns.map λn=>97 + n.toNat:=by
 unfold chS;rw [show (ns.map λn=>(⟨#[97 + n.toNat]⟩:Str)) = (ns.map λn=>97 + n.toNat).map λch=>⟨#[ch]⟩ from by rw [YAH];rfl,ziS]
theorem znI {ns:List Int} (h26:In26 ns) (h1:1 <= ns.length) (h2:ns.length <= 8):zcY (chS ns) = true:=by
 unfold chS;rw [show (ns.map λn=>(⟨#[97 + n.toNat]⟩:Str)) = (ns.map λn=>97 + n.toNat).map λch=>⟨#[ch]⟩ from by rw [YAH];rfl];refine zpC (by rw [YAc];exact h1) (by rw [YAc];exact h2) λch hc=>?_;obtain ⟨n,hn,rfl⟩:=YAS.mp hc
 have:=h26 n hn
 exact (zlX _).mpr (by omega)
theorem zq3 {ρ:Env} {n:Bool} {ns:List Int} {i j:Nat} {Q:D->Prop} (hi:ρ[i]? = some (.val (.lst n (ns.map D.int)))) (hj:ρ[j]? = some (.val (.str LET))) (h26:In26 ns) (h2:ns.length <= 8) (q:Q (.str (chS ns))) :
  smW joF (kW (.str sE)) (valW (zaC [none,some j] (za4 (vW i)) (.nm 0) noIf (binW ixXD (vW 1) (vW 0)))) ρ Q:=by
 have e:(subE [none,some j] ρ)[1]? = some (.val (.str LET)):=by
  unfold subE;simp only [YAg,YAK,YAw,List.getElem?_cons_zero];rw [hj]
 have hc:=zcg (sub:=[none,some j]) (ρ:=ρ) (I:=za4 (vW i)) (t:=.nm 0) (C:=noIf) (E:=binW ixXD (vW 1) (vW 0)) D.int (λn=>some (.str ⟨#[97 + n.toNat]⟩)) ns (zcU (ev_v hi)) (by omega) (λx hx=>zf4 zff (λP p=>by
  have e2:((subE [none,some j] ρ).set 0 (.val (.int x)))[1]? = some (.val (.str LET)):=by rw [YAi (by decide)];exact e
  refine zl0 e2 (zl0 (d:=.int x) (by unfold subE;rfl) ?_);have hl:(LET:Str).length = 26:=by decide +kernel
  show _/\(match atI (sg LET) x with | some ch=>P (.str ⟨#[ch]⟩) | none=>False);rw [zrl (h26 x hx).1 (h26 x hx).2];exact ⟨by rw [hl];decide,p⟩))
 rw [zaO] at hc;refine hc (λxs=>joF sE (.lst true xs) Q) ⟨ns.map λn:Int=>⟨#[97 + n.toNat]⟩,by rw [YAH];rfl,λt ht=>?_,by rw [YAc];omega,by decide +kernel,q⟩;obtain ⟨ch,_,rfl⟩:=YAS.mp ht;show 1 <= 2000;decide
theorem zjm {E:En} {m size k c:Int} {like:Bool} {fs ns:List Int} {rows:List Str} {pl:Nat} (hpl:pl < ns.length) (h8:ns.length <= 8) (hf:fs[pl]? = some c) (n26:In26 ns) (hr:rows.length < 1000)
  (q:∀ x d,zcY x = true->(sg x)[pl]? = some (97 + ((c + 11 * k) % 26).toNat)->E.nx [.val .box,.val (.int m),.val (.str LET),.val (.int size),.val (.int pl),.val (.bl like),.val (.lst true (fs.map D.int)),.own ((rows ++ [x]).map D.str),.val (.int k),d]) :
  seqW (putW 9 (vW 4) (binW modD (binW addD (binW ixXD (vW 6) (vW 4)) (binW mulD (kW (.int 11)) (vW 8))) (kW (.int 26))))
   (frzW 9 (appW 7 (smW joF (kW (.str sE)) (valW (zaC [none,some 2] (za4 (vW 9)) (.nm 0) noIf (binW ixXD (vW 1) (vW 0))))))) E
   [.val .box,.val (.int m),.val (.str LET),.val (.int size),.val (.int pl),.val (.bl like),.val (.lst true (fs.map D.int)),.own (rows.map D.str),.val (.int k),.own (ns.map D.int)]:=by
 have hv:0 <= (c + 11 * k) % 26/\(c + 11 * k) % 26 < 26:=⟨YBg _ (by decide),YAU _ (by decide)⟩;have ea:Ev (binW modD (binW addD (binW ixXD (vW 6) (vW 4)) (binW mulD (kW (.int 11)) (vW 8))) (kW (.int 26))) [.val .box,.val (.int m),.val (.str LET),.val (.int size),.val (.int pl),.val (.bl like),.val (.lst true (fs.map D.int)),.own (rows.map D.str),.val (.int k),.own (ns.map D.int)] (.int ((c + 11 * k) % 26)):=zjz (zei (zfF (ev_v rfl) (ev_v rfl) (zar (by rw [YAt,hf];rfl))) (zj2 ev_k (ev_v rfl) λP p=>⟨.inl ⟨by decide,by decide⟩,p⟩)) ev_k;refine ea _ ?_;have e:ixN (ns.map D.int).length (pl:Int) = some pl:=by
  unfold ixN;rw [YAc,if_pos (by omega),if_pos (by omega)];simp
 show (match ixN (ns.map D.int).length (pl:Int) with | some m=>_ | none=>False);rw [e];have es:(ns.map D.int).set pl (.int ((c + 11 * k) % 26)) = (ns.set pl ((c + 11 * k) % 26)).map D.int:=List.map_set.symm;show frzW 9 (appW 7 (smW joF (kW (.str sE)) (valW (zaC [none,some 2] (za4 (vW 9)) (.nm 0) noIf (binW ixXD (vW 1) (vW 0)))))) E [.val .box,.val (.int m),.val (.str LET),.val (.int size),.val (.int pl),.val (.bl like),.val (.lst true (fs.map D.int)),.own (rows.map D.str),.val (.int k),.own ((ns.map D.int).set pl (.int ((c + 11 * k) % 26)))];rw [es];have n26':In26 (ns.set pl ((c + 11 * k) % 26)):=λn hn=>by
  rcases List.mem_or_eq_of_mem_set hn with h | h
  ·exact n26 n h
  ·rw [h];exact hv
 show smW joF (kW (.str sE)) (valW (zaC [none,some 2] (za4 (vW 9)) (.nm 0) noIf (binW ixXD (vW 1) (vW 0)))) [.val .box,.val (.int m),.val (.str LET),.val (.int size),.val (.int pl),.val (.bl like),.val (.lst true (fs.map D.int)),.own (rows.map D.str),.val (.int k),.val (.lst true ((ns.set pl ((c + 11 * k) % 26)).map D.int))] _;refine zq3 (i:=9) (j:=2) rfl rfl n26' (by rw [YBP];omega) ⟨by rw [YAc];omega,?_⟩
 have:=q (chS (ns.set pl ((c + 11 * k) % 26))) (.val (.lst true ((ns.set pl ((c + 11 * k) % 26)).map D.int))) (znI n26' (by rw [YBP];omega) (by rw [YBP];omega)) (by rw [chS_sg,YAt,YAh hpl];rfl)
 rw [YAW] at this;exact this
def Apart (c:Int) (pl:Nat) (rows:List Str):Prop:=∀ (i:Nat) x,rows[i]? = some x->(sg x)[pl]? = some (97 + ((c + 11 * (i:Int)) % 26).toNat)
theorem Apart.nodup {c:Int} {pl:Nat} {rows:List Str} (h:Apart c pl rows) (hl:rows.length <= 26):rows.Nodup:=by
 refine List.pairwise_iff_getElem.mpr λi j hi hj hij e=>?_;have h1:=h i _ (YAk hi);have h2:=h j _ (YAk hj);rw [e,h2] at h1
 have:=Option.some.inj h1
 omega
theorem zk7 (m:Int) (m0:0 <= m) (m1:m <= 26):zcc [.box,.int m] (λd=>∃ ns:List Str,d = .lst true (ns.map D.str)/\(ns.length:Int) = m/\(∀ x ∈ ns,zcY x = true)/\ns.Nodup):=by
 unfold zcc fnW;rw [zmI .box (.int m) 8,zjs,zan];refine ⟨rfl,zd8 (by decide) (by decide) λa a0 a1=>?_⟩;refine ⟨rfl,zd8 (by omega) (by omega) λp p0 p1=>?_⟩;refine ⟨rfl,zd8 (by decide) (by decide) λl l0 l1=>⟨zcJ _ _,?_⟩⟩;generalize eqB (.int l) (.int 0) = like;refine ⟨⟨by omega,by omega⟩,?_⟩;refine zpu (j:=0) (n:=(1 + a).toNat) rfl (by omega) λfs fl f26=>?_;refine ⟨YBv _,⟨by omega,by omega⟩,?_⟩;obtain ⟨pl,rfl⟩:=YBk p0;obtain ⟨c,hc⟩:∃ c,fs[pl]? = some c:=⟨_,YAk (by omega)⟩;refine zhf (λrest ρ=>∃ (rows:List Str) (s8 s9:Sl),ρ = [.val .box,.val (.int m),.val (.str LET),.val (.int (1 + a)),.val (.int (pl:Int)),.val (.bl like),.val (.lst true (fs.map D.int)),.own (rows.map D.str),s8,s9]/\(rows.length + rest.length:Int) = m/\(∀ x ∈ rows,zcY x = true)/\Apart c pl rows/\rest = rngL (rows.length:Int) rest.length) ?_ ?_ _ _ ⟨[],.un,.un,rfl,by rw [zbA];show ((0:Nat):Int) + (m.toNat:Int) = m;omega,by simp,λi x h=>by simp at h,by rw [zbA];rfl⟩
 ·rintro k rest ρ E' hn hcc hr hb ⟨rows,s8,s9,rfl,hl,hx,hap,hk⟩;rw [YAz,zl3] at hk;injection hk with hk1 hk2
  subst hk1;have h00:(0:Int) <= (D.int (rows.length:Int) :: rest).length:=by omega
  have hl':(rows.length:Int) < 1000:=by omega
  have fin:∀ ns:List Int,pl < ns.length->ns.length <= 8->In26 ns->seqW (putW 9 (vW 4) (binW modD (binW addD (binW ixXD (vW 6) (vW 4)) (binW mulD (kW (.int 11)) (vW 8))) (kW (.int 26))))
   (frzW 9 (appW 7 (smW joF (kW (.str sE)) (valW (zaC [none,some 2] (za4 (vW 9)) (.nm 0) noIf (binW ixXD (vW 1) (vW 0))))))) E'
   [.val .box,.val (.int m),.val (.str LET),.val (.int (1 + a)),.val (.int (pl:Int)),.val (.bl like),.val (.lst true (fs.map D.int)),.own (rows.map D.str),.val (.int (rows.length:Int)),.own (ns.map D.int)]:=λns h1 h2 h3=>
   zjm h1 h2 hc h3 (by omega) λx d hxx hsx=>hn _ ⟨rows ++ [x],.val (.int (rows.length:Int)),d,rfl,by rw [YAp,YBX];rw [YAz] at hl;omega,λy hy=>(YAV.mp hy).elim (hx y) (λz=>by rw [YAF.mp z];exact hxx),λi y hy=>by
    by_cases hi:i < rows.length
    ·rw [YBc hi] at hy;exact hap i y hy
    ·rw [YBp (by omega)] at hy;have e0:i - rows.length = 0:=by
      cases hz:i - rows.length with
      | zero=>rfl
      | succ n=>rw [hz] at hy;simp at hy
     rw [e0] at hy;cases hy
     have:i = rows.length:=by omega
     rw [this];exact hsx,by rw [YAp,YBX];rw [show ((rows.length + 1:Nat):Int) = (rows.length:Int) + 1 from by omega];exact hk2⟩
  cases like with
  | true=>exact fin fs (by omega) (by omega) f26
  | false=>
   refine ⟨rfl,zd8 (by omega) (by omega) λt t0 t1=>⟨⟨by omega,by omega⟩,?_⟩⟩;exact zpu (j:=0) (n:=(((pl:Int) + 1) + t).toNat) rfl (by omega) λns nl n26=>fin ns (by omega) (by omega) n26
 ·rintro ρ ⟨rows,s8,s9,rfl,hl,hx,hap,hk⟩;have hl2:(rows.length:Int) = m:=by simpa using hl
  exact ⟨rows,rfl,hl2,hx,hap.nodup (by omega)⟩
end Fd
set_option maxHeartbeats 400000
namespace Fd
open PySem L2
def s00:Za:=⟨[],[],[],0,0,[]⟩
theorem zdg {t:Tg} {B:WF} {E:EnF} (I:List D->Sto->Env->Prop)
  (hs:∀ x rest S ρ (E':EnF),(∀ S ρ,I rest S ρ->E'.nx S ρ)->(∀ S ρ,I rest S ρ->E'.ct S ρ)->(∀ S d,E.rt S d->E'.rt S d)->(∀ S ρ,E.nx S ρ->E'.bk S ρ)->I (x :: rest) S ρ->gD t x ρ λρ'=>B E' S ρ') (hd:∀ S ρ,I [] S ρ->E.nx S ρ) :
  ∀ (xs:List D) (S:Sto) (ρ:Env),I xs S ρ->zea t B E xs S ρ
 | [],S,ρ,h=>hd S ρ h
 | x :: xs,S,ρ,h=>hs x xs S ρ { nx:=zea t B E xs,ct:=zea t B E xs,bk:=E.nx,rt:=E.rt } (zdg I hs hd xs) (zdg I hs hd xs) (λS d z=>z) (λS ρ z=>z) h
theorem zhg {n:Nat} {F:FnF} {y:Str->Sto->Prop} {R:WOA} {ρ:Env} {S:Sto} {Q P:D->Sto->Prop} {Z:Str->Sto->Prop} {ds:List D} (hR:EvA R ρ S ds) (h:F ds S P Z) (k:∀ d S',P d S'->Q d S') (l:∀ n S',Z n S'->y n S') (hl:ds.length = n:=by rfl):zf7 n F y R ρ S Q:=hR _ ⟨hl,zmX h k l⟩
theorem zl8:zbD [] (· = .dct true BK (za6 s00)):=by
 refine zbV (ρ:=[]) rfl ?_;exact ⟨by decide,by decide,by decide,by decide,by decide,rfl⟩
theorem zmh:zcI [] (λv=>v.old = zMod s00):=by
 refine zbV (ρ:=[]) rfl ?_;refine ⟨by decide,by decide,by decide,by decide,?_⟩;refine zoZ ?_;simp only [YAg,YAK];rw [zaH (by simp),zep (by simp),zan];rfl
theorem zoV {i:Nat} {f:Str} {C:Addr} {F:Sto->WL} {E:EnF} {S:Sto} {ρ:Env} {q:Addr} {o:Ob} {xs:List D} (hi:ρ[i]? = some (.val (.obj q))) (hF:EvL (F S) ρ xs) (hS:S q = some o) (hC:o.C = C) (hl:o.fs.length < 100) (h:E.nx (upS S q ⟨o.C,putO f (xs.map D.old) o.fs⟩) ρ):setO i f C F E S ρ:=by
 unfold setO;rw [hi];exact hF _ ⟨o,hS,hC,hl,h⟩
theorem zoj {A:Ads} {S:Sto} {a:Addr}:zb4 A [.obj a] (upS S a ⟨A.fen,[]⟩) (λd S'=>d = .non/\S' = upS S a (fenO A [] [zav s00] [])) (λ_ _=>False):=by
 refine zhh (zbq (n:=0) (za9 a)) ?_;refine ⟨by decide,⟨A.fen,[]⟩,zaR,rfl,by show 0 < 100;decide,?_⟩;rw [zel];have p1:putO "kept" ([].map D.old) ([]:List (Str × List D)) = [(("kept" : Str),[])]:=by kernel_rfl
 rw [p1];have eb:EvL (lstW (zab (zam 0 zbD nilA) nilA)) [.val (.obj a)] [.dct true BK (za6 s00)]:=zdu (zac (za8 zaj zl8) zaj);show seqF (setO 0 "books" A.fen λS=>lstW (zab (zam 0 zbD nilA) nilA)) _ _ _ [.val (.obj a)];refine zoV (q:=a) (o:=⟨A.fen,[("kept",[])]⟩) rfl eb zaR rfl (by show 1 < 100;decide) ?_;rw [zel,YBw,zgn (zck s00)];have p2:putO "books" [D.dct false BK (za6 s00)] [(("kept" : Str),([]:List D))] = [(("kept" : Str),[]),("books",[D.dct false BK (za6 s00)])]:=by kernel_rfl
 rw [p2];show setO 0 "undone" A.fen (λS=>lstW nilA) _ _ [.val (.obj a)];refine zoV (q:=a) (o:=⟨A.fen,[("kept",[]),("books",[D.dct false BK (za6 s00)])]⟩) rfl (zdu zaj) zaR rfl (by show 2 < 100;decide) ?_;rw [zel];have p3:putO "undone" ([].map D.old) [(("kept" : Str),([]:List D)),("books",[D.dct false BK (za6 s00)])] = [(("kept" : Str),[]),("books",[D.dct false BK (za6 s00)]),("undone",[])]:=by kernel_rfl
 rw [p3];exact ⟨rfl,rfl⟩
def Fits:Za->List Zd->Prop
 | _,[]=>True
 | s,d :: r=>(Zfit s d/\zD s d = zD s00 d)/\Fits (zdN s d) r
theorem zgP {rest:List Zd}:∀ (xs:List Str) (s:Za),s.rs = []->xs.Nodup->(∀ x ∈ xs,zcY x = true/\x ∉ s.ms)->s.ms.length + xs.length <= 12->(∀ s':Za,s'.rs = []->s'.hs = s.hs->Fits s' rest)->Fits s (xs.map Zd.mark ++ rest)
 | [],s,h0,_,_,_,k=>k s h0 rfl
 | x :: xs,s,h0,hn,hx,hl,k=>by
  rw [YAM] at hn;rw [YAz] at hl;refine ⟨⟨⟨h0,(hx x YAs).1,(hx x YAs).2,by omega⟩,rfl⟩,zgP xs _ h0 hn.2 (λy hy=>⟨(hx y (YAf _ hy)).1,λz=>?_⟩) ?_ λs' h1 h2=>k s' h1 h2⟩
  ·rcases YAV.mp (show y ∈ s.ms ++ [x] from z) with z | z
   ·exact (hx y (YAf _ hy)).2 z
   ·rw [YAF.mp z] at hy;exact hn.1 hy
  ·show (s.ms ++ [x]).length + xs.length <= 12;rw [YAp];show s.ms.length + 1 + xs.length <= 12;omega
theorem zgW {rest:List Zd}:∀ (xs:List Str) (s:Za),xs.Nodup->(∀ x ∈ xs,zcY x = true/\x ∉ s.hs)->s.hs.length + xs.length <= 10->(∀ s':Za,Fits s' rest)->Fits s (xs.map Zd.hand ++ rest)
 | [],s,_,_,_,k=>k s
 | x :: xs,s,hn,hx,hl,k=>by
  rw [YAM] at hn;rw [YAz] at hl;refine ⟨⟨⟨(hx x YAs).1,(hx x YAs).2,by omega⟩,rfl⟩,zgW xs _ hn.2 (λy hy=>⟨(hx y (YAf _ hy)).1,λz=>?_⟩) ?_ k⟩
  ·rcases YAV.mp (show y ∈ s.hs ++ [x] from z) with z | z
   ·exact (hx y (YAf _ hy)).2 z
   ·rw [YAF.mp z] at hy;exact hn.1 hy
  ·show (s.hs ++ [x]).length + xs.length <= 10;rw [YAp];show s.hs.length + 1 + xs.length <= 10;omega
theorem zpU:Zok s00:=⟨⟨by simp [s00],by simp [s00],by simp [s00]⟩,⟨by simp [s00],by simp [s00],by simp [s00]⟩,by simp [s00],by simp [s00],by simp [s00],by simp [s00],by simp [s00],by simp [s00]⟩
structure Zat (A:Ads) (S:Sto) (q:Addr) (m:D) (s:Za) (n:Nat):Prop where
 m:m.old = zMod s
 ok:Zok s
 dn:s.ds.length <= n
 ex:∃ bs us,S q = some (fenO A s.ds (bs ++ [zav s]) us)/\bs.length <= n
theorem zhp {v:D} {s:Za} (h:v.old = zMod s):isN v = false:=by
 cases v with
 | non=>rw [D.old] at h;cases h
 | _=>rfl
theorem Zat.step {A:Ads} {S:Sto} {q:Addr} {m:D} {s:Za} {d:Zd} {n:Nat} {i j k:Nat} {ρ:Env} {Q:D->Sto->Prop} (z:Zat A S q m s n) (hn:n < 900) (f:Zfit s d) (hi:ρ[i]? = some (.val (.obj q))) (hj:ρ[j]? = some (.val m)) (hk:ρ[k]? = some (.val (zD s d)))
  (h:∀ v S',Zat A S' q v (zdN s d) (n + 1)->(∃ bs,S' q = some (fenB A s d bs)/\bs.length <= n)->Q v S'):zf7 3 (za0 A) (λ_ _=>False) (za1 (za2 λS=>vW i) (za1 (za2 λS=>vW j) (za1 (za2 λS=>vW k) nilO))) ρ S Q:=by
 obtain ⟨bs,us,hS,hb⟩:=z.ex;refine zhg (zbs (ev_v hi) (zbs (ev_v hj) (zbs (ev_v hk) zeN))) (znz z.m hS z.ok f (by omega)) (λv S' hv=>?_) λ_ _ z=>z;obtain ⟨h1,rfl⟩:=hv;have dn:=z.dn;refine h v _ ⟨h1,znE z.ok f (by omega),by rw [zds,YAp];show s.ds.length + 1 <= n + 1;omega,bs ++ [zav s],[],by rw [zaR,zds];rfl,by rw [YAp];show bs.length + 1 <= n + 1;omega⟩ ⟨bs,zaR,hb⟩
end Fd
set_option maxHeartbeats 400000
namespace Fd
open PySem L2
theorem zsa {ns:List Str} {k:Nat} (h:k < ns.length):atI (ns.map D.str) (k:Int) = some (.str (nmZ ns k)):=by
 have:=zg9 (ms:=ns) (k:=(k:Int)) (by omega) (by omega)
 rw [YBu] at this;exact this
theorem zoR {ns:List Str} {k:Nat} (h:k < ns.length):nmZ ns k ∈ ns:=by rw [zev h];exact YBj h
theorem zhC {ns:List Str} (hn:ns.Nodup) {f:Nat->Nat}:∀ {l:List Nat},l.Nodup->(∀ k ∈ l,f k < ns.length)->(∀ a ∈ l,∀ b ∈ l,f a = f b->a = b)->(l.map λk=>nmZ ns (f k)).Nodup
 | [],_,_,_=>by simp
 | k :: l,h1,h2,h3=>by
  rw [YAM] at h1;rw [YAg,YAM];refine ⟨λm=>?_,zhC hn h1.2 (λj hj=>h2 j (YAf _ hj)) λa ha b hb=>h3 a (YAf _ ha) b (YAf _ hb)⟩;obtain ⟨j,hj,e⟩:=YAS.mp m;have e:nmZ ns (f j) = nmZ ns (f k):=e;have fj:=h2 j (YAf _ hj);have fk:=h2 k YAs;rw [zev fj,zev fk] at e;by_cases z:f j = f k
  ·exact h1.1 (h3 j (YAf _ hj) k YAs z ▸ hj)
  ·exact zqn hn z e
def zBeg (ns:List Str) (n1 n2:Nat) (k:Int):List Zd:=((List.range n1).map λk=>nmZ ns k).map Zd.mark ++ (((List.range n2).map λk=>nmZ ns (15 - k)).map Zd.hand ++ [.allow k])
theorem zqb (ns:List Str) (n1 n2:Nat) (k:Int):(zBeg ns n1 n2 k).map (zD s00) = (((List.range n1).map λk=>D.tup [.str "mark",.str (nmZ ns k)]) ++ ((List.range n2).map λk=>D.tup [.str "hand",.str (nmZ ns (15 - k))])) ++ [.tup [.str "allow",.int k]]:=by
 unfold zBeg;rw [YAW,YAW,YAH,YAH,YAH,YAH,YBV];rfl
theorem znC {ns:List Str} {n1 n2:Nat} {k:Int} (hl:ns.length = 16) (hn:ns.Nodup) (ho:∀ x ∈ ns,zcY x = true) (h1:n1 <= 4) (h2:n2 <= 3) (k0:0 <= k) (k3:k <= 3):Fits s00 (zBeg ns n1 n2 k):=by
 have lt:∀ {n j:Nat},j ∈ List.range n->j < n:=λh=>YCl.mp h;unfold zBeg;refine zgP _ s00 rfl (zhC hn (f:=λk=>k) List.nodup_range (λj hj=>by have:=lt hj;omega) λa _ b _ e=>e) (λx hx=>?_) (by rw [YAc,YA0];show 0 + n1 <= 12;omega) λs' _ hs=>?_
 ·obtain ⟨j,hj,rfl⟩:=YAS.mp hx
  have:=lt hj
  exact ⟨ho _ (zoR (by omega)),by simp [s00]⟩
 ·have hs:s'.hs = []:=hs;refine zgW _ s' (zhC hn (f:=λk=>15 - k) List.nodup_range (λj hj=>by omega) λa ha b hb e=>?_) (λx hx=>?_) (by rw [YAc,YA0,hs];show 0 + n2 <= 10;omega) λs2=>⟨⟨⟨k0,k3⟩,rfl⟩,trivial⟩
  ·have:=lt ha;have:=lt hb
   have e:15 - a = 15 - b:=e;omega
  ·obtain ⟨j,hj,rfl⟩:=YAS.mp hx;exact ⟨ho _ (zoR (by omega)),by rw [hs];simp⟩
theorem Zat.le {A:Ads} {S:Sto} {q:Addr} {m:D} {s:Za} {n k:Nat} (z:Zat A S q m s n) (h:n <= k):Zat A S q m s k:=
 ⟨z.m,z.ok,YAB z.dn h,z.ex.imp λbs h1=>h1.imp λus h2=>⟨h2.1,YAB h2.2 h⟩⟩
theorem zl5 {A:Ads} {S:Sto}:zcG A [.box,.int 4,.int 3,.int 8] S (λv S'=>∃ q m p s,v = .tup [.obj q,m,p]/\Zat A S' q m s 40) (λ_ _=>False):=by
 refine zhh (ρ:=[.val .box,.val (.int 4),.val (.int 3),.val (.int 8),.un,.un,.un,.un,.un,.un]) (by unfold zaz;simp [zjs,zan]) ?_;refine ⟨rfl,zd9 (zk7 16 (by decide) (by decide)) λd hd=>?_⟩;obtain ⟨ns,rfl,nl,nok,nd⟩:=hd;unfold gD;intro q hq;refine zmX zoj (λd S' h=>?_) λ_ _ z=>z;obtain ⟨rfl,rfl⟩:=h;refine ⟨rfl,?_⟩;unfold gD;refine ⟨rfl,zd9 zmh λm0 hm0=>?_⟩;unfold gD;show zam 2 zad (zab (vW 0) (zab (vW 1) nilA)) [.val .box,.val (.int 4),.val (.int 3),.val (.int 8),.val (.lst true (ns.map D.str)),.val (.obj q),.val m0,.un,.un,.un] _;refine tk rfl (ev_v rfl) (by decide) (by decide) λt1 a0 a1=>?_;refine ⟨⟨by omega,by omega⟩,by rw [zbA];omega,?_⟩;rw [zhO];refine zdJ (λk:Nat=>D.int (k:Int)) (λk=>D.tup [.str "mark",.str (nmZ ns k)]) (List.range (1 + t1).toNat) (λk hk=>zf4 zff (zcD (zac ev_k (zac (zfF (ev_v rfl) (ev_v rfl) (zsa (by have:=YCl.mp hk;omega))) zaj)))) ?_;show zam 2 zad (zab (vW 0) (zab (vW 2) nilA)) [.val .box,.val (.int 4),.val (.int 3),.val (.int 8),.val (.lst true (ns.map D.str)),.val (.obj q),.val m0,.val (.lst true ((List.range (1 + t1).toNat).map λk=>D.tup [.str "mark",.str (nmZ ns k)])),.un,.un] _;refine tk rfl (ev_v rfl) (by decide) (by decide) λt2 b0 b1=>?_;refine ⟨⟨by omega,by omega⟩,by rw [zbA];omega,?_⟩;rw [zhO];refine zdJ (λk:Nat=>D.int (k:Int)) (λk=>D.tup [.str "hand",.str (nmZ ns (15 - k))]) (List.range (1 + t2).toNat) (λk hk=>zf4 zff (zcD (zac ev_k (zac (zfF (ev_v rfl) (zhs ev_k (ev_v rfl)) (by
  have:=YCl.mp hk
  rw [show (15:Int) - (k:Int) = ((15 - k:Nat):Int) from by omega];exact zsa (by omega))) zaj)))) ?_
 refine ⟨by rw [YAc,YAc,YA0,YA0];omega,?_⟩;show zam 2 zad (zab (vW 0) (zab (kW (.int 4)) nilA)) [.val .box,.val (.int 4),.val (.int 3),.val (.int 8),.val (.lst true (ns.map D.str)),.val (.obj q),.val m0,.own (((List.range (1 + t1).toNat).map λk=>D.tup [.str "mark",.str (nmZ ns k)]) ++ ((List.range (1 + t2).toNat).map λk=>D.tup [.str "hand",.str (nmZ ns (15 - k))])),.un,.un] _;refine tk rfl ev_k (by decide) (by decide) λt3 c0 c1=>?_;refine ⟨by show 2 <= 100000;decide,by rw [YAp,YAc,YAc,YA0,YA0];omega,?_⟩;rw [<- zqb];have hf:=znC (n1:=(1 + t1).toNat) (n2:=(1 + t2).toNat) (k:=t3) (by omega) nd nok (by omega) (by omega) c0 (by omega);have hz:(zBeg ns (1 + t1).toNat (1 + t2).toNat t3).length <= 8:=by
  unfold zBeg;rw [YAp,YAp,YAc,YAc,YAc,YAc,YA0,YA0];show _ + (_ + 1) <= 8;omega
 generalize zBeg ns (1 + t1).toNat (1 + t2).toNat t3 = zs at hf hz;show zea (.nm 8) _ _ (zs.map (zD s00)) _ [.val .box,.val (.int 4),.val (.int 3),.val (.int 8),.val (.lst true (ns.map D.str)),.val (.obj q),.val m0,.val (.lst true (zs.map (zD s00))),.un,.un];generalize D.lst true (zs.map (zD s00)) = L;refine zdg (λrest S ρ=>∃ zr s m n s8,rest = zr.map (zD s00)/\ρ = [.val .box,.val (.int 4),.val (.int 3),.val (.int 8),.val (.lst true (ns.map D.str)),.val (.obj q),.val m,.val L,s8,.un]/\Zat A S q m s n/\n + zr.length <= 8/\Fits s zr) ?_ ?_ _ _ _ ⟨zs,s00,m0,0,.un,rfl,rfl,⟨hm0,zpU,by simp [s00],[],[],zaR,by simp⟩,by omega,hf⟩
 ·rintro x rest S ρ E' hn hc hr hb ⟨zr,s,m,n,s8,e,rfl,z,hl,hf⟩;cases zr with
  | nil=>cases e
  | cons d zr=>
   rw [YAg] at e;injection e with e1 e2
   subst e1;obtain ⟨⟨f1,f2⟩,f3⟩:=hf;rw [YAz] at hl;unfold gD;refine zfT (C:=λ_=>blW (zef (vW 6))) (zao (zaY (zfi (ev_v rfl))) (by rw [zhp z.m];rfl)) ?_;refine Zat.step (i:=5) (j:=6) (k:=8) z (by omega) f1 rfl rfl (by rw [f2];rfl) λv S' z' _=>?_;unfold gD;exact hn _ _ ⟨zr,zdN s d,v,n + 1,.val (zD s00 d),e2,rfl,z',by omega,f3⟩
 ·rintro S ρ ⟨zr,s,m,n,s8,e,rfl,z,hl,hf⟩;show zam 2 zad (zab (vW 0) (zab (binW addD (vW 3) (kW (.int 1))) nilA)) [.val .box,.val (.int 4),.val (.int 3),.val (.int 8),.val (.lst true (ns.map D.str)),.val (.obj q),.val m,.val L,s8,.un] _;refine tk rfl (zei (ev_v rfl) ev_k) (by decide) (by decide) λt4 d0 d1=>?_;refine ⟨⟨by omega,by omega⟩,?_⟩;refine zdg (λrest S ρ=>∃ s m n s8 s9,ρ = [.val .box,.val (.int 4),.val (.int 3),.val (.int 8),.val (.lst true (ns.map D.str)),.val (.obj q),.val m,.val L,s8,s9]/\Zat A S q m s n/\n + rest.length <= 20) ?_ ?_ _ _ _ ⟨s,m,n,s8,.un,rfl,z,by rw [zbA];omega⟩
  ·rintro x rest S ρ E' hn hc hr hb ⟨s,m,n,s8,s9,rfl,z,hl⟩;rw [YAz] at hl;unfold gD;refine zfT (C:=λ_=>blW (zef (vW 6))) (zao (zaY (zfi (ev_v rfl))) (by rw [zhp z.m];rfl)) ?_;refine ⟨rfl,zd9 (zfm z.m z.ok) λd hd=>?_⟩;unfold gD;rcases hd with rfl | ⟨a,b,r,h,rfl,f⟩
   ·show ifF (λ_=>blW (zef (vW 8))) (asgO (.nm 6) (zf7 3 (za0 A) (λ_ _=>False) (za1 (za2 λS=>vW 5) (za1 (za2 λS=>vW 6) (za1 (za2 λS=>vW 8) nilO))))) nilF E' S [.val .box,.val (.int 4),.val (.int 3),.val (.int 8),.val (.lst true (ns.map D.str)),.val (.obj q),.val m,.val L,.val (.non),.val x];refine zmw (C:=λ_=>blW (zef (vW 8))) (zao (zaY (zfi (x:=.non) (ev_v rfl))) rfl) ?_;exact hn _ _ ⟨s,m,n,.val .non,.val x,rfl,z,by omega⟩
   ·show ifF (λ_=>blW (zef (vW 8))) (asgO (.nm 6) (zf7 3 (za0 A) (λ_ _=>False) (za1 (za2 λS=>vW 5) (za1 (za2 λS=>vW 6) (za1 (za2 λS=>vW 8) nilO))))) nilF E' S [.val .box,.val (.int 4),.val (.int 3),.val (.int 8),.val (.lst true (ns.map D.str)),.val (.obj q),.val m,.val L,.val (zD s (.run a b r h)),.val x];refine zfT (C:=λ_=>blW (zef (vW 8))) (zao (zaY (zfi (x:=zD s (.run a b r h)) (ev_v rfl))) rfl) ?_;refine Zat.step (i:=5) (j:=6) (k:=8) z (by omega) f rfl rfl rfl λv S' z' _=>?_;unfold gD;exact hn _ _ ⟨_,v,n + 1,.val (zD s (.run a b r h)),.val x,rfl,z',by omega⟩
  ·rintro S ρ ⟨s,m,n,s8,s9,rfl,z,hl⟩;exact ⟨by show 3 <= 100000;decide,q,m,_,s,rfl,z.le (by omega)⟩
end Fd
set_option maxHeartbeats 400000
namespace Fd
open PySem L2
theorem zpZ {e:D} {k:Str} (h:e.old = .str k):e = .str k:=by
 cases e with
 | str i=>rw [D.old] at h;exact h
 | non=>rw [D.old] at h;cases h
 | bl _=>rw [D.old] at h;cases h
 | int _=>rw [D.old] at h;cases h
 | box=>rw [D.old] at h;cases h
 | obj _=>rw [D.old] at h;cases h
 | tup _=>rw [D.old] at h;cases h
 | lst _ _=>rw [D.old] at h;cases h
 | dct _ _ _=>rw [D.old] at h;cases h
 | fdc _ _=>rw [D.old] at h;cases h
theorem zq0 {e:D} {xs:List D} (h:e.old = .tup xs):∃ ys,e = .tup ys/\ys.map D.old = xs:=by
 cases e with
 | tup ys=>rw [D.old] at h;injection h with h;exact ⟨ys,rfl,h⟩
 | non=>rw [D.old] at h;cases h
 | bl _=>rw [D.old] at h;cases h
 | int _=>rw [D.old] at h;cases h
 | str _=>rw [D.old] at h;cases h
 | box=>rw [D.old] at h;cases h
 | obj _=>rw [D.old] at h;cases h
 | lst _ _=>rw [D.old] at h;cases h
 | dct _ _ _=>rw [D.old] at h;cases h
 | fdc _ _=>rw [D.old] at h;cases h
theorem zqP {e:D} {xs:List D} (h:e.old = .lst false xs):∃ b ys,e = .lst b ys/\ys.map D.old = xs:=by
 cases e with
 | lst b ys=>rw [D.old] at h;injection h with _ h;exact ⟨b,ys,rfl,h⟩
 | non=>rw [D.old] at h;cases h
 | bl _=>rw [D.old] at h;cases h
 | int _=>rw [D.old] at h;cases h
 | str _=>rw [D.old] at h;cases h
 | box=>rw [D.old] at h;cases h
 | obj _=>rw [D.old] at h;cases h
 | tup _=>rw [D.old] at h;cases h
 | dct _ _ _=>rw [D.old] at h;cases h
 | fdc _ _=>rw [D.old] at h;cases h
theorem zqR {y:D} {r:Zr} (h:y.old = zRow r):y = zRow r:=by
 obtain ⟨ys,rfl,e⟩:=zq0 h;obtain ⟨a,l1,rfl,ha,e⟩:=YAv.mp e;obtain ⟨b,l2,rfl,hb,e⟩:=YAv.mp e;obtain ⟨c,l3,rfl,hc,e⟩:=YAv.mp e;obtain ⟨d,l4,rfl,hd,e⟩:=YAv.mp e;obtain ⟨f,l5,rfl,hf,e⟩:=YAv.mp e
 have:l5 = []:=YBJ.mp e
 subst this;rw [zfd ha,zfd hb,zfd hc,zfd hd,zpZ hf];rfl
theorem zkN:∀ {rs:List Zr} {ys:List D},ys.map D.old = rs.map zRow->ys = rs.map zRow
 | [],ys,h=>YBJ.mp h
 | r :: rs,ys,h=>by
  obtain ⟨y,l,rfl,h1,h2⟩:=YAv.mp h;rw [YAg,zqR h1,zkN h2]
theorem zmA {m:D} {s:Za} (h:m.old = zMod s):∃ n xs b,m = .dct n MK xs/\zaG MK xs "rows" = some (.lst b (s.rs.map zRow))/\zaG MK xs "entered" = some (.int s.en):=by
 cases m with
 | dct n ks xs=>
  rw [D.old] at h;unfold zMod at h;injection h with h1 h2 h3
  subst h2;unfold modL at h3;obtain ⟨a,l1,rfl,_,h3⟩:=YAv.mp h3;obtain ⟨b,l2,rfl,_,h3⟩:=YAv.mp h3;obtain ⟨c,l3,rfl,hc,h3⟩:=YAv.mp h3;obtain ⟨d,l4,rfl,hd,h3⟩:=YAv.mp h3;obtain ⟨e,l5,rfl,_,h3⟩:=YAv.mp h3;obtain ⟨f,l6,rfl,_,h3⟩:=YAv.mp h3
  have:l6 = []:=YBJ.mp h3
  subst this;obtain ⟨t,ys,rfl,hy⟩:=zqP hc;rw [zkN hy,zfd hd];exact ⟨n,_,t,rfl,mk3,mk4⟩
 | non=>rw [D.old] at h;cases h
 | bl _=>rw [D.old] at h;cases h
 | int _=>rw [D.old] at h;cases h
 | str _=>rw [D.old] at h;cases h
 | box=>rw [D.old] at h;cases h
 | obj _=>rw [D.old] at h;cases h
 | tup _=>rw [D.old] at h;cases h
 | lst _ _=>rw [D.old] at h;cases h
 | fdc _ _=>rw [D.old] at h;cases h
theorem zeD {X Y:WF} {E:EnF} {S:Sto} {ρ:Env} (I:Sto->Env->Prop) (hA:∀ E2:EnF,(∀ S ρ,I S ρ->E2.nx S ρ)->(∀ S d,E.rt S d->E2.rt S d)->X E2 S ρ) (hB:∀ S ρ,I S ρ->Y E S ρ):seqF X Y E S ρ:=hA { E with nx:=Y E } hB λS d z=>z
theorem zpy {V:Sto->WE} {E:EnF} {S:Sto} {ρ:Env} {i:Nat} {d:D} (h:Ev (V S) ρ d) (q:E.nx S (ρ.set i (.val d))):zbS (λS=>asgW (.nm i) (V S)) E S ρ:=h _ (by unfold gD;exact q)
theorem ztD {C:Sto->WT} {U:Sto->WS} {B:WF} {E:EnF} {S:Sto} {ρ:Env} (h:EvT (C S) ρ false) (q:B E S ρ):seqF (zbS λS=>ifS (C S) (U S) nilS) B E S ρ:=h _ q
theorem ztp {C:Sto->WT} {X:WOE} {U V:WF} {E:EnF} {S:Sto} {ρ:Env} (h:EvT (C S) ρ false) (q:V E S ρ):ifAN C X U V E S ρ:=h _ q
theorem zrK {C:Sto->WT} {X:WOE} {U V:WF} {E:EnF} {S:Sto} {ρ:Env} (h:EvT (C S) ρ true) (q:X ρ S λd S1=>truD d λt=>if t = true then V E S1 ρ else U E S1 ρ):ifAN C X U V E S ρ:=h _ q
theorem zm3 {b c:Bool} {rs:List Zr} (ho:∀ r ∈ rs,okS r.h = true):eqOk (.lst b (rs.map zRow)) (.lst c []):=by
 refine ⟨?_,by unfold layD;rw [zcF],YAB (YBZ _ _) (by show (toPy (.lst c [])).depth <= 50;exact (by decide:1 <= 50))⟩;unfold layD
 induction rs with
 | nil=>rw [YAK,zcF]
 | cons r rs ih=>
  rw [YAg,zcF,ih λq hq=>ho q (YAf _ hq)]
  have:layD (zRow r) = (true && (true && (true && (true && (PyData.canLay0 (.str r.h) && true))))):=rfl
  rw [this,show PyData.canLay0 (.str r.h) = true from ho r YAs];rfl
theorem zpB (A:Ads):lawF 9 (zdM A):=by
 unfold lawF;show zdM A _ _ [.un,.val .box,.un,.un,.un,.un,.un,.un,.un,.un,.un];unfold zdM;refine zeD (λS ρ=>∃ q m p s,ρ = [.un,.val .box,.val (.obj q),.val m,.val p,.un,.un,.un,.un,.un,.un]/\Zat A S q m s 40) (λE2 h2 _=>?_) ?_
 ·refine zhg (zbs (ev_v rfl) (zbs ev_k (zbs ev_k (zbs ev_k zeN)))) zl5 (λv S' h=>?_) λ_ _ z=>z;obtain ⟨q,m,p,s,rfl,z⟩:=h;unfold gD;refine ⟨rfl,?_⟩;unfold gDs gD gDs gD gDs gD gDs;exact h2 _ _ ⟨q,m,p,s,rfl,z⟩
 rintro S ρ ⟨q,m,p,s,rfl,z⟩;refine zeD (λS' ρ=>S' = S/\ρ = [.un,.val .box,.val (.obj q),.val m,.val p,.un,.un,.un,.un,.un,.un]) (λE2 h2 _=>?_) ?_
 ·exact zly (zao (zaY (zo5 (ev_v rfl))) (zhp z.m)) (h2 _ _ ⟨rfl,rfl⟩)
 rintro S' ρ ⟨rfl,rfl⟩;refine zeD (λS ρ=>∃ s m n s5 s6 s7 s8 s9 s10,ρ = [.un,.val .box,.val (.obj q),.val m,.val p,s5,s6,s7,s8,s9,s10]/\Zat A S q m s n) (λE2 h2 hrt=>?_) ?_
 ·show zam 2 zad (zab (vW 1) (zab (kW (.int 11)) nilA)) [.un,.val .box,.val (.obj q),.val m,.val p,.un,.un,.un,.un,.un,.un] _;refine tk rfl ev_k (by decide) (by decide) λt0 u0 u1=>?_;refine ⟨⟨by omega,by omega⟩,?_⟩;refine zdg (λrest S ρ=>∃ s m n s5 s6 s7 s8 s9 s10,ρ = [.un,.val .box,.val (.obj q),.val m,.val p,s5,s6,s7,s8,s9,s10]/\Zat A S q m s n/\n + rest.length <= 100) ?_ ?_ _ _ _ ⟨s,m,40,.un,.un,.un,.un,.un,.un,rfl,z,by rw [zbA];omega⟩
  ·rintro x rest S ρ E' hn _ _ _ ⟨s,m,n,s5,s6,s7,s8,s9,s10,rfl,z,hl⟩;rw [YAz] at hl;unfold gD;obtain ⟨nb,xs,b,rfl,hrows,hent⟩:=zmA z.m;have hln:=z.ok.rl;have okh:∀ r ∈ s.rs,okS r.h = true:=λr hr=>z.ok.h.okS _ (z.ok.ra r hr).2.2;refine zeD (λS' ρ=>S' = S/\∃ d,(d = .non\/∃ zd,d = zD s zd/\Zfit s zd)/\ρ = [.un,.val .box,.val (.obj q),.val (.dct nb MK xs),.val p,.val x,.val d,s7,s8,s9,s10]) (λE2 h2 _=>?_) ?_
   ·refine ⟨rfl,zd9 (zfm z.m z.ok) λd hd=>?_⟩;unfold gD;exact h2 _ _ ⟨rfl,d,hd.imp_right λ⟨a,b,r,h,e,f⟩=>⟨.run a b r h,e,f⟩,rfl⟩
   rintro S' ρ ⟨rfl,d,hd,rfl⟩;refine zeD (λS2 ρ=>S2 = S'/\∃ w:Int,ρ = [.un,.val .box,.val (.obj q),.val (.dct nb MK xs),.val p,.val x,.val d,.val (.int w),s8,s9,s10]) (λE2 h2 _=>?_) ?_
   ·show zam 2 zad (zab (vW 1) (zab (kW (.int 3)) nilA)) [.un,.val .box,.val (.obj q),.val (.dct nb MK xs),.val p,.val x,.val d,s7,s8,s9,s10] _;refine tk rfl ev_k (by decide) (by decide) λw w0 w1=>?_;unfold gD;exact h2 _ _ ⟨rfl,w,rfl⟩
   rintro S2 ρ ⟨rfl,w,rfl⟩;refine zeD (λS3 ρ=>S3 = S2/\∃ d,(d = .non\/∃ zd,d = zD s zd/\Zfit s zd)/\ρ = [.un,.val .box,.val (.obj q),.val (.dct nb MK xs),.val p,.val x,.val d,.val (.int w),s8,s9,s10]) (λE2 h2 _=>?_) ?_
   ·have erow:Ev (binW zas (vW 3) (kW (.str "rows"))) [.un,.val .box,.val (.obj q),.val (.dct nb MK xs),.val p,.val x,.val d,.val (.int w),s8,s9,s10] (.lst b (s.rs.map zRow)):=zgB (ev_v rfl) hrows;have ec:EvT (andT (blW (binW eqD (vW 7) (kW (.int 0)))) (blW (binW neD (binW zas (vW 3) (kW (.str "rows"))) (valW (lstW nilA))))) [.un,.val .box,.val (.obj q),.val (.dct nb MK xs),.val p,.val x,.val d,.val (.int w),s8,s9,s10] (decide (w = 0) && !(s.rs.map zRow).isEmpty):=zsq (zaY (zk1 (ev_v rfl) ev_k)) λ_=>zaY (zbt erow (za5 (zdu zaj)) λP p=>⟨zm3 okh,by rw [zmZ];exact p⟩);cases hb:(decide (w = 0) && !(s.rs.map zRow).isEmpty) with
    | false=>exact zly (zao ec hb) (h2 _ _ ⟨rfl,d,hd,rfl⟩)
    | true=>
     have l1:1 <= s.rs.length:=by
      cases e:s.rs with
      | nil=>rw [e] at hb;simp at hb
      | cons r rs=>simp
     have hV:∀ Q:D->Prop,(∀ r ∈ s.rs,Q (.int r.n))->binW ixXD (binW ixXD (binW zas (vW 3) (kW (.str "rows"))) (zam 2 zad (zab (vW 1) (zab (cbW zbx (zab (binW zas (vW 3) (kW (.str "rows"))) nilA)) nilA)))) (kW (.int 0)) [.un,.val .box,.val (.obj q),.val (.dct nb MK xs),.val p,.val x,.val d,.val (.int w),s8,s9,s10] Q:=λQ k=>by
      refine erow (λy=>zam 2 zad (zab (vW 1) (zab (cbW zbx (zab (binW zas (vW 3) (kW (.str "rows"))) nilA)) nilA)) [.un,.val .box,.val (.obj q),.val (.dct nb MK xs),.val p,.val x,.val d,.val (.int w),s8,s9,s10] λt=>ixXD y t λu=>ixXD u (.int 0) Q) ?_;refine tk rfl (zeY erow) (by rw [YAc];omega) (by rw [YAc];omega) λt t0 t1=>?_;rw [YAc] at t1;have ht:t.toNat < s.rs.length:=by omega
      have e1:atI (s.rs.map zRow) t = some (zRow s.rs[t.toNat]):=by
       obtain ⟨j,rfl⟩:=YBk t0;exact zar (by rw [YAt,YAk (by omega)];rfl)
      show (match atI (s.rs.map zRow) t with | some u=>ixXD u (.int 0) Q | none=>False);rw [e1];have e2:∀ r:Zr,atI [D.int r.n,.int r.a,.int r.b,.int r.r,.str r.h] 0 = some (.int r.n):=λr=>zar (j:=0) rfl;show (match atI [D.int s.rs[t.toNat].n,.int s.rs[t.toNat].a,.int s.rs[t.toNat].b,.int s.rs[t.toNat].r,.str s.rs[t.toNat].h] 0 with | some u=>Q u | none=>False);rw [e2];exact k _ (YBj ht)
     refine zpf (zao ec hb) (hV _ λr hr=>⟨by show 2 <= 100000;decide,?_⟩);unfold gD;exact h2 _ _ ⟨rfl,_,.inr ⟨.strike r.n,rfl,YAS.mpr ⟨r,hr,rfl⟩⟩,rfl⟩
   clear hd;rintro S3 ρ ⟨rfl,d,hd,rfl⟩;refine zeD (λS4 ρ=>∃ m' s' s8,ρ = [.un,.val .box,.val (.obj q),.val m',.val p,.val x,.val d,.val (.int w),s8,s9,s10]/\Zat A S4 q m' s' (n + 1)) (λE2 h2 hrt=>?_) ?_
   ·rcases hd with rfl | ⟨zd,rfl,f⟩
    ·exact zmw (C:=λ_=>blW (zef (vW 6))) (zao (zaY (zfi (x:=.non) (ev_v rfl))) rfl) (h2 _ _ ⟨_,s,s8,rfl,z.le (by omega)⟩)
    ·refine zfT (C:=λ_=>blW (zef (vW 6))) (zao (zaY (zfi (x:=zD s zd) (ev_v rfl))) (by cases zd <;> rfl)) ?_;refine Zat.step (i:=2) (j:=3) (k:=6) z (by omega) f rfl rfl rfl λv S4 z' hB=>?_;obtain ⟨bs,hS4,hb⟩:=hB;unfold gD;have e8:EvT (blW (isNW (vW 8))) [.un,.val .box,.val (.obj q),.val (.dct nb MK xs),.val p,.val x,.val (zD s zd),.val (.int w),.val v,s9,s10] false:=zao (zaY (zo5 (ev_v rfl))) (zhp z'.m);refine ztD (C:=λ_=>blW (isNW (vW 8))) (U:=λ_=>retW (kW (.bl false))) (ρ:=[.un,.val .box,.val (.obj q),.val (.dct nb MK xs),.val p,.val x,.val (zD s zd),.val (.int w),.val v,s9,s10]) e8 ?_;show zam 2 zad (zab (vW 1) (zab (kW (.int 4)) nilA)) [.un,.val .box,.val (.obj q),.val (.dct nb MK xs),.val p,.val x,.val (zD s zd),.val (.int w),.val v,s9,s10] _;refine tk rfl ev_k (by decide) (by decide) λy y0 y1=>?_;refine ⟨zcJ _ _,?_⟩;rw [ze4];by_cases hy:y = 0
     ·rw [YAy hy];show zc8 2 A.fen "back" 1 (zc7 A) (λ_ _=>False) nilO [.un,.val .box,.val (.obj q),.val (.dct nb MK xs),.val p,.val x,.val (zD s zd),.val (.int w),.val v,s9,s10] S4 _;refine zd1 (q:=q) rfl hS4 zqF zeN (zn8 hS4 λy hy=>(z.ok.dd y hy).1) (λv2 S5 h=>?_) λ_ _ z=>z;obtain ⟨rfl,us,rfl⟩:=h;have dn:=z.dn;exact h2 _ _ ⟨_,s,.val v,rfl,z.m,z.ok,by omega,bs,us,zaR,by omega⟩
     ·rw [YAq hy];have e9:Ev (vW 8) [.un,.val .box,.val (.obj q),.val (.dct nb MK xs),.val p,.val x,.val (zD s zd),.val (.int w),.val v,s9,s10] v:=ev_v rfl;exact zpy (V:=λ_=>vW 8) e9 (h2 _ _ ⟨v,zdN s zd,.val v,rfl,z'⟩)
   clear hd hrows hent hln okh z;rintro S4 ρ ⟨m,s,s8,rfl,z⟩;obtain ⟨nb,xs,b,rfl,hrows,hent⟩:=zmA z.m;obtain ⟨bs,us,hS,hb⟩:=z.ex;have hln:=z.ok.rl;refine zeD (λS5 ρ=>S5 = S4/\ρ = [.un,.val .box,.val (.obj q),.val (.dct nb MK xs),.val p,.val x,.val d,.val (.int w),s8,.val (.lst true ((s.rs.map (·.n)).map D.int)),s10]) (λE2 h2 _=>?_) ?_
   ·have en:Ev (valW (zaC [none] (za4 (binW zas (vW 3) (kW (.str "rows")))) (.nm 0) noIf (binW ixXD (vW 0) (kW (.int 0))))) [.un,.val .box,.val (.obj q),.val (.dct nb MK xs),.val p,.val x,.val d,.val (.int w),s8,s9,s10] (.lst true ((s.rs.map (·.n)).map D.int)):=zkg (zcU (zgB (ev_v rfl) hrows)) (by omega);exact zpy (V:=λ_=>valW (zaC [none] (za4 (binW zas (vW 3) (kW (.str "rows")))) (.nm 0) noIf (binW ixXD (vW 0) (kW (.int 0))))) en (h2 _ _ ⟨rfl,rfl⟩)
   rintro S5 ρ ⟨rfl,rfl⟩;refine zeD (λS6 ρ=>S6 = S5/\ρ = [.un,.val .box,.val (.obj q),.val (.dct nb MK xs),.val p,.val x,.val d,.val (.int w),s8,.val (.lst true ((s.rs.map (·.n)).map D.int)),s10]) (λE2 h2 _=>?_) ?_
   ·have sm:sameOk (.lst true ((s.rs.map (·.n)).map D.int)) 5 = true:=zeB (λy hy=>by obtain ⟨k,_,rfl⟩:=YAS.mp hy;exact zeF) (by rw [YAc,YAc];omega);exact zly (zao (zkP (zkW (za8 (zac (zjW (zcU (zb2 (q:=q) rfl hS zmU (zhW hS))) (by omega)) (zac (ev_v rfl) zaj)) (zdH 5 _ _ rfl sm)))) rfl) (h2 _ _ ⟨rfl,rfl⟩)
   rintro S6 ρ ⟨rfl,rfl⟩;have ee:Ev (binW addD (binW zas (vW 3) (kW (.str "entered"))) (kW (.int 1))) [.un,.val .box,.val (.obj q),.val (.dct nb MK xs),.val p,.val x,.val d,.val (.int w),s8,.val (.lst true ((s.rs.map (·.n)).map D.int)),s10] (.int (s.en + 1)):=zei (zgB (ev_v rfl) hent) ev_k;have hI:∀ K:List D->Prop,(∀ t:Int,K [.int 0,.int (s.en + 1),.int t])->za4 (tupW (zab (kW (.int 0)) (zab (binW addD (binW zas (vW 3) (kW (.str "entered"))) (kW (.int 1))) (zab (zam 2 zad (zab (vW 1) (zab (kW (.int 30)) nilA))) nilA)))) [.un,.val .box,.val (.obj q),.val (.dct nb MK xs),.val p,.val x,.val d,.val (.int w),s8,.val (.lst true ((s.rs.map (·.n)).map D.int)),s10] K:=λK k=>by
    refine ee (λy=>zam 2 zad (zab (vW 1) (zab (kW (.int 30)) nilA)) [.un,.val .box,.val (.obj q),.val (.dct nb MK xs),.val p,.val x,.val d,.val (.int w),s8,.val (.lst true ((s.rs.map (·.n)).map D.int)),s10] λt=>([D.int 0,y,t].length <= 100000/\zn7 (.tup [.int 0,y,t]) K)) ?_;exact tk rfl ev_k (by decide) (by decide) λt _ _=>⟨by show 3 <= 100000;decide,k t⟩
   refine hI (λys=>zea (.nm 10) _ _ ys _ _) λt=>?_;refine zdg (λrest S ρ=>(∀ y ∈ rest,∃ k,y = D.int k)/\S = S6/\∃ s10,ρ = [.un,.val .box,.val (.obj q),.val (.dct nb MK xs),.val p,.val x,.val d,.val (.int w),s8,.val (.lst true ((s.rs.map (·.n)).map D.int)),s10]) ?_ ?_ _ _ _ ⟨λy hy=>?_,rfl,s10,rfl⟩
   ·rintro y rest S ρ E3 hn3 _ _ _ ⟨hy,rfl,s10,rfl⟩;obtain ⟨k,rfl⟩:=hy y YAs;have hy':∀ y ∈ rest,∃ k,y = D.int k:=λy h=>hy y (YAf _ h);unfold gD;have ec:EvT (blW (binW (inXD true) (vW 10) (vW 9))) [.un,.val .box,.val (.obj q),.val (.dct nb MK xs),.val p,.val x,.val d,.val (.int w),s8,.val (.lst true ((s.rs.map (·.n)).map D.int)),.val (.int k)] (!(s.rs.map (·.n)).contains k):=zaY (zhZ (ev_v rfl) (ev_v rfl));cases hc:(s.rs.map (·.n)).contains k with
    | true=>exact ztp (C:=λ_=>blW (binW (inXD true) (vW 10) (vW 9))) (zao ec (by rw [hc];rfl)) (hn3 _ _ ⟨hy',rfl,_,rfl⟩)
    | false=>
     have nk:k ∉ s.rs.map (·.n):=λz=>by rw [YBD.mpr z] at hc;cases hc
     refine zrK (C:=λ_=>blW (binW (inXD true) (vW 10) (vW 9))) (zao ec (by rw [hc];rfl)) ?_;exact zhg (zbs (ev_v rfl) (zbs (ev_v rfl) (zbs (zjz (ev_v rfl) ev_k) zeN))) (zlm hS z.ok nk) (λv S' h=>by obtain ⟨rfl,rfl⟩:=h;exact hn3 _ _ ⟨hy',rfl,_,rfl⟩) λ_ _ z=>z
   ·rintro S ρ ⟨_,rfl,s10,rfl⟩;exact hn _ _ ⟨s,_,n + 1,.val x,.val d,.val (.int w),s8,.val (.lst true ((s.rs.map (·.n)).map D.int)),s10,rfl,z,by omega⟩
   ·simp only [YAu,YAC,YBR] at hy;rcases hy with rfl | rfl | rfl <;> exact ⟨_,rfl⟩
  ·rintro S ρ ⟨s,m,n,s5,s6,s7,s8,s9,s10,rfl,z,hl⟩;exact h2 _ _ ⟨s,m,n,s5,s6,s7,s8,s9,s10,rfl,z⟩
 rintro S ρ ⟨s,m,n,s5,s6,s7,s8,s9,s10,rfl,z⟩;obtain ⟨bs,us,hS,hb⟩:=z.ex;exact ⟨rfl,zd9 (zlL z.m hS z.ok) λd e=>e⟩
end Fd
namespace Fen
open PySem L2
def top (i:Nat):Stmt:=PySem.Challenge.pw_fenlevel_k39_whole_numbers_are_given_onc.main.body.getD i (.Pass ⟨0,0,0,0⟩)
abbrev zqH:Stmt:=top 0
abbrev zdE:Stmt:=top 18
abbrev zga:Stmt:=top 19
abbrev zex:Stmt:=top 21
abbrev zeO:Stmt:=top 22
abbrev zc6:Stmt:=top 23
abbrev zdb:Stmt:=top 24
abbrev zdc:Stmt:=top 31
abbrev zc4:Stmt:=top 32
abbrev zbH:Stmt:=top 33
abbrev zdz:Stmt:=top 34
abbrev zdK:Stmt:=top 35
abbrev zez:Stmt:=top 36
abbrev zcb:Stmt:=top 37
abbrev zb5:Stmt:=top 38
abbrev zcu:Stmt:=top 39
abbrev zcZ:Stmt:=top 40
abbrev zc3:Stmt:=top 41
abbrev zdV:Stmt:=top 42
abbrev zdm:Stmt:=top 43
abbrev zee:Stmt:=top 44
abbrev zbw:Stmt:=top 45
abbrev zct:Stmt:=top 47
abbrev zbu:Stmt:=top 49
abbrev sBox:Stmt:=top 52
abbrev zjQ:Stmt:=top 53
abbrev zmj:Stmt:=top 54
abbrev zid:Stmt:=top 55
abbrev zh0:Stmt:=top 56
abbrev zi8:Stmt:=top 57
abbrev zij:Stmt:=top 58
abbrev zh5:Stmt:=top 59
abbrev zeT:Stmt:=top 60
abbrev znk:Stmt:=top 61
abbrev zet:Stmt:=top 62
abbrev zmC:Stmt:=top 63
abbrev znr:Stmt:=top 64
abbrev sDue:Stmt:=top 65
abbrev zi0:Stmt:=top 66
abbrev zh7:Stmt:=top 67
abbrev zeR:Stmt:=top 68
abbrev ziU:Stmt:=top 69
abbrev ziE:Stmt:=top 70
abbrev sLaw:Stmt:=top 71
def clB:Stmt->Nat->Stmt
 | .ClassDef _ _ _ b _ _ _ _ _ _ _,j=>b.getD j (.Pass ⟨0,0,0,0⟩)
 | _,_=>.Pass ⟨0,0,0,0⟩
abbrev zbJ:Stmt:=clB (top 50) 0
abbrev zeA:Stmt:=clB (top 50) 1
abbrev zfW:Stmt:=clB (top 50) 2
abbrev zf3:Stmt:=clB (top 50) 3
abbrev zhG:Stmt:=clB (top 50) 4
abbrev zcA:Stmt:=clB (top 50) 5
abbrev zdW:Stmt:=clB (top 50) 6
abbrev zeg:Stmt:=clB (top 50) 7
abbrev ze5:Stmt:=clB (top 50) 8
abbrev zfM:Stmt:=clB (top 50) 9
abbrev zfc:Stmt:=clB (top 50) 10
abbrev zdS:Stmt:=clB (top 50) 11
abbrev zdF:Stmt:=clB (top 50) 12
abbrev zfb:Stmt:=clB (top 50) 13
abbrev zda:Stmt:=clB (top 50) 14
abbrev zfH:Stmt:=clB (top 50) 15
abbrev zc1:Stmt:=clB (top 50) 16
abbrev zc5:Stmt:=clB (top 50) 17
abbrev zcx:Stmt:=clB (top 50) 18
abbrev zcz:Stmt:=clB (top 50) 19
abbrev zb9:Stmt:=clB (top 50) 20
abbrev zdR:Stmt:=clB (top 50) 21
abbrev zbK:Stmt:=clB (top 50) 22
abbrev zek:Stmt:=clB (top 50) 23
abbrev zeZ:Stmt:=clB (top 50) 24
abbrev zdl:Stmt:=clB (top 50) 25
abbrev zfY:Stmt:=clB (top 50) 26
abbrev zcw:Stmt:=clB (top 50) 27
abbrev ze7:Stmt:=clB (top 50) 28
abbrev zem:Stmt:=clB (top 50) 29
abbrev zdT:Stmt:=clB (top 50) 30
abbrev zhF:Stmt:=clB (top 50) 31
section
variable {P:Program} {w:PySem.World} {K:PySem.W.Frag} {mg:Str->Option Value} {base:Heap}
theorem ztI:FnScope ["_law_script"] ["_law_script"] (zak sBox):=⟨rfl,rfl,rfl,by decide +kernel,rfl,by decide +kernel,by decide +kernel⟩
theorem zrM {f:Addr} {fd:FuncData} (F:Fun K "_law_box" "_law_box" sBox f fd) (T:Txt K mg):FnOk P w K mg base CX0 1 f fd ["_law_script"] (zpF K):=by
 refine F.ok ztI (λvs H Q E h=>?_) (λcdv A outer s H vs Q E hr h=>?_)
 ·obtain ⟨a,ns,rfl,_⟩:=h;rfl
 ·obtain ⟨a,ns,rfl,hS,hl,k⟩:=h;refine ⟨_,zdC (zgf (zpq (zaD (zcd zdI rfl T.list YBo (zaD (zkl sl_list (pv 0) zlY (zni zaW)) zbn)) (zaD zaW (zaD zaW (zaD zaW zbn)))))),?_⟩;refine ⟨_,rfl,_,rfl,a,_,rfl,hS,λp hp=>?_⟩;rw [ztA hl];refine ⟨p,_,rfl,.inl (SqL.of zae),λc hc=>⟨by show 4 <= sizeLine;decide,λb hb=>?_⟩⟩;have hcp:c ≠ p:=λz=>by rw [z,zae] at hc;cases hc
  have hbc:b ≠ c:=λz=>by rw [z,zae] at hb;cases hb
  have hb1:upd H p (.lst (ns.map V.int)) b = none:=by rw [upd_ne hbc] at hb;exact hb
  have hbp:b ≠ p:=λz=>by rw [z,zae] at hb1;cases hb1
  have hc0:H c = none:=by rw [upd_ne hcp] at hc;exact hc
  have hb0:H b = none:=by rw [upd_ne hbp] at hb1;exact hb1
  refine k b c _ hb0 ⟨⟨0,0,17,zae,by decide,by decide,by decide,by decide⟩,by rw [upd_ne hbc.symm,zae],hl⟩ λx o e=>?_;rw [upd_ne (zaw e hb0),upd_ne (zaw e hc0),upd_ne (zaw e hp)];exact e
theorem scTake:FnScope ["_law_box_here","_law_many","_law_rest","_law_cell","_law_seed"] ["_law_box_here","_law_many"] (zak zjQ):=⟨rfl,rfl,rfl,by decide +kernel,rfl,by decide +kernel,by decide +kernel⟩
theorem zjD {f:Addr} {fd:FuncData} (F:Fun K "_law_take" "_law_take" zjQ f fd) (T:Txt K mg):FnOk P w K mg base CX0 1 f fd ["_law_box_here","_law_many"] zr1:=by
 refine F.ok scTake (λvs H Q E h=>?_) (λcdv A outer s H vs Q E hr h=>?_)
 ·obtain ⟨b,c,ns,m,rfl,_⟩:=h;rfl
 ·obtain ⟨b,c,ns,m,rfl,B,m0,m1,k⟩:=h;refine ⟨_,zaL (zjO (zhN zrX (zf1 ix_list (pv 0) zaW (λ_ _=>rfl)) zaW (zeb _))
    (zaL (zdx (i:=2) scTake.nd rfl (Or.inl rfl) (zf1 ix_list (pv 0) zaW (λ_ _=>rfl)))
    (zaL (zgL (zdX zkF (pv 2) (pv 1)) (zkS (pv 0) zaW zeG))
    (zdC (zgf (zdX zgK (pv 2) (pv 1)))))) zfI)
   (zaL (zdx (i:=3) scTake.nd rfl (Or.inl rfl) zaW)
   (zaL (zjO (zhN zrG (zf1 ix_list (pv 0) zaW (λ_ _=>rfl)) (zhz call_len_seq rfl T.len PySem.boot_len (zaD (zf1 ix_list (pv 0) zaW (λ_ _=>rfl)) zbn)) (zeb _))
    (zaL (zdx (i:=3) scTake.nd rfl (Or.inl rfl) (zf1 ix_list (zf1 ix_list (pv 0) zaW (λ_ _=>rfl)) (zf1 ix_list (pv 0) zaW (λ_ _=>rfl)) (λ_ _=>rfl)))
    (zdC (zpQ (pv 0) zaW znO zaW zr9 zeG))) zfI)
   (zaL (zjO (zhN zrh (pv 3) (zdX zo0 zaW zaW) (zeb _))
    (zaL (zgL (zdX zkF (pv 3) (pv 1)) (zkS (pv 0) zaW zeG))
    (zdC (zgf (zdX zgK (pv 3) (pv 1))))) zfI)
   (zaL (zdx (i:=4) scTake.nd rfl (Or.inl rfl) (zf1 ix_list (pv 0) zaW (λ_ _=>rfl)))
   (zaL (zdx (i:=4) scTake.nd rfl (Or.inl rfl) (zdX op_add (zdX op_add (zdX zo0 (pv 4) zaW) (zdX op_mul zaW (pv 4))) (zdX op_mul zaW (zdX zgK (pv 3) zaW))))
   (zaL (zgL (zdX zgK (zdX op_add (pv 4) zaW) zaW) (zkS (pv 0) zaW zeG))
   (zdC (zgf (zdX zgK (zdX zqc (zf1 ix_list (pv 0) zaW (λ_ _=>rfl)) zaW) (pv 1)))))))))),?_⟩
  obtain ⟨p,r,d,e,hp0,hr0,hd0,hd1⟩:=B.ex;refine ⟨_,rfl,b,_,_,.int r,rfl,rfl,SqL.of e,rfl,_,_,rfl,rfl,_,rfl,?_⟩;refine ite2 (λh0=>?_) (λh0=>?_)
  ·refine ⟨_,rfl,b,_,_,.int r,rfl,rfl,SqL.of e,rfl,?_⟩;refine ⟨_,rfl,_,rfl,_,_,rfl,rfl,⟨m0,m1⟩,_,rfl,b,_,_,2,rfl,rfl,e,rfl,?_⟩;refine ⟨_,rfl,_,rfl,_,_,rfl,rfl,m0,?_⟩;exact k _ _ (YBg _ (by omega)) (YAU _ m0) (B.put hp0 (YCG hr0 (by omega)) hd0 hd1) Ext.upd
  refine ⟨_,rfl,b,_,_,.int p,rfl,rfl,SqL.of e,rfl,_,rfl,b,_,_,.ref c,rfl,rfl,SqL.of e,rfl,c,_,rfl,.inl (SqL.of B.cells),_,_,rfl,rfl,_,rfl,?_⟩;refine ite2 (λh1=>?_) (λh1=>?_)
  ·have hlt:=YAZ h1;rw [YAc] at hlt;obtain ⟨z,hz⟩:∃ z,ns[p.toNat]? = some z:=⟨_,YAk (by omega)⟩;have hat:atI (ns.map V.int) p = some (.int z):=by
    have q:=zar (xs:=ns.map V.int) (j:=p.toNat) (v:=.int z) (by rw [YAt,hz];rfl)
    rwa [Int.toNat_of_nonneg hp0] at q
   refine ⟨_,rfl,b,_,_,.ref c,rfl,rfl,SqL.of e,rfl,_,rfl,b,_,_,.int p,rfl,rfl,SqL.of e,rfl,c,_,_,.int z,rfl,rfl,SqL.of B.cells,hat,?_⟩;refine ⟨_,rfl,b,_,1,.int p,rfl,rfl,SqL.of e,rfl,_,_,rfl,rfl,b,_,_,1,rfl,rfl,e,rfl,?_⟩;have e1:upd H b (boxV c (p + 1) r d) b = some (boxV c (p + 1) r d):=zae;have hp1:0 <= p + 1:=by omega
   have B1:=B.put hp1 hr0 hd0 hd1;have X1:Ext b H (upd H b (boxV c (p + 1) r d)):=Ext.upd;refine ⟨_,rfl,_,_,rfl,rfl,⟨by decide,by decide,by decide⟩,_,_,rfl,rfl,_,rfl,?_⟩;refine ite2 (λh2=>?_) (λh2=>?_)
   ·refine ⟨_,rfl,_,rfl,_,_,rfl,rfl,⟨m0,m1⟩,_,rfl,b,_,_,2,rfl,rfl,e1,rfl,_,rfl,_,rfl,_,_,rfl,rfl,m0,?_⟩;have hz0:(0:Int) <= z:=by
     have:=YAZ h2
     exact Int.le_trans (by decide) this
    exact k _ _ (YBg _ (by omega)) (YAU _ m0) (B1.put hp1 (YCG hz0 (by omega)) hd0 hd1) (X1.trans Ext.upd)
   ·refine ⟨_,rfl,b,_,_,.int d,rfl,rfl,SqL.of e1,rfl,?_⟩;refine ⟨_,rfl,_,_,rfl,rfl,⟨by decide,by decide,by omega⟩,_,rfl,_,_,rfl,rfl,.inl ⟨by decide,by decide⟩,_,_,rfl,rfl,_,rfl,_,_,rfl,rfl,(by show (0:Int) < 2147483629;decide),_,_,rfl,rfl,.inl ⟨by decide,by decide⟩,_,_,rfl,rfl,?_⟩;refine ⟨_,rfl,_,_,rfl,rfl,_,_,rfl,rfl,(by show (0:Int) < 2147483629;decide),_,rfl,b,_,_,3,rfl,rfl,e1,rfl,?_⟩;refine ⟨_,rfl,b,_,_,_,rfl,rfl,SqL.of zae,rfl,_,_,rfl,rfl,⟨by decide,by decide⟩,_,rfl,_,_,rfl,rfl,m0,?_⟩;exact k _ _ (YBg _ (by omega)) (YAU _ m0) (B1.put hp1 hr0 (YBg _ (by decide)) (YAU _ (by decide))) (X1.trans Ext.upd)
  ·have e1:=e;have hp1:=hp0;have B1:=B;have X1:Ext b H H:=Ext.refl _ _;refine ⟨_,rfl,_,_,rfl,rfl,⟨by decide,by decide,by decide⟩,_,_,rfl,rfl,_,rfl,?_⟩;refine ite2 (λh2=>?_) (λh2=>?_)
   ·refine ⟨_,rfl,_,rfl,_,_,rfl,rfl,⟨m0,m1⟩,_,rfl,b,_,_,2,rfl,rfl,e1,rfl,_,rfl,_,rfl,_,_,rfl,rfl,m0,?_⟩;have hz0:(0:Int) <= 0:=Int.le_refl _;exact k _ _ (YBg _ (by omega)) (YAU _ m0) (B1.put hp1 (YCG hz0 (by omega)) hd0 hd1) (X1.trans Ext.upd)
   ·refine ⟨_,rfl,b,_,_,.int d,rfl,rfl,SqL.of e1,rfl,?_⟩;refine ⟨_,rfl,_,_,rfl,rfl,⟨by decide,by decide,by omega⟩,_,rfl,_,_,rfl,rfl,.inl ⟨by decide,by decide⟩,_,_,rfl,rfl,_,rfl,_,_,rfl,rfl,(by show (0:Int) < 2147483629;decide),_,_,rfl,rfl,.inl ⟨by decide,by decide⟩,_,_,rfl,rfl,?_⟩;refine ⟨_,rfl,_,_,rfl,rfl,_,_,rfl,rfl,(by show (0:Int) < 2147483629;decide),_,rfl,b,_,_,3,rfl,rfl,e1,rfl,?_⟩;refine ⟨_,rfl,b,_,_,_,rfl,rfl,SqL.of zae,rfl,_,_,rfl,rfl,⟨by decide,by decide⟩,_,rfl,_,_,rfl,rfl,m0,?_⟩;exact k _ _ (YBg _ (by omega)) (YAU _ m0) (B1.put hp1 hr0 (YBg _ (by decide)) (YAU _ (by decide))) (X1.trans Ext.upd)
end
end Fen
namespace Fd
open PySem L2
section
variable {P:Program} {w:World} {K:PySem.W.Frag} {mg:Str->Option Value} {base:Heap}
theorem zjD {f:Addr} {fd:FuncData} (F:Fun K "_law_take" "_law_take" Fen.zjQ f fd) (T:Bt mg):FnOk P w K mg base CX0 1 f fd ["_law_box_here","_law_many"] (spD K 2 zad):=by
 refine (Fen.zjD F ⟨T.list,T.len,T.range⟩).imp λvs H Q E ⟨β,G,ds,gh,bx,hv,hl,P',q,hP⟩=>?_;unfold zad at q;split at q
 ·rename_i m
  obtain ⟨v1,v2,rfl,e1,e2⟩:=zsT hv;cases e1;cases e2;obtain ⟨cc,p,r,d,ns,hb,p0,r0,d0,d1,hc,hn⟩:=bx.ex;refine ⟨β,cc,ns,m,rfl,⟨⟨p,r,d,hb,p0,r0,d0,d1⟩,gh _ _ hc,hn⟩,q.1.1,q.1.2,λx H' x0 x1 B X=>?_⟩;refine hP _ (q.2 x x0 x1) _ H' G ⟨Same.refl _,λa o e=>?_,λa o n e=>X a o n e,λa e=>.inl e,⟨?_,bx.still⟩,λz=>by (rw [hb] at z;cases z),λcc2 p2 r2 d2 h2=>by
   rw [hb] at h2;cases h2;obtain ⟨p',r',d',e',_⟩:=B.ex;exact ⟨p',r',d',e'⟩⟩ rfl
  ·have na:a ≠ β:=λz=>by rw [z,bx.still] at e;cases e
   exact X a o na (gh a o e)
  ·obtain ⟨p',r',d',e',q'⟩:=B.ex;exact ⟨cc,p',r',d',ns,e',q'.1,q'.2.1,q'.2.2.1,q'.2.2.2,hc,hn⟩
 ·exact q.elim
def zmB (K:PySem.W.Frag):Sp:=λvs H Q _=>∃ (a:Addr) (ns:List Int),vs = [.ref a]/\SqL K H a (ns.map V.int)/\ns.length <= 63/\∀ H',Q (.bl true) H'
theorem zpL {f:Addr} {fd:FuncData} {st:Stmt} {rest:List Stmt} {N:List Str} {n k:Nat} {B:WF} {p1 p2 p3 p4 p5:Pos} (F:Fun K "law" "law" st f fd)
  (hbd:zbd st = .Assign [.Name "_law_box_here" p1] (.Call (.Name "_law_box" p2) [.Name "_law_script" p3] [] p4) p5 :: rest)
  (cB:Cal P w K mg base "_law_box" 1 ["_law_script"] (Fen.zpF K))
  (hB:∀ {cdv:Value} {A:Around} {outer:List PySem.Env} {s:Shared} {H:Hp} {E:XK} {β:Addr} {H1 G1:Hp},(("_law_script" :: "_law_box_here" :: N:List Str)).Nodup->Room k (A.deeper (PyProof.Rows.envOfC "law" (zak st) s.heap.objs.size f cdv)) ->
   OSs (cxOf CX0 P w K mg base ("_law_script" :: "_law_box_here" :: N) "law" (zak st) f cdv A outer s H E).nox ⟨K,β,H1,G1,λ_=>none⟩ rest B)
  (h:lawF n B) (hN:N.length = n:=by rfl) (S:FnScope ("_law_script" :: "_law_box_here" :: N) ["_law_script"] (zak st):=by exact ⟨rfl,rfl,rfl,by decide +kernel,rfl,by decide +kernel,by decide +kernel⟩)
  (hgl:(zak st).names.lookup ("_law_box" : Str) = some .globalImplicit:=by decide +kernel) (hs0:(zak st).names.lookup ("_law_script" : Str) = some .local:=by decide +kernel) (hs1:(zak st).names.lookup ("_law_box_here" : Str) = some .local\/(zak st).names.lookup ("_law_box_here" : Str) = some .cell:=by decide +kernel) (hk:1 <= k:=by decide):FnOk P w K mg base CX0 (k + 1) f fd ["_law_script"] (zmB K):=by
 refine F.ok S (λvs H Q E ⟨a,ns,e,_⟩=>by rw [e];rfl) (λcdv A outer s H vs Q E hr ⟨a,ns,e,hS,hl,q⟩=>?_);subst e;have hrest:PSs (cxOf CX0 P w K mg base ("_law_script" :: "_law_box_here" :: N) "law" (zak st) f cdv A outer s H E).nox rest (λD σ H'=>∃ β H1 G1,tOS ⟨K,β,H1,G1,λ_=>none⟩ B D σ H'):=λpins s' σ H' D I ⟨β,H1,G1,z⟩=>(@hB cdv A outer s H E β H1 G1 S.nd hr).pss pins s' σ H' D I z;rw [hbd];obtain ⟨fB,fdB,FB,mB,kB,bB⟩:=cB.ex;refine ⟨_,zaL (zdx (i:=1) S.nd rfl hs1 (zdL FB (hr.mono hk) hgl mB kB bB .nil zjT (zaD (zbf (i:=0) rfl (.inl hs0)) zbn)) rfl (.inl rfl)) hrest,?_⟩;refine ⟨.ref a,rfl,a,ns,rfl,hS,hl,λb cc H1 hb Bx Sm=>?_⟩;obtain ⟨p,r,d,e,p0,r0,d0,d1⟩:=Bx.ex;have hcc:=Bx.cells;have nb:b ≠ cc:=Bx.ne
 let G1:Hp:=λx=>if x = cc then some (.lst (ns.map V.int)) else none
 have gcc:G1 cc = some (.lst (ns.map V.int)):=by show (if cc = cc then _ else _) = _;rw [if_pos rfl]
 have gb:G1 b = none:=by show (if b = cc then _ else _) = _;rw [if_neg nb]
 have gh:Same G1 H1:=λx o ex=>by
  have ex':(if x = cc then some (HO.lst (ns.map V.int)) else none) = some o:=ex;split at ex'
  ·rename_i z;rw [z,hcc];exact ex'
  ·cases ex'
 have bx:BoxD b H1 G1:=⟨⟨cc,p,r,d,ns,e,p0,r0,d0,d1,gcc,Bx.few⟩,gb⟩;have kn:∃ ad,Kn K b G1 (λ_=>none) (λ_=>none) ad:=⟨λ_=>[],λp o z=>(by cases z),λp o i a x z=>(by cases z),λp q i j a z=>absurd rfl z,λa o z=>(by cases z),λa z=>absurd rfl z⟩;have ou:Out ⟨K,b,H1,G1,λ_=>none⟩ (λ_=>none) G1:=⟨λa z=>absurd rfl z,Same.refl _,λa z=>.inl z,gh,Dm.refl _⟩;refine ⟨b,H1,G1,.un :: .val .box :: List.replicate n .un,G1,λ_=>none,λ_=>none,⟨G1,ou,⟨?_,Stp.refl gh bx,λi sl ei=>?_,λi j x xs ys ei=>?_,kn⟩⟩,(@hB cdv A outer s H E b H1 G1 S.nd hr).mono { nx:=λ_ _=>False,rt:=λ_ d=>d = .bl true,bk:=λ_ _=>False,ct:=λ_ _=>False } _ _ _ ⟨λ_ ρ z=>z.elim,λ_ d z v H' G' M' G2 _ _ t _ ev=>?_,λ_ ρ z=>z.elim,λ_ ρ z=>z.elim⟩ h⟩
 ·simp [L2.zen,hN]
 ·match i with
  | 0=>cases ei;trivial
  | 1=>cases ei;exact ⟨.ref b,rfl,rfl⟩
  | i + 2=>
   rw [YAw,YAw,YA6] at ei;split at ei <;> cases ei
   trivial
 ·match i with
  | 0=>cases ei
  | 1=>cases ei
  | i + 2=>
   rw [YAw,YAw,YA6] at ei;split at ei <;> cases ei
 ·subst z;cases ev;exact q H'
end
end Fd
namespace Fd
open PySem L2 Fen
section
variable {P:Program} {w:World} {K:PySem.W.Frag} {mg:Str->Option Value} {base:Heap}
local macro_rules | `(tactic| decreasing_trivial)=>`(tactic| first | assumption | exact Bt.len ‹_› | exact Bd.dict ‹_› | exact Bd.abs ‹_› | exact zsc ‹_› | exact Bt.range ‹_› | exact Bt.list ‹_› | exact Bt.isinstance ‹_› | exact Bt.all ‹_› | exact Bt.tuple ‹_› | exact Bt.sorted ‹_› | exact Bt.set ‹_› | exact Bt.zip ‹_› | exact Bt.enumerate ‹_› | exact Bt.any ‹_› | exact Bt.min ‹_› | exact Bt.max ‹_› | exact Bt.int ‹_› | exact Bt.bool ‹_› | exact Bt.str ‹_› | exact Room.mono ‹_› (by first | decide | omega) | exact Room.units ‹_› | exact YBo | exact PyProof.Rows.boot_tuple | exact PyProof.Rows.boot_int | exact PyProof.Rows.boot_bool | exact PyProof.Rows.boot_str | decide | exact ndB_of (by kernel_rfl))
structure Xh (K:PySem.W.Frag) (mg:Str->Option Value) (aFenError aBadName aTaken aFull aNoMark aNoHand aSame aBadRise aNoRun aAside aNotAside aBadNumber aNothingLeft:Addr):Prop where
 m_FenError:mg "FenError" = some (.ref aFenError)
 m_BadName:mg "BadName" = some (.ref aBadName)
 m_Taken:mg "Taken" = some (.ref aTaken)
 m_Full:mg "Full" = some (.ref aFull)
 m_NoMark:mg "NoMark" = some (.ref aNoMark)
 m_NoHand:mg "NoHand" = some (.ref aNoHand)
 m_Same:mg "Same" = some (.ref aSame)
 m_BadRise:mg "BadRise" = some (.ref aBadRise)
 m_NoRun:mg "NoRun" = some (.ref aNoRun)
 m_Aside:mg "Aside" = some (.ref aAside)
 m_NotAside:mg "NotAside" = some (.ref aNotAside)
 m_BadNumber:mg "BadNumber" = some (.ref aBadNumber)
 m_NothingLeft:mg "NothingLeft" = some (.ref aNothingLeft)
 o_BadName:PySem.W.excIn K aBadName ze3 "ValueError.__new__" = true
 o_Taken:PySem.W.excIn K aTaken ze3 "ValueError.__new__" = true
 o_Full:PySem.W.excIn K aFull ze3 "ValueError.__new__" = true
 o_NoMark:PySem.W.excIn K aNoMark ze3 "ValueError.__new__" = true
 o_NoHand:PySem.W.excIn K aNoHand ze3 "ValueError.__new__" = true
 o_Same:PySem.W.excIn K aSame ze3 "ValueError.__new__" = true
 o_BadRise:PySem.W.excIn K aBadRise ze3 "ValueError.__new__" = true
 o_NoRun:PySem.W.excIn K aNoRun ze3 "ValueError.__new__" = true
 o_BadNumber:PySem.W.excIn K aBadNumber ze3 "ValueError.__new__" = true
 o_NothingLeft:PySem.W.excIn K aNothingLeft ze3 "ValueError.__new__" = true
 x_NoRun:PySem.W.exmOne K (.ref aNoRun) (.ref aNoRun) = some true
structure Fc (K:PySem.W.Frag) (mg:Str->Option Value) (A:Ads):Prop where
 cls:Cls K A.fen
 n_kept:NoAttr K A.fen "kept"
 n_books:NoAttr K A.fen "books"
 n_undone:NoAttr K A.fen "undone"
 m_Fen:mg "Fen" = some (.ref A.fen)
theorem zg4 {f:Addr} {fd:FuncData} (F:Fun K "_law_names" "_law_names" zid f fd) (T:Bt mg) (T2:Bd mg) (c__law_take:Cal P w K mg base "_law_take" 1 ["_law_box_here","_law_many"] (spD K 2 zad)):FnOk P w K mg base CX0 2 f fd ["_law_box_here","_law_many"] (spD K 2 zcc):=
 zdf (N:=["_law_box_here","_law_many","_law_letters","_law_size","_law_place_here","_law_like","_law_first","_law_rows","_law_k","_law_row"]) F λ_ _=>
 (zal (zbG 2 zag)
  (zal (zbG 3 (zbF zah (zaq c__law_take (zaa (dv 0) (zaa zah zaf)))))
  (zal (zbG 4 (zaq c__law_take (zaa (dv 0) (zaa (dv 3) zaf))))
  (zal (zbG 5 (d_eq (zaq c__law_take (zaa (dv 0) (zaa zah zaf))) zah))
  (zal (zh2 6 (Nc:=["_law_k","_law_box_here"]) (.nm 0) (zgo (dv 3)) (gn 0) zbI (zaq c__law_take (zaa (dv 1) (zaa zah zaf))))
  (zal (zoy 7 (zcX zaf))
  (zal (zrv (.nm 8) (zgo (dv 1)) (gn 8) (zal (zoy 9 (zkj (dv 6)))
  (zal (s_if (zlo (zio (dv 5))) (zau (zpr 9 (Nc:=["_law_step_here","_law_box_here"]) (.nm 0) (zgo (zbF (zbF (dv 4) zah) (zaq c__law_take (zaa (dv 0) (zaa (zlD (dv 3) (dv 4)) zaf))))) (gn 0) zbI (zaq c__law_take (zaa (dv 1) (zaa zah zaf))))) zch)
  (zal (zs8 9 (znx (zbF (zaV (dv 6) (dv 4)) (zqT zah (dv 8))) zah) (dv 4))
  (zau (znH 9 (zpK 7 (zq7 zag (DF.de (zbh (Nc:=["_law_one","_law_letters"]) (.nm 0) (zbv (dv 9)) (gn 0) zbI (zaV (dv 1) (dv 0))))))))))))
  (zau (znH 7 (zaJ (dv 7)))))))))))
theorem zhB {f:Addr} {fd:FuncData} (F:Fun K "empty_book" "empty_book" zdc f fd) (T:Bt mg) (T2:Bd mg)  : FnOk P w K mg base CX0 1 f fd [] (spD K 0 zbD):=
 zdf (N:=[]) F λ_ _=>
 (zau (zaJ (zo4 (zcf (zca zaf) (zcf (zca zaf) (zcf (zca zaf) (zcf (zca zaf) (zcf zah (zcf zah zpe)))))))))
theorem zfN {f:Addr} {fd:FuncData} (F:Fun K "__init__" "Fen.__init__" zbJ f fd) (A:Ads) (T:Bt mg) (T2:Bd mg) (fc:Fc K mg A) (c_empty_book:Cal P w K mg base "empty_book" 1 [] (spD K 0 zbD)):FnOk P w K mg base (CXN P w) 2 f fd ["self"] (spO K mg 1 (zb4 A)):=
 zgh (N:=["self"]) F λY hY _ _=>
 (zaF (zhx 0 (λS M G1=>(zcX zaf)) fc.cls fc.n_kept)
  (zaF (zhx 0 (λS M G1=>(zcX (zaa (zmi c_empty_book) zaf))) fc.cls fc.n_books)
  (zbb (zhx 0 (λS M G1=>(zcX zaf)) fc.cls fc.n_undone))))
theorem zhe {f:Addr} {fd:FuncData} (F:Fun K "_law_model" "_law_model" zh0 f fd) (T:Bt mg) (T2:Bd mg)  : FnOk P w K mg base CX0 1 f fd [] (spD K 0 zcI):=
 zdf (N:=[]) F λ_ _=>
 (zau (zaJ (zo4 (zcf (DF.de (zcX zaf)) (zcf zpO (zcf (DF.de (zcX zaf)) (zcf zah (zcf zah (zcf (DF.de (zcX zaf)) zpe)))))))))
theorem zg3 {f:Addr} {fd:FuncData} (F:Fun K "_law_turns" "_law_turns" zi8 f fd) (T:Bt mg) (T2:Bd mg)  : FnOk P w K mg base CX0 1 f fd ["_law_model_here","_law_name"] (spD K 2 za7):=
 zdf (N:=["_law_model_here","_law_name"]) F λ_ _=>
 (zau (zaJ (zcq (zaa (DF.de (zbh (Nc:=["_law_place_here","_law_name"]) (.nm 0) (zbv (zaA (dv 0) zag)) (gn 0) (zec (t_eq (zaV (dv 0) zah) (dv 1))) (dv 0))) zaf))))
theorem zha {f:Addr} {fd:FuncData} (F:Fun K "_law_place" "_law_place" zij f fd) (T:Bt mg) (T2:Bd mg) (c__law_turns:Cal P w K mg base "_law_turns" 1 ["_law_model_here","_law_name"] (spD K 2 za7)):FnOk P w K mg base CX0 2 f fd ["_law_model_here","_law_name"] (spD K 2 zaN):=
 zdf (N:=["_law_model_here","_law_name"]) F λ_ _=>
 (zau (zaJ (zrS (zaA (dv 0) zag) (zca (zaa (dv 1) (zaa (zaq c__law_turns (zaa (dv 0) (zaa (dv 1) zaf))) zaf))))))
theorem zii {f:Addr} {fd:FuncData} (F:Fun K "_law_done" "_law_done" znk f fd) (T:Bt mg) (T2:Bd mg) (c__law_turns:Cal P w K mg base "_law_turns" 1 ["_law_model_here","_law_name"] (spD K 2 za7)) (c__law_place:Cal P w K mg base "_law_place" 2 ["_law_model_here","_law_name"] (spD K 2 zaN)):FnOk P w K mg base CX0 3 f fd ["_law_model_here","_law_deed"] (spD K 2 zcB):=
 zdf (N:=["_law_model_here","_law_deed","_law_word","_law_heeded","_law_row","_law_rows"]) F λ_ _=>
 (zal (ztF 0 (dv 0))
  (zal (zjx 0 (zbF (d_og 0 zag) (DF.de (zcX (zaa (dv 1) zaf)))) zag)
  (zal (zbG 2 (zaV (dv 1) zah))
  (zal (s_if (DW.dt (w_or (t_eq (dv 2) zag) (zjw (t_eq (dv 2) zag)))) (zau (zjx 0 (zbF (d_og 0 zag) (DF.de (zcX (zaa (zca (zaa (zaV (dv 1) zah) (zaa (zbF (zmq 0 c__law_turns (zaa (zaV (dv 1) zah) zaf)) zah) zaf))) zaf)))) zag)) (zau (s_if (zqA (dv 2) (zca (zaa zag (zaa zag (zaa zag zaf))))) (zsV 3 (d_og 0 zag) (d_ne (dv 2) zag) (zaV (dv 1) zah)
  (zau (zjx 0 (dv 3) zag))) (zau (s_if (t_eq (dv 2) zag) (zal (zrV 0 zag zah)
  (zal (zbG 4 (zbF (zca (zaa (d_og 0 zag) (zaa (zmq 0 c__law_place (zaa (zaV (dv 1) zah) zaf)) (zaa (zmq 0 c__law_place (zaa (zaV (dv 1) zah) zaf)) zaf)))) (znG (dv 1) (zj8 zah) zkU)))
  (zau (zjx 0 (zbF (d_og 0 zag) (DF.de (zcX (zaa (dv 4) zaf)))) zag)))) (zau (s_if (t_eq (dv 2) zag) (zau (zjx 0 (DF.de (zbh (Nc:=["_law_row","_law_deed"]) (.nm 0) (zbv (d_og 0 zag)) (gn 0) (zec (t_ne (zaV (dv 0) zah) (zaV (dv 1) zah))) (dv 0))) zag)) (zau (s_if (t_eq (dv 2) zag) (zal (zoy 5 (zcX zaf))
  (zal (zrv (.nm 4) (zbv (d_og 0 zag)) (gn 4) (zau (zpK 5 (zaV (DF.de (zcX (zaa (dv 4) (zaa (zbF (znG (dv 4) zkU (zj8 zah)) (zca (zaa (zaV (dv 1) zah) (zaa (zaV (dv 4) zah) zaf)))) zaf)))) (zpd (zaa (d_eq (zaV (dv 4) zah) (zaV (dv 1) zah)) zaf))))))
  (zau (znH 5 (zjx 0 (dv 5) zag))))) (zau (zjx 0 (zaV (dv 1) zah) zag)))))))))))
  (zau (zsK 0))))))
theorem zfn (F:Fun K "_law_same" "_law_same" zmj f fd) (hm:mg "_law_same" = some (.ref f)) (hb:Binds K fd ["_law_found","_law_due_here"] []) (T:Bt mg)  : ∀ n,FnOk P w K mg base CX0 (1 + n) f fd ["_law_found","_law_due_here"] (spD K 2 (zaQ n))
 | 0=>⟨λvs H Q E ⟨β,G,ds,_,_,_,h,_⟩=>h,λA outer s H args us vs Q E _ _ _ _ ⟨β,G,ds,_,_,_,_,P,z,_⟩=>z.elim⟩
 | n + 1=>by
  have cSelf:Cal P w K mg base "_law_same" (1 + n) ["_law_found","_law_due_here"] (spD K 2 (zaQ n)):=Cal.of F (zfn F hm hb T  n) hm hb;exact zdf (N:=["_law_found","_law_due_here"]) (k:=1 + n) F λ_ _=>
   (zal (s_if (DW.dt (w_or (zio (zfu (dv 1))) (zjw (zio (zfu (dv 1)))))) (zal (s_if (DW.dt (w_or (t_ne (zfu (dv 0)) (zfu (dv 1))) (zjw (t_ne (zfu (dv 0)) (zfu (dv 1)))))) (zau (zaJ ziN)) zch)
  (zau (zaJ (zoL (d_eq (zcq (zaa (dv 0) zaf)) (zcq (zaa (dv 1) zaf))) (zoH (zrJ (zaa (DF.de (zbh (Nc:=["_law_one","_law_other"]) (.tp 2 (.cons (.nm 0) (.cons (.nm 1) .nil))) (zrq (dv 0) (dv 1)) (zde (n:=2) rfl (zat (gn 0) (zat (gn 1) zb0))) zbI (zaq cSelf (zaa (dv 0) (zaa (dv 1) zaf))))) zaf))))))) zch)
  (zal (s_if (DW.dt (w_or (zow (dv 0)) (zjw (zow (dv 1))))) (zau (zaJ (zoL (zrC (dv 0)) (zoH (zrC (dv 1)))))) zch)
  (zal (s_if (DW.dt (w_or (t_ne (zfu (dv 0)) (zfu (dv 1))) (zjw (t_ne (zfu (dv 0)) (zfu (dv 1)))))) (zau (zaJ ziN)) zch)
  (zau (zaJ (zoL (d_eq (zfu (dv 0)) (zfu (dv 1))) (zoH (d_eq (dv 0) (dv 1)))))))))
theorem zhR {f:Addr} {fd:FuncData} (F:Fun K "with_entry" "with_entry" zc4 f fd) (T:Bt mg) (T2:Bd mg)  : FnOk P w K mg base CX0 1 f fd ["book","word","value"] (spD K 3 zap):=
 zdf (N:=["book","word","value","fresh"]) F λ_ _=>
 (zrR 0 1 2 3 (x := "fresh") (nb := "book") (nw := "word") (nv := "value") (hb:=(zbf (i:=0) (x := "book") rfl (.inl rfl))) (hw:=(zbf (i:=1) (x := "word") rfl (.inl rfl))) (hv:=(zbf (i:=2) (x := "value") rfl (.inl rfl))))
theorem zjv {f:Addr} {fd:FuncData} (F:Fun K "turns_of" "turns_of" zeO f fd) (T:Bt mg) (T2:Bd mg)  : FnOk P w K mg base CX0 1 f fd ["stands","name"] (spD K 2 zbl):=
 zdf (N:=["stands","name"]) F λ_ _=>
 (zau (zaJ (zcq (zaa (DF.de (zbh (Nc:=["each","turn","name"]) (.tp 2 (.cons (.nm 0) (.cons (.nm 1) .nil))) (zbv (dv 0)) (zde (n:=2) rfl (zat (gn 0) (zat (gn 1) zb0))) (zec (t_eq (dv 0) (dv 2))) (dv 1))) zaf))))
theorem zhv {f:Addr} {fd:FuncData} (F:Fun K "next_stand" "next_stand" zc6 f fd) (T:Bt mg) (T2:Bd mg) (c_turns_of:Cal P w K mg base "turns_of" 1 ["stands","name"] (spD K 2 zbl)):FnOk P w K mg base CX0 2 f fd ["stands","name"] (spD K 2 zcL):=
 zdf (N:=["stands","name"]) F λ_ _=>
 (zau (zaJ (zca (zaa (dv 1) (zaa (zbF (zaq c_turns_of (zaa (dv 0) (zaa (dv 1) zaf))) zah) zaf)))))
theorem zfh {f:Addr} {fd:FuncData} (F:Fun K "with_new_stand" "with_new_stand" zbH f fd) (T:Bt mg) (T2:Bd mg) (c_with_entry:Cal P w K mg base "with_entry" 1 ["book","word","value"] (spD K 3 zap)) (c_next_stand:Cal P w K mg base "next_stand" 2 ["stands","name"] (spD K 2 zcL)) {aFenError aBadName aTaken aFull aNoMark aNoHand aSame aBadRise aNoRun aAside aNotAside aBadNumber aNothingLeft:Addr} (xh:Xh K mg aFenError aBadName aTaken aFull aNoMark aNoHand aSame aBadRise aNoRun aAside aNotAside aBadNumber aNothingLeft) {t_MOST_STANDS:Tok} (g_MOST_STANDS:mg "MOST_STANDS" = some (.int 12 t_MOST_STANDS)):FnOk P w K mg base (CXN P w) 3 f fd ["book","name"] (spDX K mg 2 zbm):=
 zdt (N:=["book","name","stands"]) F λY hY _ _=>
 (zal (DS.nox (zbG 2 (zaA (dv 0) zag)))
  (zal (s_if (DT.nox (t_ge (zcq (zaa (dv 2) zaf)) (zgV g_MOST_STANDS))) (zau (zbQ (zaa zag zaf) (λ_ _ _ _ _ _ _ _ I t m y=>zcH I m (hY _ _ _ _ y xh.m_Full t)) xh.o_Full xh.m_Full)) zch)
  (zau (DS.nox (zaJ (zaq c_with_entry (zaa (dv 0) (zaa zag (zaa (zbF (dv 2) (zca (zaa (zaq c_next_stand (zaa (dv 2) (zaa (dv 1) zaf))) zaf))) zaf)))))))))
theorem zg2 {f:Addr} {fd:FuncData} (F:Fun K "is_made_of" "is_made_of" zdE f fd) (T:Bt mg) (T2:Bd mg)  : FnOk P w K mg base CX0 1 f fd ["text","signs","longest"] (spD K 3 zb6):=
 zdf (N:=["text","signs","longest"]) F λ_ _=>
 (zau (zaJ (zoL (zrw zah (zcq (zaa (dv 0) zaf)) (dv 2)) (zoH (zrJ (zaa (DF.de (zbh (Nc:=["sign","signs"]) (.nm 0) (zbv (dv 0)) (gn 0) zbI (ztg (dv 0) (dv 1)))) zaf))))))
theorem zli {f:Addr} {fd:FuncData} (F:Fun K "is_name" "is_name" zga f fd) (T:Bt mg) (T2:Bd mg) (c_is_made_of:Cal P w K mg base "is_made_of" 1 ["text","signs","longest"] (spD K 3 zb6)) {t_LONGEST_NAME:Tok} (g_LONGEST_NAME:mg "LONGEST_NAME" = some (.int 8 t_LONGEST_NAME)) {t_LETTERS:Tok} (g_LETTERS:mg "LETTERS" = some (.str "abcdefghijklmnopqrstuvwxyz" t_LETTERS)):FnOk P w K mg base CX0 2 f fd ["text"] (spD K 1 zce):=
 zdf (N:=["text"]) F λ_ _=>
 (zau (zaJ (zaq c_is_made_of (zaa (dv 0) (zaa (zsi g_LETTERS) (zaa (zgV g_LONGEST_NAME) zaf))))))
theorem zf6 {f:Addr} {fd:FuncData} (F:Fun K "mark_entered" "mark_entered" zcb f fd) (T:Bt mg) (T2:Bd mg) (c_with_new_stand:CalX P w K mg base "with_new_stand" 3 ["book","name"] (spDX K mg 2 zbm)) (c_is_name:Cal P w K mg base "is_name" 2 ["text"] (spD K 1 zce)) (c_turns_of:Cal P w K mg base "turns_of" 1 ["stands","name"] (spD K 2 zbl)) {aFenError aBadName aTaken aFull aNoMark aNoHand aSame aBadRise aNoRun aAside aNotAside aBadNumber aNothingLeft:Addr} (xh:Xh K mg aFenError aBadName aTaken aFull aNoMark aNoHand aSame aBadRise aNoRun aAside aNotAside aBadNumber aNothingLeft):FnOk P w K mg base (CXN P w) 4 f fd ["book","row"] (spDX K mg 2 zcE):=
 zdt (N:=["book","row","word","name"]) F λY hY _ _=>
 (zal (DS.nox (ziP (.tp 2 (.cons (.nm 2) (.cons (.nm 3) .nil))) (dv 1) (zde (n:=2) rfl (zat (gn 2) (zat (gn 3) zb0)))))
  (zal (s_if (DT.nox (zlo (zio (zaq c_is_name (zaa (dv 3) zaf))))) (zau (zbQ (zaa zag zaf) (λ_ _ _ _ _ _ _ _ I t m y=>zcH I m (hY _ _ _ _ y xh.m_BadName t)) xh.o_BadName xh.m_BadName)) zch)
  (zal (s_if (DT.nox (t_gt (zaq c_turns_of (zaa (zaA (dv 0) zag) (zaa (dv 3) zaf))) zah)) (zau (zbQ (zaa zag zaf) (λ_ _ _ _ _ _ _ _ I t m y=>zcH I m (hY _ _ _ _ y xh.m_Taken t)) xh.o_Taken xh.m_Taken)) zch)
  (zau (zaJ (zdA c_with_new_stand (DA.nox (zaa (dv 0) (zaa (dv 3) zaf))) (zhM hY)))))))
theorem zfZ {f:Addr} {fd:FuncData} (F:Fun K "hand_entered" "hand_entered" zb5 f fd) (T:Bt mg) (T2:Bd mg) (c_with_entry:Cal P w K mg base "with_entry" 1 ["book","word","value"] (spD K 3 zap)) (c_is_name:Cal P w K mg base "is_name" 2 ["text"] (spD K 1 zce)) {aFenError aBadName aTaken aFull aNoMark aNoHand aSame aBadRise aNoRun aAside aNotAside aBadNumber aNothingLeft:Addr} (xh:Xh K mg aFenError aBadName aTaken aFull aNoMark aNoHand aSame aBadRise aNoRun aAside aNotAside aBadNumber aNothingLeft) {t_MOST_HANDS:Tok} (g_MOST_HANDS:mg "MOST_HANDS" = some (.int 10 t_MOST_HANDS)):FnOk P w K mg base (CXN P w) 3 f fd ["book","row"] (spDX K mg 2 zcv):=
 zdt (N:=["book","row","word","name","hands"]) F λY hY _ _=>
 (zal (DS.nox (ziP (.tp 2 (.cons (.nm 2) (.cons (.nm 3) .nil))) (dv 1) (zde (n:=2) rfl (zat (gn 2) (zat (gn 3) zb0)))))
  (zal (DS.nox (zbG 4 (zaA (dv 0) zag)))
  (zal (s_if (DT.nox (zlo (zio (zaq c_is_name (zaa (dv 3) zaf))))) (zau (zbQ (zaa zag zaf) (λ_ _ _ _ _ _ _ _ I t m y=>zcH I m (hY _ _ _ _ y xh.m_BadName t)) xh.o_BadName xh.m_BadName)) zch)
  (zal (s_if (DT.nox (zqA (dv 3) (dv 4))) (zau (zbQ (zaa zag zaf) (λ_ _ _ _ _ _ _ _ I t m y=>zcH I m (hY _ _ _ _ y xh.m_Taken t)) xh.o_Taken xh.m_Taken)) zch)
  (zal (s_if (DT.nox (t_ge (zcq (zaa (dv 4) zaf)) (zgV g_MOST_HANDS))) (zau (zbQ (zaa zag zaf) (λ_ _ _ _ _ _ _ _ I t m y=>zcH I m (hY _ _ _ _ y xh.m_Full t)) xh.o_Full xh.m_Full)) zch)
  (zau (DS.nox (zaJ (zaq c_with_entry (zaa (dv 0) (zaa zag (zaa (zbF (dv 4) (zca (zaa (dv 3) zaf))) zaf))))))))))))
theorem zhu {f:Addr} {fd:FuncData} (F:Fun K "last_stand" "last_stand" zdb f fd) (T:Bt mg) (T2:Bd mg) (c_turns_of:Cal P w K mg base "turns_of" 1 ["stands","name"] (spD K 2 zbl)) {aFenError aBadName aTaken aFull aNoMark aNoHand aSame aBadRise aNoRun aAside aNotAside aBadNumber aNothingLeft:Addr} (xh:Xh K mg aFenError aBadName aTaken aFull aNoMark aNoHand aSame aBadRise aNoRun aAside aNotAside aBadNumber aNothingLeft):FnOk P w K mg base (CXN P w) 2 f fd ["stands","name"] (spDX K mg 2 zbL):=
 zdt (N:=["stands","name","turns"]) F λY hY _ _=>
 (zal (DS.nox (zbG 2 (zaq c_turns_of (zaa (dv 0) (zaa (dv 1) zaf)))))
  (zal (s_if (DT.nox (t_eq (dv 2) zah)) (zau (zbQ (zaa zag zaf) (λ_ _ _ _ _ _ _ _ I t m y=>zcH I m (hY _ _ _ _ y xh.m_NoMark t)) xh.o_NoMark xh.m_NoMark)) zch)
  (zau (DS.nox (zaJ (zca (zaa (dv 1) (zaa (dv 2) zaf))))))))
theorem zhY {f:Addr} {fd:FuncData} (F:Fun K "need_hand" "need_hand" zdz f fd) (T:Bt mg) (T2:Bd mg)  {aFenError aBadName aTaken aFull aNoMark aNoHand aSame aBadRise aNoRun aAside aNotAside aBadNumber aNothingLeft:Addr} (xh:Xh K mg aFenError aBadName aTaken aFull aNoMark aNoHand aSame aBadRise aNoRun aAside aNotAside aBadNumber aNothingLeft):FnOk P w K mg base (CXN P w) 1 f fd ["book","name"] (spDX K mg 2 zcK):=
 zdt (N:=["book","name"]) F λY hY _ _=>
 (zau (s_if (DT.nox (zfB (dv 1) (zaA (dv 0) zag))) (zau (zbQ (zaa zag zaf) (λ_ _ _ _ _ _ _ _ I t m y=>zcH I m (hY _ _ _ _ y xh.m_NoHand t)) xh.o_NoHand xh.m_NoHand)) zch))
theorem ziF {f:Addr} {fd:FuncData} (F:Fun K "need_rise" "need_rise" zdK f fd) (T:Bt mg) (T2:Bd mg)  {aFenError aBadName aTaken aFull aNoMark aNoHand aSame aBadRise aNoRun aAside aNotAside aBadNumber aNothingLeft:Addr} (xh:Xh K mg aFenError aBadName aTaken aFull aNoMark aNoHand aSame aBadRise aNoRun aAside aNotAside aBadNumber aNothingLeft) {t_HIGHEST_RISE:Tok} (g_HIGHEST_RISE:mg "HIGHEST_RISE" = some (.int 1000000000 t_HIGHEST_RISE)):FnOk P w K mg base (CXN P w) 1 f fd ["rise"] (spDX K mg 1 zbE):=
 zdt (N:=["rise"]) F λY hY _ _=>
 (zau (s_if (DT.nox (t_gt (zts (zaa (dv 0) zaf)) (zgV g_HIGHEST_RISE))) (zau (zbQ (zaa zag zaf) (λ_ _ _ _ _ _ _ _ I t m y=>zcH I m (hY _ _ _ _ y xh.m_BadRise t)) xh.o_BadRise xh.m_BadRise)) zch))
theorem zgz {f:Addr} {fd:FuncData} (F:Fun K "run_entered" "run_entered" zcu f fd) (T:Bt mg) (T2:Bd mg) (c_last_stand:CalX P w K mg base "last_stand" 2 ["stands","name"] (spDX K mg 2 zbL)) (c_need_hand:CalX P w K mg base "need_hand" 1 ["book","name"] (spDX K mg 2 zcK)) (c_need_rise:CalX P w K mg base "need_rise" 1 ["rise"] (spDX K mg 1 zbE)) (c_with_entry:Cal P w K mg base "with_entry" 1 ["book","word","value"] (spD K 3 zap)) {aFenError aBadName aTaken aFull aNoMark aNoHand aSame aBadRise aNoRun aAside aNotAside aBadNumber aNothingLeft:Addr} (xh:Xh K mg aFenError aBadName aTaken aFull aNoMark aNoHand aSame aBadRise aNoRun aAside aNotAside aBadNumber aNothingLeft) {t_MOST_RUNS:Tok} (g_MOST_RUNS:mg "MOST_RUNS" = some (.int 40 t_MOST_RUNS)):FnOk P w K mg base (CXN P w) 3 f fd ["book","row"] (spDX K mg 2 zcW):=
 zdt (N:=["book","row","word","one","other","rise","hand","start","start_turn","end","end_turn","number","run"]) F λY hY _ _=>
 (zal (DS.nox (ziP (.tp 5 (.cons (.nm 2) (.cons (.nm 3) (.cons (.nm 4) (.cons (.nm 5) (.cons (.nm 6) .nil)))))) (dv 1) (zde (n:=5) rfl (zat (gn 2) (zat (gn 3) (zat (gn 4) (zat (gn 5) (zat (gn 6) zb0))))))))
  (zal (ziP (.tp 2 (.cons (.nm 7) (.cons (.nm 8) .nil))) (zdA c_last_stand (DA.nox (zaa (zaA (dv 0) zag) (zaa (dv 3) zaf))) (zhM hY)) (zde (n:=2) rfl (zat (gn 7) (zat (gn 8) zb0))))
  (zal (ziP (.tp 2 (.cons (.nm 9) (.cons (.nm 10) .nil))) (zdA c_last_stand (DA.nox (zaa (zaA (dv 0) zag) (zaa (dv 4) zaf))) (zhM hY)) (zde (n:=2) rfl (zat (gn 9) (zat (gn 10) zb0))))
  (zal (s_if (DT.nox (t_eq (dv 3) (dv 4))) (zau (zbQ (zaa zag zaf) (λ_ _ _ _ _ _ _ _ I t m y=>zcH I m (hY _ _ _ _ y xh.m_Same t)) xh.o_Same xh.m_Same)) zch)
  (zal (zik (zdA c_need_hand (DA.nox (zaa (dv 0) (zaa (dv 6) zaf))) (zhM hY)))
  (zal (zik (zdA c_need_rise (DA.nox (zaa (dv 5) zaf)) (zhM hY)))
  (zal (s_if (DT.nox (t_ge (zcq (zaa (zaA (dv 0) zag) zaf)) (zgV g_MOST_RUNS))) (zau (zbQ (zaa zag zaf) (λ_ _ _ _ _ _ _ _ I t m y=>zcH I m (hY _ _ _ _ y xh.m_Full t)) xh.o_Full xh.m_Full)) zch)
  (zal (DS.nox (zbG 11 (zbF (zaA (dv 0) zag) zah)))
  (zal (DS.nox (zbG 12 (zca (zaa (dv 11) (zaa (dv 7) (zaa (dv 8) (zaa (dv 9) (zaa (dv 10) (zaa (dv 5) (zaa (dv 6) zaf))))))))))
  (zau (DS.nox (zaJ (zaq c_with_entry (zaa (zaq c_with_entry (zaa (dv 0) (zaa zag (zaa (dv 11) zaf)))) (zaa zag (zaa (zbF (zaA (dv 0) zag) (zca (zaa (dv 12) zaf))) zaf))))))))))))))))
theorem zjL {f:Addr} {fd:FuncData} (F:Fun K "need_run" "need_run" zez f fd) (T:Bt mg) (T2:Bd mg)  {aFenError aBadName aTaken aFull aNoMark aNoHand aSame aBadRise aNoRun aAside aNotAside aBadNumber aNothingLeft:Addr} (xh:Xh K mg aFenError aBadName aTaken aFull aNoMark aNoHand aSame aBadRise aNoRun aAside aNotAside aBadNumber aNothingLeft):FnOk P w K mg base (CXN P w) 1 f fd ["book","number"] (spDX K mg 2 zbz):=
 zdt (N:=["book","number"]) F λY hY _ _=>
 (zau (s_if (DT.nox (zfB (dv 1) (DF.de (zbh (Nc:=["run"]) (.nm 0) (zbv (zaA (dv 0) zag)) (gn 0) zbI (zaV (dv 0) zah))))) (zau (zbQ (zaa zag zaf) (λ_ _ _ _ _ _ _ _ I t m y=>zcH I m (hY _ _ _ _ y xh.m_NoRun t)) xh.o_NoRun xh.m_NoRun)) zch))
theorem zhQ {f:Addr} {fd:FuncData} (F:Fun K "run_struck" "run_struck" zcZ f fd) (T:Bt mg) (T2:Bd mg) (c_need_run:CalX P w K mg base "need_run" 1 ["book","number"] (spDX K mg 2 zbz)) (c_with_entry:Cal P w K mg base "with_entry" 1 ["book","word","value"] (spD K 3 zap)):FnOk P w K mg base (CXN P w) 2 f fd ["book","row"] (spDX K mg 2 zco):=
 zdt (N:=["book","row","word","number"]) F λY hY _ _=>
 (zal (DS.nox (ziP (.tp 2 (.cons (.nm 2) (.cons (.nm 3) .nil))) (dv 1) (zde (n:=2) rfl (zat (gn 2) (zat (gn 3) zb0)))))
  (zal (zik (zdA c_need_run (DA.nox (zaa (dv 0) (zaa (dv 3) zaf))) (zhM hY)))
  (zau (DS.nox (zaJ (zaq c_with_entry (zaa (dv 0) (zaa zag (zaa (zmg (zaa (DF.de (zbh (Nc:=["run","number"]) (.nm 0) (zbv (zaA (dv 0) zag)) (gn 0) (zec (t_ne (zaV (dv 0) zah) (dv 1))) (dv 0))) zaf)) zaf)))))))))
theorem zhb {f:Addr} {fd:FuncData} (F:Fun K "run_mended" "run_mended" zc3 f fd) (T:Bt mg) (T2:Bd mg) (c_need_run:CalX P w K mg base "need_run" 1 ["book","number"] (spDX K mg 2 zbz)) (c_need_rise:CalX P w K mg base "need_rise" 1 ["rise"] (spDX K mg 1 zbE)) (c_with_entry:Cal P w K mg base "with_entry" 1 ["book","word","value"] (spD K 3 zap)):FnOk P w K mg base (CXN P w) 2 f fd ["book","row"] (spDX K mg 2 zdn):=
 zdt (N:=["book","row","word","number","rise","mended"]) F λY hY _ _=>
 (zal (DS.nox (ziP (.tp 3 (.cons (.nm 2) (.cons (.nm 3) (.cons (.nm 4) .nil)))) (dv 1) (zde (n:=3) rfl (zat (gn 2) (zat (gn 3) (zat (gn 4) zb0))))))
  (zal (zik (zdA c_need_run (DA.nox (zaa (dv 0) (zaa (dv 3) zaf))) (zhM hY)))
  (zal (zik (zdA c_need_rise (DA.nox (zaa (dv 4) zaf)) (zhM hY)))
  (zal (DS.nox (zh2 5 (Nc:=["run","number","rise"]) (.nm 0) (zbv (zaA (dv 0) zag)) (gn 0) zbI (d_if (t_eq (zaV (dv 0) zah) (dv 1)) (zbF (znG (dv 0) zkU (zj8 zah)) (zca (zaa (dv 2) (zaa (zaV (dv 0) zah) zaf)))) (dv 0))))
  (zau (DS.nox (zaJ (zaq c_with_entry (zaa (dv 0) (zaa zag (zaa (zmg (zaa (dv 5) zaf)) zaf)))))))))))
theorem ze6 {f:Addr} {fd:FuncData} (F:Fun K "number_allowed" "number_allowed" zbw f fd) (T:Bt mg) (T2:Bd mg) (c_with_entry:Cal P w K mg base "with_entry" 1 ["book","word","value"] (spD K 3 zap)) {aFenError aBadName aTaken aFull aNoMark aNoHand aSame aBadRise aNoRun aAside aNotAside aBadNumber aNothingLeft:Addr} (xh:Xh K mg aFenError aBadName aTaken aFull aNoMark aNoHand aSame aBadRise aNoRun aAside aNotAside aBadNumber aNothingLeft) {t_MOST_FALSE:Tok} (g_MOST_FALSE:mg "MOST_FALSE" = some (.int 3 t_MOST_FALSE)):FnOk P w K mg base (CXN P w) 2 f fd ["book","row"] (spDX K mg 2 zbO):=
 zdt (N:=["book","row","word","many"]) F λY hY _ _=>
 (zal (DS.nox (ziP (.tp 2 (.cons (.nm 2) (.cons (.nm 3) .nil))) (dv 1) (zde (n:=2) rfl (zat (gn 2) (zat (gn 3) zb0)))))
  (zal (s_if (DT.nox (DW.dt (w_or (t_lt (dv 3) zah) (zjw (t_gt (dv 3) (zgV g_MOST_FALSE)))))) (zau (zbQ (zaa zag zaf) (λ_ _ _ _ _ _ _ _ I t m y=>zcH I m (hY _ _ _ _ y xh.m_BadNumber t)) xh.o_BadNumber xh.m_BadNumber)) zch)
  (zau (DS.nox (zaJ (zaq c_with_entry (zaa (dv 0) (zaa zag (zaa (dv 3) zaf)))))))))
theorem zgv {f:Addr} {fd:FuncData} (F:Fun K "book_behind" "book_behind" zct f fd) (A:Ads) (T:Bt mg) (T2:Bd mg) (gA:GDict P w K mg "ACTIONS" (kvA A)) (tb:TabP P w K mg base 4 2 (tabA A))  : FnOk P w K mg base (CXN P w) 5 f fd ["book","row"] (spDX K mg 2 (zaP A)):=
 zdt (N:=["book","row","action"]) F λY hY _ _=>
 (zal (DS.nox (zbG 2 (ztK gA (zaV (dv 1) zah))))
  (zau (zaJ (zqy (tb.at ‹_›) (DA.nox (zaa (dv 0) (zaa (dv 1) zaf))) (zhM hY)))))
theorem zlH {f:Addr} {fd:FuncData} (F:Fun K "now" "Fen.now" zeA f fd) (A:Ads) (T:Bt mg) (T2:Bd mg) (fc:Fc K mg A)  : FnOk P w K mg base CX0 1 f fd ["self"] (spR K 1 (zaB A)):=
 zdU (N:=["self"]) F λS _ _=>
 (zau (zaJ (ztQ 0 (zry zah) zbM fc.cls fc.n_books)))
theorem zi9 {f:Addr} {fd:FuncData} (F:Fun K "deed" "Fen.deed" zdS f fd) (A:Ads) (T:Bt mg) (T2:Bd mg) (fc:Fc K mg A) (c_book_behind:CalX P w K mg base "book_behind" 5 ["book","row"] (spDX K mg 2 (zaP A))) (m_now:Met P w K mg base CX0 A.fen "now" 1 ["self"] (spR K 1 (zaB A))):FnOk P w K mg base (CXN P w) 6 f fd ["self","row"] (spO K mg 2 (zaT A)):=
 zgh (N:=["self","row","book"]) F λY hY _ _=>
 (zaF (zic 2 (zp0 c_book_behind (zaK (oe_l λS M G1=>(DE.nox (zbg m_now zkI))) (zaK (oe_l λS M G1=>(DE.nox (dv 1))) zcQ)) (zqi hY)))
  (zaF (zoX 0 (λS M G1=>(dv 1)) fc.cls fc.n_kept)
  (zaF (zoX 0 (λS M G1=>(dv 2)) fc.cls fc.n_books)
  (zaF (zhx 0 (λS M G1=>(zcX zaf)) fc.cls fc.n_undone)
  (zaF (zaM λS M G1=>(DS.nox (s_if (t_eq (zaV (dv 1) zah) zag) (zau (zaJ (zaA (dv 2) zag))) zch)))
  (zbb (zaM λS M G1=>(DS.nox (zaJ zkt)))))))))
theorem zfs {f:Addr} {fd:FuncData} (F:Fun K "_law_due_told" "_law_due_told" zet f fd) (T:Bt mg) (T2:Bd mg)  : FnOk P w K mg base CX0 1 f fd ["_law_model_here","_law_deed"] (spD K 2 zbj):=
 zdf (N:=["_law_model_here","_law_deed"]) F λ_ _=>
 (zau (zaJ (zaV (DF.de (zcX (zaa zkt (zaa (zbF (zaA (dv 0) zag) zah) zaf)))) (zpd (zaa (d_eq (zaV (dv 1) zah) zag) zaf)))))
theorem zin {f:Addr} {fd:FuncData} (F:Fun K "_law_step" "_law_step" zmC f fd) (A:Ads) (T:Bt mg) (T2:Bd mg) (c__law_done:Cal P w K mg base "_law_done" 3 ["_law_model_here","_law_deed"] (spD K 2 zcB)) (c__law_same:Cal P w K mg base "_law_same" (1 + 6) ["_law_found","_law_due_here"] (spD K 2 (zaQ 6))) (m_deed:Met P w K mg base (CXN P w) A.fen "deed" 6 ["self","row"] (spO K mg 2 (zaT A))) (c__law_due_told:Cal P w K mg base "_law_due_told" 1 ["_law_model_here","_law_deed"] (spD K 2 zbj)):FnOk P w K mg base (CXN P w) 8 f fd ["_law_fen","_law_model_here","_law_deed"] (spO K mg 3 (za0 A)):=
 zgh (N:=["_law_fen","_law_model_here","_law_deed"]) F λY hY _ _=>
 (OSs.nox (zaF (zrg (zrf c__law_same (zaK (ziv m_deed (λS M G1=>dv 0) (zaK (oe_l λS M G1=>(dv 2)) zcQ) zi7) (zaK (oe_l λS M G1=>(zaq c__law_due_told (zaa (dv 1) (zaa (dv 2) zaf)))) zcQ))) (zbb (zaM λS M G1=>(zaJ zkt))) zfk)
  (zbb (zaM λS M G1=>(zaJ (zaq c__law_done (zaa (dv 1) (zaa (dv 2) zaf))))))))
theorem zhq {f:Addr} {fd:FuncData} (F:Fun K "_law_marks" "_law_marks" zh5 f fd) (T:Bt mg) (T2:Bd mg)  : FnOk P w K mg base CX0 1 f fd ["_law_model_here"] (spD K 1 zbC):=
 zdf (N:=["_law_model_here"]) F λ_ _=>
 (zau (zaJ (DF.de (zbh (Nc:=["_law_name","_law_turn"]) (.tp 2 (.cons (.nm 0) (.cons (.nm 1) .nil))) (zbv (zaA (dv 0) zag)) (zde (n:=2) rfl (zat (gn 0) (zat (gn 1) zb0))) (zec (t_eq (dv 1) zah)) (dv 0)))))
theorem zhn {f:Addr} {fd:FuncData} (F:Fun K "_law_truth" "_law_truth" zh7 f fd) (T:Bt mg) (T2:Bd mg)  : FnOk P w K mg base CX0 1 f fd ["_law_place_here"] (spD K 1 zb8):=
 zdf (N:=["_law_place_here"]) F λ_ _=>
 (zau (zaJ (zlD (znx (zqT (zqT (dv 0) (dv 0)) zah) zah) (dv 0))))
theorem zfp {f:Addr} {fd:FuncData} (F:Fun K "_law_run_deed" "_law_run_deed" zeR f fd) (T:Bt mg) (T2:Bd mg) (c__law_marks:Cal P w K mg base "_law_marks" 1 ["_law_model_here"] (spD K 1 zbC)) (c__law_take:Cal P w K mg base "_law_take" 1 ["_law_box_here","_law_many"] (spD K 2 zad)) (c__law_truth:Cal P w K mg base "_law_truth" 1 ["_law_place_here"] (spD K 1 zb8)) (c__law_place:Cal P w K mg base "_law_place" 2 ["_law_model_here","_law_name"] (spD K 2 zaN)):FnOk P w K mg base CX0 3 f fd ["_law_box_here","_law_model_here"] (spD K 2 za3):=
 zdf (N:=["_law_box_here","_law_model_here","_law_marks_here","_law_hands","_law_at","_law_one","_law_other","_law_rise"]) F λ_ _=>
 (zal (zbG 2 (zaq c__law_marks (zaa (dv 1) zaf)))
  (zal (zbG 3 (DF.de (zpz (zaA (dv 1) zag))))
  (zal (s_if (DW.dt (w_or (t_lt (zcq (zaa (dv 2) zaf)) zah) (w_or (t_eq (dv 3) (DF.de (zcX zaf))) (zjw (t_ge (zcq (zaa (zaA (dv 1) zag) zaf)) zah))))) (zau (zaJ zkt)) zch)
  (zal (zbG 4 (zaq c__law_take (zaa (dv 0) (zaa (zcq (zaa (dv 2) zaf)) zaf))))
  (zal (zs0 5 6 (zaV (dv 2) (dv 4)) (zaV (dv 2) (znx (zbF (zbF (dv 4) zah) (zaq c__law_take (zaa (dv 0) (zaa (zlD (zcq (zaa (dv 2) zaf)) zah) zaf)))) (zcq (zaa (dv 2) zaf)))))
  (zal (zbG 7 (zlD (zaq c__law_truth (zaa (zaq c__law_place (zaa (dv 1) (zaa (dv 6) zaf))) zaf)) (zaq c__law_truth (zaa (zaq c__law_place (zaa (dv 1) (zaa (dv 5) zaf))) zaf))))
  (zal (s_if (t_eq (zaq c__law_take (zaa (dv 0) (zaa zah zaf))) zah) (zau (zbG 7 (zaV (DF.de (zcX (zaa (zbF (dv 7) zah) (zaa (zlD (dv 7) zah) (zaa (zaq c__law_take (zaa (dv 0) (zaa zah zaf))) (zaa (zry zah) zaf)))))) (zaq c__law_take (zaa (dv 0) (zaa zah zaf)))))) zch)
  (zau (zaJ (zca (zaa zag (zaa (dv 5) (zaa (dv 6) (zaa (dv 7) (zaa (zaV (dv 3) (zaq c__law_take (zaa (dv 0) (zaa (zcq (zaa (dv 3) zaf)) zaf)))) zaf)))))))))))))))
theorem zhI {f:Addr} {fd:FuncData} (F:Fun K "_law_begun" "_law_begun" ziU f fd) (A:Ads) (T:Bt mg) (T2:Bd mg) (fc:Fc K mg A) (c__law_names:Cal P w K mg base "_law_names" 2 ["_law_box_here","_law_many"] (spD K 2 zcc)) {fI:Addr} {fdI:FuncData} (mkI:Mk K A.fen fI) (okI:FnOk P w K mg base (CXN P w) 2 fI fdI ["self"] (spO K mg 1 (zb4 A))) (bI:Binds K fdI ["self"] []) (c__law_model:Cal P w K mg base "_law_model" 1 [] (spD K 0 zcI)) (c__law_take:Cal P w K mg base "_law_take" 1 ["_law_box_here","_law_many"] (spD K 2 zad)) (c__law_step:CalX P w K mg base "_law_step" 8 ["_law_fen","_law_model_here","_law_deed"] (spO K mg 3 (za0 A))) (c__law_run_deed:Cal P w K mg base "_law_run_deed" 3 ["_law_box_here","_law_model_here"] (spD K 2 za3)):FnOk P w K mg base (CXN P w) 9 f fd ["_law_box_here","_law_most_marks","_law_most_hands","_law_most_runs"] (spO K mg 4 (zcG A)):=
 zgh (N:=["_law_box_here","_law_most_marks","_law_most_hands","_law_most_runs","_law_pool","_law_fen","_law_model_here","_law_deeds","_law_deed","_law_k"]) F λY hY _ _=>
 (OSs.nox (zaF (zaM λS M G1=>(zbG 4 (zaq c__law_names (zaa (dv 0) (zaa zah zaf)))))
  (zaF (zic 5 (zrE mkI okI fc.m_Fen bI zi7))
  (zaF (zaM λS M G1=>(zbG 6 (zmi c__law_model)))
  (zaF (zaM λS M G1=>(zpr 7 (Nc:=["_law_k","_law_pool"]) (.nm 0) (zgo (zbF zah (zaq c__law_take (zaa (dv 0) (zaa (dv 1) zaf))))) (gn 0) zbI (zca (zaa zag (zaa (zaV (dv 1) (dv 0)) zaf)))))
  (zaF (zaM λS M G1=>(znH 7 (zoy 7 (ztL (dv 7) (DF.de (zbh (Nc:=["_law_k","_law_pool"]) (.nm 0) (zgo (zbF zah (zaq c__law_take (zaa (dv 0) (zaa (dv 2) zaf))))) (gn 0) zbI (zca (zaa zag (zaa (zaV (dv 1) (zlD zah (dv 0))) zaf)))))))))
  (zaF (zaM λS M G1=>(zpK 7 (zca (zaa zag (zaa (zaq c__law_take (zaa (dv 0) (zaa zah zaf))) zaf)))))
  (zaF (zsv 7 (zkD (.nm 8) (λS M G1=>(zbv (dv 7))) (gn 8) (zbb (zj3 (λS M G1=>(zkC (dv 6))) (zbb (zic 6 (zf2 c__law_step (zaK (oe_l λS M G1=>(dv 5)) (zaK (oe_l λS M G1=>(dv 6)) (zaK (oe_l λS M G1=>(dv 8)) zcQ))) zi7))) zfk))))
  (zaF (zkD (.nm 9) (λS M G1=>(zgo (zaq c__law_take (zaa (dv 0) (zaa (zbF (dv 3) zah) zaf))))) (gn 9) (zbb (zj3 (λS M G1=>(zkC (dv 6))) (zaF (zaM λS M G1=>(zbG 8 (zaq c__law_run_deed (zaa (dv 0) (zaa (dv 6) zaf)))))
  (zbb (zj3 (λS M G1=>(zkC (dv 8))) (zbb (zic 6 (zf2 c__law_step (zaK (oe_l λS M G1=>(dv 5)) (zaK (oe_l λS M G1=>(dv 6)) (zaK (oe_l λS M G1=>(dv 8)) zcQ))) zi7))) zfk))) zfk)))
  (zbb (zaM λS M G1=>(zaJ (zca (zaa (dv 5) (zaa (dv 6) (zaa (dv 4) zaf))))))))))))))))
theorem zjf {f:Addr} {fd:FuncData} (F:Fun K "marks_of" "marks_of" zex f fd) (T:Bt mg) (T2:Bd mg)  : FnOk P w K mg base CX0 1 f fd ["stands"] (spD K 1 zd3):=
 zdf (N:=["stands"]) F λ_ _=>
 (zau (zaJ (DF.de (zbh (Nc:=["name","turn"]) (.tp 2 (.cons (.nm 0) (.cons (.nm 1) .nil))) (zbv (dv 0)) (zde (n:=2) rfl (zat (gn 0) (zat (gn 1) zb0))) (zec (t_eq (dv 1) zah)) (dv 0)))))
theorem zh4 {f:Addr} {fd:FuncData} (F:Fun K "marks" "Fen.marks" zc1 f fd) (A:Ads) (T:Bt mg) (T2:Bd mg) (c_marks_of:Cal P w K mg base "marks_of" 1 ["stands"] (spD K 1 zd3)) (m_now:Met P w K mg base CX0 A.fen "now" 1 ["self"] (spR K 1 (zaB A))):FnOk P w K mg base CX0 2 f fd ["self"] (spR K 1 (zdo A)):=
 zdU (N:=["self"]) F λS _ _=>
 (zau (zaJ (zaq c_marks_of (zaa (zaA (zbg m_now zbM) zag) zaf))))
theorem zie {f:Addr} {fd:FuncData} (F:Fun K "hands" "Fen.hands" zc5 f fd) (A:Ads) (T:Bt mg) (T2:Bd mg) (m_now:Met P w K mg base CX0 A.fen "now" 1 ["self"] (spR K 1 (zaB A))):FnOk P w K mg base CX0 2 f fd ["self"] (spR K 1 (zdh A)):=
 zdU (N:=["self"]) F λS _ _=>
 (zau (zaJ (DF.de (zkj (zaA (zbg m_now zbM) zag)))))
theorem zhc {f:Addr} {fd:FuncData} (F:Fun K "asides" "Fen.asides" zcx f fd) (A:Ads) (T:Bt mg) (T2:Bd mg) (m_now:Met P w K mg base CX0 A.fen "now" 1 ["self"] (spR K 1 (zaB A))):FnOk P w K mg base CX0 2 f fd ["self"] (spR K 1 (zcR A)):=
 zdU (N:=["self","book"]) F λS _ _=>
 (zal (zbG 1 (zbg m_now zbM))
  (zau (zaJ (DF.de (zbh (Nc:=["hand","book"]) (.nm 0) (zbv (zaA (dv 1) zag)) (gn 0) (zec (zqA (dv 0) (zaA (dv 1) zag))) (dv 0))))))
theorem zhS {f:Addr} {fd:FuncData} (F:Fun K "stands" "Fen.stands" zcz f fd) (A:Ads) (T:Bt mg) (T2:Bd mg) (m_now:Met P w K mg base CX0 A.fen "now" 1 ["self"] (spR K 1 (zaB A))):FnOk P w K mg base CX0 2 f fd ["self"] (spR K 1 (zcM A)):=
 zdU (N:=["self"]) F λS _ _=>
 (zau (zaJ (DF.de (zkj (zaA (zbg m_now zbM) zag)))))
theorem zgy {f:Addr} {fd:FuncData} (F:Fun K "allowed" "Fen.allowed" zb9 f fd) (A:Ads) (T:Bt mg) (T2:Bd mg) (m_now:Met P w K mg base CX0 A.fen "now" 1 ["self"] (spR K 1 (zaB A))):FnOk P w K mg base CX0 2 f fd ["self"] (spR K 1 (zcl A)):=
 zdU (N:=["self"]) F λS _ _=>
 (zau (zaJ (zaA (zbg m_now zbM) zag)))
theorem zjd {f:Addr} {fd:FuncData} (F:Fun K "runs" "Fen.runs" zdR f fd) (A:Ads) (T:Bt mg) (T2:Bd mg) (m_now:Met P w K mg base CX0 A.fen "now" 1 ["self"] (spR K 1 (zaB A))):FnOk P w K mg base CX0 2 f fd ["self"] (spR K 1 (zcp A)):=
 zdU (N:=["self"]) F λS _ _=>
 (zau (zaJ (DF.de (zkj (zaA (zbg m_now zbM) zag)))))
theorem zeV {f:Addr} {fd:FuncData} (F:Fun K "rows_that_count" "rows_that_count" zbu f fd) (T:Bt mg) (T2:Bd mg)  : FnOk P w K mg base CX0 1 f fd ["book"] (spD K 1 zbk):=
 zdf (N:=["book"]) F λ_ _=>
 (zau (zaJ (DF.de (zbh (Nc:=["run","book"]) (.nm 0) (zbv (zaA (dv 0) zag)) (gn 0) (zec (zfB (zaV (dv 0) zah) (zaA (dv 1) zag))) (dv 0)))))
theorem zgd {f:Addr} {fd:FuncData} (F:Fun K "counting" "Fen.counting" zbK f fd) (A:Ads) (T:Bt mg) (T2:Bd mg) (c_rows_that_count:Cal P w K mg base "rows_that_count" 1 ["book"] (spD K 1 zbk)) (m_now:Met P w K mg base CX0 A.fen "now" 1 ["self"] (spR K 1 (zaB A))):FnOk P w K mg base CX0 2 f fd ["self"] (spR K 1 (zb3 A)):=
 zdU (N:=["self"]) F λS _ _=>
 (zau (zaJ (DF.de (zbh (Nc:=["run"]) (.nm 0) (zbv (zaq c_rows_that_count (zaa (zbg m_now zbM) zaf))) (gn 0) zbI (zaV (dv 0) zah)))))
theorem ziy {f:Addr} {fd:FuncData} (F:Fun K "deeds" "Fen.deeds" zda f fd) (A:Ads) (T:Bt mg) (T2:Bd mg) (fc:Fc K mg A)  : FnOk P w K mg base CX0 1 f fd ["self"] (spR K 1 (zdr A)):=
 zdU (N:=["self"]) F λS _ _=>
 (zau (zaJ (DF.de (ztu 0 zbM fc.cls fc.n_kept))))
theorem ziZ {f:Addr} {fd:FuncData} (F:Fun K "_law_seen" "_law_seen" znr f fd) (A:Ads) (T:Bt mg) (T2:Bd mg) (m_marks:Met P w K mg base CX0 A.fen "marks" 2 ["self"] (spR K 1 (zdo A))) (m_hands:Met P w K mg base CX0 A.fen "hands" 2 ["self"] (spR K 1 (zdh A))) (m_asides:Met P w K mg base CX0 A.fen "asides" 2 ["self"] (spR K 1 (zcR A))) (m_stands:Met P w K mg base CX0 A.fen "stands" 2 ["self"] (spR K 1 (zcM A))) (m_allowed:Met P w K mg base CX0 A.fen "allowed" 2 ["self"] (spR K 1 (zcl A))) (m_runs:Met P w K mg base CX0 A.fen "runs" 2 ["self"] (spR K 1 (zcp A))) (m_counting:Met P w K mg base CX0 A.fen "counting" 2 ["self"] (spR K 1 (zb3 A))) (m_deeds:Met P w K mg base CX0 A.fen "deeds" 1 ["self"] (spR K 1 (zdr A))):FnOk P w K mg base CX0 3 f fd ["_law_fen"] (spR K 1 (zdk A)):=
 zdU (N:=["_law_fen","_law_found"]) F λS _ _=>
 (zal (zbG 1 (DF.de (zcX (zaa (zbg m_marks zbM) (zaa (zbg m_hands zbM) (zaa (zbg m_asides zbM) (zaa (zbg m_stands zbM) (zaa (zbg m_allowed zbM) (zaa (zbg m_runs zbM) (zaa (zbg m_counting zbM) zaf))))))))))
  (zau (zaJ (zbF (dv 1) (DF.de (zcX (zaa (zbg m_deeds zbM) zaf)))))))
theorem zfX {f:Addr} {fd:FuncData} (F:Fun K "_law_counted" "_law_counted" zeT f fd) (T:Bt mg) (T2:Bd mg)  : FnOk P w K mg base CX0 1 f fd ["_law_model_here"] (spD K 1 zb1):=
 zdf (N:=["_law_model_here"]) F λ_ _=>
 (zau (zaJ (DF.de (zbh (Nc:=["_law_row","_law_model_here"]) (.nm 0) (zbv (zaA (dv 0) zag)) (gn 0) (zec (zio (zaA (zaA (dv 1) zag) (zaV (dv 0) zah)))) (dv 0)))))
theorem zjU {f:Addr} {fd:FuncData} (F:Fun K "_law_due" "_law_due" sDue f fd) (T:Bt mg) (T2:Bd mg) (c__law_marks:Cal P w K mg base "_law_marks" 1 ["_law_model_here"] (spD K 1 zbC)) (c__law_counted:Cal P w K mg base "_law_counted" 1 ["_law_model_here"] (spD K 1 zb1)):FnOk P w K mg base CX0 2 f fd ["_law_model_here"] (spD K 1 zd4):=
 zdf (N:=["_law_model_here","_law_places","_law_rows","_law_asides","_law_found"]) F λ_ _=>
 (zal (zbG 1 (zaA (dv 0) zag))
  (zal (zh2 2 (Nc:=["_law_row","_law_places"]) (.nm 0) (zbv (zaA (dv 0) zag)) (gn 0) zbI (zbF (zbF (zbF (zca (zaa (zaV (dv 0) zah) zaf)) (zaV (dv 1) (zaV (dv 0) zah))) (zaV (dv 1) (zaV (dv 0) zah))) (znG (dv 0) (zj8 zah) zkU)))
  (zal (zh2 3 (Nc:=["_law_hand","_law_model_here"]) (.nm 0) (zrm (zaA (dv 0) zag)) (gn 0) (zec (zlo (zio (zaA (zaA (dv 1) zag) (dv 0))))) (dv 0))
  (zal (zbG 4 (DF.de (zcX (zaa (zaq c__law_marks (zaa (dv 0) zaf)) (zaa (DF.de (zpz (zaA (dv 0) zag))) (zaa (dv 3) (zaa (dv 1) (zaa (zaA (dv 0) zag) (zaa (dv 2) zaf)))))))))
  (zau (zaJ (zbF (dv 4) (DF.de (zcX (zaa (DF.de (zbh (Nc:=["_law_row"]) (.nm 0) (zbv (zaq c__law_counted (zaa (dv 0) zaf))) (gn 0) zbI (zaV (dv 0) zah))) (zaa (zaA (dv 0) zag) zaf)))))))))))
theorem zhK {f:Addr} {fd:FuncData} (F:Fun K "_law_right" "_law_right" zi0 f fd) (A:Ads) (T:Bt mg) (T2:Bd mg) (c__law_same:Cal P w K mg base "_law_same" (1 + 6) ["_law_found","_law_due_here"] (spD K 2 (zaQ 6))) (c__law_seen:Cal P w K mg base "_law_seen" 3 ["_law_fen"] (spR K 1 (zdk A))) (c__law_due:Cal P w K mg base "_law_due" 2 ["_law_model_here"] (spD K 1 zd4)):FnOk P w K mg base CX0 8 f fd ["_law_fen","_law_model_here"] (spR K 2 (zcO A)):=
 zdU (N:=["_law_fen","_law_model_here"]) F λS _ _=>
 (zau (zaJ (zaq c__law_same (zaa (znp c__law_seen (zaa (dv 0) zaf) zbM) (zaa (zaq c__law_due (zaa (dv 1) zaf)) zaf)))))
theorem zjl {f:Addr} {fd:FuncData} (F:Fun K "back" "Fen.back" zdF f fd) (A:Ads) (T:Bt mg) (T2:Bd mg) (fc:Fc K mg A)  {aFenError aBadName aTaken aFull aNoMark aNoHand aSame aBadRise aNoRun aAside aNotAside aBadNumber aNothingLeft:Addr} (xh:Xh K mg aFenError aBadName aTaken aFull aNoMark aNoHand aSame aBadRise aNoRun aAside aNotAside aBadNumber aNothingLeft):FnOk P w K mg base (CXN P w) 1 f fd ["self"] (spO K mg 1 (zc7 A)):=
 zgh (N:=["self"]) F λY hY _ _=>
 (zaF (zj3 (λS M G1=>(DT.nox (zlo (ztq 0 zkI fc.cls fc.n_kept)))) (zbb (znJ (λS M G1=>(zaa zag zaf)) (λ_ _ _ _ _ _ _ _ _ _ _ I r m y=>zcH I m (by obtain ⟨G1,o,r⟩:=r;exact hY _ _ _ _ _ _ _ y xh.m_NothingLeft r.kn o r.stp)) xh.o_NothingLeft xh.m_NothingLeft)) zfk)
  (zbb (zoP 0 fc.cls fc.n_undone fc.n_kept fc.n_books)))
theorem zhD {f:Addr} {fd:FuncData} (F:Fun K "strike" "Fen.strike" zcA f fd) (A:Ads) (T:Bt mg) (T2:Bd mg) (m_deed:Met P w K mg base (CXN P w) A.fen "deed" 6 ["self","row"] (spO K mg 2 (zaT A))):FnOk P w K mg base (CXN P w) 7 f fd ["self","number"] (spO K mg 2 (zb7 A)):=
 zgh (N:=["self","number"]) F λY hY _ _=>
 (zbb (zfS (ziv m_deed (λS M G1=>dv 0) (zaK (oe_l λS M G1=>(DE.nox (zca (zaa zag (zaa (dv 1) zaf))))) zcQ) (zqi hY))))
theorem zjB {f:Addr} {fd:FuncData} (F:Fun K "mend" "Fen.mend" zdW f fd) (A:Ads) (T:Bt mg) (T2:Bd mg) (m_deed:Met P w K mg base (CXN P w) A.fen "deed" 6 ["self","row"] (spO K mg 2 (zaT A))):FnOk P w K mg base (CXN P w) 7 f fd ["self","number","rise"] (spO K mg 3 (zc2 A)):=
 zgh (N:=["self","number","rise"]) F λY hY _ _=>
 (zbb (zfS (ziv m_deed (λS M G1=>dv 0) (zaK (oe_l λS M G1=>(DE.nox (zca (zaa zag (zaa (dv 1) (zaa (dv 2) zaf)))))) zcQ) (zqi hY))))
theorem zgx {f:Addr} {fd:FuncData} (F:Fun K "_law_no_run" "_law_no_run" ziE f fd) (A:Ads) (T:Bt mg) (T2:Bd mg) (m_strike:Met P w K mg base (CXN P w) A.fen "strike" 7 ["self","number"] (spO K mg 2 (zb7 A))) (m_mend:Met P w K mg base (CXN P w) A.fen "mend" 7 ["self","number","rise"] (spO K mg 3 (zc2 A))) {aFenError aBadName aTaken aFull aNoMark aNoHand aSame aBadRise aNoRun aAside aNotAside aBadNumber aNothingLeft:Addr} (xh:Xh K mg aFenError aBadName aTaken aFull aNoMark aNoHand aSame aBadRise aNoRun aAside aNotAside aBadNumber aNothingLeft):FnOk P w K mg base (CXN P w) 8 f fd ["_law_fen","_law_number","_law_way"] (spO K mg 3 (zcn A)):=
 zrb (N:=["_law_fen","_law_number","_law_way","_law_gone"]) F λY hY _ _=>
 (zmS (zaM λS M G1=>(DS.nox (zbG 3 ziN)))
  (zqz (λY1 pn xe hp=>(zbb (zj3 (λS M G1=>(t_eq (dv 2) zah)) (zbb (zfS (ziv m_strike (λS M G1=>dv 0) (zaK (oe_l λS M G1=>(dv 1)) zcQ) hp))) (zbb (zfS (ziv m_mend (λS M G1=>dv 0) (zaK (oe_l λS M G1=>(dv 1)) (zaK (oe_l λS M G1=>zah) zcQ)) hp)))))) (λea oe=>(zbb (zaM λS M G1=>(zbG 3 ziN))))
  (zmS (zaM λS M G1=>(DS.nox (zaJ (dv 3))))
  (ztl zfk)) xh.m_NoRun xh.x_NoRun))
theorem zq4 {f:Addr} {fd:FuncData} (F:Fun K "law" "law" sLaw f fd) (A:Ads) (T:Bt mg) (T2:Bd mg) (c__law_begun:CalX P w K mg base "_law_begun" 9 ["_law_box_here","_law_most_marks","_law_most_hands","_law_most_runs"] (spO K mg 4 (zcG A))) (c__law_right:Cal P w K mg base "_law_right" 8 ["_law_fen","_law_model_here"] (spR K 2 (zcO A))) (c__law_run_deed:Cal P w K mg base "_law_run_deed" 3 ["_law_box_here","_law_model_here"] (spD K 2 za3)) (c__law_take:Cal P w K mg base "_law_take" 1 ["_law_box_here","_law_many"] (spD K 2 zad)) (c__law_step:CalX P w K mg base "_law_step" 8 ["_law_fen","_law_model_here","_law_deed"] (spO K mg 3 (za0 A))) (c__law_same:Cal P w K mg base "_law_same" (1 + 6) ["_law_found","_law_due_here"] (spD K 2 (zaQ 6))) (m_back:Met P w K mg base (CXN P w) A.fen "back" 1 ["self"] (spO K mg 1 (zc7 A))) (c__law_no_run:CalX P w K mg base "_law_no_run" 8 ["_law_fen","_law_number","_law_way"] (spO K mg 3 (zcn A))) (m_runs:Met P w K mg base CX0 A.fen "runs" 2 ["self"] (spR K 1 (zcp A))) (cB:Cal P w K mg base "_law_box" 1 ["_law_script"] (Fen.zpF K)) (hw:lawF 9 (zdM A)):FnOk P w K mg base CX0 10 f fd ["_law_script"] (zmB K):=by
 refine zpL (N:=["_law_fen","_law_model_here","_law_pool","_law_k","_law_deed","_law_way","_law_later","_law_numbers","_law_number"]) (k:=9) F rfl cB (λ_ _=>?_) hw;unfold zdM;exact (zaF (zsx (.tp 3 (.cons (.nm 2) (.cons (.nm 3) (.cons (.nm 4) .nil)))) (zf2 c__law_begun (zaK (oe_l λS M G1=>(dv 1)) (zaK (oe_l λS M G1=>zah) (zaK (oe_l λS M G1=>zah) (zaK (oe_l λS M G1=>zah) zcQ)))) zi7) (zde (n:=3) rfl (zat (gn 2) (zat (gn 3) (zat (gn 4) zb0)))))
  (zaF (zaM λS M G1=>(s_if (zow (dv 3)) (zau (zaJ ziN)) zch))
  (zaF (zkD (.nm 5) (λS M G1=>(zgo (zbF zah (zaq c__law_take (zaa (dv 1) (zaa zah zaf)))))) (gn 5) (zaF (zaM λS M G1=>(zbG 6 (zaq c__law_run_deed (zaa (dv 1) (zaa (dv 3) zaf)))))
  (zaF (zaM λS M G1=>(zbG 7 (zaq c__law_take (zaa (dv 1) (zaa zah zaf)))))
  (zaF (zaM λS M G1=>(s_if (DW.dt (zs5 (t_eq (dv 7) zah) (zrj (t_ne (zaA (dv 3) zag) (DF.de (zcX zaf)))))) (zau (zbG 6 (zca (zaa zag (zaa (zaV (zaV (zaA (dv 3) zag) (zaq c__law_take (zaa (dv 1) (zaa (zcq (zaa (zaA (dv 3) zag) zaf)) zaf)))) zah) zaf))))) zch))
  (zaF (zj3 (λS M G1=>(zkC (dv 6))) (zaF (zic 8 (zf2 c__law_step (zaK (oe_l λS M G1=>(dv 2)) (zaK (oe_l λS M G1=>(dv 3)) (zaK (oe_l λS M G1=>(dv 6)) zcQ))) zi7))
  (zaF (zaM λS M G1=>(s_if (zow (dv 8)) (zau (zaJ ziN)) zch))
  (zbb (zj3 (λS M G1=>(t_eq (zaq c__law_take (zaa (dv 1) (zaa zah zaf))) zah)) (zbb (zfS (zp8 m_back (λS M G1=>dv 2) zi7))) (zbb (zaM λS M G1=>(zbG 3 (dv 8)))))))) zfk)
  (zaF (zaM λS M G1=>(zh2 9 (Nc:=["_law_row"]) (.nm 0) (zbv (zaA (dv 3) zag)) (gn 0) zbI (zaV (dv 0) zah)))
  (zaF (zaM λS M G1=>(s_if (zlo (zio (zaq c__law_same (zaa (DF.de (zbh (Nc:=["_law_row"]) (.nm 0) (zbv (zbg m_runs zkI)) (gn 0) zbI (zaV (dv 0) zah))) (zaa (dv 9) zaf))))) (zau (zaJ ziN)) zch))
  (zbb (zkD (.nm 10) (λS M G1=>(zbv (zca (zaa zah (zaa (zbF (zaA (dv 3) zag) zah) (zaa (zaq c__law_take (zaa (dv 1) (zaa zah zaf))) zaf)))))) (gn 10) (zbb (zpN (λS M G1=>(zfB (dv 10) (dv 9))) (zf2 c__law_no_run (zaK (oe_l λS M G1=>(dv 2)) (zaK (oe_l λS M G1=>(dv 10)) (zaK (oe_l λS M G1=>(znx (dv 7) zah)) zcQ))) zi7) (zbb (zaM λS M G1=>(zaJ ziN))) zfk)))))))))))
  (zbb (zaM λS M G1=>(zaJ (znp c__law_right (zaa (dv 2) (zaa (dv 3) zaf)) zkI)))))))
end
end Fd
namespace Hd
open PySem L2 Fen PySem.W PySem.Calls PyProof.Rows
noncomputable section
noncomputable abbrev dE (P:Params) (k:Str) (n:Nat) (v:Value):DictEntry:=⟨PyData.keyHash P k,.str k n,v⟩
noncomputable def dN:Stmt->Str
 | .FunctionDef x ..=>x
 | _ => ""
noncomputable abbrev cO (s:Stmt) (a:Nat) (l:Int) (lt:Nat) (n:Int) (v:Addr) (g h:Value) (q:Addr) (d:Nat):Obj:=⟨.type "code",none,.fields #[.str (dN s) a,.str (dN s) (a+1),.str "/claim/cut.py" (a+2),.int l lt,.int n 0,.int 0 0,.int 0 0,.int 3 0,.ref v,.bool true,.int 181 0,.ref (v+1),.none,g,h,.ref q,.int (d-1) 0,.int l lt,.str "/claim/cut.py" d],#[]⟩
noncomputable abbrev cQ (s:Stmt) (u:Str) (a:Nat) (l:Int) (lt:Nat) (n:Int) (v:Addr) (g h:Value) (q:Addr) (d:Nat):Obj:=⟨.type "code",none,.fields #[.str (dN s) a,.str u (a+1),.str "/claim/cut.py" (a+2),.int l lt,.int n 0,.int 0 0,.int 0 0,.int 3 0,.ref v,.bool true,.int 181 0,.ref (v+1),.none,g,h,.ref q,.int (d-1) 0,.int l lt,.str "/claim/cut.py" d],#[]⟩
noncomputable abbrev cP (s:Stmt) (a:Nat) (l:Int) (lt:Nat) (n:Int) (v:Addr) (d:Nat):Obj:=cO s a l lt n v .none .none (v+2) d
noncomputable abbrev fD (x:Str) (s:Stmt) (m:Str) (t:Nat) (c:Addr):FuncData:=PySem.W.fnOf x x (zcs s) (zbd s) (zak s) .none .none .none (.str m t) none (.ref c) .none
noncomputable abbrev fO (s:Stmt) (m:Str) (t:Nat) (c:Addr):Obj:=⟨.type "function",none,.func (fD (dN s) s m t c),#[]⟩
noncomputable abbrev fI (s:Stmt):Obj:=⟨.none,none,.func ⟨dN s,dN s,zcs s,.stmts (zbd s),zak s,0,[],.none,.none,.none,.none,none,.none,.none,0⟩,#[]⟩
noncomputable abbrev fQ (s:Stmt) (u m:Str) (t:Nat) (c:Addr):Obj:=⟨.type "function",none,.func (PySem.W.fnOf (dN s) u (zcs s) (zbd s) (zak s) .none .none .none (.str m t) none (.ref c) .none),#[]⟩
noncomputable abbrev fJ (s:Stmt) (u:Str):Obj:=⟨.none,none,.func ⟨dN s,u,zcs s,.stmts (zbd s),zak s,0,[],.none,.none,.none,.none,none,.none,.none,0⟩,#[]⟩
noncomputable abbrev cT:Obj:=⟨.type "tuple",none,.seq #[] 0,#[]⟩
noncomputable abbrev cF:Obj:=⟨.none,none,.fields #[],#[]⟩
noncomputable def tS:Nat->List Str->List Value
 | _,[]=>[]
 | n,x :: l=>.str x n :: tS (n + 1) l
noncomputable abbrev cN (n:Nat) (l:List Str):Obj:=⟨.type "tuple",none,.seq (tS n l).toArray 0,#[]⟩
noncomputable def cV:List (Int × Nat × Nat)->List Value
 | []=>[]
 | (l,t,c) :: r=>.int l t :: .int 0 0 :: .ref c :: cV r
noncomputable def bT (f:Nat->Obj) (n:Nat):Nat->Nat->Nat->BT
 | 0,_,_=>.nil
 | k + 1,a,b=>match Nat.blt b n with
  | true=>.node (f b) (bT f n k (Nat.mul 2 a) (Nat.add a b)) (bT f n k (Nat.mul 2 a) (Nat.add (Nat.mul 2 a) b))
  | false=>.nil
noncomputable abbrev u0:Str := "__main__"
noncomputable abbrev u1:Str := "fenlevel.names"
noncomputable abbrev u2:Str := "fenlevel.stand"
noncomputable abbrev u3:Str := "fenlevel.deeds"
noncomputable abbrev u4:Str := "fenlevel.fen"
noncomputable abbrev u5:Str := "law_fenlevel_k39_whole_numbers_are_given_onc"
noncomputable def c0 (P:Params) (d c:Obj):List Obj:=[PySem.W.boot_o_0 P,PySem.W.boot_o_1 P,PySem.W.boot_o_2 P,d,PySem.W.boot_o_4 P,PySem.W.boot_o_5 P,PySem.W.boot_o_6 P,PySem.W.boot_o_7 P,PySem.W.boot_o_8 P,PySem.W.boot_o_9 P,PySem.W.boot_o_10 P,cT,c,⟨.type "code",none,.fields #[.str "<module>" 182,.str "<module>" 183,.str "/claim/cut.py" 184,.int 1 0,.int 0 0,.int 0 0,.int 0 0,.int 0 0,.ref 11,.bool false,.int 181 0,.ref 12,.none,.none,.none,.none,.int 185 0,.int 1 0,.str "/claim/cut.py" 186],#[]⟩,⟨.type "frame",none,.plain,#[some (.ref 13),some (.ref 3),some (.ref 3),none,some (.str "__main__" 164),none,some (.ref 0)]⟩,cT,cF,cN 190 ["k"],cT,fI zqH,cO zqH 187 1 0 1 15 (.ref 17) (.ref 18) 19 192,fO zqH u0 164 20,⟨.type "tuple",none,.seq #[.type "ValueError"] 0,#[]⟩,⟨.type "builtin_function_or_method",none,.fields #[.builtin "type.__prepare__",.type "type"],#[]⟩]
noncomputable def c1 (P:Params):List Obj:=[⟨.type "dict",none,.dict #[dE P "__module__" 203 (.str "fenlevel.errors" 194),dE P "__qualname__" 205 (.str "FenError" 204),dE P "__firstlineno__" 207 (.int 5 206),dE P "__static_attributes__" 208 (.ref 29)] 4,#[]⟩,cT,cF,⟨.type "code",none,.fields #[.str "FenError" 198,.str "FenError" 199,.str "/claim/cut.py" 200,.int 5 0,.int 0 0,.int 0 0,.int 0 0,.int 0 0,.ref 25,.bool false,.int 181 0,.ref 26,.none,.none,.none,.none,.int 201 0,.int 5 0,.str "/claim/cut.py" 202],#[]⟩,⟨.type "frame",none,.plain,#[some (.ref 27),some (.ref 3),some (.ref 24),none,some (.str "fenlevel.errors" 194),none,some (.ref 0)]⟩,cT,⟨.type "dict",none,.dict #[dE P "__module__" 203 (.str "fenlevel.errors" 194),dE P "__firstlineno__" 207 (.int 5 206),dE P "__static_attributes__" 208 (.ref 29),dE P "__weakref__" 210 (.ref 32),dE P "__doc__" 211 (.none)] 3,#[]⟩,⟨.type "type",none,.cls ⟨"FenError",[.type "ValueError"],[.ref 31,.type "ValueError",.type "Exception",.type "BaseException",.type "object"],30,"FenError",true,[],[.ref 44,.ref 56,.ref 68,.ref 80,.ref 92,.ref 104,.ref 116,.ref 128,.ref 140,.ref 152,.ref 164,.ref 176],false,none,false⟩,#[some (.ref 22),none,some (.str "FenError" 196),some (.str "FenError" 204),some (.builtin "ValueError.__new__"),some (.bool true)]⟩,⟨.type "getset_descriptor",none,.fields #[.str "__weakref__" 209,.ref 31,.builtin "ExceptionGroup.__weakref__",.none],#[]⟩,⟨.type "super",none,.fields #[.ref 31,.ref 31,.ref 31],#[]⟩,⟨.type "builtin_function_or_method",none,.fields #[.builtin "object.__init_subclass__",.ref 31],#[]⟩,⟨.type "tuple",none,.seq #[.ref 31] 0,#[]⟩,⟨.type "builtin_function_or_method",none,.fields #[.builtin "type.__prepare__",.type "type"],#[]⟩,⟨.type "dict",none,.dict #[dE P "__module__" 221 (.str "fenlevel.errors" 194),dE P "__qualname__" 223 (.str "BadName" 222),dE P "__firstlineno__" 225 (.int 7 224),dE P "__static_attributes__" 226 (.ref 42)] 4,#[]⟩,cT,cF,⟨.type "code",none,.fields #[.str "BadName" 216,.str "BadName" 217,.str "/claim/cut.py" 218,.int 7 0,.int 0 0,.int 0 0,.int 0 0,.int 0 0,.ref 38,.bool false,.int 181 0,.ref 39,.none,.none,.none,.none,.int 219 0,.int 7 0,.str "/claim/cut.py" 220],#[]⟩,⟨.type "frame",none,.plain,#[some (.ref 40),some (.ref 3),some (.ref 37),none,some (.str "fenlevel.errors" 194),none,some (.ref 0)]⟩,cT,⟨.type "dict",none,.dict #[dE P "__module__" 221 (.str "fenlevel.errors" 194),dE P "__firstlineno__" 225 (.int 7 224),dE P "__static_attributes__" 226 (.ref 42),dE P "__doc__" 227 (.none)] 2,#[]⟩,⟨.type "type",none,.cls ⟨"BadName",[.ref 31],[.ref 44,.ref 31,.type "ValueError",.type "Exception",.type "BaseException",.type "object"],43,"BadName",true,[],[],false,none,false⟩,#[some (.ref 35),none,some (.str "BadName" 214),some (.str "BadName" 222),some (.builtin "ValueError.__new__"),some (.bool true)]⟩,⟨.type "super",none,.fields #[.ref 44,.ref 44,.ref 44],#[]⟩,⟨.type "builtin_function_or_method",none,.fields #[.builtin "object.__init_subclass__",.ref 44],#[]⟩,⟨.type "tuple",none,.seq #[.ref 31] 0,#[]⟩]
noncomputable def c2 (P:Params):List Obj:=[⟨.type "builtin_function_or_method",none,.fields #[.builtin "type.__prepare__",.type "type"],#[]⟩,⟨.type "dict",none,.dict #[dE P "__module__" 237 (.str "fenlevel.errors" 194),dE P "__qualname__" 239 (.str "Taken" 238),dE P "__firstlineno__" 241 (.int 9 240),dE P "__static_attributes__" 242 (.ref 54)] 4,#[]⟩,cT,cF,⟨.type "code",none,.fields #[.str "Taken" 232,.str "Taken" 233,.str "/claim/cut.py" 234,.int 9 0,.int 0 0,.int 0 0,.int 0 0,.int 0 0,.ref 50,.bool false,.int 181 0,.ref 51,.none,.none,.none,.none,.int 235 0,.int 9 0,.str "/claim/cut.py" 236],#[]⟩,⟨.type "frame",none,.plain,#[some (.ref 52),some (.ref 3),some (.ref 49),none,some (.str "fenlevel.errors" 194),none,some (.ref 0)]⟩,cT,⟨.type "dict",none,.dict #[dE P "__module__" 237 (.str "fenlevel.errors" 194),dE P "__firstlineno__" 241 (.int 9 240),dE P "__static_attributes__" 242 (.ref 54),dE P "__doc__" 243 (.none)] 2,#[]⟩,⟨.type "type",none,.cls ⟨"Taken",[.ref 31],[.ref 56,.ref 31,.type "ValueError",.type "Exception",.type "BaseException",.type "object"],55,"Taken",true,[],[],false,none,false⟩,#[some (.ref 47),none,some (.str "Taken" 230),some (.str "Taken" 238),some (.builtin "ValueError.__new__"),some (.bool true)]⟩,⟨.type "super",none,.fields #[.ref 56,.ref 56,.ref 56],#[]⟩,⟨.type "builtin_function_or_method",none,.fields #[.builtin "object.__init_subclass__",.ref 56],#[]⟩,⟨.type "tuple",none,.seq #[.ref 31] 0,#[]⟩,⟨.type "builtin_function_or_method",none,.fields #[.builtin "type.__prepare__",.type "type"],#[]⟩,⟨.type "dict",none,.dict #[dE P "__module__" 253 (.str "fenlevel.errors" 194),dE P "__qualname__" 255 (.str "Full" 254),dE P "__firstlineno__" 257 (.int 11 256),dE P "__static_attributes__" 258 (.ref 66)] 4,#[]⟩,cT,cF,⟨.type "code",none,.fields #[.str "Full" 248,.str "Full" 249,.str "/claim/cut.py" 250,.int 11 0,.int 0 0,.int 0 0,.int 0 0,.int 0 0,.ref 62,.bool false,.int 181 0,.ref 63,.none,.none,.none,.none,.int 251 0,.int 11 0,.str "/claim/cut.py" 252],#[]⟩,⟨.type "frame",none,.plain,#[some (.ref 64),some (.ref 3),some (.ref 61),none,some (.str "fenlevel.errors" 194),none,some (.ref 0)]⟩,cT,⟨.type "dict",none,.dict #[dE P "__module__" 253 (.str "fenlevel.errors" 194),dE P "__firstlineno__" 257 (.int 11 256),dE P "__static_attributes__" 258 (.ref 66),dE P "__doc__" 259 (.none)] 2,#[]⟩,⟨.type "type",none,.cls ⟨"Full",[.ref 31],[.ref 68,.ref 31,.type "ValueError",.type "Exception",.type "BaseException",.type "object"],67,"Full",true,[],[],false,none,false⟩,#[some (.ref 59),none,some (.str "Full" 246),some (.str "Full" 254),some (.builtin "ValueError.__new__"),some (.bool true)]⟩,⟨.type "super",none,.fields #[.ref 68,.ref 68,.ref 68],#[]⟩,⟨.type "builtin_function_or_method",none,.fields #[.builtin "object.__init_subclass__",.ref 68],#[]⟩,⟨.type "tuple",none,.seq #[.ref 31] 0,#[]⟩]
noncomputable def c3 (P:Params):List Obj:=[⟨.type "builtin_function_or_method",none,.fields #[.builtin "type.__prepare__",.type "type"],#[]⟩,⟨.type "dict",none,.dict #[dE P "__module__" 269 (.str "fenlevel.errors" 194),dE P "__qualname__" 271 (.str "NoMark" 270),dE P "__firstlineno__" 273 (.int 13 272),dE P "__static_attributes__" 274 (.ref 78)] 4,#[]⟩,cT,cF,⟨.type "code",none,.fields #[.str "NoMark" 264,.str "NoMark" 265,.str "/claim/cut.py" 266,.int 13 0,.int 0 0,.int 0 0,.int 0 0,.int 0 0,.ref 74,.bool false,.int 181 0,.ref 75,.none,.none,.none,.none,.int 267 0,.int 13 0,.str "/claim/cut.py" 268],#[]⟩,⟨.type "frame",none,.plain,#[some (.ref 76),some (.ref 3),some (.ref 73),none,some (.str "fenlevel.errors" 194),none,some (.ref 0)]⟩,cT,⟨.type "dict",none,.dict #[dE P "__module__" 269 (.str "fenlevel.errors" 194),dE P "__firstlineno__" 273 (.int 13 272),dE P "__static_attributes__" 274 (.ref 78),dE P "__doc__" 275 (.none)] 2,#[]⟩,⟨.type "type",none,.cls ⟨"NoMark",[.ref 31],[.ref 80,.ref 31,.type "ValueError",.type "Exception",.type "BaseException",.type "object"],79,"NoMark",true,[],[],false,none,false⟩,#[some (.ref 71),none,some (.str "NoMark" 262),some (.str "NoMark" 270),some (.builtin "ValueError.__new__"),some (.bool true)]⟩,⟨.type "super",none,.fields #[.ref 80,.ref 80,.ref 80],#[]⟩,⟨.type "builtin_function_or_method",none,.fields #[.builtin "object.__init_subclass__",.ref 80],#[]⟩,⟨.type "tuple",none,.seq #[.ref 31] 0,#[]⟩,⟨.type "builtin_function_or_method",none,.fields #[.builtin "type.__prepare__",.type "type"],#[]⟩,⟨.type "dict",none,.dict #[dE P "__module__" 285 (.str "fenlevel.errors" 194),dE P "__qualname__" 287 (.str "NoHand" 286),dE P "__firstlineno__" 289 (.int 15 288),dE P "__static_attributes__" 290 (.ref 90)] 4,#[]⟩,cT,cF,⟨.type "code",none,.fields #[.str "NoHand" 280,.str "NoHand" 281,.str "/claim/cut.py" 282,.int 15 0,.int 0 0,.int 0 0,.int 0 0,.int 0 0,.ref 86,.bool false,.int 181 0,.ref 87,.none,.none,.none,.none,.int 283 0,.int 15 0,.str "/claim/cut.py" 284],#[]⟩,⟨.type "frame",none,.plain,#[some (.ref 88),some (.ref 3),some (.ref 85),none,some (.str "fenlevel.errors" 194),none,some (.ref 0)]⟩,cT,⟨.type "dict",none,.dict #[dE P "__module__" 285 (.str "fenlevel.errors" 194),dE P "__firstlineno__" 289 (.int 15 288),dE P "__static_attributes__" 290 (.ref 90),dE P "__doc__" 291 (.none)] 2,#[]⟩,⟨.type "type",none,.cls ⟨"NoHand",[.ref 31],[.ref 92,.ref 31,.type "ValueError",.type "Exception",.type "BaseException",.type "object"],91,"NoHand",true,[],[],false,none,false⟩,#[some (.ref 83),none,some (.str "NoHand" 278),some (.str "NoHand" 286),some (.builtin "ValueError.__new__"),some (.bool true)]⟩,⟨.type "super",none,.fields #[.ref 92,.ref 92,.ref 92],#[]⟩,⟨.type "builtin_function_or_method",none,.fields #[.builtin "object.__init_subclass__",.ref 92],#[]⟩,⟨.type "tuple",none,.seq #[.ref 31] 0,#[]⟩]
noncomputable def c4 (P:Params):List Obj:=[⟨.type "builtin_function_or_method",none,.fields #[.builtin "type.__prepare__",.type "type"],#[]⟩,⟨.type "dict",none,.dict #[dE P "__module__" 301 (.str "fenlevel.errors" 194),dE P "__qualname__" 303 (.str "Same" 302),dE P "__firstlineno__" 305 (.int 17 304),dE P "__static_attributes__" 306 (.ref 102)] 4,#[]⟩,cT,cF,⟨.type "code",none,.fields #[.str "Same" 296,.str "Same" 297,.str "/claim/cut.py" 298,.int 17 0,.int 0 0,.int 0 0,.int 0 0,.int 0 0,.ref 98,.bool false,.int 181 0,.ref 99,.none,.none,.none,.none,.int 299 0,.int 17 0,.str "/claim/cut.py" 300],#[]⟩,⟨.type "frame",none,.plain,#[some (.ref 100),some (.ref 3),some (.ref 97),none,some (.str "fenlevel.errors" 194),none,some (.ref 0)]⟩,cT,⟨.type "dict",none,.dict #[dE P "__module__" 301 (.str "fenlevel.errors" 194),dE P "__firstlineno__" 305 (.int 17 304),dE P "__static_attributes__" 306 (.ref 102),dE P "__doc__" 307 (.none)] 2,#[]⟩,⟨.type "type",none,.cls ⟨"Same",[.ref 31],[.ref 104,.ref 31,.type "ValueError",.type "Exception",.type "BaseException",.type "object"],103,"Same",true,[],[],false,none,false⟩,#[some (.ref 95),none,some (.str "Same" 294),some (.str "Same" 302),some (.builtin "ValueError.__new__"),some (.bool true)]⟩,⟨.type "super",none,.fields #[.ref 104,.ref 104,.ref 104],#[]⟩,⟨.type "builtin_function_or_method",none,.fields #[.builtin "object.__init_subclass__",.ref 104],#[]⟩,⟨.type "tuple",none,.seq #[.ref 31] 0,#[]⟩,⟨.type "builtin_function_or_method",none,.fields #[.builtin "type.__prepare__",.type "type"],#[]⟩,⟨.type "dict",none,.dict #[dE P "__module__" 317 (.str "fenlevel.errors" 194),dE P "__qualname__" 319 (.str "BadRise" 318),dE P "__firstlineno__" 321 (.int 19 320),dE P "__static_attributes__" 322 (.ref 114)] 4,#[]⟩,cT,cF,⟨.type "code",none,.fields #[.str "BadRise" 312,.str "BadRise" 313,.str "/claim/cut.py" 314,.int 19 0,.int 0 0,.int 0 0,.int 0 0,.int 0 0,.ref 110,.bool false,.int 181 0,.ref 111,.none,.none,.none,.none,.int 315 0,.int 19 0,.str "/claim/cut.py" 316],#[]⟩,⟨.type "frame",none,.plain,#[some (.ref 112),some (.ref 3),some (.ref 109),none,some (.str "fenlevel.errors" 194),none,some (.ref 0)]⟩,cT,⟨.type "dict",none,.dict #[dE P "__module__" 317 (.str "fenlevel.errors" 194),dE P "__firstlineno__" 321 (.int 19 320),dE P "__static_attributes__" 322 (.ref 114),dE P "__doc__" 323 (.none)] 2,#[]⟩,⟨.type "type",none,.cls ⟨"BadRise",[.ref 31],[.ref 116,.ref 31,.type "ValueError",.type "Exception",.type "BaseException",.type "object"],115,"BadRise",true,[],[],false,none,false⟩,#[some (.ref 107),none,some (.str "BadRise" 310),some (.str "BadRise" 318),some (.builtin "ValueError.__new__"),some (.bool true)]⟩,⟨.type "super",none,.fields #[.ref 116,.ref 116,.ref 116],#[]⟩,⟨.type "builtin_function_or_method",none,.fields #[.builtin "object.__init_subclass__",.ref 116],#[]⟩,⟨.type "tuple",none,.seq #[.ref 31] 0,#[]⟩]
noncomputable def c5 (P:Params):List Obj:=[⟨.type "builtin_function_or_method",none,.fields #[.builtin "type.__prepare__",.type "type"],#[]⟩,⟨.type "dict",none,.dict #[dE P "__module__" 333 (.str "fenlevel.errors" 194),dE P "__qualname__" 335 (.str "NoRun" 334),dE P "__firstlineno__" 337 (.int 21 336),dE P "__static_attributes__" 338 (.ref 126)] 4,#[]⟩,cT,cF,⟨.type "code",none,.fields #[.str "NoRun" 328,.str "NoRun" 329,.str "/claim/cut.py" 330,.int 21 0,.int 0 0,.int 0 0,.int 0 0,.int 0 0,.ref 122,.bool false,.int 181 0,.ref 123,.none,.none,.none,.none,.int 331 0,.int 21 0,.str "/claim/cut.py" 332],#[]⟩,⟨.type "frame",none,.plain,#[some (.ref 124),some (.ref 3),some (.ref 121),none,some (.str "fenlevel.errors" 194),none,some (.ref 0)]⟩,cT,⟨.type "dict",none,.dict #[dE P "__module__" 333 (.str "fenlevel.errors" 194),dE P "__firstlineno__" 337 (.int 21 336),dE P "__static_attributes__" 338 (.ref 126),dE P "__doc__" 339 (.none)] 2,#[]⟩,⟨.type "type",none,.cls ⟨"NoRun",[.ref 31],[.ref 128,.ref 31,.type "ValueError",.type "Exception",.type "BaseException",.type "object"],127,"NoRun",true,[],[],false,none,false⟩,#[some (.ref 119),none,some (.str "NoRun" 326),some (.str "NoRun" 334),some (.builtin "ValueError.__new__"),some (.bool true)]⟩,⟨.type "super",none,.fields #[.ref 128,.ref 128,.ref 128],#[]⟩,⟨.type "builtin_function_or_method",none,.fields #[.builtin "object.__init_subclass__",.ref 128],#[]⟩,⟨.type "tuple",none,.seq #[.ref 31] 0,#[]⟩,⟨.type "builtin_function_or_method",none,.fields #[.builtin "type.__prepare__",.type "type"],#[]⟩,⟨.type "dict",none,.dict #[dE P "__module__" 349 (.str "fenlevel.errors" 194),dE P "__qualname__" 351 (.str "Aside" 350),dE P "__firstlineno__" 353 (.int 23 352),dE P "__static_attributes__" 354 (.ref 138)] 4,#[]⟩,cT,cF,⟨.type "code",none,.fields #[.str "Aside" 344,.str "Aside" 345,.str "/claim/cut.py" 346,.int 23 0,.int 0 0,.int 0 0,.int 0 0,.int 0 0,.ref 134,.bool false,.int 181 0,.ref 135,.none,.none,.none,.none,.int 347 0,.int 23 0,.str "/claim/cut.py" 348],#[]⟩,⟨.type "frame",none,.plain,#[some (.ref 136),some (.ref 3),some (.ref 133),none,some (.str "fenlevel.errors" 194),none,some (.ref 0)]⟩,cT,⟨.type "dict",none,.dict #[dE P "__module__" 349 (.str "fenlevel.errors" 194),dE P "__firstlineno__" 353 (.int 23 352),dE P "__static_attributes__" 354 (.ref 138),dE P "__doc__" 355 (.none)] 2,#[]⟩,⟨.type "type",none,.cls ⟨"Aside",[.ref 31],[.ref 140,.ref 31,.type "ValueError",.type "Exception",.type "BaseException",.type "object"],139,"Aside",true,[],[],false,none,false⟩,#[some (.ref 131),none,some (.str "Aside" 342),some (.str "Aside" 350),some (.builtin "ValueError.__new__"),some (.bool true)]⟩,⟨.type "super",none,.fields #[.ref 140,.ref 140,.ref 140],#[]⟩,⟨.type "builtin_function_or_method",none,.fields #[.builtin "object.__init_subclass__",.ref 140],#[]⟩,⟨.type "tuple",none,.seq #[.ref 31] 0,#[]⟩]
noncomputable def c6 (P:Params):List Obj:=[⟨.type "builtin_function_or_method",none,.fields #[.builtin "type.__prepare__",.type "type"],#[]⟩,⟨.type "dict",none,.dict #[dE P "__module__" 365 (.str "fenlevel.errors" 194),dE P "__qualname__" 367 (.str "NotAside" 366),dE P "__firstlineno__" 369 (.int 25 368),dE P "__static_attributes__" 370 (.ref 150)] 4,#[]⟩,cT,cF,⟨.type "code",none,.fields #[.str "NotAside" 360,.str "NotAside" 361,.str "/claim/cut.py" 362,.int 25 0,.int 0 0,.int 0 0,.int 0 0,.int 0 0,.ref 146,.bool false,.int 181 0,.ref 147,.none,.none,.none,.none,.int 363 0,.int 25 0,.str "/claim/cut.py" 364],#[]⟩,⟨.type "frame",none,.plain,#[some (.ref 148),some (.ref 3),some (.ref 145),none,some (.str "fenlevel.errors" 194),none,some (.ref 0)]⟩,cT,⟨.type "dict",none,.dict #[dE P "__module__" 365 (.str "fenlevel.errors" 194),dE P "__firstlineno__" 369 (.int 25 368),dE P "__static_attributes__" 370 (.ref 150),dE P "__doc__" 371 (.none)] 2,#[]⟩,⟨.type "type",none,.cls ⟨"NotAside",[.ref 31],[.ref 152,.ref 31,.type "ValueError",.type "Exception",.type "BaseException",.type "object"],151,"NotAside",true,[],[],false,none,false⟩,#[some (.ref 143),none,some (.str "NotAside" 358),some (.str "NotAside" 366),some (.builtin "ValueError.__new__"),some (.bool true)]⟩,⟨.type "super",none,.fields #[.ref 152,.ref 152,.ref 152],#[]⟩,⟨.type "builtin_function_or_method",none,.fields #[.builtin "object.__init_subclass__",.ref 152],#[]⟩,⟨.type "tuple",none,.seq #[.ref 31] 0,#[]⟩,⟨.type "builtin_function_or_method",none,.fields #[.builtin "type.__prepare__",.type "type"],#[]⟩,⟨.type "dict",none,.dict #[dE P "__module__" 381 (.str "fenlevel.errors" 194),dE P "__qualname__" 383 (.str "BadNumber" 382),dE P "__firstlineno__" 385 (.int 27 384),dE P "__static_attributes__" 386 (.ref 162)] 4,#[]⟩,cT,cF,⟨.type "code",none,.fields #[.str "BadNumber" 376,.str "BadNumber" 377,.str "/claim/cut.py" 378,.int 27 0,.int 0 0,.int 0 0,.int 0 0,.int 0 0,.ref 158,.bool false,.int 181 0,.ref 159,.none,.none,.none,.none,.int 379 0,.int 27 0,.str "/claim/cut.py" 380],#[]⟩,⟨.type "frame",none,.plain,#[some (.ref 160),some (.ref 3),some (.ref 157),none,some (.str "fenlevel.errors" 194),none,some (.ref 0)]⟩,cT,⟨.type "dict",none,.dict #[dE P "__module__" 381 (.str "fenlevel.errors" 194),dE P "__firstlineno__" 385 (.int 27 384),dE P "__static_attributes__" 386 (.ref 162),dE P "__doc__" 387 (.none)] 2,#[]⟩,⟨.type "type",none,.cls ⟨"BadNumber",[.ref 31],[.ref 164,.ref 31,.type "ValueError",.type "Exception",.type "BaseException",.type "object"],163,"BadNumber",true,[],[],false,none,false⟩,#[some (.ref 155),none,some (.str "BadNumber" 374),some (.str "BadNumber" 382),some (.builtin "ValueError.__new__"),some (.bool true)]⟩,⟨.type "super",none,.fields #[.ref 164,.ref 164,.ref 164],#[]⟩,⟨.type "builtin_function_or_method",none,.fields #[.builtin "object.__init_subclass__",.ref 164],#[]⟩,⟨.type "tuple",none,.seq #[.ref 31] 0,#[]⟩]
noncomputable def c7 (P:Params):List Obj:=[⟨.type "builtin_function_or_method",none,.fields #[.builtin "type.__prepare__",.type "type"],#[]⟩,⟨.type "dict",none,.dict #[dE P "__module__" 397 (.str "fenlevel.errors" 194),dE P "__qualname__" 399 (.str "NothingLeft" 398),dE P "__firstlineno__" 401 (.int 29 400),dE P "__static_attributes__" 402 (.ref 174)] 4,#[]⟩,cT,cF,⟨.type "code",none,.fields #[.str "NothingLeft" 392,.str "NothingLeft" 393,.str "/claim/cut.py" 394,.int 29 0,.int 0 0,.int 0 0,.int 0 0,.int 0 0,.ref 170,.bool false,.int 181 0,.ref 171,.none,.none,.none,.none,.int 395 0,.int 29 0,.str "/claim/cut.py" 396],#[]⟩,⟨.type "frame",none,.plain,#[some (.ref 172),some (.ref 3),some (.ref 169),none,some (.str "fenlevel.errors" 194),none,some (.ref 0)]⟩,cT,⟨.type "dict",none,.dict #[dE P "__module__" 397 (.str "fenlevel.errors" 194),dE P "__firstlineno__" 401 (.int 29 400),dE P "__static_attributes__" 402 (.ref 174),dE P "__doc__" 403 (.none)] 2,#[]⟩,⟨.type "type",none,.cls ⟨"NothingLeft",[.ref 31],[.ref 176,.ref 31,.type "ValueError",.type "Exception",.type "BaseException",.type "object"],175,"NothingLeft",true,[],[],false,none,false⟩,#[some (.ref 167),none,some (.str "NothingLeft" 390),some (.str "NothingLeft" 398),some (.builtin "ValueError.__new__"),some (.bool true)]⟩,⟨.type "super",none,.fields #[.ref 176,.ref 176,.ref 176],#[]⟩,⟨.type "builtin_function_or_method",none,.fields #[.builtin "object.__init_subclass__",.ref 176],#[]⟩,cT,cF,fI zdE,cP zdE 412 34 0 3 179 416,fO zdE u1 406 182,cT,cF,cN 421 ["text"],cT,fI zga,cO zga 418 36 0 1 184 (.ref 186) (.ref 187) 188 423,fO zga u1 406 189,cT]
noncomputable def c8 (P:Params):List Obj:=[cF,fI zex,cP zex 427 39 0 1 191 431,fO zex u2 425 194,cT,cF,fI zeO,cP zeO 433 41 0 2 196 437,fO zeO u2 425 199,cT,cF,cN 442 ["stands","name"],cT,fI zc6,cO zc6 439 43 0 2 201 (.ref 203) (.ref 204) 205 445,fO zc6 u2 425 206,cT,cF,cN 450 ["stands","name","turns"],cT,fI zdb,cO zdb 447 45 0 2 208 (.ref 210) (.ref 211) 212 454,fO zdb u2 425 213,cT]
noncomputable def c9 (P:Params):List Obj:=[cF,cT,cT,fI zdc,cO zdc 468 56 0 0 215 (.ref 217) (.ref 218) 219 472,fO zdc u3 456 220,cT,cF,cN 477 ["book","word","value","fresh"],cT,fI zc4,cO zc4 474 58 0 3 222 (.ref 224) (.ref 225) 226 482,fO zc4 u3 456 227,cT,cF,cN 487 ["book","name","stands"],cT,fI zbH,cO zbH 484 62 0 2 229 (.ref 231) (.ref 232) 233 491,fO zbH u3 456 234,cT,cF,cN 496 ["book","name"],cT]
noncomputable def c10 (P:Params):List Obj:=[fI zdz,cO zdz 493 67 0 2 236 (.ref 238) (.ref 239) 240 499,fO zdz u3 456 241,cT,cF,cN 504 ["rise"],cT,fI zdK,cO zdK 501 70 0 1 243 (.ref 245) (.ref 246) 247 506,fO zdK u3 456 248,cT,cF,fI zez,cP zez 508 73 0 2 250 512,fO zez u3 456 253,cT,cF,cN 517 ["book","row","word","name"],cT,fI zcb,cO zcb 514 76 0 2 255 (.ref 257) (.ref 258) 259 522,fO zcb u3 456 260,cT,cF]
noncomputable def c11 (P:Params):List Obj:=[cN 527 ["book","row","word","name","hands"],cT,fI zb5,cO zb5 524 83 0 2 262 (.ref 264) (.ref 265) 266 533,fO zb5 u3 456 267,cT,cF,cN 538 ["book","row","word","one","other","rise","hand","start","start_turn","end","end_turn","number","run"],cT,fI zcu,cO zcu 535 93 0 2 269 (.ref 271) (.ref 272) 273 552,fO zcu u3 456 274,cT,cF,fI zcZ,cP zcZ 554 106 0 2 276 558,fO zcZ u3 456 279,cT,cF,fI zc3,cP zc3 560 110 0 2 281 564,fO zc3 u3 456 284,cT,cF]
noncomputable def c12 (P:Params):List Obj:=[cN 569 ["book","row","word","name","settling","turn"],cT,fI zdV,cO zdV 566 116 0 2 286 (.ref 288) (.ref 289) 290 576,fO zdV u3 456 291,cT,cF,cN 581 ["book","row","word","hand"],cT,fI zdm,cO zdm 578 120 0 2 293 (.ref 295) (.ref 296) 297 586,fO zdm u3 456 298,cT,cF,fI zee,cP zee 588 126 0 2 300 592,fO zee u3 456 303,cT,cF,cN 597 ["book","row","word","many"],cT,fI zbw,cO zbw 594 132 0 2 305 (.ref 307) (.ref 308) 309 602,fO zbw u3 456 310]
noncomputable def c13 (P:Params):List Obj:=[⟨.type "dict",none,.dict #[dE P "mark" 604 (.ref 261),dE P "hand" 605 (.ref 268),dE P "run" 606 (.ref 275),dE P "strike" 607 (.ref 280),dE P "mend" 608 (.ref 285),dE P "settle" 609 (.ref 292),dE P "aside" 610 (.ref 299),dE P "heed" 611 (.ref 304),dE P "allow" 612 (.ref 311)] 9,#[]⟩,cT,cF,cN 626 ["book","row","action"],cT,fI zct,cO zct 623 138 0 2 313 (.ref 315) (.ref 316) 317 630,fO zct u3 456 318,cT,cF,fI zbu,cP zbu 634 142 0 1 320 638,fO zbu u4 632 323,cT,⟨.type "builtin_function_or_method",none,.fields #[.builtin "type.__prepare__",.type "type"],#[]⟩,⟨.type "dict",none,.dict #[dE P "__module__" 647 (.str "fenlevel.fen" 632),dE P "__qualname__" 649 (.str "Fen" 648),dE P "__firstlineno__" 651 (.int 144 650),dE P "__init__" 658 (.ref 338),dE P "now" 665 (.ref 345),dE P "mark" 673 (.ref 352),dE P "hand" 681 (.ref 359),dE P "run" 692 (.ref 366),dE P "strike" 700 (.ref 373),dE P "mend" 709 (.ref 380),dE P "settle" 717 (.ref 387),dE P "aside" 725 (.ref 394),dE P "heed" 733 (.ref 401),dE P "allow" 741 (.ref 408),dE P "deed" 750 (.ref 415),dE P "back" 757 (.ref 422),dE P "again" 766 (.ref 429),dE P "deeds" 773 (.ref 436),dE P "twin" 780 (.ref 443),dE P "marks" 787 (.ref 450),dE P "hands" 794 (.ref 457),dE P "asides" 800 (.ref 462),dE P "stands" 807 (.ref 469),dE P "allowed" 814 (.ref 476),dE P "runs" 821 (.ref 483),dE P "counting" 827 (.ref 488),dE P "height" 836 (.ref 495),dE P "paper" 845 (.ref 502),dE P "readings" 854 (.ref 509),dE P "sank" 862 (.ref 516),dE P "false_sets" 869 (.ref 523),dE P "least" 876 (.ref 530),dE P "groups" 883 (.ref 537),dE P "parting" 892 (.ref 544),dE P "foe" 901 (.ref 551),dE P "__static_attributes__" 905 (.ref 552)] 36,#[]⟩,cT,⟨.none,none,.fields #[.int 146 0,.int 4 0,.ref 337,.int 151 0,.int 4 0,.ref 344,.int 154 0,.int 4 0,.ref 351,.int 157 0,.int 4 0,.ref 358,.int 160 0,.int 4 0,.ref 365,.int 163 0,.int 4 0,.ref 372,.int 166 0,.int 4 0,.ref 379,.int 169 0,.int 4 0,.ref 386,.int 172 0,.int 4 0,.ref 393,.int 175 0,.int 4 0,.ref 400,.int 178 0,.int 4 0,.ref 407,.int 181 0,.int 4 0,.ref 414,.int 190 0,.int 4 0,.ref 421,.int 195 0,.int 4 0,.ref 428,.int 202 0,.int 4 0,.ref 435,.int 205 0,.int 4 0,.ref 442,.int 208 0,.int 4 0,.ref 449,.int 211 0,.int 4 0,.ref 456,.int 214 0,.int 4 0,.ref 461,.int 218 0,.int 4 0,.ref 468,.int 221 0,.int 4 0,.ref 475,.int 224 0,.int 4 0,.ref 482,.int 227 0,.int 4 0,.ref 487,.int 230 0,.int 4 0,.ref 494,.int 233 0,.int 4 0,.ref 501,.int 236 0,.int 4 0,.ref 508,.int 239 0,.int 4 0,.ref 515,.int 242 0,.int 4 0,.ref 522,.int 245 0,.int 4 0,.ref 529,.int 248 0,.int 4 0,.ref 536,.int 251 0,.int 4 0,.ref 543,.int 254 0,.int 4 0,.ref 550],#[]⟩,⟨.type "code",none,.fields #[.str "Fen" 642,.str "Fen" 643,.str "/claim/cut.py" 644,.int 144 0,.int 0 0,.int 0 0,.int 0 0,.int 0 0,.ref 328,.bool false,.int 181 0,.ref 329,.none,.none,.none,.none,.int 645 0,.int 144 0,.str "/claim/cut.py" 646],#[]⟩,⟨.type "frame",none,.plain,#[some (.ref 330),some (.ref 3),some (.ref 327),none,some (.str "fenlevel.fen" 632),none,some (.ref 0)]⟩,cT,cF,cN 655 ["self"],cT]
noncomputable def c14 (P:Params):List Obj:=[fJ zbJ "Fen.__init__",cQ zbJ "Fen.__init__" 652 146 0 1 332 (.ref 334) (.ref 335) 336 657,fQ zbJ "Fen.__init__" u4 632 337,cT,cF,cN 662 ["self"],cT,fJ zeA "Fen.now",cQ zeA "Fen.now" 659 151 0 1 339 (.ref 341) (.ref 342) 343 664,fQ zeA "Fen.now" u4 632 344,cT,cF,cN 669 ["self","name"],cT,fJ zfW "Fen.mark",cQ zfW "Fen.mark" 666 154 0 2 346 (.ref 348) (.ref 349) 350 672,fQ zfW "Fen.mark" u4 632 351,cT,cF,cN 677 ["self","name"],cT,fJ zf3 "Fen.hand",cQ zf3 "Fen.hand" 674 157 0 2 353 (.ref 355) (.ref 356) 357 680,fQ zf3 "Fen.hand" u4 632 358]
noncomputable def c15 (P:Params):List Obj:=[cT,cF,cN 685 ["self","one","other","rise","hand"],cT,fJ zhG "Fen.run",cQ zhG "Fen.run" 682 160 0 5 360 (.ref 362) (.ref 363) 364 691,fQ zhG "Fen.run" u4 632 365,cT,cF,cN 696 ["self","number"],cT,fJ zcA "Fen.strike",cQ zcA "Fen.strike" 693 163 0 2 367 (.ref 369) (.ref 370) 371 699,fQ zcA "Fen.strike" u4 632 372,cT,cF,cN 704 ["self","number","rise"],cT,fJ zdW "Fen.mend",cQ zdW "Fen.mend" 701 166 0 3 374 (.ref 376) (.ref 377) 378 708,fQ zdW "Fen.mend" u4 632 379,cT,cF,cN 713 ["self","name"]]
noncomputable def c16 (P:Params):List Obj:=[cT,fJ zeg "Fen.settle",cQ zeg "Fen.settle" 710 169 0 2 381 (.ref 383) (.ref 384) 385 716,fQ zeg "Fen.settle" u4 632 386,cT,cF,cN 721 ["self","hand"],cT,fJ ze5 "Fen.aside",cQ ze5 "Fen.aside" 718 172 0 2 388 (.ref 390) (.ref 391) 392 724,fQ ze5 "Fen.aside" u4 632 393,cT,cF,cN 729 ["self","hand"],cT,fJ zfM "Fen.heed",cQ zfM "Fen.heed" 726 175 0 2 395 (.ref 397) (.ref 398) 399 732,fQ zfM "Fen.heed" u4 632 400,cT,cF,cN 737 ["self","many"],cT,fJ zfc "Fen.allow",cQ zfc "Fen.allow" 734 178 0 2 402 (.ref 404) (.ref 405) 406 740]
noncomputable def c17 (P:Params):List Obj:=[fQ zfc "Fen.allow" u4 632 407,cT,cF,cN 745 ["self","row","book"],cT,fJ zdS "Fen.deed",cQ zdS "Fen.deed" 742 181 0 2 409 (.ref 411) (.ref 412) 413 749,fQ zdS "Fen.deed" u4 632 414,cT,cF,cN 754 ["self"],cT,fJ zdF "Fen.back",cQ zdF "Fen.back" 751 190 0 1 416 (.ref 418) (.ref 419) 420 756,fQ zdF "Fen.back" u4 632 421,cT,cF,cN 761 ["self","row","book"],cT,fJ zfb "Fen.again",cQ zfb "Fen.again" 758 195 0 1 423 (.ref 425) (.ref 426) 427 765,fQ zfb "Fen.again" u4 632 428,cT,cF]
noncomputable def c18 (P:Params):List Obj:=[cN 770 ["self"],cT,fJ zda "Fen.deeds",cQ zda "Fen.deeds" 767 202 0 1 430 (.ref 432) (.ref 433) 434 772,fQ zda "Fen.deeds" u4 632 435,cT,cF,cN 777 ["self"],cT,fJ zfH "Fen.twin",cQ zfH "Fen.twin" 774 205 0 1 437 (.ref 439) (.ref 440) 441 779,fQ zfH "Fen.twin" u4 632 442,cT,cF,cN 784 ["self"],cT,fJ zc1 "Fen.marks",cQ zc1 "Fen.marks" 781 208 0 1 444 (.ref 446) (.ref 447) 448 786,fQ zc1 "Fen.marks" u4 632 449,cT,cF,cN 791 ["self"],cT,fJ zc5 "Fen.hands"]
noncomputable def c19 (P:Params):List Obj:=[cQ zc5 "Fen.hands" 788 211 0 1 451 (.ref 453) (.ref 454) 455 793,fQ zc5 "Fen.hands" u4 632 456,cT,cF,fJ zcx "Fen.asides",cQ zcx "Fen.asides" 795 214 0 1 458 (.none) (.none) 460 799,fQ zcx "Fen.asides" u4 632 461,cT,cF,cN 804 ["self"],cT,fJ zcz "Fen.stands",cQ zcz "Fen.stands" 801 218 0 1 463 (.ref 465) (.ref 466) 467 806,fQ zcz "Fen.stands" u4 632 468,cT,cF,cN 811 ["self"],cT,fJ zb9 "Fen.allowed",cQ zb9 "Fen.allowed" 808 221 0 1 470 (.ref 472) (.ref 473) 474 813,fQ zb9 "Fen.allowed" u4 632 475,cT,cF,cN 818 ["self"]]
noncomputable def c20 (P:Params):List Obj:=[cT,fJ zdR "Fen.runs",cQ zdR "Fen.runs" 815 224 0 1 477 (.ref 479) (.ref 480) 481 820,fQ zdR "Fen.runs" u4 632 482,cT,cF,fJ zbK "Fen.counting",cQ zbK "Fen.counting" 822 227 0 1 484 (.none) (.none) 486 826,fQ zbK "Fen.counting" u4 632 487,cT,cF,cN 831 ["self","one","other"],cT,fJ zek "Fen.height",cQ zek "Fen.height" 828 230 0 3 489 (.ref 491) (.ref 492) 493 835,fQ zek "Fen.height" u4 632 494,cT,cF,cN 840 ["self","one","other"],cT,fJ zeZ "Fen.paper",cQ zeZ "Fen.paper" 837 233 0 3 496 (.ref 498) (.ref 499) 500 844,fQ zeZ "Fen.paper" u4 632 501,cT]
noncomputable def c21 (P:Params):List Obj:=[cF,cN 849 ["self","one","other"],cT,fJ zdl "Fen.readings",cQ zdl "Fen.readings" 846 236 0 3 503 (.ref 505) (.ref 506) 507 853,fQ zdl "Fen.readings" u4 632 508,cT,cF,cN 858 ["self","name"],cT,fJ zfY "Fen.sank",cQ zfY "Fen.sank" 855 239 0 2 510 (.ref 512) (.ref 513) 514 861,fQ zfY "Fen.sank" u4 632 515,cT,cF,cN 866 ["self"],cT,fJ zcw "Fen.false_sets",cQ zcw "Fen.false_sets" 863 242 0 1 517 (.ref 519) (.ref 520) 521 868,fQ zcw "Fen.false_sets" u4 632 522,cT,cF,cN 873 ["self"],cT]
noncomputable def c22 (P:Params):List Obj:=[fJ ze7 "Fen.least",cQ ze7 "Fen.least" 870 245 0 1 524 (.ref 526) (.ref 527) 528 875,fQ ze7 "Fen.least" u4 632 529,cT,cF,cN 880 ["self"],cT,fJ zem "Fen.groups",cQ zem "Fen.groups" 877 248 0 1 531 (.ref 533) (.ref 534) 535 882,fQ zem "Fen.groups" u4 632 536,cT,cF,cN 887 ["self","one","other"],cT,fJ zdT "Fen.parting",cQ zdT "Fen.parting" 884 251 0 3 538 (.ref 540) (.ref 541) 542 891,fQ zdT "Fen.parting" u4 632 543,cT,cF,cN 896 ["self","one","other"],cT,fJ zhF "Fen.foe",cQ zhF "Fen.foe" 893 254 0 3 545 (.ref 547) (.ref 548) 549 900,fQ zhF "Fen.foe" u4 632 550]
noncomputable def c23 (P:Params):List Obj:=[cN 902 ["books","kept","undone"],⟨.type "dict",none,.dict #[dE P "__module__" 647 (.str "fenlevel.fen" 632),dE P "__firstlineno__" 651 (.int 144 650),dE P "__init__" 658 (.ref 338),dE P "now" 665 (.ref 345),dE P "mark" 673 (.ref 352),dE P "hand" 681 (.ref 359),dE P "run" 692 (.ref 366),dE P "strike" 700 (.ref 373),dE P "mend" 709 (.ref 380),dE P "settle" 717 (.ref 387),dE P "aside" 725 (.ref 394),dE P "heed" 733 (.ref 401),dE P "allow" 741 (.ref 408),dE P "deed" 750 (.ref 415),dE P "back" 757 (.ref 422),dE P "again" 766 (.ref 429),dE P "deeds" 773 (.ref 436),dE P "twin" 780 (.ref 443),dE P "marks" 787 (.ref 450),dE P "hands" 794 (.ref 457),dE P "asides" 800 (.ref 462),dE P "stands" 807 (.ref 469),dE P "allowed" 814 (.ref 476),dE P "runs" 821 (.ref 483),dE P "counting" 827 (.ref 488),dE P "height" 836 (.ref 495),dE P "paper" 845 (.ref 502),dE P "readings" 854 (.ref 509),dE P "sank" 862 (.ref 516),dE P "false_sets" 869 (.ref 523),dE P "least" 876 (.ref 530),dE P "groups" 883 (.ref 537),dE P "parting" 892 (.ref 544),dE P "foe" 901 (.ref 551),dE P "__static_attributes__" 905 (.ref 552),dE P "__dict__" 907 (.ref 555),dE P "__weakref__" 909 (.ref 556),dE P "__doc__" 910 (.none)] 4,#[]⟩,⟨.type "type",none,.cls ⟨"Fen",[.type "object"],[.ref 554,.type "object"],553,"Fen",true,[],[],false,none,false⟩,#[none,none,some (.str "Fen" 640),some (.str "Fen" 648),some (.builtin "object.__new__"),some (.bool true)]⟩,⟨.type "getset_descriptor",none,.fields #[.str "__dict__" 906,.ref 554,.builtin "function.__dict__",.builtin "function.__dict__#set"],#[]⟩,⟨.type "getset_descriptor",none,.fields #[.str "__weakref__" 908,.ref 554,.builtin "ExceptionGroup.__weakref__",.none],#[]⟩,⟨.type "super",none,.fields #[.ref 554,.ref 554,.ref 554],#[]⟩,⟨.type "builtin_function_or_method",none,.fields #[.builtin "object.__init_subclass__",.ref 554],#[]⟩,cT,cF,cN 918 ["_law_script"],cT,fI sBox,cO sBox 915 257 0 1 559 (.ref 561) (.ref 562) 563 920,fO sBox u5 913 564,cT,cF,cN 925 ["_law_box_here","_law_many","_law_rest","_law_cell","_law_seed"],cT,fI zjQ,cO zjQ 922 259 0 2 566 (.ref 568) (.ref 569) 570 931,fO zjQ u5 913 571,cT,cF,fI zmj]
noncomputable def c24 (P:Params):List Obj:=[cP zmj 933 275 0 2 573 937,fO zmj u5 913 576,cT,cF,fI zid,cP zid 939 285 0 2 578 943,fO zid u5 913 581,cT,cF,cT,cT,fI zh0,cO zh0 945 299 0 0 583 (.ref 585) (.ref 586) 587 949,fO zh0 u5 913 588,cT,cF,fI zi8,cP zi8 951 301 0 2 590 955,fO zi8 u5 913 593,cT,cF,cN 960 ["_law_model_here","_law_name"],cT,fI zij]
noncomputable def c25 (P:Params):List Obj:=[cO zij 957 303 0 2 595 (.ref 597) (.ref 598) 599 963,fO zij u5 913 600,cT,cF,fI zh5,cP zh5 965 305 0 1 602 969,fO zh5 u5 913 605,cT,cF,fI zeT,cP zeT 971 307 0 1 607 975,fO zeT u5 913 610,cT,cF,fI znk,cP znk 977 309 0 2 612 981,fO znk u5 913 615,cT,cF,cN 986 ["_law_model_here","_law_deed"],cT,fI zet,cO zet 983 333 0 2 617 (.ref 619) (.ref 620) 621 989,fO zet u5 913 622]
noncomputable def c26 (P:Params):List Obj:=[cT,cF,cN 994 ["_law_fen","_law_model_here","_law_deed"],cT,fI zmC,cO zmC 991 335 0 3 624 (.ref 626) (.ref 627) 628 998,fO zmC u5 913 629,cT,cF,cN 1003 ["_law_fen","_law_found"],cT,fI znr,cO znr 1000 339 0 1 631 (.ref 633) (.ref 634) 635 1006,fO znr u5 913 636,cT,cF,fI sDue,cP sDue 1008 342 0 1 638 1012,fO sDue u5 913 641,cT,cF,cN 1017 ["_law_fen","_law_model_here"],cT,fI zi0]
noncomputable def c27 (P:Params):List Obj:=[cO zi0 1014 348 0 2 643 (.ref 645) (.ref 646) 647 1020,fO zi0 u5 913 648,cT,cF,cN 1025 ["_law_place_here"],cT,fI zh7,cO zh7 1022 350 0 1 650 (.ref 652) (.ref 653) 654 1027,fO zh7 u5 913 655,cT,cF,cN 1032 ["_law_box_here","_law_model_here","_law_marks_here","_law_hands","_law_at","_law_one","_law_other","_law_rise"],cT,fI zeR,cO zeR 1029 352 0 2 657 (.ref 659) (.ref 660) 661 1041,fO zeR u5 913 662,cT,cF,fI ziU,cP ziU 1043 363 0 4 664 1047,fO ziU u5 913 667,cT,cF,cN 1052 ["_law_fen","_law_number","_law_way","_law_gone"]]
noncomputable def c28 (P:Params):List Obj:=[cT,fI ziE,cO ziE 1049 379 0 3 669 (.ref 671) (.ref 672) 673 1057,fO ziE u5 913 674,cT,cF,fI sLaw,cP sLaw 1059 389 0 1 676 1063,fO sLaw u5 913 679]
noncomputable def oB (P:Params) (d c:Obj):List Obj:=c0 P d c ++ (c1 P ++ (c2 P ++ (c3 P ++ (c4 P ++ (c5 P ++ (c6 P ++ (c7 P ++ (c8 P ++ (c9 P ++ (c10 P ++ (c11 P ++ (c12 P ++ (c13 P ++ (c14 P ++ (c15 P ++ (c16 P ++ (c17 P ++ (c18 P ++ (c19 P ++ (c20 P ++ (c21 P ++ (c22 P ++ (c23 P ++ (c24 P ++ (c25 P ++ (c26 P ++ (c27 P ++ (c28 P))))))))))))))))))))))))))))
noncomputable def e3 (P:Params):List DictEntry:=[dE P "__doc__" 166 (.none),dE P "__package__" 167 (.none),dE P "__loader__" 168 (.builtin "__main__.__loader__#opaque"),dE P "__spec__" 169 (.none),dE P "__annotations__" 170 (.ref 6),dE P "__builtins__" 171 (.ref 4),dE P "__file__" 173 (.str "/claim/cut.py" 172),dE P "__cached__" 174 (.none),dE P "_wall" 193 (.ref 21),dE P "FenError" 213 (.ref 31),dE P "BadName" 229 (.ref 44),dE P "Taken" 245 (.ref 56),dE P "Full" 261 (.ref 68),dE P "NoMark" 277 (.ref 80),dE P "NoHand" 293 (.ref 92),dE P "Same" 309 (.ref 104),dE P "BadRise" 325 (.ref 116),dE P "NoRun" 341 (.ref 128),dE P "Aside" 357 (.ref 140),dE P "NotAside" 373 (.ref 152),dE P "BadNumber" 389 (.ref 164),dE P "NothingLeft" 405 (.ref 176),dE P "LETTERS" 409 (.str "abcdefghijklmnopqrstuvwxyz" 408),dE P "LONGEST_NAME" 411 (.int 8 410),dE P "is_made_of" 417 (.ref 183),dE P "is_name" 424 (.ref 190),dE P "marks_of" 432 (.ref 195),dE P "turns_of" 438 (.ref 200),dE P "next_stand" 446 (.ref 207),dE P "last_stand" 455 (.ref 214),dE P "MOST_STANDS" 459 (.int 12 458),dE P "MOST_HANDS" 461 (.int 10 460),dE P "MOST_RUNS" 463 (.int 40 462),dE P "MOST_FALSE" 465 (.int 3 464),dE P "HIGHEST_RISE" 467 (.int 1000000000 466),dE P "empty_book" 473 (.ref 221),dE P "with_entry" 483 (.ref 228),dE P "with_new_stand" 492 (.ref 235),dE P "need_hand" 500 (.ref 242),dE P "need_rise" 507 (.ref 249),dE P "need_run" 513 (.ref 254),dE P "mark_entered" 523 (.ref 261),dE P "hand_entered" 534 (.ref 268),dE P "run_entered" 553 (.ref 275),dE P "run_struck" 559 (.ref 280),dE P "run_mended" 565 (.ref 285),dE P "mark_settled" 577 (.ref 292),dE P "hand_set_aside" 587 (.ref 299),dE P "hand_heeded" 593 (.ref 304),dE P "number_allowed" 603 (.ref 311),dE P "ACTIONS" 622 (.ref 312),dE P "book_behind" 631 (.ref 319),dE P "rows_that_count" 639 (.ref 324),dE P "Fen" 912 (.ref 554),dE P "_law_box" 921 (.ref 565),dE P "_law_take" 932 (.ref 572),dE P "_law_same" 938 (.ref 577),dE P "_law_names" 944 (.ref 582),dE P "_law_model" 950 (.ref 589),dE P "_law_turns" 956 (.ref 594),dE P "_law_place" 964 (.ref 601),dE P "_law_marks" 970 (.ref 606),dE P "_law_counted" 976 (.ref 611),dE P "_law_done" 982 (.ref 616),dE P "_law_due_told" 990 (.ref 623),dE P "_law_step" 999 (.ref 630),dE P "_law_seen" 1007 (.ref 637),dE P "_law_due" 1013 (.ref 642),dE P "_law_right" 1021 (.ref 649),dE P "_law_truth" 1028 (.ref 656),dE P "_law_run_deed" 1042 (.ref 663),dE P "_law_begun" 1048 (.ref 668),dE P "_law_no_run" 1058 (.ref 675),dE P "law" 1064 (.ref 680)]
noncomputable def d3 (P:Params) (x:Str) (t k:Nat):Obj:=⟨.type "dict",none,.dict (dE P "__name__" 165 (.str x t) :: (e3 P).take k).toArray (k + 1),#[]⟩
noncomputable def v4:List Value:=cV [(1,0,20),(5,0,27),(7,0,40),(9,0,52),(11,0,64),(13,0,76),(15,0,88),(17,0,100),(19,0,112),(21,0,124),(23,0,136),(25,0,148),(27,0,160),(29,0,172),(34,0,182),(36,0,189),(39,0,194),(41,0,199),(43,0,206),(45,0,213),(56,0,220),(58,0,227),(62,0,234),(67,0,241),(70,0,248),(73,0,253),(76,0,260),(83,0,267),(93,0,274),(106,0,279),(110,0,284),(116,0,291),(120,0,298),(126,0,303),(132,0,310),(138,0,318),(142,0,323),(144,0,330),(257,0,564),(259,0,571),(275,0,576),(285,0,581),(299,0,588),(301,0,593),(303,0,600),(305,0,605),(307,0,610),(309,0,615),(333,0,622),(335,0,629),(339,0,636),(342,0,641),(348,0,648),(350,0,655),(352,0,662),(363,0,667),(379,0,674),(389,0,679)]
noncomputable def d4 (k:Nat):Obj:=⟨.none,none,.fields (v4.take k).toArray,#[]⟩
noncomputable def bE:List Stmt:=PySem.W.behindTheImports PySem.Challenge.pw_fenlevel_k39_whole_numbers_are_given_onc
noncomputable def eN:PySem.Env:={ scope:=(PySem.Challenge.pw_fenlevel_k39_whole_numbers_are_given_onc).main.scope,locals:=mainNs,globals:=mainNs,cells:=[],code:=.ref 13,frame:=some 14 }
noncomputable def cB:Code:=.body bE eN
noncomputable def fB:List Frame:=[topFrame ⟨0,0,0,0⟩]
noncomputable def sA (w:PySem.World) (os:OsState):Shared:=⟨⟨⟨(oB w.params (d3 w.params "__main__" 164 8) (d4 0)).take 15⟩,{}⟩,#[],{},187,os⟩
noncomputable def sB0 (w:PySem.World) (os:OsState):SharedT:=⟨bT (λi=>(oB w.params (d3 w.params "__main__" 164 8) (d4 0)).getD i cT) 15 12 1 0,15,{},#[],{},187,os⟩
noncomputable def x31 (n:Nat):Obj:=⟨.type "type",none,.cls ⟨"FenError",[.type "ValueError"],[.ref 31,.type "ValueError",.type "Exception",.type "BaseException",.type "object"],30,"FenError",true,[],(([.ref 44,.ref 56,.ref 68,.ref 80,.ref 92,.ref 104,.ref 116,.ref 128,.ref 140,.ref 152,.ref 164,.ref 176]:List Value).take n),false,none,false⟩,#[some (.ref 22),none,some (.str "FenError" 196),some (.str "FenError" 204),some (.builtin "ValueError.__new__"),some (.bool true)]⟩
noncomputable def sB1 (w:PySem.World) (os:OsState):SharedT:=⟨bT (λi=>bif Nat.beq i 31 then x31 0 else (oB w.params (d3 w.params "fenlevel.errors" 194 10) (d4 6)).getD i cT) 35 12 1 0,35,{},#[],{},214,os⟩
noncomputable def sB2 (w:PySem.World) (os:OsState):SharedT:=⟨bT (λi=>bif Nat.beq i 31 then x31 1 else (oB w.params (d3 w.params "fenlevel.errors" 194 11) (d4 9)).getD i cT) 47 12 1 0,47,{},#[],{},230,os⟩
noncomputable def sB3 (w:PySem.World) (os:OsState):SharedT:=⟨bT (λi=>bif Nat.beq i 31 then x31 2 else (oB w.params (d3 w.params "fenlevel.errors" 194 12) (d4 12)).getD i cT) 59 12 1 0,59,{},#[],{},246,os⟩
noncomputable def sB4 (w:PySem.World) (os:OsState):SharedT:=⟨bT (λi=>bif Nat.beq i 31 then x31 3 else (oB w.params (d3 w.params "fenlevel.errors" 194 13) (d4 15)).getD i cT) 71 12 1 0,71,{},#[],{},262,os⟩
noncomputable def sB5 (w:PySem.World) (os:OsState):SharedT:=⟨bT (λi=>bif Nat.beq i 31 then x31 4 else (oB w.params (d3 w.params "fenlevel.errors" 194 14) (d4 18)).getD i cT) 83 12 1 0,83,{},#[],{},278,os⟩
noncomputable def sB6 (w:PySem.World) (os:OsState):SharedT:=⟨bT (λi=>bif Nat.beq i 31 then x31 5 else (oB w.params (d3 w.params "fenlevel.errors" 194 15) (d4 21)).getD i cT) 95 12 1 0,95,{},#[],{},294,os⟩
noncomputable def sB7 (w:PySem.World) (os:OsState):SharedT:=⟨bT (λi=>bif Nat.beq i 31 then x31 6 else (oB w.params (d3 w.params "fenlevel.errors" 194 16) (d4 24)).getD i cT) 107 12 1 0,107,{},#[],{},310,os⟩
noncomputable def sB8 (w:PySem.World) (os:OsState):SharedT:=⟨bT (λi=>bif Nat.beq i 31 then x31 7 else (oB w.params (d3 w.params "fenlevel.errors" 194 17) (d4 27)).getD i cT) 119 12 1 0,119,{},#[],{},326,os⟩
noncomputable def sB9 (w:PySem.World) (os:OsState):SharedT:=⟨bT (λi=>bif Nat.beq i 31 then x31 8 else (oB w.params (d3 w.params "fenlevel.errors" 194 18) (d4 30)).getD i cT) 131 12 1 0,131,{},#[],{},342,os⟩
noncomputable def sB10 (w:PySem.World) (os:OsState):SharedT:=⟨bT (λi=>bif Nat.beq i 31 then x31 9 else (oB w.params (d3 w.params "fenlevel.errors" 194 19) (d4 33)).getD i cT) 143 12 1 0,143,{},#[],{},358,os⟩
noncomputable def sB11 (w:PySem.World) (os:OsState):SharedT:=⟨bT (λi=>bif Nat.beq i 31 then x31 10 else (oB w.params (d3 w.params "fenlevel.errors" 194 20) (d4 36)).getD i cT) 155 12 1 0,155,{},#[],{},374,os⟩
noncomputable def sB12 (w:PySem.World) (os:OsState):SharedT:=⟨bT (λi=>bif Nat.beq i 31 then x31 11 else (oB w.params (d3 w.params "fenlevel.errors" 194 21) (d4 39)).getD i cT) 167 12 1 0,167,{},#[],{},390,os⟩
noncomputable def sB13 (w:PySem.World) (os:OsState):SharedT:=⟨bT (λi=>(oB w.params (d3 w.params "fenlevel.stand" 425 29) (d4 57)).getD i cT) 208 12 1 0,208,{},#[],{},447,os⟩
noncomputable def sB14 (w:PySem.World) (os:OsState):SharedT:=⟨bT (λi=>(oB w.params (d3 w.params "fenlevel.deeds" 456 45) (d4 90)).getD i cT) 281 12 1 0,281,{},#[],{},560,os⟩
noncomputable def sB15 (w:PySem.World) (os:OsState):SharedT:=⟨bT (λi=>(oB w.params (d3 w.params "fenlevel.deeds" 456 50) (d4 105)).getD i cT) 312 12 1 0,312,{},#[],{},604,os⟩
noncomputable def sB16 (w:PySem.World) (os:OsState):SharedT:=⟨bT (λi=>(oB w.params (d3 w.params "fenlevel.deeds" 456 51) (d4 105)).getD i cT) 313 12 1 0,313,{},#[],{},623,os⟩
noncomputable def sB17 (w:PySem.World) (os:OsState):SharedT:=⟨bT (λi=>(oB w.params (d3 w.params "fenlevel.fen" 632 53) (d4 111)).getD i cT) 325 12 1 0,325,{},#[],{},640,os⟩
noncomputable def sB18 (w:PySem.World) (os:OsState):SharedT:=⟨bT (λi=>(oB w.params (d3 w.params "fenlevel.fen" 632 54) (d4 114)).getD i cT) 559 12 1 0,559,{},#[],{},913,os⟩
noncomputable def sB19 (w:PySem.World) (os:OsState):SharedT:=⟨bT (λi=>(oB w.params (d3 w.params "law_fenlevel_k39_whole_numbers_are_given_onc" 913 67) (d4 153)).getD i cT) 638 12 1 0,638,{},#[],{},1008,os⟩
noncomputable def sB20 (w:PySem.World) (os:OsState):SharedT:=⟨bT (λi=>(oB w.params (d3 w.params "law_fenlevel_k39_whole_numbers_are_given_onc" 913 74) (d4 174)).getD i cT) 681 12 1 0,681,{},#[],{},1065,os⟩
noncomputable def hE (P:Params):Heap:=⟨⟨oB P (d3 P "law_fenlevel_k39_whole_numbers_are_given_onc" 913 74) (d4 174)⟩,{}⟩
noncomputable def St0:Prop:=∀ (w:PySem.World) (os:OsState),topGo treeTable PySem.Challenge.pw_fenlevel_k39_whole_numbers_are_given_onc w 11 (some (.ref 6)) 12 ⟨PySem.W.boot_heap w.params,Array.mk [],PySem.W.boot_drawn,PySem.W.boot_toks,os⟩ (topStub PySem.Challenge.pw_fenlevel_k39_whole_numbers_are_given_onc) = some (sA w os,⟨denote treeTable cB,cB,⟨0,0,0,0⟩,fB⟩)
noncomputable def St1:Prop:=∀ (w:PySem.World) (os:OsState),segRun treeTable PySem.Challenge.pw_fenlevel_k39_whole_numbers_are_given_onc w 11 (some (.ref 6)) 1 1 (sA w os) (blockOf bE eN cB ⟨0,0,0,0⟩ fB) = some (.next,(sB0 w os).abs,cB,⟨0,0,0,0⟩)
noncomputable def St2:Prop:=∀ (w:PySem.World) (os:OsState),segRunT treeTable PySem.Challenge.pw_fenlevel_k39_whole_numbers_are_given_onc w 11 (some (.ref 6)) 1 225 (sB0 w os) (piecesOf ((bE.drop 0).take 3) eN cB ⟨0,0,0,0⟩ fB) = some (.next,sB1 w os,cB,⟨5,0,6,8⟩)
noncomputable def St3:Prop:=∀ (w:PySem.World) (os:OsState),segRunT treeTable PySem.Challenge.pw_fenlevel_k39_whole_numbers_are_given_onc w 11 (some (.ref 6)) 1 214 (sB1 w os) (piecesOf ((bE.drop 3).take 1) eN cB ⟨5,0,6,8⟩ fB) = some (.next,sB2 w os,cB,⟨7,0,8,8⟩)
noncomputable def St4:Prop:=∀ (w:PySem.World) (os:OsState),segRunT treeTable PySem.Challenge.pw_fenlevel_k39_whole_numbers_are_given_onc w 11 (some (.ref 6)) 1 214 (sB2 w os) (piecesOf ((bE.drop 4).take 1) eN cB ⟨7,0,8,8⟩ fB) = some (.next,sB3 w os,cB,⟨9,0,10,8⟩)
noncomputable def St5:Prop:=∀ (w:PySem.World) (os:OsState),segRunT treeTable PySem.Challenge.pw_fenlevel_k39_whole_numbers_are_given_onc w 11 (some (.ref 6)) 1 214 (sB3 w os) (piecesOf ((bE.drop 5).take 1) eN cB ⟨9,0,10,8⟩ fB) = some (.next,sB4 w os,cB,⟨11,0,12,8⟩)
noncomputable def St6:Prop:=∀ (w:PySem.World) (os:OsState),segRunT treeTable PySem.Challenge.pw_fenlevel_k39_whole_numbers_are_given_onc w 11 (some (.ref 6)) 1 214 (sB4 w os) (piecesOf ((bE.drop 6).take 1) eN cB ⟨11,0,12,8⟩ fB) = some (.next,sB5 w os,cB,⟨13,0,14,8⟩)
noncomputable def St7:Prop:=∀ (w:PySem.World) (os:OsState),segRunT treeTable PySem.Challenge.pw_fenlevel_k39_whole_numbers_are_given_onc w 11 (some (.ref 6)) 1 214 (sB5 w os) (piecesOf ((bE.drop 7).take 1) eN cB ⟨13,0,14,8⟩ fB) = some (.next,sB6 w os,cB,⟨15,0,16,8⟩)
noncomputable def St8:Prop:=∀ (w:PySem.World) (os:OsState),segRunT treeTable PySem.Challenge.pw_fenlevel_k39_whole_numbers_are_given_onc w 11 (some (.ref 6)) 1 214 (sB6 w os) (piecesOf ((bE.drop 8).take 1) eN cB ⟨15,0,16,8⟩ fB) = some (.next,sB7 w os,cB,⟨17,0,18,8⟩)
noncomputable def St9:Prop:=∀ (w:PySem.World) (os:OsState),segRunT treeTable PySem.Challenge.pw_fenlevel_k39_whole_numbers_are_given_onc w 11 (some (.ref 6)) 1 214 (sB7 w os) (piecesOf ((bE.drop 9).take 1) eN cB ⟨17,0,18,8⟩ fB) = some (.next,sB8 w os,cB,⟨19,0,20,8⟩)
noncomputable def St10:Prop:=∀ (w:PySem.World) (os:OsState),segRunT treeTable PySem.Challenge.pw_fenlevel_k39_whole_numbers_are_given_onc w 11 (some (.ref 6)) 1 214 (sB8 w os) (piecesOf ((bE.drop 10).take 1) eN cB ⟨19,0,20,8⟩ fB) = some (.next,sB9 w os,cB,⟨21,0,22,8⟩)
noncomputable def St11:Prop:=∀ (w:PySem.World) (os:OsState),segRunT treeTable PySem.Challenge.pw_fenlevel_k39_whole_numbers_are_given_onc w 11 (some (.ref 6)) 1 214 (sB9 w os) (piecesOf ((bE.drop 11).take 1) eN cB ⟨21,0,22,8⟩ fB) = some (.next,sB10 w os,cB,⟨23,0,24,8⟩)
noncomputable def St12:Prop:=∀ (w:PySem.World) (os:OsState),segRunT treeTable PySem.Challenge.pw_fenlevel_k39_whole_numbers_are_given_onc w 11 (some (.ref 6)) 1 214 (sB10 w os) (piecesOf ((bE.drop 12).take 1) eN cB ⟨23,0,24,8⟩ fB) = some (.next,sB11 w os,cB,⟨25,0,26,8⟩)
noncomputable def St13:Prop:=∀ (w:PySem.World) (os:OsState),segRunT treeTable PySem.Challenge.pw_fenlevel_k39_whole_numbers_are_given_onc w 11 (some (.ref 6)) 1 214 (sB11 w os) (piecesOf ((bE.drop 13).take 1) eN cB ⟨25,0,26,8⟩ fB) = some (.next,sB12 w os,cB,⟨27,0,28,8⟩)
noncomputable def St14:Prop:=∀ (w:PySem.World) (os:OsState),segRunT treeTable PySem.Challenge.pw_fenlevel_k39_whole_numbers_are_given_onc w 11 (some (.ref 6)) 1 387 (sB12 w os) (piecesOf ((bE.drop 14).take 10) eN cB ⟨27,0,28,8⟩ fB) = some (.next,sB13 w os,cB,⟨43,0,44,45⟩)
noncomputable def St15:Prop:=∀ (w:PySem.World) (os:OsState),segRunT treeTable PySem.Challenge.pw_fenlevel_k39_whole_numbers_are_given_onc w 11 (some (.ref 6)) 1 394 (sB13 w os) (piecesOf ((bE.drop 24).take 17) eN cB ⟨43,0,44,45⟩ fB) = some (.next,sB14 w os,cB,⟨106,0,109,93⟩)
noncomputable def St16:Prop:=∀ (w:PySem.World) (os:OsState),segRunT treeTable PySem.Challenge.pw_fenlevel_k39_whole_numbers_are_given_onc w 11 (some (.ref 6)) 1 151 (sB14 w os) (piecesOf ((bE.drop 41).take 5) eN cB ⟨106,0,109,93⟩ fB) = some (.next,sB15 w os,cB,⟨132,0,136,44⟩)
noncomputable def St17f:Prop:=∀ (w:PySem.World) (os:OsState),segRunT treeTable PySem.Challenge.pw_fenlevel_k39_whole_numbers_are_given_onc (w.withFollow "special-get-raises" false) 11 (some (.ref 6)) 1 155 (sB15 (w.withFollow "special-get-raises" false) os) (piecesOf ((bE.drop 46).take 1) eN cB ⟨132,0,136,44⟩ fB) = some (.next,sB16 (w.withFollow "special-get-raises" false) os,cB,⟨137,0,137,7⟩)
noncomputable def St17t:Prop:=∀ (w:PySem.World) (os:OsState),segRunT treeTable PySem.Challenge.pw_fenlevel_k39_whole_numbers_are_given_onc (w.withFollow "special-get-raises" true) 11 (some (.ref 6)) 1 155 (sB15 (w.withFollow "special-get-raises" true) os) (piecesOf ((bE.drop 46).take 1) eN cB ⟨132,0,136,44⟩ fB) = some (.next,sB16 (w.withFollow "special-get-raises" true) os,cB,⟨137,0,137,7⟩)
noncomputable def St18:Prop:=∀ (w:PySem.World) (os:OsState),segRunT treeTable PySem.Challenge.pw_fenlevel_k39_whole_numbers_are_given_onc w 11 (some (.ref 6)) 1 67 (sB16 w os) (piecesOf ((bE.drop 47).take 3) eN cB ⟨137,0,137,7⟩ fB) = some (.next,sB17 w os,cB,⟨142,0,143,71⟩)
noncomputable def St19:Prop:=∀ (w:PySem.World) (os:OsState),segRunT treeTable PySem.Challenge.pw_fenlevel_k39_whole_numbers_are_given_onc w 11 (some (.ref 6)) 1 1207 (sB17 w os) (piecesOf ((bE.drop 50).take 1) eN cB ⟨142,0,143,71⟩ fB) = some (.next,sB18 w os,cB,⟨144,0,255,16⟩)
noncomputable def St20:Prop:=∀ (w:PySem.World) (os:OsState),segRunT treeTable PySem.Challenge.pw_fenlevel_k39_whole_numbers_are_given_onc w 11 (some (.ref 6)) 1 377 (sB18 w os) (piecesOf ((bE.drop 51).take 14) eN cB ⟨144,0,255,16⟩ fB) = some (.next,sB19 w os,cB,⟨339,0,341,42⟩)
noncomputable def St21:Prop:=∀ (w:PySem.World) (os:OsState),segRunT treeTable PySem.Challenge.pw_fenlevel_k39_whole_numbers_are_given_onc w 11 (some (.ref 6)) 1 206 (sB19 w os) (piecesOf ((bE.drop 65).take 7) eN cB ⟨339,0,341,42⟩ fB) = some (.next,sB20 w os,cB,⟨389,0,413,48⟩)
noncomputable def St22:Prop:=∀ (w:PySem.World) (os:OsState),topRun treeTable PySem.Challenge.pw_fenlevel_k39_whole_numbers_are_given_onc w 11 (some (.ref 6)) 2 (sB20 w os).abs ⟨doneF .next,cB,⟨389,0,413,48⟩,fB⟩ = some ⟨hE w.params,#[],{},1065,os⟩
noncomputable def vw:Program:={ PySem.Challenge.pw_fenlevel_k39_whole_numbers_are_given_onc with main:={ (PySem.Challenge.pw_fenlevel_k39_whole_numbers_are_given_onc).main with body:=[top 0,top 2,top 3,top 4,top 5,top 6,top 7,top 8,top 9,top 10,top 11,top 12,top 13,top 14,top 16,top 17,top 18,top 19,top 21,top 22,top 23,top 24,top 26,top 27,top 28,top 29,top 30,top 31,top 32,top 33,top 34,top 35,top 36,top 37,top 38,top 39,top 40,top 41,top 42,top 43,top 44,top 45,top 46,top 47,top 49,top 50,top 52,top 53,top 54,top 55,top 56,top 57,top 58,top 59,top 60,top 61,top 62,top 63,top 64,top 65,top 66,top 67,top 68,top 69,top 70,top 71] } }
noncomputable def hA:List Addr:=[3,182,183,189,190,194,195,199,200,206,207,213,214,220,221,227,228,234,235,241,242,248,249,253,254,260,261,267,268,274,275,279,280,284,285,310,311,318,319,323,324,564,565,571,572,576,577,581,582,588,589,593,594,600,601,605,606,610,611,615,616,622,623,629,630,636,637,641,642,648,649,655,656,662,663,667,668,674,675,679,680,337,338,344,345,372,373,379,380,414,415,421,422,435,436,449,450,456,457,461,462,468,469,475,476,482,483,487,488,24,30,31,37,43,44,49,55,56,61,67,68,73,79,80,85,91,92,97,103,104,109,115,116,121,127,128,133,139,140,145,151,152,157,163,164,169,175,176,312,327,553,554]
noncomputable def hK (P:Params):List (Nat × Obj):=hA.map λa=>(a,(oB P (d3 P "law_fenlevel_k39_whole_numbers_are_given_onc" 913 74) (d4 174)).getD a cT)
noncomputable def hH:PySem.W.Hook:=kHook hK hA (λ_=>by kernel_rfl)
noncomputable def xT (s:Shared):Bool:=xlAt vw [] s && recOk (RowW.records (PySem.Challenge.rw_fenlevel_k39_whole_numbers_are_given_onc).row.toRowW) s
noncomputable def StZ:Prop:=∀ w:PySem.World,((PySem.W.boot_heap w.params).isNs mainGlobals && (Array.mk []:Array GenState).size == 0,(PySem.W.boot_heap w.params).objs.size,(PySem.W.boot_heap w.params).nsMap mainGlobals "__annotations__") = (true,11,some (.ref 6))
noncomputable def StA:Prop:=∀ (w:PySem.World) (os:OsState),(staticsOk (importedModules (PySem.Challenge.pw_fenlevel_k39_whole_numbers_are_given_onc).main.body) (PySem.W.boot_heap w.params) (hE w.params) && namesBound PySem.Challenge.pw_fenlevel_k39_whole_numbers_are_given_onc (hE w.params) && gensDone ⟨hE w.params,#[],{},1065,os⟩ && laidKept (PySem.W.boot_heap w.params) (hE w.params)) = true
noncomputable def StB:Prop:=∀ (w:PySem.World) (os:OsState),openSeen vw ["ACTIONS"] (importedModules (PySem.Challenge.pw_fenlevel_k39_whole_numbers_are_given_onc).main.body) xT true ⟨hE w.params,#[],{},1065,os⟩ = openGood vw ["ACTIONS"]
noncomputable def StC:Prop:=∀ (w:PySem.World) (os:OsState),hH.obs ⟨hE w.params,#[],{},1065,os⟩ = hH.val w
theorem pr0:(Function.const Prop true (St0/\St1/\St2/\St3/\St4/\St5/\St6/\St7/\St8/\St9/\St10/\St11/\St12/\St13/\St14/\St15/\St16/\St17f/\St17t/\St18/\St19/\St20/\St21/\St22/\StZ/\StA/\StB/\StC)) = true:=by k_qdec
theorem th0:St0:=PySem.W.Fast.te937873346748051313.mpr (λ_ _=>by kernel_rfl)
theorem th1:St1:=PySem.W.Fast.te13982121027552719780.mpr (λ_ _=>by kernel_rfl)
theorem th2:St2:=PySem.W.Fast.te10105581574835445100.mpr (λ_ _=>by kernel_rfl)
theorem th3:St3:=PySem.W.Fast.te16437609458486848278.mpr (λ_ _=>by kernel_rfl)
theorem th4:St4:=PySem.W.Fast.te13904560402631476566.mpr (λ_ _=>by kernel_rfl)
theorem th5:St5:=PySem.W.Fast.te6988618110474044161.mpr (λ_ _=>by kernel_rfl)
theorem th6:St6:=PySem.W.Fast.te18292254230441717836.mpr (λ_ _=>by kernel_rfl)
theorem th7:St7:=PySem.W.Fast.te529641759280289813.mpr (λ_ _=>by kernel_rfl)
theorem th8:St8:=PySem.W.Fast.te7437064661015581292.mpr (λ_ _=>by kernel_rfl)
theorem th9:St9:=PySem.W.Fast.te4606531515639888929.mpr (λ_ _=>by kernel_rfl)
theorem th10:St10:=PySem.W.Fast.te15510853610054682074.mpr (λ_ _=>by kernel_rfl)
theorem th11:St11:=PySem.W.Fast.te5240782450552466234.mpr (λ_ _=>by kernel_rfl)
theorem th12:St12:=PySem.W.Fast.te7108782601475264861.mpr (λ_ _=>by kernel_rfl)
theorem th13:St13:=PySem.W.Fast.te17593090959831443907.mpr (λ_ _=>by kernel_rfl)
theorem th14:St14:=PySem.W.Fast.te17107273594779919526.mpr (λ_ _=>by kernel_rfl)
theorem th15:St15:=PySem.W.Fast.te17243388535409573341.mpr (λ_ _=>by kernel_rfl)
theorem th16:St16:=PySem.W.Fast.te14404611098126276643.mpr (λ_ _=>by kernel_rfl)
theorem zta:St17f:=PySem.W.Fast.te17032235933909596795.mpr (λ_ _=>by kernel_rfl)
theorem ztz:St17t:=PySem.W.Fast.te11928902062242002412.mpr (λ_ _=>by kernel_rfl)
theorem th18:St18:=PySem.W.Fast.te9202431027644133851.mpr (λ_ _=>by kernel_rfl)
theorem th19:St19:=PySem.W.Fast.te1298850943296278361.mpr (λ_ _=>by kernel_rfl)
theorem th20:St20:=PySem.W.Fast.te423298498317574896.mpr (λ_ _=>by kernel_rfl)
theorem th21:St21:=PySem.W.Fast.te4749471772407743023.mpr (λ_ _=>by kernel_rfl)
theorem th22:St22:=PySem.W.Fast.te18414147907704405220.mpr (λ_ _=>by kernel_rfl)
theorem thZ:StZ:=PySem.W.Fast.te16988565736444548789.mpr (λ_=>by kernel_rfl)
theorem thA:StA:=PySem.W.Fast.te17744963595637626835.mpr (λ_ _=>by kernel_rfl)
theorem thB:StB:=PySem.W.Fast.te8016293489012441566.mpr (λ_ _=>by kernel_rfl)
theorem thC:StC:=PySem.W.Fast.te1647357278597937641.mpr (λ_ _=>by kernel_rfl)
theorem th17:∀ (w:PySem.World) (os:OsState),segRunT treeTable PySem.Challenge.pw_fenlevel_k39_whole_numbers_are_given_onc w 11 (some (.ref 6)) 1 155 (sB15 w os) (piecesOf ((bE.drop 46).take 1) eN cB ⟨132,0,136,44⟩ fB) = some (.next,sB16 w os,cB,⟨137,0,137,7⟩):=λw=>byRow2 "special-get-raises" (P:=λw=>∀ os:OsState,segRunT treeTable PySem.Challenge.pw_fenlevel_k39_whole_numbers_are_given_onc w 11 (some (.ref 6)) 1 155 (sB15 w os) (piecesOf ((bE.drop 46).take 1) eN cB ⟨132,0,136,44⟩ fB) = some (.next,sB16 w os,cB,⟨137,0,137,7⟩)) (λw=>zta w) (λw=>ztz w) w
theorem gr {tb:String->Option Builtin} {p:Program} {w:PySem.World} {n₀:Nat} {ann:Option Value} {env:PySem.Env} {q:Pos} {n N:Nat} {s s' r:Shared} {c:Code} {pos p':Pos} (l:List Stmt) (a k:Nat) (h:segRun tb p w n₀ ann 1 n s (piecesOf ((l.drop a).take k) env c pos [topFrame q]) = some (.next,s',c,p'))
  (z:topRun tb p w n₀ ann N s' (restOf (l.drop (a + k)) env c p' [topFrame q]) = some r):topRun tb p w n₀ ann (n + N) s (restOf (l.drop a) env c pos [topFrame q]) = some r:=by
 have:=piece_app (rest:=(l.drop a).drop k) h (by rw [List.drop_drop];exact z)
 rwa [List.take_append_drop] at this
theorem zqe:bE.drop 72 = []:=by kernel_rfl
theorem zqm:∀ (w:PySem.World) (os:OsState),topRun treeTable PySem.Challenge.pw_fenlevel_k39_whole_numbers_are_given_onc w 11 (some (.ref 6)) (12 + (1 + (225 + (214 + (214 + (214 + (214 + (214 + (214 + (214 + (214 + (214 + (214 + (214 + (387 + (394 + (151 + (155 + (67 + (1207 + (377 + (206 + 2)))))))))))))))))))))) ⟨PySem.W.boot_heap w.params,Array.mk [],PySem.W.boot_drawn,PySem.W.boot_toks,os⟩ (topStub PySem.Challenge.pw_fenlevel_k39_whole_numbers_are_given_onc) = some ⟨hE w.params,#[],{},1065,os⟩:=λw os=>
 go_top (th0 w os) (piece_block (th1 w os) (gr bE 0 3 (YA9 (th2 w os)) (gr bE 3 1 (YA9 (th3 w os)) (gr bE 4 1 (YA9 (th4 w os)) (gr bE 5 1 (YA9 (th5 w os)) (gr bE 6 1 (YA9 (th6 w os)) (gr bE 7 1 (YA9 (th7 w os)) (gr bE 8 1 (YA9 (th8 w os)) (gr bE 9 1 (YA9 (th9 w os)) (gr bE 10 1 (YA9 (th10 w os)) (gr bE 11 1 (YA9 (th11 w os)) (gr bE 12 1 (YA9 (th12 w os)) (gr bE 13 1 (YA9 (th13 w os)) (gr bE 14 10 (YA9 (th14 w os)) (gr bE 24 17 (YA9 (th15 w os)) (gr bE 41 5 (YA9 (th16 w os)) (gr bE 46 1 (YA9 (th17 w os)) (gr bE 47 3 (YA9 (th18 w os)) (gr bE 50 1 (YA9 (th19 w os)) (gr bE 51 14 (YA9 (th20 w os)) (gr bE 65 7 (YA9 (th21 w os)) (by rw [zqe];exact piece_nil (th22 w os)))))))))))))))))))))))
theorem left_o:LeftO PySem.Challenge.pw_fenlevel_k39_whole_numbers_are_given_onc vw ["ACTIONS"] xT hH.obs hH.val 11132:=
 LeftO.of_pieces (boot_open (by kernel_rfl) (by kernel_rfl) (λ_=>by kernel_rfl)) thZ zqm (by kernel_rfl) λw=>funext λos=>looks_pair (thA w os) (looks_pair (thB w os) (thC w os))
end
end Hd
namespace Fd
open PySem L2 Fen Hd
theorem us0 {p:List Value->Prop} (k:p []):∀ us:List Value,us.length = 0->p us
 | [],_=>k
theorem usS {p:List Value->Prop} {n:Nat} (k:∀ (a:Value) (us:List Value),us.length = n->p (a :: us)):∀ us:List Value,us.length = n + 1->p us
 | a :: us,h=>k a us (Nat.succ.inj h)
noncomputable def fdOf (P:Params) (f:Addr):FuncData:=match List.lookup f (hK P) with
 | some ⟨_,_,.func d,_⟩=>d
 | _=>fD "" (.Pass ⟨0,0,0,0⟩) "" 0 0
noncomputable def fcOf (P:Params) (f:Addr):Addr:=match (fdOf P f).code with
 | .ref c=>c
 | _=>0
noncomputable def fmOf (P:Params) (f:Addr):Value:=(fdOf P f).pyModule
noncomputable abbrev fE (P:Params) (x u:Str) (s:Stmt) (f:Addr):FuncData:=PySem.W.fnOf x u (zcs s) (zbd s) (zak s) .none .none .none (fmOf P f) none (.ref (fcOf P f)) .none
theorem fF {P:Params} (x u:Str) (s:Stmt) (f:Addr) (l:List.lookup f (hK P) = some ⟨.type "function",none,.func (fE P x u s f),#[]⟩:=by kernel_rfl) (y:PySem.W.codeIn (hK P) (.ref (fcOf P f)) u = true:=by kernel_rfl):Fun (hK P) x u s f (fE P x u s f):=⟨⟨_,_,_,_,_,_,_,_,_,rfl,l,y⟩,by simp only [PySem.W.keepIn,l]⟩
theorem mkB {w:PySem.World} {x u:Str} {s:Stmt} {f:Addr} {ps:List Str} (F:Fun (hK w.params) x u s f (fE w.params x u s f)) (b:∀ (kV doc pm:Value) (an:Option Addr) (cdv ct:Value) (us:List Value),us.length = ps.length->bindArgs (PySem.W.fnOf x u (zcs s) (zbd s) (zak s) .none kV doc pm an cdv ct) ⟨us,[]⟩ = pure (ps.zip us):=by (intro _ _ _ _ _ _;repeat (first | exact us0 rfl | refine usS λ_=>?_))):Binds (hK w.params) (fE w.params x u s f) ps []:=F.binds b
theorem mkC {P:Program} {w:PySem.World} {base h:Heap} {mg:Str->Option Value} (X:PySem.W.Frag.In (hK w.params) h) (G:h.Ns mainGlobals mg) {k:Nat} {ps:List Str} {sp:Sp} (x:Str) (s:Stmt) (f:Addr) (ok:∀ {fd:FuncData},Fun (hK w.params) x x s f fd->FnOk P w (hK w.params) mg base CX0 k f fd ps sp)
  (F:Fun (hK w.params) x x s f (fE w.params x x s f):=by exact fF _ _ _ _) (m:PySem.W.nsIn (hK w.params) mainGlobals x = some (some (.ref f)):=by kernel_rfl)
  (b:∀ (kV doc pm:Value) (an:Option Addr) (cdv ct:Value) (us:List Value),us.length = ps.length->bindArgs (PySem.W.fnOf x x (zcs s) (zbd s) (zak s) .none kV doc pm an cdv ct) ⟨us,[]⟩ = pure (ps.zip us):=by (intro _ _ _ _ _ _;repeat (first | exact us0 rfl | refine usS λ_=>?_))):Cal P w (hK w.params) mg base x k ps sp:=
 Cal.of F (ok F) (YAx X G m) (F.binds b)
theorem mkX {P:Program} {w:PySem.World} {base h:Heap} {mg:Str->Option Value} (X:PySem.W.Frag.In (hK w.params) h) (G:h.Ns mainGlobals mg) {k:Nat} {ps:List Str} {sp:Sp} (x:Str) (s:Stmt) (f:Addr) (ok:∀ {fd:FuncData},Fun (hK w.params) x x s f fd->FnOk P w (hK w.params) mg base (CXN P w) k f fd ps sp)
  (F:Fun (hK w.params) x x s f (fE w.params x x s f):=by exact fF _ _ _ _) (m:PySem.W.nsIn (hK w.params) mainGlobals x = some (some (.ref f)):=by kernel_rfl)
  (b:∀ (kV doc pm:Value) (an:Option Addr) (cdv ct:Value) (us:List Value),us.length = ps.length->bindArgs (PySem.W.fnOf x x (zcs s) (zbd s) (zak s) .none kV doc pm an cdv ct) ⟨us,[]⟩ = pure (ps.zip us):=by (intro _ _ _ _ _ _;repeat (first | exact us0 rfl | refine usS λ_=>?_))):CalX P w (hK w.params) mg base x k ps sp:=
 CalX.of F (ok F) (YAx X G m) (F.binds b)
theorem mkM {P:Program} {w:PySem.World} {base:Heap} {mg:Str->Option Value} {CX:CXT} {C:Addr} (c:Cls (hK w.params) C) {k:Nat} {ps:List Str} {sp:Sp} (x u:Str) (s:Stmt) (f:Addr) (ok:∀ {fd:FuncData},Fun (hK w.params) x u s f fd->FnOk P w (hK w.params) mg base CX k f fd ps sp)
  (m:PySem.W.findIn (hK w.params) (.ref C) x = some (some (.ref f)):=by kernel_rfl) (i:PySem.W.isFn (hK w.params) (.ref f) = true:=by kernel_rfl) (F:Fun (hK w.params) x u s f (fE w.params x u s f):=by exact fF _ _ _ _)
  (b:∀ (kV doc pm:Value) (an:Option Addr) (cdv ct:Value) (us:List Value),us.length = ps.length->bindArgs (PySem.W.fnOf x u (zcs s) (zbd s) (zak s) .none kV doc pm an cdv ct) ⟨us,[]⟩ = pure (ps.zip us):=by (intro _ _ _ _ _ _;repeat (first | exact us0 rfl | refine usS λ_=>?_))):Met P w (hK w.params) mg base CX C x k ps sp:=
 ⟨f,_,ok F,c,⟨m,i,F.kp⟩,F.binds b⟩
abbrev aD:Ads:=⟨554,261,268,275,280,285,292,299,304,311⟩
theorem all_mk {l:PySem.W.OpenLaw} {w:PySem.World} {h:Heap} {mg:Str->Option Value} {fa:Addr} (X:PySem.W.Frag.In (hK w.params) h) (G:h.Ns mainGlobals mg) (hfa:mg "law" = some (.ref fa)) :
  ∃ fd:FuncData,(∀ (s:Shared) (v:Value),BindsTo s fd ⟨[v],[]⟩ [("_law_script",v)])/\∀ base:Heap,PySem.W.Frag.In (hK w.params) base->base.Ns mainGlobals mg->FnOk l.prog w (hK w.params) mg base CX0 10 fa fd ["_law_script"] (zmB (hK w.params)):=by
 have e:=hfa.symm.trans (YAx X G (v:=.ref 680) (by kernel_rfl));cases e;have Z:∀ {x:Str},PySem.W.nsIn (hK w.params) mainGlobals x = some none->mg x = none:=PySem.W.mg_none_of X G;have T:Bt mg:=⟨Z (by kernel_rfl),Z (by kernel_rfl),Z (by kernel_rfl),Z (by kernel_rfl),Z (by kernel_rfl),Z (by kernel_rfl),Z (by kernel_rfl),Z (by kernel_rfl),Z (by kernel_rfl),Z (by kernel_rfl),Z (by kernel_rfl),Z (by kernel_rfl),Z (by kernel_rfl),Z (by kernel_rfl),Z (by kernel_rfl),Z (by kernel_rfl)⟩;have T2:Bd mg:=⟨Z (by kernel_rfl),Z (by kernel_rfl)⟩;have cls:Cls (hK w.params) aD.fen:=⟨by kernel_rfl,by kernel_rfl,by kernel_rfl,by kernel_rfl⟩;have fc:Fc (hK w.params) mg aD:=⟨cls,(show PySem.W.findIn (hK w.params) (.ref 554) "kept" = some none by kernel_rfl),(show PySem.W.findIn (hK w.params) (.ref 554) "books" = some none by kernel_rfl),(show PySem.W.findIn (hK w.params) (.ref 554) "undone" = some none by kernel_rfl),YAx X G (by kernel_rfl)⟩;have xh:Xh (hK w.params) mg 31 44 56 68 80 92 104 116 128 140 152 164 176:=⟨YAx X G (by kernel_rfl),YAx X G (by kernel_rfl),YAx X G (by kernel_rfl),YAx X G (by kernel_rfl),YAx X G (by kernel_rfl),YAx X G (by kernel_rfl),YAx X G (by kernel_rfl),YAx X G (by kernel_rfl),YAx X G (by kernel_rfl),YAx X G (by kernel_rfl),YAx X G (by kernel_rfl),YAx X G (by kernel_rfl),YAx X G (by kernel_rfl),by kernel_rfl,by kernel_rfl,by kernel_rfl,by kernel_rfl,by kernel_rfl,by kernel_rfl,by kernel_rfl,by kernel_rfl,by kernel_rfl,by kernel_rfl,by kernel_rfl⟩;have g_MOST_STANDS:mg "MOST_STANDS" = some (.int 12 458):=YAx X G (by kernel_rfl);have g_LONGEST_NAME:mg "LONGEST_NAME" = some (.int 8 410):=YAx X G (by kernel_rfl);have g_LETTERS:mg "LETTERS" = some (.str "abcdefghijklmnopqrstuvwxyz" 408):=YAx X G (by kernel_rfl);have g_MOST_HANDS:mg "MOST_HANDS" = some (.int 10 460):=YAx X G (by kernel_rfl);have g_HIGHEST_RISE:mg "HIGHEST_RISE" = some (.int 1000000000 466):=YAx X G (by kernel_rfl);have g_MOST_RUNS:mg "MOST_RUNS" = some (.int 40 462):=YAx X G (by kernel_rfl);have g_MOST_FALSE:mg "MOST_FALSE" = some (.int 3 464):=YAx X G (by kernel_rfl);have gA:GDict l.prog w (hK w.params) mg "ACTIONS" (kvA aD):=ztC (ps:=[("mark",604,.ref 261),("hand",605,.ref 268),("run",606,.ref 275),("strike",607,.ref 280),("mend",608,.ref 285),("settle",609,.ref 292),("aside",610,.ref 299),("heed",611,.ref 304),("allow",612,.ref 311)]) (a:=312) (n:=9) X G (by kernel_rfl) (show List.lookup 312 (hK w.params) = _ by kernel_rfl) (show GRows (hK w.params) _ (kvA aD) by unfold kvA;exact (.cons zcj (.cons zcj (.cons zcj (.cons zcj (.cons zcj (.cons zcj (.cons zcj (.cons zcj (.cons zcj .nil)))))))))) (by decide) (by simp only [YAg,YAK];decide +kernel);have F:=fF (P:=w.params) "law" "law" sLaw 680;refine ⟨fE w.params "law" "law" sLaw 680,λs v=>.of_eq rfl,λbase _ _=>?_⟩;have M:=@mkC l.prog w base h mg X G;have MX:=@mkX l.prog w base h mg X G;have MM:=@mkM l.prog w base mg;have cB:=M "_law_box" sBox 565 λF=>Fen.zrM F ⟨T.list,T.len,T.range⟩;have c__law_take:=M "_law_take" zjQ 572 λF=>zjD F T;have c__law_names:=M "_law_names" zid 582 λF=>zg4 F T T2 c__law_take;have c_empty_book:=M "empty_book" zdc 221 λF=>zhB F T T2;have FI:=fF (P:=w.params) "__init__" "Fen.__init__" zbJ 338;have okI:=zfN (P:=l.prog) (w:=w) (base:=base) FI aD T T2 fc c_empty_book;have bI:=mkB (ps:=["self"]) FI;have mkI:Mk (hK w.params) aD.fen 338:=⟨by kernel_rfl,by kernel_rfl,by kernel_rfl,by kernel_rfl⟩;have c__law_model:=M "_law_model" zh0 589 λF=>zhe F T T2;have c__law_turns:=M "_law_turns" zi8 594 λF=>zg3 F T T2;have c__law_place:=M "_law_place" zij 601 λF=>zha F T T2 c__law_turns;have c__law_done:=M "_law_done" znk 616 λF=>zii F T T2 c__law_turns c__law_place;have F__law_same:=fF (P:=w.params) "_law_same" "_law_same" zmj 577;have b__law_same:=mkB (ps:=["_law_found","_law_due_here"]) F__law_same;have m__law_same:mg "_law_same" = _:=YAx X G (v:=.ref 577) (by kernel_rfl);have r__law_same:=zfn (P:=l.prog) (w:=w) (base:=base) F__law_same m__law_same b__law_same T;have c_with_entry:=M "with_entry" zc4 228 λF=>zhR F T T2;have c_turns_of:=M "turns_of" zeO 200 λF=>zjv F T T2;have c_next_stand:=M "next_stand" zc6 207 λF=>zhv F T T2 c_turns_of;have c_with_new_stand:=MX "with_new_stand" zbH 235 λF=>zfh F T T2 c_with_entry c_next_stand xh g_MOST_STANDS;have c_is_made_of:=M "is_made_of" zdE 183 λF=>zg2 F T T2;have c_is_name:=M "is_name" zga 190 λF=>zli F T T2 c_is_made_of g_LONGEST_NAME g_LETTERS;have F_mark_entered:=fF (P:=w.params) "mark_entered" "mark_entered" zcb 261;have o_mark_entered:=zf6 (P:=l.prog) (w:=w) (base:=base) F_mark_entered T T2 c_with_new_stand c_is_name c_turns_of xh;have b_mark_entered:=mkB (ps:=["book","row"]) F_mark_entered;have F_hand_entered:=fF (P:=w.params) "hand_entered" "hand_entered" zb5 268;have o_hand_entered:=zfZ (P:=l.prog) (w:=w) (base:=base) F_hand_entered T T2 c_with_entry c_is_name xh g_MOST_HANDS;have b_hand_entered:=mkB (ps:=["book","row"]) F_hand_entered;have c_last_stand:=MX "last_stand" zdb 214 λF=>zhu F T T2 c_turns_of xh;have c_need_hand:=MX "need_hand" zdz 242 λF=>zhY F T T2 xh;have c_need_rise:=MX "need_rise" zdK 249 λF=>ziF F T T2 xh g_HIGHEST_RISE;have F_run_entered:=fF (P:=w.params) "run_entered" "run_entered" zcu 275;have o_run_entered:=zgz (P:=l.prog) (w:=w) (base:=base) F_run_entered T T2 c_last_stand c_need_hand c_need_rise c_with_entry xh g_MOST_RUNS;have b_run_entered:=mkB (ps:=["book","row"]) F_run_entered;have c_need_run:=MX "need_run" zez 254 λF=>zjL F T T2 xh;have F_run_struck:=fF (P:=w.params) "run_struck" "run_struck" zcZ 280;have o_run_struck:=zhQ (P:=l.prog) (w:=w) (base:=base) F_run_struck T T2 c_need_run c_with_entry;have b_run_struck:=mkB (ps:=["book","row"]) F_run_struck;have F_run_mended:=fF (P:=w.params) "run_mended" "run_mended" zc3 285;have o_run_mended:=zhb (P:=l.prog) (w:=w) (base:=base) F_run_mended T T2 c_need_run c_need_rise c_with_entry;have b_run_mended:=mkB (ps:=["book","row"]) F_run_mended;have F_number_allowed:=fF (P:=w.params) "number_allowed" "number_allowed" zbw 311;have o_number_allowed:=ze6 (P:=l.prog) (w:=w) (base:=base) F_number_allowed T T2 c_with_entry xh g_MOST_FALSE;have b_number_allowed:=mkB (ps:=["book","row"]) F_number_allowed;have tb:TabP l.prog w (hK w.params) mg base 4 2 (tabA aD):=by unfold tabA;exact (TabP.cons F_mark_entered o_mark_entered b_mark_entered (TabP.cons F_hand_entered o_hand_entered b_hand_entered (TabP.cons F_run_entered o_run_entered b_run_entered (TabP.cons F_run_struck o_run_struck b_run_struck (TabP.cons F_run_mended o_run_mended b_run_mended (TabP.cons F_number_allowed o_number_allowed b_number_allowed TabP.nil))))))
 have c_book_behind:=MX "book_behind" zct 319 λF=>zgv F aD T T2 gA tb;have m_now:=MM (C:=aD.fen) cls "now" "Fen.now" zeA 345 λF=>zlH F aD T T2 fc;have m_deed:=MM (C:=aD.fen) cls "deed" "Fen.deed" zdS 415 λF=>zi9 F aD T T2 fc c_book_behind m_now;have c__law_due_told:=M "_law_due_told" zet 623 λF=>zfs F T T2;have c__law_step:=MX "_law_step" zmC 630 λF=>zin F aD T T2 c__law_done (Cal.of F__law_same (r__law_same 6) m__law_same b__law_same) m_deed c__law_due_told;have c__law_marks:=M "_law_marks" zh5 606 λF=>zhq F T T2;have c__law_truth:=M "_law_truth" zh7 656 λF=>zhn F T T2;have c__law_run_deed:=M "_law_run_deed" zeR 663 λF=>zfp F T T2 c__law_marks c__law_take c__law_truth c__law_place;have c__law_begun:=MX "_law_begun" ziU 668 λF=>zhI F aD T T2 fc c__law_names mkI okI bI c__law_model c__law_take c__law_step c__law_run_deed;have c_marks_of:=M "marks_of" zex 195 λF=>zjf F T T2;have m_marks:=MM (C:=aD.fen) cls "marks" "Fen.marks" zc1 450 λF=>zh4 F aD T T2 c_marks_of m_now;have m_hands:=MM (C:=aD.fen) cls "hands" "Fen.hands" zc5 457 λF=>zie F aD T T2 m_now;have m_asides:=MM (C:=aD.fen) cls "asides" "Fen.asides" zcx 462 λF=>zhc F aD T T2 m_now;have m_stands:=MM (C:=aD.fen) cls "stands" "Fen.stands" zcz 469 λF=>zhS F aD T T2 m_now;have m_allowed:=MM (C:=aD.fen) cls "allowed" "Fen.allowed" zb9 476 λF=>zgy F aD T T2 m_now;have m_runs:=MM (C:=aD.fen) cls "runs" "Fen.runs" zdR 483 λF=>zjd F aD T T2 m_now;have c_rows_that_count:=M "rows_that_count" zbu 324 λF=>zeV F T T2;have m_counting:=MM (C:=aD.fen) cls "counting" "Fen.counting" zbK 488 λF=>zgd F aD T T2 c_rows_that_count m_now;have m_deeds:=MM (C:=aD.fen) cls "deeds" "Fen.deeds" zda 436 λF=>ziy F aD T T2 fc;have c__law_seen:=M "_law_seen" znr 637 λF=>ziZ F aD T T2 m_marks m_hands m_asides m_stands m_allowed m_runs m_counting m_deeds;have c__law_counted:=M "_law_counted" zeT 611 λF=>zfX F T T2;have c__law_due:=M "_law_due" sDue 642 λF=>zjU F T T2 c__law_marks c__law_counted;have c__law_right:=M "_law_right" zi0 649 λF=>zhK F aD T T2 (Cal.of F__law_same (r__law_same 6) m__law_same b__law_same) c__law_seen c__law_due;have m_back:=MM (C:=aD.fen) cls "back" "Fen.back" zdF 422 λF=>zjl F aD T T2 fc xh;have m_strike:=MM (C:=aD.fen) cls "strike" "Fen.strike" zcA 373 λF=>zhD F aD T T2 m_deed;have m_mend:=MM (C:=aD.fen) cls "mend" "Fen.mend" zdW 380 λF=>zjB F aD T T2 m_deed;have c__law_no_run:=MX "_law_no_run" ziE 675 λF=>zgx F aD T T2 m_strike m_mend xh;exact zq4 F aD T T2 c__law_begun c__law_right c__law_run_deed c__law_take c__law_step (Cal.of F__law_same (r__law_same 6) m__law_same b__law_same) m_back c__law_no_run m_runs cB (zpB aD)
theorem walk {l:PySem.W.OpenLaw} {q:Program} {loose:List Str} {XP:(Str->Option Value)->Heap->Prop} {YP:PySem.World->Heap->Prop} {d:DefRec} {K:Params->PySem.W.Frag} (hn:l.most = some 63) (hdf:d.params.defaults = [])
  (hY:∀ (w:PySem.World) (h:Heap),YP w h->(K w.params).In h)
  (F:∀ (w:PySem.World) (mg:Str->Option Value) (fa:Addr) (h:Heap),(K w.params).In h->h.Ns mainGlobals mg->mg d.name = some (.ref fa) ->
   ∃ fd:FuncData,(∀ (s:Shared) (u:Value),BindsTo s fd ⟨[u],[]⟩ [("_law_script",u)])/\∀ base:Heap,(K w.params).In base->base.Ns mainGlobals mg->FnOk l.prog w (K w.params) mg base CX0 10 fa fd ["_law_script"] (zmB (K w.params))) :
  PySem.W.WalkO q loose XP YP l.row.toRowW d [] (λf vs=>PySem.call f vs):=
 L2.zp3 (n:=63) (k:=10) (x := "_law_script") (CX:=λ_=>CX0) (sp:=λw=>zmB (K w.params)) hn (by decide) hdf ⟨rfl,by decide,by decide⟩ hY F (λ_ _ a ns hl _ hS=>⟨a,ns,rfl,hS,hl,λ_=>rfl⟩) λ_ _ _ _ _ z=>z
end Fd
open PySem PySem.W PyProof.Rows
set_option maxRecDepth 100000 in
set_option maxHeartbeats 0 in
theorem PySem.Challenge.cw_fenlevel_k39_whole_numbers_are_given_onc_holds : PySem.Challenge.rw_fenlevel_k39_whole_numbers_are_given_onc.Holds := by
 w_on;o_law
 refine holds_open (q:=Hd.vw) (loose:=["ACTIONS"]) (Xt:=Hd.xT) (XP:=XL Hd.vw []) (Yf:=Hd.hH.obs) (Ya:=Hd.hH.val) (YP:=Hd.hH.says) (N:=11132) Hd.left_o Hd.hH.of Hd.hH.keeps (λs e=>xl_of s (YB3.mp e).1) XL.keeps (by rfl) (by rfl) (by rfl) (λs e=>recFacts_of (YB3.mp e).2) (by rfl) (by first | assumption | decide +kernel) (by decide +kernel) ⟨rfl,rfl,rfl,rfl,rfl,by decide +kernel⟩ ?hw ?hc
 (case hw=>w_witness2)
 exact Fd.walk (l:=PySem.Challenge.rw_fenlevel_k39_whole_numbers_are_given_onc) rfl rfl (λw h Y=>PySem.W.kIn_of Y) (λw mg fa h KX G hmg=>Fd.all_mk KX G hmg)
