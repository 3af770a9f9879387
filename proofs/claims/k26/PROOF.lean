import PyProof.Rows.All
import Wide.All
import OpenK.AllK
import Wide.FinOn
import Lean
import PyProof.EqAt
import PyProof.EqKinds
import PyProof.TupleCall
import PyProof.SetKind
import PyProof.Rows.SortShell
import PyProof.SetRoads
import PyProof.ListNew
import PyProof.CollectWalk
import PyProof.Rows.SetFrom
import PyProof.NeKinds
import PyProof.IsiHeapPairs
import PyProof.IsiNone
import PyProof.IsiPairs
import PyProof.ZipIter
import PyProof.Draws
import PyProof.WalksMore
import PyProof.EnumMake
import PyProof.EnumFor
import PyProof.ListRange
import PyProof.RangeFor
import PyProof.DictUpdate
import PyProof.DictItemsLoops
import PyProof.DictWalks
import PyProof.DictIter
import PyProof.P3Eq
import PyProof.P3In
import PyProof.NeData
import KE.KTryMore
import PyProof.ExcArgsOwn
import PyProof.StrOps2
import PyProof.TupleKey
import PyProof.DictFindH
import PyProof.MeetsDict
import PyProof.Rows.RuleN_abs
import PySem.Challenge.RW_fenlevel_k26_runs_entered_struck_and_men
set_option maxHeartbeats 0
abbrev qo:=PySem.W.Frag
set_option compiler.extract_closed false
noncomputable section
set_option linter.all false
def aJ:=@PySem.wpAny_bind
def bW:=@List.length_map
def dO:=@PySem.Heap.get?_push_of_some
def bV:=@PySem.wpAny_pure
def jB:=@List.getElem?_eq_some_iff
def jr:=@List.getElem?_eq_getElem
def gw:=@List.mem_cons_self
def dw:=@PySem.Heap.lt_size
def jK:=@List.getElem?_set_self
def je:=@List.mem_cons_of_mem
def dZ:=@List.map_cons
def iU:=@List.length_append
def jE:=@List.getElem?_set_ne
def jF:=@PySem.Heap.get?_push_size
def dJ:=@Nat.le_refl
def gV:=@decide_eq_false
def jj:=@List.size_toArray
def jN:=@Nat.lt_of_lt_of_le
def fK:=@Nat.ne_of_lt
def jG:=@List.getElem?_map
def iB:=@decide_eq_true
def ir:=@List.mem_cons
def iu:=@Nat.le_trans
def lX:=@List.mem_singleton
def lF:=@List.length_cons
def lB:=@List.not_mem_nil
def YAA:=@List.getElem?_cons_succ
def YAB:=@Bool.and_eq_true
def lL:=@List.map_append
def YAD:=@of_decide_eq_true
def YAE:=@List.mem_append_right
def YAF:=@PySem.wpAny_field
def YAG:=@List.mem_append
def YAH:=@PySem.wpAny_callSpecial?_slot
def YAI:=@PySem.wpAny_newObj_type
def YAJ:=@PySem.Heap.get?_update_other
def YAK:=@List.mem_map
def YAL:=@List.map_map
def YAM:=@Ne.symm
def YAN:=@List.getD_eq_getElem?_getD
def rO:=@List.lookup_cons
def YAP:=@List.nodup_cons
def YAQ:=@PyProof.Rows.slot_tuple_getitem
def YAR:=@PySem.Heap.get?_update_self
def YAS:=@PySem.W.segRun_of
def YAT:=@PySem.wpAny_mono
def YAU:=@beq_eq_false_iff_ne
def YAV:=@List.filterMap_cons
def YAW:=@PySem.wpAny_holding
def mG:=@PySem.sizeLine_eq
def YAY:=@PySem.W.mg_of
def YAZ:=@Int.eq_ofNat_of_zero_le
def rQ:=@List.append_nil
def xY:=@List.forall_mem_cons
def uL:=@PySem.wpAny_call_entry
def vQ:=@PySem.wpAny_truthy_bool
def xR:=@PySem.wpAny_Call_Name_kw
def wL:=@Int.emod_lt_of_pos
def Dy:=@List.getElem?_append_left
def zK:=@PySem.mem_of_lookup
def yK:=@List.replicate_succ
def xH:=@decide_eq_true_eq
def wH:=@List.length_range
def JZ:=@PySem.F.slot_dict_keyiterator_next
def ud:=@Nat.lt_irrefl
def yx:=@Bool.false_ne_true
def Bu:=@List.mem_append_left
def rT:=@List.map_nil
def Ay:=@Array.length_toList
def vO:=@PySem.wpAny_seqItems
def HR:=@Array.getElem?_eq_getElem
def xF:=@List.length_zip
def wI:=@Int.emod_nonneg
def Be:=@List.mem_filterMap
def Ba:=@Bool.false_eq_true
def zV:=@PySem.wpAny_setField_rec
def YBo:=@PySem.wpAny_typeNameOfWhole_keyiter
def JD:=@List.getElem?_replicate
def xJ:=@PySem.Heap.size_push
def BL:=@List.flatten_cons
def zq:=@List.mem_filter
def YBt:=@PyProof.Rows.callWith_type1
def Gz:=@PyProof.Rows.boot_list
def YBv:=@List.getElem?_append_right
def YBw:=@PySem.F.slot_tuple_iterator_next
def YBx:=@Array.getElem?_eq_some_iff
def An:=@List.all_eq_true
def By:=@List.getElem_mem
def wu:=@Nat.ne_of_gt
def Dz:=@PySem.Obj.data_mapFields
def Ke:=@List.contains_iff_mem
def yw:=@PySem.wpAny_setField
def YBE:=@List.drop_eq_getElem_cons
def Ed:=@Int.toNat_natCast
def xX:=@Nat.min_self
def vX:=@Nat.zero_le
def yW:=@PySem.wpAny_attempt
def JM:=@List.map_congr_left
def yp:=@false_implies
def DQ:=@List.length_take
def KJ:=@PySem.W.callWith_K
def Ge:=@List.map_singleton
def CZ:=@PySem.wpAny_execs_nil
def Eb:=@List.find?_cons
def YBQ:=@PySem.Obj.isFreed_of_fields
def Dl:=@PySem.F.slot_zip_next
def zF:=@implies_true
def Ak:=@List.any_cons
def Jx:=@PySem.wpAny_pyIter_list
def rK:=@or_false
def YBW:=@List.mem_of_getElem?
def Ft:=@PySem.wpAny_isInstance
def Js:=@Nat.le_add_right
def YBZ:=@PySem.Heap.SameBut.update
def YB0:=@Option.isSome_iff_exists
def YB1:=@PySem.F.args_tuple_add_2
def YB2:=@List.length_filterMap_le
def Ie:=@PySem.wpAny_passesOwn
def YB4:=@PySem.F.entry_tuple_add
def um:=@if_false
def Hx:=@List.length_set
def YB7:=@PySem.tupleKind_room_in1
def YB8:=@decide_eq_false_iff_not
def YB9:=@PySem.F.plainAttrs_list
def YCa:=@PySem.W.cellsFrom_some
def YCb:=@PySem.F.slot_tuple_add
def YCc:=@List.range_succ_eq_map
def YCd:=@List.take_of_length_le
def YCe:=@PyProof.Rows.boot_dict
def yJ:=@PySem.wpAny_rule
def yz:=@beq_iff_eq
def YCh:=@List.append_assoc
def YCi:=@PySem.Obj.cls_mapFields
def YCj:=@Nat.lt_succ_of_lt
def J5:=@List.mem_range
def Cz:=@PySem.codeAny_mono
def YCm:=@PySem.W.methodCall_KW
def YCn:=@List.length_singleton
def YCo:=@Array.getElem?_toList
def YCp:=@List.length_filter_le
def YCq:=@PySem.wpAny_execs_cons
def YCr:=@Nat.lt_succ_self
def YCs:=@Nat.min_le_right
def YCt:=@List.length_drop
def YCu:=@PySem.wpAny_updateSeq_pair
def YCv:=@Bool.and_eq_true_iff
def YCw:=@Bool.or_eq_false_iff
def JR:=@PySem.wpAny_standAt
def Ky:=@PySem.wpAny_onRaise
def Bs:=@PySem.call_meets
def YCA:=@PySem.W.plainGet_of
def YCB:=@PySem.W.callWith_K0
def YCC:=@List.of_mem_zip
def uB:=@if_true
def YCE:=@List.forIn_cons
def YCF:=@ne_true_of_eq_false
def YCG:=@Nat.min_eq_left
def YCH:=@PyProof.Rows.assignInOrder_cons
def KD:=@PySem.wpAny_typeOf
def YCJ:=@PySem.F.args_str_split_2
def YCK:=@List.map_filterMap
def YCL:=@PySem.isSubtype_stop
def YCM:=@Nat.mul_le_mul
def Cp:=@PySem.wpAny_Name
def YCO:=@PySem.wpAny_Assign_Name
def CK:=@PySem.wpAny_call
def Cy:=@PySem.typeIs_str
def YCR:=@Option.isSome_map
def YCS:=@PySem.F.args_zip_next_1
def YCT:=@Option.some.injEq
def YCU:=@Nat.le_succ_of_le
def YCV:=@PySem.F.entry_str_split
def YCW:=@PySem.wpAny_dictEntries
def yq:=@and_true
def YCY:=@PySem.noFill_tuple_add
def YCZ:=@List.zipIdx_cons
def YC0:=@PySem.F.entry_zip_next
def YC1:=@List.drop_length
def YC2:=@PySem.F.slot_str_split
def YC3:=@List.filter_cons
def YC4:=@Bool.not_eq_true
def YC5:=@List.nil_append
def YC6:=@PySem.wpAny_specialOf
def YC7:=@List.zipIdx_nil
def YC8:=@Option.map_some
def YC9:=@PySem.wpAny_dictEpoch
def YDa:=@PySem.wpAny_updateSeq
def YDb:=@Int.ediv_nonneg
def YDc:=@List.forIn_nil
def YDd:=@List.nodup_nil
def YDe:=@PySem.boot_len
def YDf:=@PySem.wpAny_letGo
set_option Elab.async false
set_option linter.all false
set_option maxRecDepth 100000
namespace L2
open PySem PySem.Spec PyProof.Rows
abbrev Key:=Sum Int Str
def zP:Key->Value->Bool
 |.inl k,v=>Value.isInt k v
 |.inr x,v=>Value.isStrOf x v
def keyH(w:World):Key->Int
 |.inl k=>hashInt k
 |.inr x=>hashStr w x
def wg:∀{k:Key}{v:Value},zP k v=true->(∃i t,k=Sum.inl i/\v=Value.int i t)\/(∃x t,k=Sum.inr x/\v=Value.str x t)
 |.inl i,v,h=>by
  obtain⟨t,e⟩:=Value.isInt_shape (k:=i) (v:=v) h;exact .inl ⟨i,t,rfl,e⟩
 |.inr x,v,h=>by
  obtain⟨t,e⟩:=Value.isStrOf_shape (x:=x) (v:=v) h;exact .inr ⟨x,t,rfl,e⟩
def zo8(i:Int)(t:Tok):zP (.inl i) (.int i t)=true:=by simp[zP,Value.isInt]
def zgW(x:Str)(t:Tok):zP (.inr x) (.str x t)=true:=by simp[zP,Value.isStrOf]
def zu8(a b:Int):decide ((Sum.inl a:Key)=Sum.inl b)=(a==b):=by
 by_cases e:a=b
 .subst e;simp
 .have h:¬ (Sum.inl a:Key)=Sum.inl b:=λq=>e (Sum.inl.inj q);rw[gV h];exact(YAU.mpr e).symm
def zvo(a b:Str):decide ((Sum.inr a:Key)=Sum.inr b)=decide (a=b):=by
 by_cases e:a=b
 .subst e;simp
 .have h:¬ (Sum.inr a:Key)=Sum.inr b:=λq=>e (Sum.inr.inj q);rw[gV h,gV e]
def zvl(a:Int)(b:Str):decide ((Sum.inl a:Key)=Sum.inr b)=false:=gV (λq=>nomatch q)
def ztw(a:Str)(b:Int):decide ((Sum.inr a:Key)=Sum.inl b)=false:=gV (λq=>nomatch q)
noncomputable def lC(prog:Program)(w:World):PySem.KeyKind prog w Key where
 is:=zP
 hash:=keyH w
 inj:=λv a b ha hb=>by
  rcases wg ha with⟨i,t,rfl,rfl⟩|⟨x,t,rfl,rfl⟩
  .rcases wg hb with⟨j,u,rfl,e⟩|⟨y,u,rfl,e⟩
   .injection e with e1 _;rw[e1]
   .exact nomatch e
  .rcases wg hb with⟨j,u,rfl,e⟩|⟨y,u,rfl,e⟩
   .exact nomatch e
   .injection e with e1 _;rw[e1]
 byValue:=λk v h=>by
  rcases wg h with⟨i,t,rfl,rfl⟩|⟨x,t,rfl,rfl⟩<;>rfl
 pyHash:=λhv h=>by
  rcases wg hv with⟨i,t,rfl,rfl⟩|⟨x,t,rfl,rfl⟩
  .exact wpAny_pyHash_int h
  .exact wpAny_pyHash_str h
 eqBool:=λhu hv h=>by
  rcases wg hu with⟨i,t,rfl,rfl⟩|⟨x,t,rfl,rfl⟩
  .rcases wg hv with⟨j,u,rfl,rfl⟩|⟨y,u,rfl,rfl⟩
   .rw[zu8]at h;exact wpAny_eqBool_int h
   .rw[zvl]at h;exact SeqAt.EqAt.int_str i t y u _ _ _ _ h
  .rcases wg hv with⟨j,u,rfl,rfl⟩|⟨y,u,rfl,rfl⟩
   .rw[ztw]at h;exact SeqAt.EqAt.str_int x t j u _ _ _ _ h
   .rw[zvo]at h;exact wpAny_eqBool_str h
 «strs»:=λk x t v h=>by
  rcases wg h with⟨i,u,rfl,e⟩|⟨y,u,rfl,e⟩
  .exact nomatch e
  .injection e with e1 _
   subst e1;cases v<;>rfl
def zk2(prog:Program)(w:World)(i:Int)(t:Tok):(lC prog w).is (.inl i) (.int i t)=true:=zo8 i t
def zkJ(prog:Program)(w:World)(x:Str)(t:Tok):(lC prog w).is (.inr x) (.str x t)=true:=zgW x t
inductive V where
 |non|bl (b:Bool)|int (i:Int)|str (x:Str)|byt (b:Array UInt8)|flt (b:UInt64)|ref (a:Addr)|ty (n:String)
 deriving DecidableEq
def RelV:V->Value->Prop
 |.non,u=>u=Value.none
 |.bl b,u=>u=Value.bool b
 |.int i,u=>∃t,u=Value.int i t
 |.str x,u=>∃t,u=Value.str x t
 |.byt b,u=>∃t,u=Value.bytes b t
 |.flt b,u=>∃t,u=Value.float b t
 |.ref a,u=>u=Value.ref a
 |.ty n,u=>u=Value.type n
abbrev Vals:List V->List Value->Prop:=Paired RelV
theorem Vals.length{xs:List V}{us:List Value}(r:Vals xs us):xs.length=us.length:=Paired.length r
theorem Vals.get:∀{xs:List V}{us:List Value}{i:Nat}{x:V},Vals xs us->xs[i]?=some x->∃u,us[i]?=some u/\RelV x u
 |_,_,_,_,.nil,e=>by simp at e
 |_,_,0,_,.cons r _,e=>by simp at e;subst e;exact⟨_,rfl,r⟩
 |_,_,i+1,x,.cons _ t,e=>by
  obtain⟨u,h1,h2⟩:=Vals.get (i:=i) (x:=x) t (by simpa using e);exact⟨u,by simpa using h1,h2⟩
theorem Vals.set(r:RelV x u):∀{xs:List V}{us:List Value}(i:Nat),Vals xs us->Vals (xs.set i x) (us.set i u)
 |_,_,_,.nil=>.nil
 |_,_,0,.cons _ t=>.cons r t
 |_,_,i+1,.cons q t=>.cons q (Vals.set r i t)
theorem Vals.append:∀{xs ys:List V}{us ws:List Value},Vals xs us->Vals ys ws->Vals (xs++ys) (us++ws)
 |_,_,_,_,.nil,s=>s
 |_,_,_,_,.cons r t,s=>.cons r (Vals.append t s)
theorem Vals.take:∀{xs:List V}{us:List Value}(n:Nat),Vals xs us->Vals (xs.take n) (us.take n)
 |_,_,0,_=>.nil
 |_,_,_+1,.nil=>.nil
 |_,_,n+1,.cons r t=>.cons r (Vals.take n t)
theorem Vals.drop:∀{xs:List V}{us:List Value}(n:Nat),Vals xs us->Vals (xs.drop n) (us.drop n)
 |_,_,0,r=>r
 |_,_,_+1,.nil=>.nil
 |_,_,n+1,.cons _ t=>Vals.drop n t
def g8:Option V->Option Value->Prop
 |some v,some u=>RelV v u
 |none,none=>True
 |_,_=>False
def KV{κ:Type}:List (κ×V)->List (κ×Value)->Prop:=Paired λ(p:κ×V) (q:κ×Value)=>p.1=q.1/\RelV p.2 q.2
def kV:Key->V
 |.inl i=>.int i
 |.inr x=>.str x
inductive HO where
 /-- a list -/
 |lst (xs:List V)
 /-- a tuple (never changes) -/
 |tup (xs:List V)
 /-- a dict whose keys are ints and texts;one whose keys are tuples of ints and texts (the empty one is both) -/
 |dK (kvs:List (Key×V))|dT (kvs:List (List Key×V))
 /-- a set of ints: its members,its size -/
 |set (qj:Int->Bool) (n:Nat)
 /-- an instance of the class at C,its dict at dx,its attributes -/
 |ins (C dx:Addr) (fs:List (Str×V))
 /-- the dict of the instance at x -/
 |own (x:Addr)
 /-- the dict of an exception -/
 |xd (fs:List (Str×V))
 /-- a bound method,f of x -/
 |met (f x:Addr)
 /-- a range object lo,lo + 1,.. below hi -/
 |rng (lo hi:Int)
 /-- a thing that is known to the object (the script;a dict while a loop walks it): read,never written while it is so -/
 |iV (o:Obj) (u:HO)
 /-- a code object's table -/
 |tbl (ps:Array Value)
 /-- any qf thing,by what is true of its one object (a def of one's own: SetO a qj n:=HO.ext λh=>..) -/
 |ext (φ:Heap->Prop)
abbrev Hp:=Addr->Option HO
def upd(H:Hp)(a:Addr)(o:HO):Hp:=λb=>if b=a then some o else H b
def cH:upd H a o a=some o:=by unfold upd;rw[if_pos rfl]
def au(h:b≠a):upd H a o b=H b:=by unfold upd;rw[if_neg h]
def zkk:upd (upd H a o) a u=upd H a u:=by
 funext b;unfold upd;split<;>rfl
def zwm{H:Hp}{a b:Addr}{o u:HO}(h:H a=some o)(h':H b=some u)(d:o≠u):a≠b:=by
 intro e;subst e;rw[h]at h';exact d (Option.some.inj h')
def lO{H:Hp}{a b:Addr}{o:HO}(h:H a=some o)(h':H b=none):a≠b:=by
 intro e;subst e;rw[h]at h';cases h'
section
variable(P:Program)(w:World)
noncomputable def cg(H:Hp)(h:Heap)(a:Addr):HO->Prop
 |.lst xs=>xs.length<=sizeLine/\∃(its:List Value)(n:Nat),Vals xs its/\h.get? a=some {cls:=.type "list",data:=.seq its.toArray n}
 |.tup xs=>xs.length<=sizeLine/\∃its:List Value,Vals xs its/\IsTup h a its.toArray
 |.dK kvs=>kvs.length<=sizeLine/\(a==sysModules)=false/\∃vs,KV kvs vs/\h.DictOf (lC P w) a vs
 |.dT kvs=>kvs.length<=sizeLine/\(a==sysModules)=false/\∃xs:List (List Key×Addr×Value),
   Paired (λ(p:List Key×V) (q:List Key×Addr×Value)=>p.1=q.1/\H q.2.1=some (.tup (p.1.map kV))/\RelV p.2 q.2.2) kvs xs /\
   ∃o es ep,h.get? a=some o/\o.ExactDict/\o.data=.dict es ep/\es.toList=xs.map (entryOfKey (tupleKind (lC P w)))/\(xs.map (·.1)).Nodup
 |.set qj n=>h.SetOf (intKind P w) a qj n
 |.ins C dx fs=>H dx=some (.own a)/\fs.length<=1000/\dx≠a/\h.get? a=some (PySem.W.instObj C dx) /\
   ∃mA,h.Ns1 dx mA/\(∀f,g8 (fs.lookup f) (mA f))/\PySem.Within mA (fs.map (·.1))
 |.own _=>∃o,h.get? a=some o
 |.xd fs=>∃mA,h.Ns1 a mA/\∀f,g8 (fs.lookup f) (mA f)
 |.rng lo hi=>∃t u v,h.get? a=some {cls:=.type "range",data:=.fields #[.int lo t,.int hi u,.int 1 v]}
 |.iV o u=>h.get? a=some o/\cg H h a u
 |.tbl ps=>h.get? a=some {cls:=.none,data:=.fields ps}
 |.met f x=>h.get? a=some (PySem.W.methodObj (.ref f) (.ref x))
 |.ext φ=>φ h/\(∃o,h.get? a=some o)/\∀h1 h2:Heap,φ h1->(∀o,h1.get? a=some o->h2.get? a=some o)->φ h2
def iT(H:Hp)(h:Heap):Prop:=∀a o,H a=some o->cg P w H h a o
end
section
variable{P:Program}{w:World}{H H':Hp}{h h':Heap}{a:Addr}{o:HO}
theorem cg.lt(x:cg P w H h a o):a<h.objs.size:=by
 cases o with
 |lst xs=>obtain⟨_,_,_,_,e⟩:=x;exact dw e
 |tup xs=>obtain⟨_,_,_,p⟩:=x;exact p.lt
 |dK kvs=>obtain⟨_,_,_,_,o,_,_,e,_⟩:=x;exact dw e
 |dT kvs=>obtain⟨_,_,_,_,o,_,_,e,_⟩:=x;exact dw e
 |set qj n=>obtain⟨o,_,_,_,e,_⟩:=x;exact dw e
 |ins C dx fs=>obtain⟨_,_,_,e,_⟩:=x;exact dw e
 |own y=>obtain⟨_,e⟩:=x;exact dw e
 |xd fs=>obtain⟨_,⟨_,_,_,e,_⟩,_⟩:=x;exact dw e
 |rng lo hi=>obtain⟨_,_,_,e⟩:=x;exact dw e
 |iV ob u=>obtain⟨e,_⟩:=x;exact dw e
 |tbl ps=>exact dw (show h.get? a=some _ from x)
 |met f y=>exact dw (show h.get? a=some _ from x)
 |ext φ=>obtain⟨_,⟨_,e⟩,_⟩:=x;exact dw e
theorem Paired.mapP{α β:Type}{F G:α->β->Prop}:∀{l₁:List α}{l₂:List β},Paired F l₁ l₂->(∀a b,F a b->G a b)->Paired G l₁ l₂
 |_,_,.nil,_=>.nil
 |_,_,.cons r t,f=>.cons (f _ _ r) (Paired.mapP t f)
def cg.stay(x:cg P w H h a o)(k:∀b u,(b=a\/H b=some (.own a))->h.get? b=some u->h'.get? b=some u)
  (ho:∀b,H b=some (.own a)->H' b=some (.own a)) (ht:∀b xs,H b=some (.tup xs)->H' b=some (.tup xs)):cg P w H' h' a o:=by
 induction o with
 |lst xs=>obtain⟨z,its,n,r,e⟩:=x;exact⟨z,its,n,r,k _ _ (.inl rfl) e⟩
 |tup xs=>obtain⟨z,its,r,ob,e,c⟩:=x;exact⟨z,its,r,ob,k _ _ (.inl rfl) e,c⟩
 |dK kvs=>obtain⟨z,y,vs,r,ob,es,ep,e,c⟩:=x;exact⟨z,y,vs,r,ob,es,ep,k _ _ (.inl rfl) e,c⟩
 |dT kvs=>
  obtain⟨z,y,xs,r,ob,es,ep,e,c⟩:=x;exact⟨z,y,xs,Paired.mapP r λp q z=>⟨z.1,ht _ _ z.2.1,z.2.2⟩,ob,es,ep,k _ _ (.inl rfl) e,c⟩
 |set qj n=>obtain⟨ob,es,ep,t,e,c⟩:=x;exact⟨ob,es,ep,t,k _ _ (.inl rfl) e,c⟩
 |ins C dx fs=>
  obtain⟨d,z,ne,e,mA,⟨od,es,ep,e2,c⟩,r⟩:=x;exact⟨ho _ d,z,ne,k _ _ (.inl rfl) e,mA,⟨od,es,ep,k _ _ (.inr d) e2,c⟩,r⟩
 |own y=>obtain⟨ob,e⟩:=x;exact⟨ob,k _ _ (.inl rfl) e⟩
 |xd fs=>obtain⟨mA,⟨od,es,ep,e,c⟩,r⟩:=x;exact⟨mA,⟨od,es,ep,k _ _ (.inl rfl) e,c⟩,r⟩
 |rng lo hi=>obtain⟨t,u,v,e⟩:=x;exact⟨t,u,v,k _ _ (.inl rfl) e⟩
 |iV ob u ih=>obtain⟨e,q⟩:=x;exact⟨k _ _ (.inl rfl) e,ih q⟩
 |tbl ps=>
  have e:h.get? a=some {cls:=.none,data:=.fields ps}:=x;show h'.get? a=some {cls:=.none,data:=.fields ps};exact k a _ (.inl rfl) e
 |met f y=>
  have e:h.get? a=some (PySem.W.methodObj (.ref f) (.ref y)):=x;show h'.get? a=some (PySem.W.methodObj (.ref f) (.ref y));exact k a _ (.inl rfl) e
 |ext φ=>obtain⟨p,⟨o,e⟩,st⟩:=x;exact⟨st _ _ p λo q=>k _ _ (.inl rfl) q,⟨o,k _ _ (.inl rfl) e⟩,st⟩
theorem iT.lt(x:iT P w H h)(e:H a=some o):a<h.objs.size:=(x a o e).lt
def iT.fresh(x:iT P w H h)(e:h.objs.size<=a):H a=none:=by
 cases q:H a with
 |none=>rfl
 |some u=>exact absurd (jN (x.lt q) e) (ud _)
def iT.kept(x:iT P w H h)(k:∀b u,h.get? b=some u->h'.get? b=some u):iT P w H h':=λa o e=>
 (x a o e).stay (λb u _ q=>k b u q) (λ_ q=>q) λ_ _ q=>q
def iT.laid(x:iT P w H h)(k:∀b u,h.get? b=some u->h'.get? b=some u)(hp:h.objs.size<=a)(new:cg P w (upd H a o) h' a o):iT P w (upd H a o) h':=λb u e=>by
 have hn:=x.fresh hp;by_cases hb:b=a
 .subst hb;rw[cH]at e;cases e;exact new
 .rw[au hb]at e;exact(x b u e).stay (λc v _ q=>k c v q) (λc q=>by rw[au (lO q hn)];exact q) λc xs q=>by rw[au (lO q hn)];exact q
end
def Rd(H:Hp)(a:Addr)(u:HO):Prop:=H a=some u\/∃o,H a=some (.iV o u)
def Rd.ok{P:Program}{w:World}{H:Hp}{h:Heap}{a:Addr}{u:HO}(r:Rd H a u)(x:iT P w H h):cg P w H h a u:=by
 rcases r with r|⟨o,r⟩
 .exact x a u r
 .obtain⟨_,q⟩:=x a _ r;exact q
def Fv:Option HO->Prop
 |some (.lst _)=>True
 |some (.dK _)=>True
 |some (.dT _)=>True
 |some (.set _ _)=>True
 |some (.ins _ _ _)=>True
 |some (.ext _)=>True
 |_=>False
section
variable{P:Program}{w:World}{H:Hp}{h h':Heap}{x e:Addr}{o':HO}
def iT.write(ok:iT P w H h)(mu:Fv (H x))(he:e=x\/H e=some (.own x))(k:∀b u,b≠e->h.get? b=some u->h'.get? b=some u)(heo:∃u,h'.get? e=some u)
  (new:cg P w (upd H x o') h' x o'):iT P w (upd H x o') h':=λb u q=>by
 have nown:∀c y,H c=some (.own y)->c≠x:=λc y r z=>by subst z;rw[r]at mu;exact mu
 have ntup:∀c xs,H c=some (.tup xs)->c≠x:=λc xs r z=>by subst z;rw[r]at mu;exact mu
 by_cases hb:b=x
 .subst hb;rw[cH]at q;cases q;exact new
 .rw[au hb]at q;by_cases hbe:b=e
  .have q':H b=some (.own x):=by
    rcases he with z|z
    .exact absurd (hbe.trans z) hb
    .rw[hbe];exact z
   rw[q]at q';cases q';obtain⟨v,hv⟩:=heo;exact⟨v,by rw[hbe];exact hv⟩
  .refine(ok b u q).stay (λc v hc r=>k c v ?_ r) (λc r=>by rw[au (nown c b r)];exact r) λc xs r=>by rw[au (ntup c xs r)];exact r
   rcases hc with rfl|hc
   .exact hbe
   .rintro rfl;rcases he with z|z
    .exact nown c b hc z
    .rw[hc]at z;cases z;exact hb rfl
end
structure Un(fs ex:List Addr)(H H':Hp)(h h':Heap):Prop where
 keep:∀b o,h.get? b=some o->H b=none->b∉fs->b∉ex->h'.get? b=some o
 slot:∀b o,h.get? b=some o->H b=none->b∈fs->b∉ex->∃sl,h'.get? b=some {o with slots:=sl}
 free:∀b o,h.get? b=some o->H b=none->b∉ex->H' b=none
 there:∀b o,h.get? b=some o->b∉ex->∃o',h'.get? b=some o'
 tups:∀b xs,H b=some (.tup xs)->H' b=some (.tup xs)
 frzs:∀b o u,H b=some (.iV o u)->H' b=some (.iV o u)
 tbls:∀b ps,H b=some (.tbl ps)->∃more,H' b=some (.tbl (ps++more))
section
variable{fs fs' ex ex':List Addr}{H H1 H2:Hp}{h h1 h2 h':Heap}{a x e:Addr}{o:HO}
def Un.any(u:Un fs ex H H1 h h1){b:Addr}{ob:Obj}(q:h.get? b=some ob)(n:H b=none)(hx:b∉ex):∃sl,h1.get? b=some {ob with slots:=sl}:=by
 by_cases hb:b∈fs
 .exact u.slot b ob q n hb hx
 .exact⟨ob.slots,u.keep b ob q n hb hx⟩
def Un.kept(k:∀b u,h.get? b=some u->h'.get? b=some u):Un fs ex H H h h':=
 ⟨λb ob q _ _ _=>k b ob q,λb ob q _ _ _=>⟨ob.slots,k b ob q⟩,λ_ _ _ n _=>n,λb ob q _=>⟨ob,k b ob q⟩,λ_ _ q=>q,λ_ _ _ q=>q,λ_ ps q=>⟨#[],by rw[q];simp⟩⟩
def Un.refl:Un fs ex H H h h:=Un.kept λ_ _ q=>q
def Un.laid(k:∀b u,h.get? b=some u->h'.get? b=some u)(hp:h.objs.size<=a)(hn:H a=none):Un fs ex H (upd H a o) h h' where
 keep:=λb u q _ _ _=>k b u q
 slot:=λb u q _ _ _=>⟨u.slots,k b u q⟩
 free:=λb u q n _=>by rw[au (fK (jN (dw q) hp))];exact n
 there:=λb u q _=>⟨u,k b u q⟩
 tups:=λb xs q=>by rw[au (lO q hn)];exact q
 frzs:=λb u xs q=>by rw[au (lO q hn)];exact q
 tbls:=λb ps q=>⟨#[],by rw[au (lO q hn),q];simp⟩
def Un.write(mu:Fv (H x))(he:e=x\/H e=some (.own x))(k:∀b u,b≠e->h.get? b=some u->h'.get? b=some u)(heo:∃u,h'.get? e=some u):Un fs ex H (upd H x o) h h':=by
 have hx:∀b,H b=none->b≠x:=λb n z=>by subst z;rw[n]at mu;exact mu
 have hb:∀b,H b=none->b≠e:=λb n z=>by
  subst z;rcases he with r|r
  .exact hx b n r
  .rw[n]at r;cases r
 have hm:∀b u,H b=some u->¬ Fv (some u)->b≠x:=λb u q nm z=>by subst z;rw[q]at mu;exact nm mu
 refine⟨λb u q n _ _=>k b u (hb b n) q,λb u q n _ _=>⟨u.slots,k b u (hb b n) q⟩,λb u q n _=>by rw[au (hx b n)];exact n,λb u q _=>?_,
  λb xs q=>by rw[au (hm b _ q λz=>z)];exact q,λb u xs q=>by rw[au (hm b _ q λz=>z)];exact q,λb ps q=>⟨#[],by rw[au (hm b _ q λz=>z),q];simp⟩⟩
 by_cases hbe:b=e
 .subst hbe;exact heo
 .exact⟨u,k b u hbe q⟩
end
def vq(h:Heap)(H:Hp):List Addr:=(List.range h.objs.size).filter λa=>(H a).isSome
def nO(h:Heap)(H:Hp):Heap:=PySem.W.hideAll h (vq h H)
def zof(h:Heap)(H:Hp):(nO h H).objs.size=h.objs.size:=PySem.W.hideAll_size _ _
def zpl{h:Heap}{H:Hp}{b:Addr}{o:Obj}(e:h.get? b=some o)(n:H b=none):(nO h H).get? b=some o:=
 PySem.W.hideAll_get _ e λhm=>by
  have q:(H b).isSome=true:=(zq.mp hm).2;rw[n]at q;simp at q
def zrC{h:Heap}{H:Hp}{b:Addr}{o:Obj}(e:(nO h H).get? b=some o):h.get? b=some o/\H b=none:=by
 have e':h.get? b=some o:=PySem.W.of_hideAll (vq h H) e;refine⟨e',?_⟩;cases q:H b with
 |none=>rfl
 |some x=>
  have hm:b∈vq h H:=zq.mpr ⟨J5.mpr (dw e'),by simp[q]⟩;have z:(nO h H).get? b=none:=PySem.W.hideAll_none (vq h H) hm;rw[z]at e;cases e
structure Mod(K:qo)(mg:Str->Option Value)(base:Heap):Prop where
 kin:K.In base
 glob:base.Ns mainGlobals mg
 blt:∃mb,base.Ns builtinsNs mb/\∀x:Str,x≠"__name__" -> mb x=bootBuiltins x
 nolimit:base.NoLimit
structure Cx where
 prog:Program
 w:World
 K:qo
 mg:Str->Option Value
 base:Heap
 A:Around
 N:List Str
 s₀:Shared
 H₀:Hp
 env:Env
 outer:List Env
 stack:List Env
 ex:List Addr
 fn:Str->Bool
 calm:Bool
 pn:List (Addr×Obj)
 xe:Value->Shared->Prop
def frs(l:List Env):List Addr:=l.filterMap (·.frame)
abbrev Cx.fs(X:Cx):List Addr:=frs X.outer
def Cu(sc:Scope)(x:Str):Prop:=sc.names.lookup x=some .local\/sc.names.lookup x=some .cell\/sc.names.lookup x=some .free
def Loc(sc:Scope)(x:Str):Prop:=sc.names.lookup x=some .local\/sc.names.lookup x=some .cell
def Look(env:Env)(h:Heap)(m:Str->Option Value)(x:Str)(u:Value):Prop:=
 (env.kindOf x=some .local/\m x=some u)\/((env.kindOf x=some .cell\/env.kindOf x=some .free)/\∃c,env.cells.lookup x=some c/\h.IsCell c (some u))
structure Cx.Ok(X:Cx):Prop where
 mod:Mod X.K X.mg X.base
 kind:X.env.scope.kind=.function
 glob:X.env.globals=mainGlobals
 blt:X.env.builtins=builtinsNs
 above:X.s₀.heap.objs.size<=X.env.locals
 inj:∀x y c,X.env.cells.lookup x=some c->X.env.cells.lookup y=some c->x=y
 has:∀x,(X.env.kindOf x=some .cell\/X.env.kindOf x=some .free)->∃c,X.env.cells.lookup x=some c
 cab:∀x c,X.fn x=true->X.env.cells.lookup x=some c->X.s₀.heap.objs.size<=c
 hd:X.calm=true->X.A.handled=none
 frames:X.A.frames=some X.stack
 stk:X.stack=X.outer\/(X.stack=X.env::X.outer/\X.env.frame=some X.env.locals)
 exf:∀b∈X.ex,b≠X.env.locals/\∀x c,X.env.cells.lookup x=some c->c≠b
 bs:∀b o,X.base.get? b=some o->X.s₀.heap.get? b=some o/\X.H₀ b=none
 bsz:X.base.objs.size<=X.s₀.heap.objs.size
 noex:∀b o,X.base.get? b=some o->b∉X.ex
 exfs:∀b∈X.ex,b∉X.fs
 funs:X.s₀.heap.FunFrames X.base X.outer
 frf:∀b∈X.fs,X.H₀ b=none
structure Inv(X:Cx)(aa:List (Addr×Obj))(Z:List (Option V))(H:Hp)(s:Shared):Prop where
 ok:X.Ok
 os:s.os=X.s₀.os
 bare:AllBare s.gens
 base:Un X.fs X.ex X.H₀ H X.s₀.heap s.heap
 loc:∃m,s.heap.Ns X.env.locals m/\∀(i:Nat)(x:Str)(v:V),X.N[i]?=some x->Z[i]?=some (some v)->Cu X.env.scope x->∃u,RelV v u/\Look X.env s.heap m x u
 cell:∀x c,X.env.cells.lookup x=some c->∃v,s.heap.IsCell c v
 free:H X.env.locals=none
 freeC:∀x c,X.env.cells.lookup x=some c->H c=none
 pin:∀p∈X.pn++aa,s.heap.get? p.1=some p.2/\H p.1=none/\p.1≠X.env.locals/\p.1∉X.fs/\∀v,p.2.data≠.cell v
 hok:iT X.prog X.w H s.heap
 len:Z.length=X.N.length
section
variable{X:Cx}{aa:List (Addr×Obj)}{Z:List (Option V)}{H H':Hp}{s:Shared}{h':Heap}
def Cx.Ok.nofr(ok:X.Ok)(e:X.base.get? b=some o):b∉X.fs:=λhb=>by
 have:=(ok.funs.mem hb).1
 rw[e]at this;cases this
theorem Inv.bs(I:Inv X aa Z H s):∀b o,X.base.get? b=some o->s.heap.get? b=some o/\H b=none:=λb o e=>
 ⟨I.base.keep b o (I.ok.bs b o e).1 (I.ok.bs b o e).2 (I.ok.nofr e) (I.ok.noex b o e),I.base.free b o (I.ok.bs b o e).1 (I.ok.bs b o e).2 (I.ok.noex b o e)⟩
def Inv.bk(I:Inv X aa Z H s):∀b o,X.base.get? b=some o->s.heap.get? b=some o:=λb o e=>(I.bs b o e).1
theorem Inv.mod(I:Inv X aa Z H s):Mod X.K X.mg X.base:=I.ok.mod
def Inv.kIn(I:Inv X aa Z H s):X.K.In s.heap:=I.ok.mod.kin.keeps I.bk
theorem Inv.lt(I:Inv X aa Z H s):X.env.locals<s.heap.objs.size:=let⟨_,hn,_⟩:=I.loc;hn.lt
def Inv.sz(I:Inv X aa Z H s):X.s₀.heap.objs.size<=s.heap.objs.size:=iu I.ok.above (Nat.le_of_lt I.lt)
def Inv.nofs(I:Inv X aa Z H s)(h:s.heap.objs.size<=a):a∉X.fs:=λhb=>by
 obtain⟨_,o,ho,_⟩:=I.ok.funs.mem hb;exact absurd (jN (dw ho) (iu I.sz h)) (ud _)
def Inv.cne(I:Inv X aa Z H s):∀x c,X.env.cells.lookup x=some c->c≠X.env.locals:=λx c e z=>by
 obtain⟨v,o,ho,hd⟩:=I.cell x c e;obtain⟨m,⟨o',es,ep,ho',hd',_⟩,_⟩:=I.loc;rw[z,ho']at ho;cases ho;rw[hd']at hd;cases hd
theorem Inv.funs(I:Inv X aa Z H s):s.heap.FunFrames X.base X.outer:=by
 have all:∀(l:List Env),(∀b∈frs l,b∈X.fs)->X.s₀.heap.FunFrames X.base l->s.heap.FunFrames X.base l:=by
  intro l
  induction l with
  |nil=>intro _ _;trivial
  |cons env r ih=>
   intro hs hl;obtain⟨hk,⟨L,o,hf,hn,ho,hd⟩,hr⟩:=hl;have hL:L∈X.fs:=hs L (by unfold frs;rw[YAV,hf];exact gw);obtain⟨sl,e⟩:=I.base.slot L o ho (I.ok.frf L hL) hL λz=>I.ok.exfs L z hL;exact⟨hk,⟨L,_,hf,hn,e,hd⟩,ih (λb hb=>hs b (by unfold frs;rw[YAV,hf];exact je _ hb)) hr⟩
 exact all X.outer (λ_ hb=>hb) I.ok.funs
theorem Inv.stack(I:Inv X aa Z H s):s.heap.FunFrames X.base X.stack:=by
 rcases I.ok.stk with e|⟨e,hf⟩
 .rw[e];exact I.funs
 .rw[e];obtain⟨m,hn,_⟩:=I.loc;refine .cons (by rw[I.ok.kind];decide) hf hn ?_ I.funs;exact Heap.get?_none_of_le (iu I.ok.bsz I.ok.above)
def Inv.stkSub(I:Inv X aa Z H s):∀b∈frs X.stack,b∈X.env.locals::X.fs:=λb hb=>by
 rcases I.ok.stk with e|⟨e,hf⟩
 .rw[e]at hb;exact je _ hb
 .rw[e]at hb;unfold frs at hb;rw[YAV,hf]at hb;exact hb
def Inv.stkFree(I:Inv X aa Z H s):∀b∈frs X.stack,H b=none:=λb hb=>by
 rcases ir.mp (I.stkSub b hb)with e|hb
 .rw[e];exact I.free
 .obtain⟨_,o,ho,_⟩:=I.ok.funs.mem hb;exact I.base.free b o ho (I.ok.frf b hb) λz=>I.ok.exfs b z hb
def Inv.step{g':Array GenState}{t':Nat}{d':Drawn}{ch:List Addr}(I:Inv X aa Z H s)
  (hch:∀b∈ch,(b∈X.ex\/X.s₀.heap.objs.size<=b)/\b≠X.env.locals/\(∀x c,X.env.cells.lookup x=some c->c≠b)/\∀p∈X.pn++aa,p.1≠b)
  (keep:∀b o,b≠X.env.locals->b∉X.fs->b∉ch->s.heap.get? b=some o->H b=none->h'.get? b=some o)
  (slot:∀b o,b≠X.env.locals->b∈X.fs->b∉ch->s.heap.get? b=some o->H b=none->∃sl,h'.get? b=some {o with slots:=sl}) (free:∀b o,b∉ch->s.heap.get? b=some o->H b=none->H' b=none)
  (there:∀b o,b∉ch->s.heap.get? b=some o->∃o',h'.get? b=some o')
  (tups:∀b xs,H b=some (.tup xs)->H' b=some (.tup xs)) (frzs:∀b o u,H b=some (.iV o u)->H' b=some (.iV o u)) (tbls:∀b ps,H b=some (.tbl ps)->∃more,H' b=some (.tbl (ps++more)))
  (ns:∀m,s.heap.Ns X.env.locals m->h'.Ns X.env.locals m) (hok:iT X.prog X.w H' h') (hg:AllBare g') :
  Inv X aa Z H' {s with heap:=h',gens:=g',drawn:=d',toks:=t'}:=by
 have neL:∀b o,X.s₀.heap.get? b=some o->b≠X.env.locals:=λb o e=>fK (jN (dw e) I.ok.above);have neC:∀b o,X.s₀.heap.get? b=some o->b∉X.ex->b∉ch:=λb o e hx hb=>by
  rcases(hch b hb).1 with z|z
  .exact hx z
  .exact absurd (jN (dw e) z) (ud _)
 have cellK:∀x c,X.env.cells.lookup x=some c->∀v,s.heap.IsCell c v->h'.IsCell c v:=λx c e v ⟨o,ho,hd⟩=>by
  have nch:c∉ch:=λz=>(hch c z).2.2.1 x c e rfl;by_cases hc:c∈X.fs
  .obtain⟨sl,q⟩:=slot c o (I.cne x c e) hc nch ho (I.freeC x c e);exact⟨_,q,hd⟩
  .exact⟨o,keep c o (I.cne x c e) hc nch ho (I.freeC x c e),hd⟩
 refine⟨I.ok,I.os,hg,⟨λb o e n hb hx=>?_,λb o e n hb hx=>?_,λb o e n hx=>?_,λb o e hx=>?_,λb xs e=>tups b xs (I.base.tups b xs e),λb o xs e=>frzs b o xs (I.base.frzs b o xs e),λb ps e=>?_⟩,?_,λx c e=>?_,?_,λx c e=>?_,λp hp=>?_,hok,I.len⟩
 .exact keep b o (neL b o e) hb (neC b o e hx) (I.base.keep b o e n hb hx) (I.base.free b o e n hx)
 .obtain⟨sl,e1⟩:=I.base.slot b o e n hb hx;obtain⟨sl',e2⟩:=slot b _ (neL b o e) hb (neC b o e hx) e1 (I.base.free b o e n hx);exact⟨sl',e2⟩
 .obtain⟨o',e1⟩:=I.base.there b o e hx;exact free b o' (neC b o e hx) e1 (I.base.free b o e n hx)
 .obtain⟨o',e1⟩:=I.base.there b o e hx;exact there b o' (neC b o e hx) e1
 .obtain⟨m1,e1⟩:=I.base.tbls b ps e;obtain⟨m2,e2⟩:=tbls b _ e1;exact⟨m1++m2,by rw[e2,Array.append_assoc]⟩
 .obtain⟨m,hn,hl⟩:=I.loc;refine⟨m,ns m hn,λi x v e1 e2 e3=>?_⟩;obtain⟨u,r,l⟩:=hl i x v e1 e2 e3;refine⟨u,r,?_⟩;rcases l with l|⟨k,c,e,z⟩
  .exact .inl l
  .exact .inr ⟨k,c,e,cellK x c e _ z⟩
 .obtain⟨v,z⟩:=I.cell x c e;exact⟨v,cellK x c e v z⟩
 .obtain⟨m,⟨o,_,_,ho,_⟩,_⟩:=I.loc;exact free _ o (λz=>(hch _ z).2.1 rfl) ho I.free
 .obtain⟨v,o,ho,hd⟩:=I.cell x c e;exact free c o (λz=>(hch c z).2.2.1 x c e rfl) ho (I.freeC x c e)
 .obtain⟨e,n,ne,nf,d⟩:=I.pin p hp;have nch:p.1∉ch:=λz=>(hch p.1 z).2.2.2 p hp rfl;exact⟨keep p.1 p.2 ne nf nch e n,free p.1 p.2 nch e n,ne,nf,d⟩
def Inv.un{t':Nat}(I:Inv X aa Z H s)(u:Un X.fs [] H H' s.heap h')(hok:iT X.prog X.w H' h'):Inv X aa Z H' {s with heap:=h',toks:=t'}:=by
 obtain⟨m,⟨o,es,ep,ho,r⟩,_⟩:=id I.loc;obtain⟨sl,hL⟩:=u.any ho I.free (by simp);exact I.step (g':=s.gens) (d':=s.drawn) (ch:=[]) (λ_ z=>nomatch z) (λb o _ hb _ e n=>u.keep b o e n hb (by simp)) (λb o _ hb _ e n=>u.slot b o e n hb (by simp)) (λb o _ e n=>u.free b o e n (by simp)) (λb o _ e=>u.there b o e (by simp)) u.tups u.frzs u.tbls (λm' hm=>by
  obtain⟨o',es',ep',ho',r'⟩:=hm;rw[ho]at ho';cases ho';exact⟨_,es',ep',hL,r'⟩) hok I.bare
def Inv.call{g':Array GenState}{t':Nat}{d':Drawn}{ch:List Addr}(I:Inv X aa Z H s)(u:Un (frs X.stack) ch H H' s.heap h')(hok:iT X.prog X.w H' h')(hg:AllBare g')
  (hch:∀b∈ch,(b∈X.ex\/X.s₀.heap.objs.size<=b)/\b≠X.env.locals/\(∀x c,X.env.cells.lookup x=some c->c≠b)/\∀p∈X.pn++aa,p.1≠b) :
  Inv X aa Z H' {s with heap:=h',gens:=g',drawn:=d',toks:=t'}:=by
 obtain⟨m,⟨o,es,ep,ho,r⟩,_⟩:=id I.loc;obtain⟨sl,hL⟩:=u.any ho I.free λz=>(hch _ z).2.1 rfl;exact I.step (ch:=ch) hch (λb o hL hb hc e n=>u.keep b o e n (λz=>(ir.mp (I.stkSub b z)).elim hL hb) hc) (λb o _ _ hc e n=>u.any e n hc) (λb o hc e n=>u.free b o e n hc) (λb o hc e=>u.there b o e hc) u.tups u.frzs u.tbls (λm' hm=>by
  obtain⟨o',es',ep',ho',r'⟩:=hm;rw[ho]at ho';cases ho';exact⟨_,es',ep',hL,r'⟩) hok hg
def Inv.turned{t':Nat}{it:Addr}(I:Inv X aa Z H s)(k:∀b o,b≠it->s.heap.get? b=some o->h'.get? b=some o)(hn:H it=none)(hL:it≠X.env.locals)
  (h1:it∈X.ex\/X.s₀.heap.objs.size<=it) (h2:∀x c,X.env.cells.lookup x=some c->c≠it) (h3:∀p∈X.pn++aa,p.1≠it):Inv X aa Z H {s with heap:=h',toks:=t'}:=by
 have nit:∀b u,H b=some u->b≠it:=λb u e z=>by rw[z,hn]at e;cases e
 refine I.step (g':=s.gens) (d':=s.drawn) (ch:=[it]) (λb hb=>?_) (λb o _ _ hc e _=>k b o (λz=>hc (by simp[z])) e) (λb o _ _ hc e _=>⟨o.slots,k b o (λz=>hc (by simp[z])) e⟩) (λ_ _ _ _ n=>n)
  (λb o hc e=>⟨o,k b o (λz=>hc (by simp[z])) e⟩) (λ_ _ e=>e) (λ_ _ _ e=>e) (λb ps e=>⟨#[],by rw[e];simp⟩) (λm hm=>?_) (λb u e=>?_) I.bare
 .have e:b=it:=by simpa using hb
  subst e;exact⟨h1,hL,h2,h3⟩
 .obtain⟨o,es,ep,ho,r⟩:=hm;exact⟨o,es,ep,k _ o (YAM hL) ho,r⟩
 .refine(I.hok b u e).stay (λc v hc q=>k c v ?_ q) (λ_ q=>q) λ_ _ q=>q;rcases hc with z|z
  .rw[z];exact nit b u e
  .exact nit c _ z
def Inv.tok(I:Inv X aa Z H s)(t:Nat):Inv X aa Z H {s with toks:=t}:=I.un (h':=s.heap) (t':=t) Un.refl I.hok
theorem Inv.kept{t':Nat}(I:Inv X aa Z H s)(k:∀b u,s.heap.get? b=some u->h'.get? b=some u):Inv X aa Z H {s with heap:=h',toks:=t'}:=I.un (Un.kept k) (I.hok.kept k)
theorem Inv.laid{a:Addr}{o:HO}{t':Nat}(I:Inv X aa Z H s)(k:∀b u,s.heap.get? b=some u->h'.get? b=some u)(hp:s.heap.objs.size<=a)(new:cg X.prog X.w (upd H a o) h' a o) :
  Inv X aa Z (upd H a o) {s with heap:=h',toks:=t'}:=I.un (Un.laid k hp (I.hok.fresh hp)) (I.hok.laid k hp new)
theorem Inv.write{x e:Addr}{o:HO}{t':Nat}(I:Inv X aa Z H s)(mu:Fv (H x))(he:e=x\/H e=some (.own x))(k:∀b u,b≠e->s.heap.get? b=some u->h'.get? b=some u)(heo:∃u,h'.get? e=some u)
  (new:cg X.prog X.w (upd H x o) h' x o):Inv X aa Z (upd H x o) {s with heap:=h',toks:=t'}:=I.un (Un.write mu he k heo) (I.hok.write mu he k heo new)
def Inv.weak(I:Inv X aa Z H s)(hl:Z'.length=Z.length)(w:∀(i:Nat) v,Z'[i]?=some (some v)->Z[i]?=some (some v)):Inv X aa Z' H s:=
 ⟨I.ok,I.os,I.bare,I.base,let⟨m,hn,hl'⟩:=I.loc;⟨m,hn,λi x v e1 e2 e3=>hl' i x v e1 (w i v e2) e3⟩,I.cell,I.free,I.freeC,I.pin,I.hok,hl.trans I.len⟩
def Inv.pins_of(I:Inv X aa Z H s)(h:∀p∈pins',s.heap.get? p.1=some p.2/\H p.1=none/\p.1≠X.env.locals/\p.1∉X.fs/\∀v,p.2.data≠.cell v):Inv X pins' Z H s:=
 ⟨I.ok,I.os,I.bare,I.base,I.loc,I.cell,I.free,I.freeC,λp hp=>(YAG.mp hp).elim (λz=>I.pin p (Bu _ z)) (h p),I.hok,I.len⟩
def zim{N:List Str}(hN:N.Nodup){i j:Nat}{x:Str}(a:N[i]?=some x)(b:N[j]?=some x):i=j:=by
 obtain⟨h1,e1⟩:=jB.mp a;obtain⟨h2,e2⟩:=jB.mp b;exact(List.getElem_inj hN).mp (e1.trans e2.symm)
def zja{M:Model}{A:Around}{E:Value->Shared->Prop}{i:Nat}{x:Str}{v:V}{u:Value}{Q:Unit->Shared->Prop}(I:Inv X aa Z H s)(hN:X.N.Nodup)(hi:X.N[i]?=some x)(hx:Loc X.env.scope x)(r:RelV v u)
  (h:∀s',Inv X aa (Z.set i (some v)) H s'->(∃a,Heap.SameBut a s.heap s'.heap/\(a=X.env.locals\/X.env.cells.lookup x=some a))->Q () s') (hf:X.fn x=true\/X.env.scope.names.lookup x=some .local:=by first|exact .inl rfl|exact .inr rfl|assumption):wpAny M A (storeName X.env x u) Q E s:=by
 obtain⟨m,hn,hl⟩:=id I.loc;have hcls:(X.env.scope.kind==.class || (X.env.scope.kind==.module&&X.env.locals != X.env.globals))=false:=by rw[I.ok.kind];rfl
 have hiσ:i<Z.length:=by rw[I.len];exact(jB.mp hi).1
 have cne:=I.cne;have tracked:∀{a:Addr}{h':Heap},(∃o,s.heap.get? a=some o/\H a=none)->Heap.SameBut a s.heap h'->iT X.prog X.w H h':=λ{a h'} ha hs b ob e=>by
  obtain⟨_,_,hfree⟩:=ha;refine(I.hok b ob e).stay (λc w' hc q=>(hs.2 c ?_).trans q) (λ_ q=>q) λ_ _ q=>q;rintro rfl;rcases hc with rfl|hc
  .rw[hfree]at e;cases e
  .rw[hfree]at hc;cases hc
 rcases hx with hk|hk
 .refine wpAny_storeName_local hk hn (λh' hn' hs=>?_) hcls;obtain⟨oL,_,_,hoL,_⟩:=id hn;refine h _ ⟨I.ok,I.os,I.bare,⟨λb o e n hb hx=>?_,λb o e n hb hx=>?_,I.base.free,λb o e hx=>?_,I.base.tups,I.base.frzs,I.base.tbls⟩,⟨_,hn',λj y v' e1 e2 e3=>?_⟩,λy c e=>?_,I.free,I.freeC,λp hp=>?_,tracked ⟨oL,hoL,I.free⟩ hs,by simpa using I.len⟩ ⟨_,hs,.inl rfl⟩
  .exact(hs.2 b (fK (jN (dw e) I.ok.above))).trans (I.base.keep b o e n hb hx)
  .obtain⟨sl,e1⟩:=I.base.slot b o e n hb hx;exact⟨sl,(hs.2 b (fK (jN (dw e) I.ok.above))).trans e1⟩
  .obtain⟨o',e1⟩:=I.base.there b o e hx;exact⟨o',(hs.2 b (fK (jN (dw e) I.ok.above))).trans e1⟩
  .by_cases hj:j=i
   .subst hj;rw[hi]at e1;cases e1;rw[jK hiσ]at e2;cases e2;exact⟨u,r,.inl ⟨hk,by simp⟩⟩
   .rw[jE (YAM hj)]at e2;obtain⟨u',r',q⟩:=hl j y v' e1 e2 e3;refine⟨u',r',?_⟩;rcases q with⟨k,e⟩|⟨k,c,e,z⟩
    .refine .inl ⟨k,?_⟩
     have:y≠x:=λe=>hj (zim hN e1 (e▸hi))
     simp[this,e]
    .exact .inr ⟨k,c,e,z.sameBut hs (cne y c e)⟩
  .obtain⟨w',z⟩:=I.cell y c e;exact⟨w',z.sameBut hs (cne y c e)⟩
  .obtain⟨e,n,ne,nf,d⟩:=I.pin p hp;exact⟨(hs.2 p.1 ne).trans e,n,ne,nf,d⟩
 .have hfn:X.fn x=true:=by
   rcases hf with z|z
   .exact z
   .rw[z]at hk;cases hk
  obtain⟨c,hc⟩:=I.ok.has x (.inl hk);obtain⟨w',z⟩:=I.cell x c hc;refine wpAny_storeName_cell I.ok.kind hk hc z (λh' hc' hs=>?_);obtain⟨oc,hoc,hocd⟩:=id z;refine h {s with heap:=h'} ⟨I.ok,I.os,I.bare,⟨λb o e n hb hx=>?_,λb o e n hb hx=>?_,I.base.free,λb o e hx=>?_,I.base.tups,I.base.frzs,I.base.tbls⟩,⟨m,hn.sameBut hs (YAM (cne x c hc)),λj y v' e1 e2 e3=>?_⟩,λy c' e=>?_,I.free,I.freeC,λp hp=>?_,tracked ⟨oc,hoc,I.freeC x c hc⟩ hs,by simpa using I.len⟩ ⟨c,hs,.inr hc⟩
  .exact(hs.2 b (fK (jN (dw e) (I.ok.cab x c hfn hc)))).trans (I.base.keep b o e n hb hx)
  .obtain⟨sl,e1⟩:=I.base.slot b o e n hb hx;exact⟨sl,(hs.2 b (fK (jN (dw e) (I.ok.cab x c hfn hc)))).trans e1⟩
  .obtain⟨o',e1⟩:=I.base.there b o e hx;exact⟨o',(hs.2 b (fK (jN (dw e) (I.ok.cab x c hfn hc)))).trans e1⟩
  .by_cases hj:j=i
   .subst hj;rw[hi]at e1;cases e1;rw[jK hiσ]at e2;cases e2;exact⟨u,r,.inr ⟨.inl hk,c,hc,hc'⟩⟩
   .rw[jE (YAM hj)]at e2;obtain⟨u',r',q⟩:=hl j y v' e1 e2 e3;refine⟨u',r',?_⟩;rcases q with q|⟨k,c',e,z'⟩
    .exact .inl q
    .refine .inr ⟨k,c',e,z'.sameBut hs ?_⟩;rintro rfl;exact hj (zim hN e1 (I.ok.inj _ _ _ e hc▸hi))
  .by_cases hcc:c'=c
   .subst hcc;exact⟨_,hc'⟩
   .obtain⟨w2,z2⟩:=I.cell y c' e;exact⟨w2,z2.sameBut hs hcc⟩
  .obtain⟨e,n,ne,nf,d⟩:=I.pin p hp;refine⟨(hs.2 p.1 ?_).trans e,n,ne,nf,d⟩;intro q;rw[q,hoc]at e;have q':oc=p.2:=Option.some.inj e;exact d w' (by rw[<-q'];exact hocd)
def Bm{M:Model}{A:Around}{E:Value->Shared->Prop}{i:Nat}{x:Str}{v:V}{u:Value}{Q:Unit->Shared->Prop}(I:Inv X aa Z H s)(hN:X.N.Nodup)(hi:X.N[i]?=some x)(hx:Loc X.env.scope x)(r:RelV v u)
  (h:∀s',Inv X aa (Z.set i (some v)) H s'->Q () s') (hf:X.fn x=true\/X.env.scope.names.lookup x=some .local:=by first|exact .inl rfl|exact .inr rfl|assumption):wpAny M A (storeName X.env x u) Q E s:=
 zja I hN hi hx r (λs' I' _=>h s' I') hf
def Inv.call'(I:Inv X aa Z H s)(ho:s'.os=s.os)(u:Un (frs X.stack) ch H H' s.heap s'.heap)(hok:iT X.prog X.w H' s'.heap)(hg:AllBare s'.gens)
  (hch:∀b∈ch,(b∈X.ex\/X.s₀.heap.objs.size<=b)/\b≠X.env.locals/\(∀x c,X.env.cells.lookup x=some c->c≠b)/\∀p∈X.pn++aa,p.1≠b):Inv X aa Z H' s':=by
 obtain⟨h',g',d',t',o'⟩:=s';have e:o'=s.os:=ho;subst e;exact I.call (g':=g') (t':=t') (d':=d') u hok hg hch
end
abbrev XK:=Value->Option Addr->Hp->Prop
abbrev St:=List (Option V)
abbrev VK:=V->Hp->Prop
abbrev TE:=St->Hp->VK->Prop
abbrev TT:=St->Hp->(Bool->Hp->Prop)->Prop
abbrev TA:=St->Hp->(List V->Hp->Prop)->Prop
structure Ends where
 nx:St->Hp->Prop
 rt:VK
 bk:St->Hp->Prop:=λ_ _=>False
 ct:St->Hp->Prop:=λ_ _=>False
abbrev TS:=Ends->St->Hp->Prop
def EP(X:Cx)(aa:List (Addr×Obj))(Z:St)(Q:VK)(u:Value)(s':Shared):Prop:=∃v H',Inv X aa Z H' s'/\RelV v u/\Q v H'
def TP(X:Cx)(aa:List (Addr×Obj))(Z:St)(Q:Bool->Hp->Prop)(b:Bool)(s':Shared):Prop:=∃H',Inv X aa Z H' s'/\Q b H'
def AP(X:Cx)(aa:List (Addr×Obj))(Z:St)(Q:List V->Hp->Prop)(us:List Value)(s':Shared):Prop:=∃vs H',Inv X aa Z H' s'/\Vals vs us/\Q vs H'
noncomputable def SP(X:Cx)(aa:List (Addr×Obj))(D:Ends)(f:Flow)(s':Shared):Prop:=
 match f with
 |.next=>∃ Z' H',Inv X aa Z' H' s'/\D.nx Z' H'
 |.brk=>∃ Z' H',Inv X aa Z' H' s'/\D.bk Z' H'
 |.cont=>∃ Z' H',Inv X aa Z' H' s'/\D.ct Z' H'
 |.ret u=>∃v Z' H',Inv X aa Z' H' s'/\RelV v u/\D.rt v H'
def PE(X:Cx)(e:Expr)(t:TE):Prop:=
 ∀(aa:List (Addr×Obj))(s:Shared)(Z:St)(H:Hp)(Q:VK),Inv X aa Z H s->t Z H Q->wpAny (model X.prog X.w) X.A (eval e X.env) (EP X aa Z Q) X.xe s
def PT(X:Cx)(e:Expr)(t:TT):Prop:=
 ∀(aa:List (Addr×Obj))(s:Shared)(Z:St)(H:Hp)(Q:Bool->Hp->Prop),Inv X aa Z H s->t Z H Q->wpAny (model X.prog X.w) X.A (isTrue e X.env (eval e X.env)) (TP X aa Z Q) X.xe s
def PW(X:Cx)(e:Expr)(t:TT):Prop:=
 ∀(whole:Sem Value)(aa:List (Addr×Obj))(s:Shared)(Z:St)(H:Hp)(Q:Bool->Hp->Prop),Inv X aa Z H s->t Z H Q->wpAny (model X.prog X.w) X.A (isTrue e X.env whole) (TP X aa Z Q) X.xe s
def PW.pt{X:Cx}{e:Expr}{t:TT}(h:PW X e t):PT X e t:=h _
def PA(X:Cx)(es:List Expr)(t:TA):Prop:=
 ∀(pos:Pos)(aa:List (Addr×Obj))(s:Shared)(Z:St)(H:Hp)(Q:List V->Hp->Prop),Inv X aa Z H s->t Z H Q->wpAny (model X.prog X.w) X.A (spliced (backTo pos (starEach es X.env))) (AP X aa Z Q) X.xe s
def PS(X:Cx)(st:Stmt)(t:TS):Prop:=
 ∀(aa:List (Addr×Obj))(s:Shared)(Z:St)(H:Hp)(D:Ends),Inv X aa Z H s->t D Z H->wpAny (model X.prog X.w) X.A (exec st X.env) (SP X aa D) X.xe s
def lJ(X:Cx)(st:List Stmt)(t:TS):Prop:=
 ∀(aa:List (Addr×Obj))(s:Shared)(Z:St)(H:Hp)(D:Ends),Inv X aa Z H s->t D Z H->wpAny (model X.prog X.w) X.A (execs st X.env) (SP X aa D) X.xe s
def bF{α:Type}{t:Sem α}{Q Q':α->Shared->Prop}{M:Model}{A:Around}{E:Value->Shared->Prop}{s:Shared}(h:wpAny M A t Q E s)(hQ:∀a s,Q a s->Q' a s):wpAny M A t Q' E s:=YAT h hQ λ_ _ x=>x
section
variable{X:Cx}
def tW(i:Nat):TE:=λZ H Q=>∃v,Z[i]?=some (some v)/\Q v H
def tC(v:V):TE:=λ_ H Q=>Q v H
def lU(hN:X.N[i]?=some x)(hv:Cu X.env.scope x)(hd:(x==("__debug__":Str))=false:=by decide)(hcd:(x==("__classdict__":Str))=false:=by decide):PE X (.Name x pos) (tW i):=by
 intro aa s Z H Q I h;obtain⟨v,e,h⟩:=h;obtain⟨m,hn,hl⟩:=I.loc;obtain⟨u,r,l⟩:=hl i x v hN e hv;have fin:EP X aa Z Q u s:=⟨v,H,I,r,h⟩;rcases l with⟨hk,hm⟩|⟨hk,c,hc,hcell⟩
 .exact Cp (wpAny_loadName_local I.ok.kind hk hn hm fin) hd
 .rcases hk with hk|hk
  .exact Cp (wpAny_loadName_cell I.ok.kind hk hc hcell fin) hd
  .exact Cp (wpAny_loadName_free I.ok.kind hk hc hcell fin hcd) hd
def ju{i j pos}:PE X (.Constant (.int i) j pos) (tC (.int i)):=λ_ _ _ H _ I h=>wpAny_Constant_int ⟨.int i,H,I.tok _,⟨_,rfl⟩,h⟩
def zvE{b j pos}:PE X (.Constant (.bool b) j pos) (tC (.bl b)):=λ_ _ _ H _ I h=>Constant_bool ⟨.bl b,H,I,rfl,h⟩
def zts{j pos}:PE X (.Constant .none j pos) (tC .non):=λ_ _ _ H _ I h=>Constant_none ⟨.non,H,I,rfl,h⟩
def zrj{x j pos}:PE X (.Constant (.str x) j pos) (tC (.str x)):=λ_ _ _ H _ I h=>Calls.Constant_str ⟨.str x,H,I.tok _,⟨_,rfl⟩,h⟩
def Gl(X:Cx)(x:Str):Prop:=X.env.kindOf x=some .globalImplicit
def yM{E:Value->Shared->Prop}{aa:List (Addr×Obj)}{s:Shared}{Z:St}{H:Hp}{x:Str}{u:Value}{pos:Pos}{Q:Value->Shared->Prop}(I:Inv X aa Z H s)(hg:Gl X x)(hm:X.mg x=some u)(h:Q u s)
  (hd:(x==("__debug__":Str))=false:=by decide):wpAny (model X.prog X.w) X.A (eval (.Name x pos) X.env) Q E s:=
 Calls.Name_function_global I.ok.kind hg (Calls.loadGlobal_global (by rw[I.ok.glob];exact I.mod.glob.keeps I.bk) hm h) hd
def Eo{E:Value->Shared->Prop}{aa:List (Addr×Obj)}{s:Shared}{Z:St}{H:Hp}{x:Str}{u:Value}{pos:Pos}{Q:Value->Shared->Prop}(I:Inv X aa Z H s)(hg:Gl X x)(hm:X.mg x=none)(hv:bootBuiltins x=some u)(h:Q u s)
  (hn:x≠"__name__":=by decide) (hd:(x==("__debug__":Str))=false:=by decide):wpAny (model X.prog X.w) X.A (eval (.Name x pos) X.env) Q E s:=by
 obtain⟨mb,h1,h2⟩:=I.mod.blt;exact Calls.Name_function_global I.ok.kind hg (Calls.loadGlobal_builtin (by rw[I.ok.glob];exact I.mod.glob.keeps I.bk) hm (by rw[I.ok.blt];exact h1.keeps I.bk) ((h2 x hn).trans hv) h) hd
def zkU(hg:Gl X x)(hm:X.mg x=some u)(r:RelV v u)(hd:(x==("__debug__":Str))=false:=by decide):PE X (.Name x pos) (tC v):=
 λ_ _ _ H _ I h=>yM I hg hm ⟨v,H,I,r,h⟩ hd
def zo4(hg:Gl X x)(hm:X.mg x=none)(hv:bootBuiltins x=some u)(r:RelV v u)(hn:x≠"__name__":=by decide)(hd:(x==("__debug__":Str))=false:=by decide):PE X (.Name x pos) (tC v):=
 λ_ _ _ H _ I h=>Eo I hg hm hv ⟨v,H,I,r,h⟩ hn hd
variable{a b:Expr}{ta tb:TE}{pos:Pos}
noncomputable def PC(X:Cx)(op:CmpOp)(a b:Expr)(t:TE):Prop:=
 ∀(aa:List (Addr×Obj))(s:Shared)(Z:St)(H:Hp)(Q:VK),Inv X aa Z H s->t Z H Q ->
  wpAny (model X.prog X.w) X.A (eval a X.env) (λv s₁=>wpAny (model X.prog X.w) X.A (eval b X.env) (λu s₂=>wpAny (model X.prog X.w) X.A (compareOp op v u) (EP X aa Z Q) X.xe s₂) X.xe s₁) X.xe s
def zmc(b:Expr){op:CmpOp}(h:op≠.In)(h2:op≠.NotIn):behindInMarks op b=false:=by
 have e1:(op==CmpOp.In)=false:=by cases op<;>first|rfl|exact absurd rfl h
 have e2:(op==CmpOp.NotIn)=false:=by cases op<;>first|rfl|exact absurd rfl h2
 cases b<;>simp[behindInMarks,e1,e2]
def tIsN(ta:TE):TE:=λZ H Q=>ta Z H λx H1=>Q (.bl (decide (x=.non))) H1
def zv8(ta:TE):TE:=λZ H Q=>ta Z H λx H1=>Q (.bl (!decide (x=.non))) H1
def RelV.none_iff{x:V}{v:Value}(r:RelV x v):(v==Value.none)=decide (x=.non):=by
 cases x with
 |non=>cases r;rfl
 |bl _=>cases r;rfl
 |int _=>obtain⟨t,rfl⟩:=r;rfl
 |str _=>obtain⟨t,rfl⟩:=r;rfl
 |byt _=>obtain⟨t,rfl⟩:=r;rfl
 |flt _=>obtain⟨t,rfl⟩:=r;rfl
 |ref _=>cases r;rfl
 |ty _=>cases r;rfl
def zrl{j pos'}(ha:PE X a ta):PC X .Is a (.Constant .none j pos') (tIsN ta):=by
 intro aa s Z H Q I h;refine bF (ha aa s Z H _ I h) λv s1 ⟨x,H1,I1,r1,q1⟩=>?_;exact Constant_none (is_none_gen ⟨.bl _,H1,I1,by rw[r1.none_iff];rfl,q1⟩)
def zsn{j pos'}(ha:PE X a ta):PC X .IsNot a (.Constant .none j pos') (zv8 ta):=by
 intro aa s Z H Q I h;refine bF (ha aa s Z H _ I h) λv s1 ⟨x,H1,I1,r1,q1⟩=>?_;exact Constant_none (isnot_none_gen ⟨.bl _,H1,I1,by rw[r1.none_iff];rfl,q1⟩)
def tB(t:TE):TT:=λZ H Q=>t Z H λx H1=>∃c,x=.bl c/\Q c H1
def zvf(h:PC X op a b t)(h1:behindInMarks op b=false:=by first|exact zmc _ (by decide) (by decide)|rfl):PE X (.Compare a [op] [b] pos) t:=λaa s Z H Q I hw=>wpAny_Compare1 (h aa s Z H Q I hw) h1
def zlv{op:CmpOp}{t:TE}(h:PC X op a b t)(h1:behindInMarks op b=false:=by first|exact zmc _ (by decide) (by decide)|rfl):PT X (.Compare a [op] [b] pos) (tB t):=by
 intro aa s Z H Q I hw;refine wpAny_isTrue_Compare1 (bF (h aa s Z H _ I hw) λv s1 h1=>bF h1 λu s2 h2=>bF h2 λc s3 ⟨x,H1,I1,r1,q1⟩=>?_) h1;obtain⟨d,rfl,q⟩:=q1;cases r1;exact vQ ⟨H1,I1,q⟩
variable{tA tB':TT}{rest:List Expr}
def tAnd(t u:TT):TT:=λZ H Q=>t Z H λc H1=>if c=true then u Z H1 Q else Q false H1
def tOr(t u:TT):TT:=λZ H Q=>t Z H λc H1=>if c=true then Q true H1 else u Z H1 Q
def tNot(t:TT):TT:=λZ H Q=>t Z H λc H1=>Q (!c) H1
def zso(ha:PT X a tA):PW X (.BoolOp .And [a] pos) tA:=by
 intro wh aa s Z H Q I h;refine isTrue_and (bF (ha aa s Z H Q I h) λc s1 e=>?_);cases c with
 |true=>exact isTrue_and_nil e
 |false=>exact e
def zuZ(ha:PT X a tA):PW X (.BoolOp .Or [a] pos) tA:=by
 intro wh aa s Z H Q I h;refine isTrue_or (bF (ha aa s Z H Q I h) λc s1 e=>?_);cases c with
 |false=>exact isTrue_or_nil e
 |true=>exact e
def ztM(ha:PT X a tA)(hb:PW X (.BoolOp .And (b::rest) pos) tB'):PW X (.BoolOp .And (a::b::rest) pos) (tAnd tA tB'):=by
 intro wh aa s Z H Q I h;refine isTrue_and (bF (ha aa s Z H _ I h) λc s1 ⟨H1,I1,q1⟩=>?_);cases c with
 |true=>exact hb wh aa s1 Z H1 Q I1 q1
 |false=>exact⟨H1,I1,q1⟩
def zvQ(ha:PT X a tA)(hb:PW X (.BoolOp .Or (b::rest) pos) tB'):PW X (.BoolOp .Or (a::b::rest) pos) (tOr tA tB'):=by
 intro wh aa s Z H Q I h;refine isTrue_or (bF (ha aa s Z H _ I h) λc s1 ⟨H1,I1,q1⟩=>?_);cases c with
 |true=>exact⟨H1,I1,q1⟩
 |false=>exact hb wh aa s1 Z H1 Q I1 q1
def zq9(ha:PT X a tA):PT X (.UnaryOp .Not a pos) (tNot tA):=by
 intro aa s Z H Q I h;exact isTrue_not (ha aa s Z H (λc H1=>Q (!c) H1) I h)
def zvW(ta tb:TE):TE:=λZ H Q=>ta Z H λx H1=>∃c,x=.bl c/\if c=true then tb Z H1 Q else Q (.bl false) H1
def zvv(ta:TE):TE:=λZ H Q=>ta Z H λx H1=>∃c,x=.bl c/\Q (.bl (!c)) H1
def zuq{op}(h:PE X a t):PE X (.BoolOp op [a] pos) t:=λaa s Z H Q I hw=>BoolOp_one (h aa s Z H Q I hw)
def zto(ha:PE X a ta)(hb:PE X (.BoolOp .And (b::rest) pos) tb):PE X (.BoolOp .And (a::b::rest) pos) (zvW ta tb):=by
 intro aa s Z H Q I h;refine BoolOp_and (bF (ha aa s Z H _ I h) λv s1 ⟨x,H1,I1,r1,q1⟩=>?_);obtain⟨c,rfl,q1⟩:=q1;cases r1;refine vQ ?_;cases c with
 |true=>exact hb aa s1 Z H1 Q I1 q1
 |false=>exact⟨.bl false,H1,I1,rfl,q1⟩
def ztE(ha:PE X a ta):PE X (.UnaryOp .Not a pos) (zvv ta):=by
 intro aa s Z H Q I h;refine UnaryOp_ (bF (ha aa s Z H _ I h) λv s1 ⟨x,H1,I1,r1,q1⟩=>?_);obtain⟨c,rfl,q1⟩:=q1;cases r1;exact not_of (vQ ⟨.bl (!c),H1,I1,rfl,q1⟩)
def tIf(t:TT)(ta tb:TE):TE:=λZ H Q=>t Z H λc H1=>if c=true then ta Z H1 Q else tb Z H1 Q
def zpV{c:Expr}(hc:PT X c tA)(ha:PE X a ta)(hb:PE X b tb):PE X (.IfExp c a b pos) (tIf tA ta tb):=by
 intro aa s Z H Q I h;refine wpAny_IfExp (bF (hc aa s Z H _ I h) λd s1 ⟨H1,I1,q1⟩=>?_);cases d with
 |true=>exact ha aa s1 Z H1 Q I1 q1
 |false=>exact hb aa s1 Z H1 Q I1 q1
end
def cA(K:qo)(H:Hp)(a:Addr)(xs:List V):Prop:=
 Rd H a (.lst xs) \/
  ∃(o:Obj)(its:Array Value)(n:Nat),K.lookup a=some o/\o.cls=.type "list" /\ o.dict=none/\o.data=.seq its n/\its.size<=sizeLine/\Vals xs its.toList
def fX(K:qo)(H:Hp)(a:Addr)(xs:List V):Prop:=
 Rd H a (.tup xs) \/
  ∃(o:Obj)(its:Array Value)(n:Nat),K.lookup a=some o/\o.cls=.type "tuple" /\ o.data=.seq its n/\its.size<=sizeLine/\Vals xs its.toList
def absV:Value->Option V
 |.none=>some .non
 |.bool b=>some (.bl b)
 |.int i _=>some (.int i)
 |.str x _=>some (.str x)
 |.bytes b _=>some (.byt b)
 |.float b _=>some (.flt b)
 |.ref a=>some (.ref a)
 |.type n=>some (.ty n)
 |_=>none
def RelV.abs(r:RelV x u):absV u=some x:=by
 cases x with
 |non=>cases r;rfl
 |bl _=>cases r;rfl
 |int _=>obtain⟨t,rfl⟩:=r;rfl
 |str _=>obtain⟨t,rfl⟩:=r;rfl
 |byt _=>obtain⟨t,rfl⟩:=r;rfl
 |flt _=>obtain⟨t,rfl⟩:=r;rfl
 |ref _=>cases r;rfl
 |ty _=>cases r;rfl
theorem RelV.inj{x y:V}{u:Value}(r:RelV x u)(q:RelV y u):x=y:=Option.some.inj (r.abs.symm.trans q.abs)
theorem Vals.inj:∀{xs ys:List V}{us:List Value},Vals xs us->Vals ys us->xs=ys
 |_,_,_,.nil,.nil=>rfl
 |_,_,_,.cons r t,.cons r' t'=>by rw[r.inj r',Vals.inj t t']
section
variable{X:Cx}{aa:List (Addr×Obj)}{Z:St}{H:Hp}{s:Shared}{a:Addr}{xs ys:List V}
def cA.of{K:qo}(h:H a=some (.lst xs)):cA K H a xs:=.inl (.inl h)
def fX.of{K:qo}(h:H a=some (.tup xs)):fX K H a xs:=.inl (.inl h)
def Inv.list(I:Inv X aa Z H s)(h:cA X.K H a xs):∃its:List Value,Vals xs its/\PlainL s.heap a its.toArray/\xs.length<=sizeLine:=by
 rcases h with h|⟨o,its,n,hk,hc,hd,hs,hz,r⟩
 .obtain⟨z,its,n,r,e⟩:=h.ok I.hok;exact⟨its,r,⟨_,n,e,rfl,rfl,rfl⟩,z⟩
 .refine⟨its.toList,r,⟨o,n,I.kIn a o hk,hc,hd,by simpa using hs⟩,?_⟩;have e:=r.length;simp only[Ay]at e;omega
def Inv.tuple(I:Inv X aa Z H s)(h:fX X.K H a xs):∃its:List Value,Vals xs its/\IsTup s.heap a its.toArray/\xs.length<=sizeLine:=by
 rcases h with h|⟨o,its,n,hk,hc,hs,hz,r⟩
 .obtain⟨z,its,r,p⟩:=h.ok I.hok;exact⟨its,r,p,z⟩
 .refine⟨its.toList,r,⟨o,I.kIn a o hk,hc,n,by simpa using hs⟩,?_⟩;have e:=r.length;simp only[Ay]at e;omega
def Inv.list_inj(I:Inv X aa Z H s)(h:cA X.K H a xs)(h':cA X.K H a ys):xs=ys:=by
 obtain⟨its,r,⟨o,n,e,_,_,d⟩,_⟩:=I.list h;obtain⟨its',r',⟨o',n',e',_,_,d'⟩,_⟩:=I.list h';rw[e]at e';cases e';rw[d]at d';injection d' with d1 _
 have:its=its':=by simpa using congrArg Array.toList d1
 subst this;exact r.inj r'
def Inv.tuple_inj(I:Inv X aa Z H s)(h:fX X.K H a xs)(h':fX X.K H a ys):xs=ys:=by
 obtain⟨its,r,⟨o,e,_,n,d⟩,_⟩:=I.tuple h;obtain⟨its',r',⟨o',e',_,n',d'⟩,_⟩:=I.tuple h';rw[e]at e';cases e';rw[d]at d';injection d' with d1 _
 have:its=its':=by simpa using congrArg Array.toList d1
 subst this;exact r.inj r'
end
abbrev Cx.wish(X:Cx)(E:Value->Shared->Prop):Cx:={X with xe:=E}
abbrev Cx.nox(X:Cx):Cx:=X.wish λ_ _=>False
theorem Cx.Ok.wish{X:Cx}(ok:X.Ok)(E:Value->Shared->Prop):(X.wish E).Ok:=
 ⟨ok.mod,ok.kind,ok.glob,ok.blt,ok.above,ok.inj,ok.has,ok.cab,ok.hd,ok.frames,ok.stk,ok.exf,ok.bs,ok.bsz,ok.noex,ok.exfs,ok.funs,ok.frf⟩
def Cx.Ok.unwish{X:Cx}{E:Value->Shared->Prop}(ok:(X.wish E).Ok):X.Ok:=
 ⟨ok.mod,ok.kind,ok.glob,ok.blt,ok.above,ok.inj,ok.has,ok.cab,ok.hd,ok.frames,ok.stk,ok.exf,ok.bs,ok.bsz,ok.noex,ok.exfs,ok.funs,ok.frf⟩
section
variable{X:Cx}{aa:List (Addr×Obj)}{Z:St}{H:Hp}{s:Shared}{E:Value->Shared->Prop}
theorem Inv.wish(I:Inv X aa Z H s)(E:Value->Shared->Prop):Inv (X.wish E) aa Z H s:=⟨I.ok.wish E,I.os,I.bare,I.base,I.loc,I.cell,I.free,I.freeC,I.pin,I.hok,I.len⟩
theorem Inv.unwish(I:Inv (X.wish E) aa Z H s):Inv X aa Z H s:=⟨I.ok.unwish,I.os,I.bare,I.base,I.loc,I.cell,I.free,I.freeC,I.pin,I.hok,I.len⟩
theorem SP.unwish(h:SP (X.wish E) aa D f s'):SP X aa D f s':=by
 cases f with
 |next=>obtain⟨Z',H',I,q⟩:=h;exact⟨Z',H',I.unwish,q⟩
 |brk=>obtain⟨Z',H',I,q⟩:=h;exact⟨Z',H',I.unwish,q⟩
 |cont=>obtain⟨Z',H',I,q⟩:=h;exact⟨Z',H',I.unwish,q⟩
 |ret u=>obtain⟨v,Z',H',I,r,q⟩:=h;exact⟨v,Z',H',I.unwish,r,q⟩
theorem PE.nox(h:PE X.nox e t):PE X e t:=λaa s Z H Q I hw=>
 YAT (h aa s Z H Q (I.wish _) hw) (λ_ _ ⟨v,H',I',r,q⟩=>⟨v,H',I'.unwish,r,q⟩) λ_ _ z=>False.elim z
theorem PT.nox(h:PT X.nox e t):PT X e t:=λaa s Z H Q I hw=>
 YAT (h aa s Z H Q (I.wish _) hw) (λ_ _ ⟨H',I',q⟩=>⟨H',I'.unwish,q⟩) λ_ _ z=>False.elim z
theorem lJ.nox{st:List Stmt}{t:TS}(h:lJ X.nox st t):lJ X st t:=λaa s Z H D I hw=>
 YAT (h aa s Z H D (I.wish _) hw) (λ_ _ q=>q.unwish) λ_ _ z=>False.elim z
end
section
variable{X:Cx}{st:Stmt}{rest:List Stmt}{t u:TS}{e:Expr}{te:TE}{pos:Pos}
def zwy:TS:=λD Z H=>D.nx Z H
def tSeq(t u:TS):TS:=λD Z H=>t {D with nx:=u D} Z H
def IW:lJ X [] zwy:=λ_ _ Z H _ I h=>CZ ⟨Z,H,I,h⟩
def nQ(h1:PS X st t)(h2:lJ X rest u):lJ X (st::rest) (tSeq t u):=by
 intro aa s Z H D I h;refine YCq (bF (h1 aa s Z H {D with nx:=u D} I h) λf s1 q=>?_);cases f with
 |next=>
  obtain⟨Z',H',I',q⟩:=q;exact h2 aa s1 Z' H' D I' q
 |ret v=>exact q
 |brk=>exact q
 |cont=>exact q
def zJ(h1:PS X st t):lJ X [st] t:=by
 intro aa s Z H D I h;refine YCq (bF (h1 aa s Z H D I h) λf s1 q=>?_);cases f with
 |next=>exact CZ q
 |ret v=>exact q
 |brk=>exact q
 |cont=>exact q
def Inv.quiet{aa:List (Addr×Obj)}{Z:St}{H:Hp}{s:Shared}(I:Inv X aa Z H s):interactive X.env=false:=by simp[interactive,I.ok.kind]
def zvV(te:TE):TS:=λD Z H=>te Z H λ_ H1=>D.nx Z H1
def zk7(he:PE X e te)(hs:swapsWith e none pos.line X.env=pure false:=by rfl):PS X (.Expr e pos) (zvV te):=by
 intro aa s Z H D I h;exact wpAny_Expr_any (bF (he aa s Z H _ I h) λv s1 ⟨x,H1,I1,r1,q1⟩=>⟨Z,H1,I1,q1⟩) I.quiet hs
def tRet(te:TE):TS:=λD Z H=>te Z H D.rt
def zE(he:PE X e te):PS X (.Return (some e) pos) (tRet te):=by
 intro aa s Z H D I h;exact wpAny_Return_some (bF (he aa s Z H _ I h) λv s1 ⟨x,H1,I1,r1,q1⟩=>⟨x,Z,H1,I1,r1,q1⟩)
def tIfS(c:TT)(t u:TS):TS:=λD Z H=>c Z H λb H1=>if b=true then t D Z H1 else u D Z H1
def Dq{c:Expr}{a b:List Stmt}{tc:TT}(hc:PT X c tc)(ha:lJ X a t)(hb:lJ X b u):PS X (.If c a b pos) (tIfS tc t u):=by
 intro aa s Z H D I h;refine wpAny_If (bF (hc aa s Z H _ I h) λd s1 ⟨H1,I1,q1⟩=>?_);cases d with
 |true=>exact ha aa s1 Z H1 D I1 q1
 |false=>exact hb aa s1 Z H1 D I1 q1
end
abbrev TG:=V->St->Hp->(St->Hp->Prop)->Prop
abbrev ut:=List V->St->Hp->(St->Hp->Prop)->Prop
def PG(X:Cx)(target:Expr)(t:TG):Prop:=
 ∀(aa:List (Addr×Obj))(s:Shared)(Z:St)(H:Hp)(v:V)(u:Value)(Q:St->Hp->Prop),Inv X aa Z H s->RelV v u->t v Z H Q ->
  wpAny (model X.prog X.w) X.A (assign target X.env u) (λ_ s'=>∃ Z' H',Inv X aa Z' H' s'/\Q Z' H') X.xe s
noncomputable def Iu(X:Cx)(ts:List Expr)(t:ut):Prop:=
 ∀(aa:List (Addr×Obj))(s:Shared)(Z:St)(H:Hp)(vs:List V)(us:List Value)(Q:St->Hp->Prop),Inv X aa Z H s->Vals vs us->t vs Z H Q ->
  wpAny (model X.prog X.w) X.A (assignInOrder ((assignEach ts X.env).map (·.2)) us) (λ_ s'=>∃ Z' H',Inv X aa Z' H' s'/\Q Z' H') X.xe s
abbrev uJ:=V->V->V->Hp->(Hp->Prop)->Prop
def zY(X:Cx)(t:uJ):Prop:=
 ∀(aa:List (Addr×Obj))(s:Shared)(Z:St)(H:Hp)(o i v:V)(ov iv u:Value)(Q:Hp->Prop),Inv X aa Z H s->RelV o ov->RelV i iv->RelV v u->t o i v H Q ->
  wpAny (model X.prog X.w) X.A (setItem ov iv u) (λ_ s'=>∃H',Inv X aa Z H' s'/\Q H') X.xe s
abbrev TIp:=V->V->Hp->VK->Prop
def PIp(X:Cx)(op:Operator)(t:TIp):Prop:=
 ∀(aa:List (Addr×Obj))(s:Shared)(Z:St)(H:Hp)(x y:V)(v u:Value)(Q:VK),Inv X aa Z H s->RelV x v->RelV y u->t x y H Q ->
  wpAny (model X.prog X.w) X.A (inplaceOp op v u) (EP X aa Z Q) X.xe s
section
variable{X:Cx}{pos:Pos}
def zB(i:Nat):TG:=λv Z H Q=>Q (Z.set i (some v)) H
def zrx(hN:X.N.Nodup)(hi:X.N[i]?=some x)(hx:Loc X.env.scope x)(hf:X.fn x=true\/X.env.scope.names.lookup x=some .local:=by first|exact .inl rfl|exact .inr rfl|assumption):PG X (.Name x pos) (zB i):=by
 intro aa s Z H v u Q I r h;exact wpAny_assign_Name (Bm I hN hi hx r (λs' I'=>⟨_,H,I',h⟩) hf)
def xq:ut:=λvs Z H Q=>vs=[]/\Q Z H
def zph(t:TG)(u:ut):ut:=λvs Z H Q=>∃v r,vs=v::r/\t v Z H λZ' H'=>u r Z' H' Q
def pO:Iu X [] xq:=by
 intro aa s Z H vs us Q I r h;obtain⟨e,h⟩:=h;subst e;cases r;exact assignInOrder_nil ⟨Z,H,I,h⟩
def gj{e:Expr}{es:List Expr}{t:TG}{u:ut}(h1:PG X e t)(h2:Iu X es u)
  (hs:(assignEach (e::es) X.env).map (·.2)=assign e X.env::(assignEach es X.env).map (·.2):=by rfl):Iu X (e::es) (zph t u):=by
 intro aa s Z H vs us Q I r h;obtain⟨v,vr,e1,h⟩:=h;subst e1;cases r with
 |cons r rr=>
  rw[hs];refine YCH (bF (h1 aa s Z H _ _ _ I r h) λ_ s1 ⟨Z1,H1,I1,q1⟩=>?_);exact h2 aa s1 Z1 H1 _ _ Q I1 rr q1
def gTup(K:qo)(n:Nat)(t:ut):TG:=λv Z H Q=>∃a xs,v=.ref a/\fX K H a xs/\xs.length=n/\t xs Z H Q
def ztG(hc:X.calm=true)(h:Iu X es t)
  (hn:(assignEach es X.env).length=n:=by rfl) (hst:(assignEach es X.env).findIdx? (·.1)=none:=by rfl):PG X (.Tuple es k pos) (gTup X.K n t):=by
 intro aa s Z H v u Q I r hw;obtain⟨a,xs,e1,hq,hl,hw⟩:=hw;subst e1;cases r;obtain⟨its,rv,ht,hz⟩:=I.tuple hq;refine assign_Tuple_tuple (I.ok.hd hc) ht (by simp[hn,<-hl,rv.length]) hst λh' hx=>?_;have I1:Inv X aa Z H {s with heap:=h'}:=I.kept (t':=s.toks) λb o e=>hx b o (fK (dw e)) e;exact h aa _ Z H xs _ Q I1 (by simpa using rv) hw
def gSub(to ti:TE)(t:uJ):TG:=λv Z H Q=>to Z H λo H1=>ti Z H1 λi H2=>t o i v H2 λH3=>Q Z H3
def zlQ{o i:Expr}{to ti:TE}{t:uJ}(ho:PE X o to)(hi:PE X i ti)(hs:zY X t)
  (ha:∀v,assign (.Subscript o i pos) X.env v=(do
   let ov <-holding [v] (eval o X.env)
   let iv <-holding [v,ov] (eval i X.env)
   standAt pos
   holding [v,ov,iv] (setItem ov iv v)
   release [v,ov,iv] []):=by intro _;rfl):PG X (.Subscript o i pos) (gSub to ti t):=by
 intro aa s Z H v u Q I r h;rw[ha];refine aJ (YAW (bF (ho aa s Z H _ I h) λov s1 ⟨x,H1,I1,r1,q1⟩=>?_));refine aJ (YAW (bF (hi aa s1 Z H1 _ I1 q1) λiv s2 ⟨y,H2,I2,r2,q2⟩=>?_));refine aJ (JR (aJ (YAW (bF (hs aa s2 Z H2 x y v ov iv u _ I2 r1 r2 r q2) λ_ s3 ⟨H3,I3,q3⟩=>?_))));exact wpAny_release ⟨Z,H3,I3,q3⟩
def tG(te:TE)(g:TG):TS:=λD Z H=>te Z H λx H1=>g x Z H1 D.nx
def DY{tg e:Expr}{te:TE}{g:TG}(he:PE X e te)(hg:PG X tg g)(hs:swapsWithSole [tg] e pos.line X.env=pure false:=by rfl)(hw:swappedStores [tg] e X.env=pure none:=by rfl)
  (h1:(assignEach [tg] X.env).map (·.2)=[assign tg X.env]:=by rfl):PS X (.Assign [tg] e pos) (tG te g):=by
 intro aa s Z H D I h;refine wpAny_Assign_stores (bF (he aa s Z H _ I h) λv s1 ⟨x,H1,I1,r1,q1⟩=>?_) hs hw;rw[h1];exact bF (hg aa s1 Z H1 x v _ I1 r1 q1) λ_ s2 q=>q
def uA{i:Nat}{x:Str}{e:Expr}{te:TE}{pos':Pos}(hN:X.N.Nodup)(hi:X.N[i]?=some x)(hx:Loc X.env.scope x)(he:PE X e te)(hs:swapsWith e (some (.Name x pos')) pos.line X.env=pure false:=by rfl)(hf:X.fn x=true\/X.env.scope.names.lookup x=some .local:=by first|exact .inl rfl|exact .inr rfl|assumption) :
  PS X (.Assign [.Name x pos'] e pos) (tG te (zB i)):=by
 intro aa s Z H D I h;refine YCO (bF (he aa s Z H _ I h) λv s1 ⟨y,H1,I1,r1,q1⟩=>?_) hs;exact Bm I1 hN hi hx r1 (λs2 I2=>⟨_,H1,I2,q1⟩) hf
def tPar(i j:Nat)(ta:TA):TS:=λD Z H=>ta Z H λvs H1=>∃v w,vs=[v,w]/\D.nx ((Z.set i (some v)).set j (some w)) H1
def zuG{i j:Nat}{x y:Str}{a b:Expr}{ta:TA}{px py pt:Pos}{kt k2 pt2}(hc:X.calm=true)(hN:X.N.Nodup)(hi:X.N[i]?=some x)(hj:X.N[j]?=some y)(hij:i≠j)
  (hx:X.env.scope.names.lookup x=some .local) (hy:X.env.scope.names.lookup y=some .local) (ha:PA X [a,b] ta)
  (hw:swappedStores [.Tuple [.Name x px,.Name y py] kt pt] (.Tuple [a,b] k2 pt2) X.env=pure (some [x,y]))
  (hs:swapsWithSole [.Tuple [.Name x px,.Name y py] kt pt] (.Tuple [a,b] k2 pt2) pos.line X.env=pure false:=by rfl) :
  PS X (.Assign [.Tuple [.Name x px,.Name y py] kt pt] (.Tuple [a,b] k2 pt2) pos) (tPar i j ta):=by
 intro aa s Z H D I h;rw[exec_Assign_arm];refine aJ (JR ?_);rw[hs];refine aJ (bV ?_);rw[if_neg (by decide)];refine aJ (Tuple_ (bF (ha _ aa s Z H _ I h) λus s1 ⟨vs,H1,I1,r1,q1⟩=>?_));obtain⟨v,w,e1,q1⟩:=q1;subst e1;obtain⟨u1,u2,rfl,rv,rw'⟩:∃u1 u2,us=[u1,u2]/\RelV v u1/\RelV w u2:=by
  cases r1 with
  |cons p q=>
   cases q with
   |cons p' q'=>
    cases q';exact⟨_,_,rfl,p,p'⟩
 refine YAI ?_ (by show 2<=sizeLine;decide);have I2:Inv X aa Z H1 {s1 with heap:=s1.heap.push {cls:=.type "tuple",data:=.seq [u1,u2].toArray}}:=I1.kept (t':=s1.toks) λb o e=>dO _ e;rw[hw];refine aJ (bV ?_);show wpAny (model X.prog X.w) X.A (do rule "assign.swapped-stores"; let items <-unpackItems (.ref s1.heap.objs.size) 2 none;assignInOrder [λv=>bindName X.env y v,λv=>bindName X.env x v] items.reverse;pure Flow.next) _ _ _;refine aJ (yJ (aJ (unpackItems_tuple (items:=#[u1,u2]) (I.ok.hd hc) (IsTup.new s1.heap _) λh' hx'=>?_)));have I3:=I2.kept (h':=h') (t':=s1.toks) λb o e=>hx' b o (fK (dw e)) e;show wpAny _ _ (assignInOrder [λv=>bindName X.env y v,λv=>bindName X.env x v] [u2,u1] >>=λ_=>pure Flow.next) _ _ _;refine aJ (YCH (wpAny_bindName (Bm I3 hN hj (.inl hy) rw' (λs2 I4=>?_) (.inr hy))));refine YCH (wpAny_bindName (Bm I4 hN hi (.inl hx) rv (λs3 I5=>assignInOrder_nil (bV ?_)) (.inr hx)));rw[List.set_comm _ _ (YAM hij)]at I5;exact⟨_,H1,I5,q1⟩
def zvP(to ti te:TE)(tget:V->V->Hp->VK->Prop)(tip:TIp)(tset:uJ):TS:=λD Z H=>to Z H λo H1=>ti Z H1 λi H2=>tget o i H2 λx H3=>te Z H3 λy H4=>tip x y H4 λz H5=>tset o i z H5 λH6=>D.nx Z H6
def Hq(X:Cx)(t:V->V->Hp->VK->Prop):Prop:=
 ∀(aa:List (Addr×Obj))(s:Shared)(Z:St)(H:Hp)(o i:V)(ov iv:Value)(Q:VK),Inv X aa Z H s->RelV o ov->RelV i iv->t o i H Q ->
  wpAny (model X.prog X.w) X.A (getItem ov iv) (EP X aa Z Q) X.xe s
def zss{o i e:Expr}{to ti te:TE}{tget:V->V->Hp->VK->Prop}{tip:TIp}{tset:uJ}{op:Operator}{tpos:Pos}(ho:PE X o to)(hi:PE X i ti)(hg:Hq X tget)(he:PE X e te)(hp:PIp X op tip)(hs:zY X tset)
  (ha:∀ov iv new,augStore i ov iv new=(do holding [new,ov,iv] (setItem ov iv new);release [new,ov,iv] [];pure .next):=by intros;rfl):PS X (.AugAssign (.Subscript o i tpos) op e pos) (zvP to ti te tget tip tset):=by
 intro aa s Z H D I h;refine wpAny_AugAssign_SubscriptAny (bF (ho aa s Z H _ I h) λov s1 ⟨x1,H1,I1,r1,q1⟩=>?_) ha;refine bF (hi aa s1 Z H1 _ I1 q1) λiv s2 ⟨x2,H2,I2,r2,q2⟩=>?_;refine bF (hg aa s2 Z H2 x1 x2 ov iv _ I2 r1 r2 q2) λold s3 ⟨x3,H3,I3,r3,q3⟩=>?_;refine bF (he aa s3 Z H3 _ I3 q3) λv s4 ⟨x4,H4,I4,r4,q4⟩=>?_;refine bF (hp aa s4 Z H4 x3 x4 old v _ I4 r3 r4 q4) λnew s5 ⟨x5,H5,I5,r5,q5⟩=>?_;exact bF (hs aa s5 Z H5 x1 x2 x5 ov iv new _ I5 r1 r2 r5 q5) λ_ s6 ⟨H6,I6,q6⟩=>⟨Z,H6,I6,q6⟩
def ipI(f:Int->Int->Int):TIp:=λx y H Q=>∃i j,x=.int i/\y=.int j/\Q (.int (f i j)) H
def ztF:PIp X .Add (ipI λi j=>i+j):=by
 intro aa s Z H x y v u Q I r1 r2 h;obtain⟨i,j,e1,e2,q⟩:=h;subst e1;subst e2;obtain⟨t,rfl⟩:=r1;obtain⟨t',rfl⟩:=r2;exact iadd_int ⟨.int _,H,I.tok _,⟨_,rfl⟩,q⟩
end
structure It where
 go:Nat->Hp->Prop
 yld:Nat->Hp->V->Hp->Prop
 stop:Nat->Hp->Prop
def il(X:Cx)(aa:List (Addr×Obj))(H:Hp)(b:Addr):Prop:=
 H b=none/\b≠X.env.locals/\b∉X.fs/\(b∈X.ex\/X.s₀.heap.objs.size<=b)/\(∀x c,X.env.cells.lookup x=some c->c≠b)/\∀p∈X.pn++aa,p.1≠b
def Inv.fpOk{X:Cx}{aa:List (Addr×Obj)}{Z:St}{H H':Hp}{s:Shared}{b:Addr}(I:Inv X aa Z H s)(hb:s.heap.objs.size<=b)(hn:H' b=none):il X aa H' b:=by
 refine⟨hn,wu (jN I.lt hb),I.nofs hb,.inr (iu I.sz hb),λx c e z=>?_,λp hp z=>?_⟩
 .obtain⟨v,q⟩:=I.cell x c e;exact absurd (jN q.lt (by rw[z];exact hb)) (ud _)
 .exact absurd (jN (dw (I.pin p hp).1) (by rw[z];exact hb)) (ud _)
structure Turn(P:Program)(w:World)(K:qo)(tg:Expr)(J:It)(fp:List Addr)(it:Addr)(tn:Nat->Heap->Prop):Prop where
 mem:it∈fp
 obj:∀i h,tn i h->∀b∈fp,∃o,h.get? b=some o/\∀v,o.data≠.cell v
 keep:∀i h h',tn i h->(∀b∈fp,∀o,h.get? b=some o->h'.get? b=some o)->tn i h'
 item:∀(X:Cx),X.prog=P->X.w=w->X.K=K->X.calm=true->∀(i:Nat)(aa:List (Addr×Obj))(s:Shared)(Z:St)(H:Hp)(E:Value->Shared->Prop),Inv X aa Z H s->(∀b∈fp,il X aa H b)->tn i s.heap->J.go i H ->
  wpAny (model P w) X.A (pyNext (.ref it)) (λr s1=>∃u,r=some u /\
   wpAny (model P w) X.A (letOwnedTupleGo tg (.ref it) u) (λ_ s2=>∃x H',Inv X aa Z H' s2/\RelV x u/\J.yld i H x H'/\tn (i+1) s2.heap/\∀b∈fp,H' b=none) E s1) E s
 done:∀(X:Cx),X.prog=P->X.w=w->X.K=K->X.calm=true->∀(i:Nat)(aa:List (Addr×Obj))(s:Shared)(Z:St)(H:Hp)(E:Value->Shared->Prop),Inv X aa Z H s->(∀b∈fp,il X aa H b)->tn i s.heap->J.stop i H ->
  wpAny (model P w) X.A (pyNext (.ref it)) (λr s1=>r=none/\Inv X aa Z H s1) E s
 self:∀(A:Around)(i:Nat)(s:Shared)(Q:Value->Shared->Prop)(E:Value->Shared->Prop),tn i s.heap->Q (.ref it) s->wpAny (model P w) A (pyIter (.ref it)) Q E s
abbrev TI:=St->Hp->(It->Hp->Prop)->Prop
def PIE(X:Cx)(aa:List (Addr×Obj))(Z:St)(tg:Expr)(R:It->Hp->Prop)(itv:Value)(s2:Shared):Prop:=
 ∃(it:Addr)(fp:List Addr)(tn:Nat->Heap->Prop)(J:It)(H':Hp),itv=.ref it/\Inv X aa Z H' s2/\Turn X.prog X.w X.K tg J fp it tn/\tn 0 s2.heap/\(∀b∈fp,il X aa H' b)/\R J H'
def PI(X:Cx)(tg iter:Expr)(wi:TI):Prop:=
 ∀(aa:List (Addr×Obj))(s:Shared)(Z:St)(H:Hp)(R:It->Hp->Prop),Inv X aa Z H s->wi Z H R ->
  wpAny (model X.prog X.w) X.A (eval iter X.env) (λv s1=>wpAny (model X.prog X.w) X.A (pyIter v) (PIE X aa Z tg R) X.xe s1) X.xe s
def Ei(ho:s.heap.get? it=some o)(hc:o.cls=.type n)(hd:o.data=.fields vs)
    (hn:["enumerate","zip","dict_itemiterator","dict_reverseitemiterator","odict_iterator","itertools.zip_longest","itertools.pairwise"].contains n=false) (hQ:Q () s):wpAny M A (letOwnedTupleGo tg (.ref it) u) Q E s:=by
  unfold letOwnedTupleGo;cases tg<;>first
    |exact bV hQ
    | (cases u<;>first
        |exact bV hQ
        | (refine aJ (wpAny_load ho ?_)
           rw[hc,hd];show wpAny M A (if (["enumerate","zip","dict_itemiterator","dict_reverseitemiterator","odict_iterator","itertools.zip_longest","itertools.pairwise"].contains n&&vs[0]?==some (rawInt _))=true then _ else _) Q E s;rw[if_neg (by intro h;rw[hn,Bool.false_and]at h;cases h)];exact bV hQ))
def Itl(K:qo)(a:Addr):It:=
 ⟨λi H=>∃xs x,cA K H a xs/\xs[i]?=some x,λi H x H'=>H'=H/\∀xs,cA K H a xs->xs[i]?=some x,λi H=>∃xs,cA K H a xs/\xs.length<=i⟩
def Itt(K:qo)(a:Addr):It:=
 ⟨λi H=>∃xs x,fX K H a xs/\xs[i]?=some x,λi H x H'=>H'=H/\∀xs,fX K H a xs->xs[i]?=some x,λi H=>∃xs,fX K H a xs/\xs.length<=i⟩
def DG(lo:Int)(n:Nat):It:=⟨λi _=>i<n,λi H x H'=>H'=H/\x=.int (lo+i),λi _=>n<=i⟩
def zon{P:Program}{w:World}{K:qo}{tg:Expr}(a it:Addr):Turn P w K tg (Itl K a) [it] it (λi h=>h.IsListIter it a i)where
 mem:=by simp
 obj:=λi h st b hb=>by
  have e:b=it:=by simpa using hb
  subst e;obtain⟨o,e,c,d⟩:=st;exact⟨o,e,λv z=>by rw[d]at z;cases z⟩
 keep:=λi h h' st k=>st.at λo e=>k it (by simp) o e
 item:=by
  intro X hP hw hK hc i aa s Z H E I hf st hg;subst hP hw hK;obtain⟨xs,x,hq,hx⟩:=hg;obtain⟨its,rv,p,hz⟩:=I.list hq;obtain⟨u,hu,ru⟩:=rv.get hx;obtain⟨f0,f1,f2,f3,f4,f5⟩:=hf it (by simp);refine wpAny_pyNext_list_item st p.isList (x:=u) (by simpa using hu) λh' st' sb=>?_;have I1:Inv X aa Z H {s with heap:=h'}:=I.turned (t':=s.toks) (λb o hb e=>(sb.2 b hb).trans e) f0 f1 f3 f4 f5;obtain⟨o,e,c,d⟩:=id st';exact⟨u,rfl,Ei (s:={s with heap:=h'}) e c d (by decide) ⟨x,H,I1,ru,⟨rfl,λys hy=>by rw[I.list_inj hy hq];exact hx⟩,st',λb hb=>(hf b hb).1⟩⟩
 done:=by
  intro X hP hw hK hc i aa s Z H E I hf st hg;subst hP hw hK;obtain⟨xs,hq,hx⟩:=hg;obtain⟨its,rv,p,hz⟩:=I.list hq;obtain⟨f0,f1,f2,f3,f4,f5⟩:=hf it (by simp);have hl:=rv.length;exact wpAny_pyNext_list_end (I.ok.hd hc) st p.isList (by simp;omega) λh' eb=>⟨rfl,I.turned (t':=s.toks) (λb o hb e=>eb b o hb e) f0 f1 f3 f4 f5⟩
 self:=λ_ _ _ _ _ st h=>wpAny_pyIter_listiter st h
def zmq{P:Program}{w:World}{K:qo}{tg:Expr}(a it:Addr):Turn P w K tg (Itt K a) [it] it (λi h=>h.IsTupleIter it a i)where
 mem:=by simp
 obj:=λi h st b hb=>by
  have e:b=it:=by simpa using hb
  subst e;obtain⟨o,e,c,d⟩:=st;exact⟨o,e,λv z=>by rw[d]at z;cases z⟩
 keep:=λi h h' st k=>st.at λo e=>k it (by simp) o e
 item:=by
  intro X hP hw hK hc i aa s Z H E I hf st hg;subst hP hw hK;obtain⟨xs,x,hq,hx⟩:=hg;obtain⟨its,rv,p,hz⟩:=I.tuple hq;obtain⟨u,hu,ru⟩:=rv.get hx;obtain⟨f0,f1,f2,f3,f4,f5⟩:=hf it (by simp);refine wpAny_pyNext_tuple_item st (show s.heap.IsTuple a its.toArray from p) (x:=u) (by simpa using hu) λh' st' sb=>?_;have I1:Inv X aa Z H {s with heap:=h'}:=I.turned (t':=s.toks) (λb o hb e=>(sb.2 b hb).trans e) f0 f1 f3 f4 f5;obtain⟨o,e,c,d⟩:=id st';exact⟨u,rfl,Ei (s:={s with heap:=h'}) e c d (by decide) ⟨x,H,I1,ru,⟨rfl,λys hy=>by rw[I.tuple_inj hy hq];exact hx⟩,st',λb hb=>(hf b hb).1⟩⟩
 done:=by
  intro X hP hw hK hc i aa s Z H E I hf st hg;subst hP hw hK;obtain⟨xs,hq,hx⟩:=hg;obtain⟨its,rv,p,hz⟩:=I.tuple hq;obtain⟨f0,f1,f2,f3,f4,f5⟩:=hf it (by simp);have hl:=rv.length;exact wpAny_pyNext_tuple_end (I.ok.hd hc) st (show s.heap.IsTuple a its.toArray from p) (by simp;omega) λh' eb=>⟨rfl,I.turned (t':=s.toks) (λb o hb e=>eb b o hb e) f0 f1 f3 f4 f5⟩
 self:=λ_ _ _ _ _ st h=>wpAny_pyIter_tupleiter st h
def zhG{P:Program}{w:World}{K:qo}{tg:Expr}(it:Addr)(lo:Int)(n:Nat):Turn P w K tg (DG lo n) [it] it (λi h=>IsRangeIter h it (lo+(i:Nat)*1) ((n:Int)-(i:Nat)) 1)where
 mem:=by simp
 obj:=λi h st b hb=>by
  have e:b=it:=by simpa using hb
  subst e;exact⟨_,st,λv z=>by
   have z':Data.fields _=Data.cell v:=z;cases z'⟩
 keep:=λi h h' st k=>k it (by simp) _ st
 item:=by
  intro X hP hw hK hc i aa s Z H E I hf st hg;subst hP hw hK;obtain⟨f0,f1,f2,f3,f4,f5⟩:=hf it (by simp);have W:=Walks.range (prog:=X.prog) (w:=X.w) (I.ok.hd hc) it lo 1 n;refine W.item i s _ _ hg st λv h' tk hv st' kk=>?_;obtain⟨t,rfl⟩:=hv;have I1:Inv X aa Z H {s with heap:=h',toks:=tk}:=I.turned (λb o hb e=>kk b o (by simpa using hb) e) f0 f1 f3 f4 f5;refine⟨_,rfl,Ei (s:={s with heap:=h',toks:=tk}) (n:="range_iterator") st' rfl rfl (by decide) ⟨.int (lo+i),H,I1,⟨t,?_⟩,⟨rfl,rfl⟩,st',λb hb=>(hf b hb).1⟩⟩;rw[Int.mul_one]
 done:=by
  intro X hP hw hK hc i aa s Z H E I hf st hg;subst hP hw hK;obtain⟨f0,f1,f2,f3,f4,f5⟩:=hf it (by simp);exact wpAny_pyNext_range_end (I.ok.hd hc) st (by have:n<=i:=hg;omega) λh' eb=>⟨rfl,I.turned (t':=s.toks) (λb o hb e=>eb b o hb e) f0 f1 f3 f4 f5⟩
 self:=λ_ _ _ _ _ st h=>wpAny_pyIter_rangeiter st h
section
variable{X:Cx}{tg:Expr}
def zpw{aa:List (Addr×Obj)}{Z:St}{H:Hp}{s:Shared}{R:It->Hp->Prop}{E:Value->Shared->Prop}{lo hi:Int}{t u v:Tok}{tk:Nat}(I:Inv X aa Z H s)(h1:-(2^62)<=lo)(h2:lo<2^62)(h3:-(2^62)<=hi)(h4:hi<2^62)
  (q:R (DG lo (hi-lo).toNat) H):wpAny (model X.prog X.w) X.A (pyIter (.ref s.heap.objs.size)) (PIE X aa Z tg R) E {s with heap:=s.heap.push {cls:=.type "range",data:=.fields #[.int lo t,.int hi u,.int 1 v]},toks:=tk}:=by
 refine wpAny_pyIter_range (IsRange.new ..) (small_one h1 h2 h3 h4) ?_;have I1:Inv X aa Z H {s with heap:=s.heap.push {cls:=.type "range",data:=.fields #[.int lo t,.int hi u,.int 1 v]},toks:=tk}:=I.kept λb o e=>dO _ e;refine⟨(s.heap.push {cls:=.type "range",data:=.fields #[.int lo t,.int hi u,.int 1 v]}).objs.size,[(s.heap.push {cls:=.type "range",data:=.fields #[.int lo t,.int hi u,.int 1 v]}).objs.size],_,_,H,rfl,
  I1.kept (t':=tk) λb o e=>dO _ e,zhG _ lo (hi-lo).toNat,?_,λb hb=>?_,q⟩
 .have e1:lo+((0:Nat):Int)*1=lo:=by simp
  have e2:(((hi-lo).toNat:Nat):Int)-((0:Nat):Int)=Builtin.Range.rangeSize lo hi 1:=by rw[rangeSize_one];split<;>omega
  show IsRangeIter _ _ (lo+((0:Nat):Int)*1) ((((hi-lo).toNat:Nat):Int)-((0:Nat):Int)) 1;rw[e1,e2];exact jF _ rfl
 .have e:b=(s.heap.push {cls:=.type "range",data:=.fields #[.int lo t,.int hi u,.int 1 v]}).objs.size:=by simpa using hb
  subst e;exact I1.fpOk (dJ _) (I1.hok.fresh (dJ _))
def ztH(ta:TA):TI:=λZ H R=>ta Z H λvs H1=>∃j:Int,vs=[.int j]/\-(2^62)<=j/\j<2^62/\R (DG 0 j.toNat) H1
def zoe{a:Expr}{ta:TA}{p pos:Pos}(hg:Gl X "range")(hm:X.mg "range"=none)(ha:PA X [a] ta)(hs:starEach [a] X.env=[(false,eval a X.env)]:=by rfl):PI X tg (.Call (.Name "range" p) [a] [] pos) (ztH ta):=by
 intro aa s Z H R I h;refine Call_ (Eo I hg hm boot_range (YBt (bF (ha pos aa s Z H _ I h) λus s1 ⟨vs,H1,I1,r1,q1⟩=>?_) hs rfl));obtain⟨j,e,q1,q2,q⟩:=q1;subst e;cases r1 with
 |cons r rr=>
  cases rr;obtain⟨t,rfl⟩:=r;exact call_range_1 (zpw I1 (by omega) (by omega) q1 q2 (by simpa using q))
noncomputable def tFor(wi:TI)(g:TG)(tb:TS):TS:=λD Z H=>wi Z H λJ H1=>∃W:Nat->Nat->St->Hp->Prop,(∃m,W 0 m Z H1)/\∀i m Z H,W i m Z H ->
 (J.stop i H/\D.nx Z H)\/(J.go i H/\∃N:St->Hp->Prop,(∀ Z' H',N Z' H'->∃m',m'<m/\W (i+1) m' Z' H')/\∀x H',J.yld i H x H'->g x Z H' λZ2 H2=>tb {D with nx:=N,ct:=N,bk:=D.nx} Z2 H2)
def Fw(fp:List Addr)(h:Heap):List (Addr×Obj):=fp.filterMap λb=>(h.get? b).map λo=>(b,o)
def zer{fp:List Addr}{h:Heap}{b:Addr}{o:Obj}(hb:b∈fp)(e:h.get? b=some o):(b,o)∈Fw fp h:=Be.mpr ⟨b,hb,by rw[e];rfl⟩
def znj(hp:p∈Fw fp h):p.1∈fp/\h.get? p.1=some p.2:=by
 obtain⟨b,hb,e⟩:=Be.mp hp;cases q:h.get? b with
 |none=>rw[q]at e;cases e
 |some o=>
  rw[q]at e;have e':(b,o)=p:=Option.some.inj e;subst e';exact⟨hb,q⟩
def Inv.pinned{aa:List (Addr×Obj)}{Z:St}{H:Hp}{s:Shared}{fp:List Addr}(I:Inv X aa Z H s)(hf:∀b∈fp,il X aa H b)(ho:∀b∈fp,∃o,s.heap.get? b=some o/\∀v,o.data≠.cell v):Inv X (aa++Fw fp s.heap) Z H s:=
 I.pins_of λp hp=>(YAG.mp hp).elim (λz=>I.pin p (YAE _ z)) λz=>by
  obtain⟨hb,e⟩:=znj z;obtain⟨f0,f1,f2,_⟩:=hf p.1 hb;obtain⟨o,e',d⟩:=ho p.1 hb;rw[e]at e';cases e';exact⟨e,f0,f1,f2,d⟩
def Inv.unpinned{aa pl:List (Addr×Obj)}{Z:St}{H:Hp}{s:Shared}(I:Inv X (aa++pl) Z H s):Inv X aa Z H s:=I.pins_of λp hp=>I.pin p (YAE _ (Bu _ hp))
def zqJ{iter:Expr}{body:List Stmt}{wi:TI}{g:TG}{tb:TS}{pos:Pos}(hp:PassesOwn (model X.prog X.w) X.A X.env X.xe)(hc:X.calm=true)(hi:PI X tg iter wi)(hg:PG X tg g)(hb:lJ X body tb)
  (hs:∀x,foldedSetIterable iter X.env x=pure x:=by intro _;rfl):PS X (.For tg iter body [] pos) (tFor wi g tb):=by
 intro aa s Z H D I h;refine wpAny_For (bF (hi aa s Z H _ I h) λv s1 h1=>bF h1 λitv s2 h2=>?_) hs;obtain⟨it,fp,tn,J,H2,e,I2,T,st2,f2,W,⟨m0,w0⟩,turn⟩:=h2;subst e
 -- what stays true of the iterator's objects through the loop
 have stat:∀{H':Hp},(∀b∈fp,H' b=none)->∀b∈fp,il X aa H' b:=λhn b hb=>⟨hn b hb,(f2 b hb).2⟩;refine codeAny_forLoop_any (λn s'=>∃i Z' H',Inv X aa Z' H' s'/\tn i s'.heap/\(∀b∈fp,H' b=none)/\W i n Z' H') ?_ m0 ⟨0,Z,H2,I2,st2,λb hb=>(f2 b hb).1,w0⟩;rintro n s3 ⟨i,Z3,H3,I3,st3,fr3,w3⟩;rcases turn i n Z3 H3 w3 with⟨stop,qn⟩|⟨go,N,hN,step⟩
 .refine Ie hp (bF (T.done X rfl rfl rfl hc i aa s3 Z3 H3 X.xe I3 (stat fr3) st3 stop) λr s4 ⟨hr,I4⟩=>?_);subst hr;exact CZ ⟨Z3,H3,I4,qn⟩
 .refine Ie hp (bF (T.item X rfl rfl rfl hc i aa s3 Z3 H3 X.xe I3 (stat fr3) st3 go) λr s4 ⟨u,hr,h4⟩=>?_);subst hr;refine Ie hp (bF h4 λ_ s5 ⟨x,H5,I5,r5,y5,st5,fr5⟩=>?_);have I5':=I5.pinned (stat fr5) (T.obj _ _ st5);refine Ie hp (bF (hg _ s5 Z3 H5 x u _ I5' r5 (step x H5 y5)) λ_ s6 ⟨Z6,H6,I6,q6⟩=>?_);refine Ie hp (bF (hb _ s6 Z6 H6 _ I6 q6) λf s7 q7=>?_);have again:∀{Z7:St}{H7:Hp},Inv X (aa++Fw fp s5.heap) Z7 H7 s7->N Z7 H7->∃m,m<n/\∃i Z' H',Inv X aa Z' H' s7/\tn i s7.heap/\(∀b∈fp,H' b=none)/\W i m Z' H':=λ{Z7 H7} I7 n7=>by
   obtain⟨m',hm,w7⟩:=hN Z7 H7 n7;refine⟨m',hm,i+1,Z7,H7,I7.unpinned,T.keep _ _ _ st5 λb hb o e=>(I7.pin (b,o) (YAE _ (YAE _ (zer hb e)))).1,λb hb=>?_,w7⟩;obtain⟨o,e,d⟩:=T.obj _ _ st5 b hb;exact(I7.pin (b,o) (YAE _ (YAE _ (zer hb e)))).2.1
  cases f with
  |next=>obtain⟨Z7,H7,I7,n7⟩:=q7;exact again I7 n7
  |cont=>obtain⟨Z7,H7,I7,n7⟩:=q7;exact again I7 n7
  |brk=>obtain⟨Z7,H7,I7,q7⟩:=q7;exact⟨Z7,H7,I7.unpinned,q7⟩
  |ret v=>obtain⟨x7,Z7,H7,I7,r7,q7⟩:=q7;exact⟨x7,Z7,H7,I7.unpinned,r7,q7⟩
end
abbrev R2:=V->V->Hp->VK->Prop
def fL(X:Cx)(f:Value->Value->Sem Value)(r:R2):Prop:=
 ∀(aa:List (Addr×Obj))(s:Shared)(Z:St)(H:Hp)(x y:V)(v u:Value)(Q:VK),Inv X aa Z H s->RelV x v->RelV y u->r x y H Q ->
  wpAny (model X.prog X.w) X.A (f v u) (EP X aa Z Q) X.xe s
def UnR(X:Cx)(f:Value->Sem Value)(r:V->Hp->VK->Prop):Prop:=
 ∀(aa:List (Addr×Obj))(s:Shared)(Z:St)(H:Hp)(x:V)(v:Value)(Q:VK),Inv X aa Z H s->RelV x v->r x H Q ->
  wpAny (model X.prog X.w) X.A (f v) (EP X aa Z Q) X.xe s
def cU(X:Cx)(f:Value)(r:List V->Hp->VK->Prop):Prop:=
 ∀(aa:List (Addr×Obj))(s:Shared)(Z:St)(H:Hp)(xs:List V)(us:List Value)(Q:VK),Inv X aa Z H s->Vals xs us->r xs H Q ->
  wpAny (model X.prog X.w) X.A (call f us) (EP X aa Z Q) X.xe s
def TruR(X:Cx)(r:V->Hp->(Bool->Hp->Prop)->Prop):Prop:=
 ∀(aa:List (Addr×Obj))(s:Shared)(Z:St)(H:Hp)(x:V)(v:Value)(Q:Bool->Hp->Prop),Inv X aa Z H s->RelV x v->r x H Q ->
  wpAny (model X.prog X.w) X.A (truthy v) (TP X aa Z Q) X.xe s
def Hc(r:R2)(ta tb:TE):TE:=λZ H Q=>ta Z H λx H1=>tb Z H1 λy H2=>r x y H2 Q
def tUn(r:V->Hp->VK->Prop)(ta:TE):TE:=λZ H Q=>ta Z H λx H1=>r x H1 Q
def rI(C:Int->Int->Prop)(g:Int->Int->V):R2:=λx y H Q=>∃i j,x=.int i/\y=.int j/\C i j/\Q (g i j) H
def vA(g:Int->Int->V):R2:=λx y H Q=>∃i j,x=.int i/\y=.int j/\Q (g i j) H
def rU(g:Int->V):V->Hp->VK->Prop:=λx H Q=>∃i,x=.int i/\Q (g i) H
section
variable{X:Cx}{a b c:Expr}{ta tb tc:TE}{pos:Pos}
def Aq(ha:PE X a ta)(hb:PE X b tb){aa:List (Addr×Obj)}{s:Shared}{Z:St}{H:Hp}{R:V->V->Hp->Prop}(I:Inv X aa Z H s)
  (h:ta Z H λx H1=>tb Z H1 λy H2=>R x y H2) {Q:Value->Shared->Prop} {f:Value->Value->Sem Value}
  (hf:∀v u s2 x y H2,Inv X aa Z H2 s2->RelV x v->RelV y u->R x y H2->wpAny (model X.prog X.w) X.A (f v u) Q X.xe s2) :
  wpAny (model X.prog X.w) X.A (eval a X.env) (λv s₁=>wpAny (model X.prog X.w) X.A (eval b X.env) (λu s₂=>wpAny (model X.prog X.w) X.A (f v u) Q X.xe s₂) X.xe s₁) X.xe s:=by
 refine bF (ha aa s Z H _ I h) λv s1 ⟨x,H1,I1,r1,q1⟩=>?_;refine bF (hb aa s1 Z H1 _ I1 q1) λu s2 ⟨y,H2,I2,r2,q2⟩=>?_;exact hf v u s2 x y H2 I2 r1 r2 q2
def pD{op:Operator}{r:R2}(ho:fL X (binaryOp op) r)(ha:PE X a ta)(hb:PE X b tb):PE X (.BinOp a op b pos) (Hc r ta tb):=by
 intro aa s Z H Q I h;exact wpAny_BinOp (Aq ha hb I h λv u s2 x y H2 I2 rx ry q=>ho aa s2 Z H2 x y v u Q I2 rx ry q)
def zvC{op:UnaryOp}{r:V->Hp->VK->Prop}(ho:UnR X (unaryOp op) r)(ha:PE X a ta):PE X (.UnaryOp op a pos) (tUn r ta):=by
 intro aa s Z H Q I h;exact UnaryOp_ (bF (ha aa s Z H _ I h) λv s1 ⟨x,H1,I1,r1,q1⟩=>ho aa s1 Z H1 x v Q I1 r1 q1)
def JC{f:Value->Value->Sem Value}{C:Int->Int->Prop}{g:Int->Int->Int}
  (rule:∀(i j:Int)(t u:Tok)(s:Shared)(Q:Value->Shared->Prop)(E:Value->Shared->Prop),C i j->Q (.int (g i j) s.toks) {s with toks:=s.toks+1}->wpAny (model X.prog X.w) X.A (f (.int i t) (.int j u)) Q E s) :
  fL X f (rI C λi j=>.int (g i j)):=by
 intro aa s Z H x y v u Q I rx ry h;obtain⟨i,j,rfl,rfl,hc,q⟩:=h;obtain⟨t,rfl⟩:=rx;obtain⟨t',rfl⟩:=ry;exact rule i j t t' s _ _ hc ⟨.int (g i j),H,I.tok _,⟨_,rfl⟩,q⟩
def Kc{f:Value->Value->Sem Value}{g:Int->Int->Int}
  (rule:∀(i j:Int)(t u:Tok)(s:Shared)(Q:Value->Shared->Prop)(E:Value->Shared->Prop),Q (.int (g i j) s.toks) {s with toks:=s.toks+1}->wpAny (model X.prog X.w) X.A (f (.int i t) (.int j u)) Q E s) :
  fL X f (vA λi j=>.int (g i j)):=by
 intro aa s Z H x y v u Q I rx ry h;obtain⟨i,j,rfl,rfl,q⟩:=h;obtain⟨t,rfl⟩:=rx;obtain⟨t',rfl⟩:=ry;exact rule i j t t' s _ _ ⟨.int (g i j),H,I.tok _,⟨_,rfl⟩,q⟩
def xV{f:Value->Value->Sem Value}{g:Int->Int->Bool}
  (rule:∀(i j:Int)(t u:Tok)(s:Shared)(Q:Value->Shared->Prop)(E:Value->Shared->Prop),Q (.bool (g i j)) s->wpAny (model X.prog X.w) X.A (f (.int i t) (.int j u)) Q E s) :
  fL X f (vA λi j=>.bl (g i j)):=by
 intro aa s Z H x y v u Q I rx ry h;obtain⟨i,j,rfl,rfl,q⟩:=h;obtain⟨t,rfl⟩:=rx;obtain⟨t',rfl⟩:=ry;exact rule i j t t' s _ _ ⟨.bl (g i j),H,I,rfl,q⟩
def CDiv(i j:Int):Prop:=0<j/\j<1073741824
def Cg(i j:Int):Prop:=0<=j/\j<=1000000/\i.natAbs<2^64
def uN(i j:Int):Prop:=(-(2^64)<i/\i<2^64)\/(-(2^64)<j/\j<2^64)
def uN.ok{i j:Int}(h:uN i j):IntMulOk i j:=by
 rcases h with⟨h1,h2⟩|⟨h1,h2⟩
 .exact .of_left (intBits_le_64 h1 h2)
 .exact .of_right (intBits_le_64 h1 h2)
def mU:fL X (binaryOp .Add) (vA λi j=>.int (i+j)):=Kc λ_ _ _ _ _ _ _ q=>add_int q
def zu6:fL X (binaryOp .Sub) (vA λi j=>.int (i-j)):=Kc λ_ _ _ _ _ _ _ q=>sub_int q
def mK:fL X (binaryOp .Mult) (rI uN λi j=>.int (i*j)):=JC λ_ _ _ _ _ _ _ hc q=>mul_int q hc.ok
def zr7:fL X (binaryOp .FloorDiv) (rI CDiv λi j=>.int (i / j)):=JC λi j _ _ _ _ _ hc q=>by
 have h1:(0:Int)<j:=hc.1;have h2:j<1073741824:=hc.2;exact floordiv_int (by omega) (by rw[Int.fdiv_eq_ediv_of_nonneg i (by omega)];exact q) (.inl (PyProof.noPylong_small (by omega)))
def Dr:fL X (binaryOp .Mod) (rI (λ_ j=>0<j) λi j=>.int (i % j)):=JC λi j _ _ _ _ _ hc q=>by
 have h1:(0:Int)<j:=hc;exact mod_int' (by omega) (by rw[Int.fmod_eq_emod_of_nonneg i (by omega)];exact q)
def zoj:fL X (binaryOp .Pow) (rI Cg λi j=>.int (i^j.toNat)):=JC λ_ _ _ _ _ _ _ hc q=>pow_int_small hc.1 hc.2.1 hc.2.2 q
def unI{f:Value->Sem Value}{g:Int->Int}
  (rule:∀(i:Int)(t:Tok)(s:Shared)(Q:Value->Shared->Prop)(E:Value->Shared->Prop),Q (.int (g i) s.toks) {s with toks:=s.toks+1}->wpAny (model X.prog X.w) X.A (f (.int i t)) Q E s) :
  UnR X f (rU λi=>.int (g i)):=by
 intro aa s Z H x v Q I rx h;obtain⟨i,rfl,q⟩:=h;obtain⟨t,rfl⟩:=rx;exact rule i t s _ _ ⟨.int (g i),H,I.tok _,⟨_,rfl⟩,q⟩
def zux:UnR X (unaryOp .USub) (rU λi=>.int (-i)):=unI λ_ _ _ _ _ q=>neg_int q
end
section
variable{X:Cx}{a b c:Expr}{ta tb tc:TE}{pos:Pos}
def ztd(I:Inv X aa Z H s)(q:Q (.bl k) H)(e:k=k'):EP X aa Z Q (.bool k') s:=by
 subst e;exact⟨.bl k,H,I,rfl,q⟩
def zu4:fL X (compareOp .Lt) (vA λi j=>.bl (decide (i<j))):=xV λ_ _ _ _ _ _ _ q=>lt_int q
def zqI:fL X (compareOp .LtE) (vA λi j=>.bl (decide (i<=j))):=xV λ_ _ _ _ _ _ _ q=>le_int q
def ztg:fL X (compareOp .Gt) (vA λi j=>.bl (decide (j<i))):=xV λ_ _ _ _ _ _ _ q=>gt_int q
def zub:fL X (compareOp .GtE) (vA λi j=>.bl (decide (j<=i))):=xV λ_ _ _ _ _ _ _ q=>ge_int q
def zn3:fL X (compareOp .In) (λx y H Q=>∃i j,x=.str i/\y=.str j/\Q (.bl (!(Builtin.Str.occurrences j i 0 j.length 1).isEmpty)) H):=by
 intro aa s Z H x y v u Q I rx ry h;obtain⟨i,j,rfl,rfl,q⟩:=h;obtain⟨t,rfl⟩:=rx;obtain⟨t',rfl⟩:=ry;exact in_str (ztd I q rfl)
def fL.or{f:Value->Value->Sem Value}{r r':R2}(h:fL X f r)(h':fL X f r'):fL X f (λx y H Q=>r x y H Q\/r' x y H Q):=by
 intro aa s Z H x y v u Q I rx ry q;rcases q with q|q
 .exact h aa s Z H x y v u Q I rx ry q
 .exact h' aa s Z H x y v u Q I rx ry q
def wD(b:Expr)(h:op≠.In:=by decide)(h2:op≠.NotIn:=by decide):behindInMarks op b=false:=by
 have e1:(op==CmpOp.In)=false:=by cases op<;>first|rfl|exact absurd rfl h
 have e2:(op==CmpOp.NotIn)=false:=by cases op<;>first|rfl|exact absurd rfl h2
 cases b<;>simp[behindInMarks,e1,e2]
def zsC(ho:fL X (compareOp op) r)(ha:PE X a ta)(hb:PE X b tb)(hm:behindInMarks op b=false):PE X (.Compare a [op] [b] pos) (Hc r ta tb):=by
 intro aa s Z H Q I h;exact wpAny_Compare1 (Aq ha hb I h λv u s2 x y H2 I2 rx ry q=>ho aa s2 Z H2 x y v u Q I2 rx ry q) hm
def zsp(t:TE):TT:=λZ H Q=>t Z H λx H'=>∃k,x=.bl k/\Q k H'
def zh7{op:CmpOp}{r:R2}(ho:fL X (compareOp op) r)(ha:PE X a ta)(hb:PE X b tb)(hm:behindInMarks op b=false):PT X (.Compare a [op] [b] pos) (zsp (Hc r ta tb)):=by
 intro aa s Z H Q I h;refine wpAny_isTrue_Compare1 (bF (ha aa s Z H _ I h) λv s1 ⟨x,H1,I1,r1,q1⟩=>bF (hb aa s1 Z H1 _ I1 q1) λu s2 ⟨y,H2,I2,r2,q2⟩=>
  bF (ho aa s2 Z H2 x y v u _ I2 r1 r2 q2) λc s3 ⟨z,H3,I3,r3,k,e,q3⟩=>?_) hm
 subst e;cases r3;exact vQ ⟨H3,I3,q3⟩
def zo9(r r':R2)(ta tb tc:TE):TE:=λZ H Q=>ta Z H λx H1=>tb Z H1 λy H2=>r x y H2 λz H3=>∃k,z=.bl k /\
 (if k=true then tc Z H3 λw' H4=>r' y w' H4 Q else Q (.bl false) H3)
def zpt{op op':CmpOp}{r r':R2}(ho:fL X (compareOp op) r)(ho':fL X (compareOp op') r')(ha:PE X a ta)(hb:PE X b tb)(hc:PE X c tc)
  (hm:lastMarks [op,op'] [b,c]=false:=by with_unfolding_all rfl):PE X (.Compare a [op,op'] [b,c] pos) (zo9 r r' ta tb tc):=by
 intro aa s Z H Q I h;refine Compare_chain (bF (ha aa s Z H _ I h) λv s1 ⟨x,H1,I1,r1,q1⟩=>chain_link (bF (hb aa s1 Z H1 _ I1 q1) λu s2 ⟨y,H2,I2,r2,q2⟩=>
  bF (ho aa s2 Z H2 x y v u _ I2 r1 r2 q2) λd s3 ⟨z,H3,I3,r3,k,e,q3⟩=>?_)) hm
 subst e;cases r3;refine vQ ?_;cases k with
 |false=>exact ite_ff ⟨.bl false,H3,I3,rfl,q3⟩
 |true=>exact ite_tt (chain_last (bF (hc aa s3 Z H3 _ I3 q3) λw' s4 ⟨z',H4,I4,r4,q4⟩=>ho' aa s4 Z H4 y z' u w' Q I4 r2 r4 q4))
def zqn{op op':CmpOp}{r r':R2}(ho:fL X (compareOp op) r)(ho':fL X (compareOp op') r')(ha:PE X a ta)(hb:PE X b tb)(hc:PE X c tc)
  (hm:lastMarks [op,op'] [b,c]=false:=by with_unfolding_all rfl):PT X (.Compare a [op,op'] [b,c] pos) (zsp (zo9 r r' ta tb tc)):=by
 intro aa s Z H Q I h;refine isTrue_chain (bF (ha aa s Z H _ I h) λv s1 ⟨x,H1,I1,r1,q1⟩=>test_link (bF (hb aa s1 Z H1 _ I1 q1) λu s2 ⟨y,H2,I2,r2,q2⟩=>
  bF (ho aa s2 Z H2 x y v u _ I2 r1 r2 q2) λd s3 ⟨z,H3,I3,r3,k,e,q3⟩=>?_)) hm
 subst e;cases r3;refine vQ ?_;cases k with
 |false=>
  obtain⟨k',e',q'⟩:=q3;cases e';exact ite_ff ⟨H3,I3,q'⟩
 |true=>
  refine ite_tt (test_last (bF (hc aa s3 Z H3 _ I3 q3) λw' s4 ⟨z',H4,I4,r4,q4⟩=>bF (ho' aa s4 Z H4 y z' u w' _ I4 r2 r4 q4) λd' s5 ⟨z2,H5,I5,r5,k2,e2,q5⟩=>?_));subst e2;cases r5;exact vQ ⟨H5,I5,q5⟩
noncomputable def wG(K:qo)(x:V)(H:Hp)(k:Bool):Prop:=
 match x with
 |.non=>k=false
 |.bl b=>k=b
 |.int i=>k=(i != 0)
 |.str y=>y.length<=sizeLine/\k=((y.length:Int) != 0)
 |.byt y=>y.size<=sizeLine/\k=((y.size:Int) != 0)
 |.ref p=>(∃xs,cA K H p xs/\k = !xs.isEmpty)\/(∃xs,fX K H p xs/\k = !xs.isEmpty)\/∃kvs,H p=some (.dK kvs)/\k = !kvs.isEmpty
 |_=>False
def zmo{κ:Type}{kvs:List (κ×V)}{vs:List (κ×Value)}(r:KV kvs vs):(!vs.isEmpty) = !kvs.isEmpty:=by
 cases r<;>rfl
def zhx{xs:List V}{its:List Value}(r:Vals xs its):(!its.toArray.isEmpty) = !xs.isEmpty:=by
 cases r<;>simp
def zc:(sizeLine:Nat)<2^63:=by rw[mG];decide
def zrd:TruR X (λx H Q=>∃k,wG X.K x H k/\Q k H):=by
 intro aa s Z H x v Q I rx h;obtain⟨k,e,q⟩:=h;have hl:=zc;have hs:sizeLine=16777216:=mG;cases x with
 |non=>
  cases rx;have e':k=false:=e;subst e';exact truthy_none ⟨H,I,q⟩
 |bl b=>
  cases rx;have e':k=b:=e;subst e';exact vQ ⟨H,I,q⟩
 |int i=>
  obtain⟨t,rfl⟩:=rx;have e':k=(i != 0):=e;subst e';exact PySem.P.truthy_int ⟨H,I,q⟩
 |str y=>
  obtain⟨t,rfl⟩:=rx;obtain⟨hy,e'⟩:y.length<=sizeLine/\k=((y.length:Int) != 0):=e;subst e';exact PySem.P.truthy_str (by omega) ⟨H,I.tok _,q⟩
 |byt y=>
  obtain⟨t,rfl⟩:=rx;obtain⟨hy,e'⟩:y.size<=sizeLine/\k=((y.size:Int) != 0):=e;subst e';exact PySem.W.truthy_bytes (by omega) ⟨H,I.tok _,q⟩
 |ref p=>
  cases rx;have e':(∃xs,cA X.K H p xs/\k = !xs.isEmpty)\/(∃xs,fX X.K H p xs/\k = !xs.isEmpty)\/∃kvs,H p=some (.dK kvs)/\k = !kvs.isEmpty:=e;rcases e' with⟨xs,hx,e'⟩|⟨xs,hx,e'⟩|⟨kvs,hx,e'⟩
  .subst e';obtain⟨its,r,pl,hz⟩:=I.list hx;have hlen:=r.length;exact wpAny_truthy_list pl.isList (by simp only[jj];omega) ⟨H,I.tok _,by rw[zhx r];exact q⟩
  .subst e';obtain⟨its,r,pl,hz⟩:=I.tuple hx;have hlen:=r.length;exact truthy_tuple pl (by simp only[jj];omega) ⟨H,I.tok _,by rw[zhx r];exact q⟩
  .subst e';obtain⟨hz,hS,vs,r,m⟩:kvs.length<=sizeLine/\(p==sysModules)=false/\∃vs,KV kvs vs/\s.heap.DictOf (lC X.prog X.w) p vs:=I.hok p _ hx;have hlen:kvs.length=vs.length:=Paired.length r;exact wpAny_truthy_dict hS m (by omega) ⟨H,I.tok _,by rw[zmo r];exact q⟩
 |_=>exact(show False from e).elim
def zl2(ha:PE X a ta)(he:∀whole,isTrue a X.env whole=(do let v <-whole;standAt a.pos;holding [v] (truthy v))) :
  PT X a (λZ H Q=>ta Z H λx H'=>∃k,wG X.K x H' k/\Q k H'):=by
 intro aa s Z H Q I h;exact isTrue_plain (bF (ha aa s Z H _ I h) λv s1 ⟨x,H1,I1,r1,q1⟩=>zrd aa s1 Z H1 x v Q I1 r1 q1) (he _)
def zmN:fL X (binaryOp .Add) (λx y H Q=>∃i j,x=.str i/\y=.str j/\i.length+j.length<=sizeLine/\Q (.str (i++j)) H):=by
 intro aa s Z H x y v u Q I rx ry h;obtain⟨i,j,rfl,rfl,hz,q⟩:=h;obtain⟨t,rfl⟩:=rx;obtain⟨t',rfl⟩:=ry;exact add_str (λt' tk=>⟨.str (i++j),H,I.tok _,⟨_,rfl⟩,q⟩) hz
def qK(r:Vals [x] us):∃u,us=[u]/\RelV x u:=by
 cases r with
 |cons r1 r2=>cases r2;exact⟨_,rfl,r1⟩
def zrD(r:Vals [x,y] us):∃u w',us=[u,w']/\RelV x u/\RelV y w':=by
 cases r with
 |cons r1 r2=>
  cases r2 with
  |cons r3 r4=>cases r4;exact⟨_,_,rfl,r1,r3⟩
def tZ:cU X (.type "int") (λxs H Q=>(∃i,xs=[.int i]/\Q (.int i) H)\/∃k,xs=[.bl k]/\Q (.int (if k then 1 else 0)) H):=by
 intro aa s Z H xs us Q I r h;rcases h with⟨i,rfl,q⟩|⟨k,rfl,q⟩
 .obtain⟨u,rfl,t,rfl⟩:=qK r;exact call_int_int ⟨.int i,H,I,⟨_,rfl⟩,q⟩
 .obtain⟨u,rfl,r1⟩:=qK r;cases r1;exact call_int_bool ⟨.int (if k then 1 else 0),H,I.tok _,⟨_,rfl⟩,q⟩
end
structure qJ(h:Heap)(x dx C:Addr)(mA:Str->Option Value):Prop where
 obj:h.get? x=some (PySem.W.instObj C dx)
 ns:h.Ns1 dx mA
 ne:dx≠x
def zm9{h:Heap}{dx:Addr}{mA:Str->Option Value}(n:h.Ns1 dx mA):∃od,h.get? dx=some od/\∀name,PySem.W.lookIn name od=some (mA name):=by
 obtain⟨o,es,ep,ho,hd,hk,_,hm⟩:=n;refine⟨o,ho,λname=>?_⟩;have e:=hm name;unfold nsFind findBy at e;rw[<-Array.find?_toList]at e;unfold PySem.W.lookIn;rw[hd];dsimp only;split
 .rename_i y q
  rw[q]at e;exact congrArg some e
 .rename_i q
  rw[q]at e;have a:es.toList.any (·.refKey)=false:=by
   rw[List.any_eq_false];intro y hy;obtain⟨z,t,hkey⟩:=hk y (Array.mem_toList_iff.mp hy);simp[DictEntry.refKey,hkey]
  have a':¬ es.toList.any (·.refKey)=true:=by rw[a];exact yx
  rw[if_neg a'];exact congrArg some e
def qJ.look(I:qJ h x dx C mA):∃od,PySem.W.InstAt h x (PySem.W.instObj C dx) C (some od)/\∀name,PySem.W.lookIn name od=some (mA name):=
 let⟨od,ho,hl⟩:=zm9 I.ns
 ⟨od,⟨I.obj,rfl,rfl,ho⟩,hl⟩
section
variable{prog:Program}{w:World}{A:Around}{E:Value->Shared->Prop}{s:Shared}{K:qo}{x dx C f:Addr}{mA:Str->Option Value}{name:Str}{v:Value}
def zs7(X:K.In s.heap)(I:qJ s.heap x dx C mA)(hg:PySem.W.plainGet K C name=true)(hh:PySem.W.hasDictIn K C=true)
  (ha:PySem.W.findIn K (.ref C) name=some none) (hv:mA name=some v) (hv':PySem.W.handedIn v=true) (h:Q v {s with toks:=s.toks+1}) :
  wpAny (model prog w) A (getAttr (.ref x) name expr) Q E s:=by
 obtain⟨od,J,hl⟩:=I.look;exact PySem.W.get_value X J (YCA hg).1 (PySem.W.findObj_own hh ha rfl (by rw[hl,hv])) hv' h
def zqi(X:K.In s.heap)(I:qJ s.heap x dx C mA)(hg:PySem.W.plainGet K C name=true)
  (hf:PySem.W.findIn K (.ref C) name=some (some (.ref f))) (ht:PySem.W.isFn K (.ref f)=true) (hv:mA name=none) (h:Q (.ref f,[.ref x]) s) :
  wpAny (model prog w) A (getMethod (.ref x) name pl) Q E s:=by
 obtain⟨od,J,hl⟩:=I.look;exact PySem.W.method_fn X J (YCA hg).1 (YCA hg).2 hf (yz.mp ht) (by show(PySem.W.lookIn name od).map (·.isSome)=some false;rw[hl,hv];rfl) h
def zrG(X:K.In s.heap)(I:qJ s.heap x dx C mA)
  (hs:PySem.W.findIn K (.ref C) "__setattr__"=some (some (.builtin "object.__setattr__"))) (hp:PySem.W.plainOver K C=true) (ht:PySem.W.takerIn K C name=some none) (hh:PySem.W.hasDictIn K C=true)
  (hw:PySem.Within mA ns) (hsz:ns.length<=sizeLine)
  (h:∀h',qJ h' x dx C (λy=>if y=name then some v else mA y)->Heap.SameBut dx s.heap h'->Q () {s with heap:=h',toks:=s.toks+2}) :
  wpAny (model prog w) A (setAttr (.ref x) name v) Q E s:=by
 obtain⟨od,J,hl⟩:=I.look;refine PySem.W.set_plain X J hs (PySem.W.osa_open (s:={s with toks:=s.toks+1}) (r:=none) X J hp ht λb=>?_);obtain⟨cd,hc,hd'⟩:=PySem.W.any_some hh;have hx:s.heap.get? x=some ⟨.ref C,some dx,.plain,#[]⟩:=I.obj;refine aJ (bV (aJ (aJ (wpAny_loadPart hx (aJ (PySem.W.Looks.here (s:={s with toks:=s.toks+1}) (PySem.W.looks_clsIn X hc) ?_))))));rw[hd'];refine bV (a:=some dx) (aJ (bV (aJ ?_)));refine wpAny_nsSet1 (s:={s with toks:=s.toks+1}) I.ns λh' hn2 hs2=>?_;obtain⟨oD,esD,epD,hoD,hdD,hcD⟩:=hn2.count (PySem.Within.cons name v hw);refine aJ (wpAny_lookBehind hoD (by rw[hdD];exact pastItsLine_dict (iu hcD (by rw[lF];omega))) ?_);exact bV (h _ ⟨(hs2.2 _ (YAM I.ne)).trans I.obj,hn2,I.ne⟩ hs2)
def zpe(X:K.In s.heap)(hm:PySem.W.makesIn K C=true)
  (hi:PySem.W.findIn K (.ref C) "__init__"=some (some (.ref f))) (hf:PySem.W.typeIn K (.ref f)=some (.type "function"))
  (h:codeAny (model prog w) (A.under (.builtin "type.__call__" ⟨.ref C::vs,kw⟩)) (.call (.ref f) ⟨.ref (s.heap.objs.size+1)::vs,kw⟩) (PySem.W.InitBack (s.heap.objs.size+1) R)
   {s with heap:=(s.heap.push PySem.W.emptyDict).push (PySem.W.instObj C s.heap.objs.size)}) :
  codeAny (model prog w) A (.call (.ref C) ⟨vs,kw⟩) R s:=by
 obtain⟨hh,g,d,t,os⟩:=s;exact PySem.W.make_core (PySem.W.makes_of X hm) (PySem.W.looks_findIn X hi) (λself=>PySem.W.bind_fn X self hf) (.inl rfl) h
end
def gP(f:Str)(v:V):List (Str×V)->List (Str×V)
 |[]=>[(f,v)]
 | (g,x)::r=>if g=f then(g,v)::r else(g,x)::gP f v r
theorem zhl(f g:Str)(v:V):∀fs:List (Str×V),(gP f v fs).lookup g=if g=f then some v else fs.lookup g
 |[]=>by
  show List.lookup g [(f,v)]=_;by_cases h:g=f
  .have hb:(g==f)=true:=yz.mpr h;simp only[List.lookup,hb,if_pos h]
  .have hb:(g==f)=false:=YAU.mpr h;simp only[List.lookup,hb,if_neg h]
 | (k,x)::r=>by
  have ih:=zhl f g v r;rw[show gP f v ((k,x)::r)=(if k=f then(k,v)::r else(k,x)::gP f v r)from rfl];by_cases hk:k=f
  .rw[if_pos hk];by_cases h:g=k
   .have hb:(g==k)=true:=yz.mpr h;simp only[List.lookup,hb,if_pos (h.trans hk)]
   .have hb:(g==k)=false:=YAU.mpr h;simp only[List.lookup,hb,if_neg (λe:g=f=>h (e.trans hk.symm))]
  .rw[if_neg hk];by_cases h:g=k
   .have hb:(g==k)=true:=yz.mpr h;simp only[List.lookup,hb,if_neg (λe:g=f=>hk (h.symm.trans e))]
   .have hb:(g==k)=false:=YAU.mpr h;simp only[List.lookup,hb];exact ih
theorem zhb(f:Str)(v:V):∀fs:List (Str×V),f∈(gP f v fs).map (·.1)/\∀g,g∈fs.map (·.1)->g∈(gP f v fs).map (·.1)
 |[]=>⟨by simp[gP],λg h=>by simp at h⟩
 | (k,x)::r=>by
  obtain⟨i1,i2⟩:=zhb f v r;rw[show gP f v ((k,x)::r)=(if k=f then(k,v)::r else(k,x)::gP f v r)from rfl];by_cases hk:k=f
  .rw[if_pos hk];subst hk;exact⟨by simp,λg h=>by simpa using h⟩
  .rw[if_neg hk];refine⟨?_,λg h=>?_⟩
   .rw[dZ];exact je _ i1
   .rw[dZ]at h ⊢;rcases ir.mp h with e|e
    .exact ir.mpr (.inl e)
    .exact je _ (i2 g e)
theorem zhd(f:Str)(v:V):∀fs:List (Str×V),(gP f v fs).length<=fs.length+1
 |[]=>by simp[gP]
 | (k,x)::r=>by
  have ih:=zhd f v r;rw[show gP f v ((k,x)::r)=(if k=f then(k,v)::r else(k,x)::gP f v r)from rfl];by_cases hk:k=f
  .rw[if_pos hk,lF,lF];omega
  .rw[if_neg hk,lF,lF];omega
def g8.some_of(r:g8 (some v) o):∃u,o=some u/\RelV v u:=by
 cases o with
 |none=>exact(show False from r).elim
 |some u=>exact⟨u,rfl,r⟩
def g8.none_of(r:g8 none o):o=none:=by
 cases o with
 |none=>rfl
 |some u=>exact(show False from r).elim
def znh(r:RelV v u):PySem.W.handedIn u=true:=by
 cases v with
 |non=>cases (show u=Value.none from r);rfl
 |bl b=>cases (show u=Value.bool b from r);rfl
 |int i=>obtain⟨t,e⟩:=(show ∃t,u=Value.int i t from r);cases e;rfl
 |str x=>obtain⟨t,e⟩:=(show ∃t,u=Value.str x t from r);cases e;rfl
 |byt b=>obtain⟨t,e⟩:=(show ∃t,u=Value.bytes b t from r);cases e;rfl
 |flt b=>obtain⟨t,e⟩:=(show ∃t,u=Value.float b t from r);cases e;rfl
 |ref a=>cases (show u=Value.ref a from r);rfl
 |ty n=>cases (show u=Value.type n from r);rfl
section
variable{P:Program}{w:World}{H H':Hp}{h h':Heap}{a C dx:Addr}{fs fs':List (Str×V)}
def zk5(hok:iT P w H h)(e:H a=some (.ins C dx fs)):∃mA,qJ h a dx C mA/\(∀f,g8 (fs.lookup f) (mA f))/\PySem.Within mA (fs.map (·.1))/\fs.length<=1000/\H dx=some (.own a):=by
 obtain⟨d,z,ne,ob,mA,n,r,q⟩:=(show cg P w H h a (.ins C dx fs)from hok a _ e);exact⟨mA,⟨ob,n,ne⟩,r,q,z,d⟩
end
structure nP(K:qo)(C:Addr):Prop where
 pg:PySem.W.plainGet K C Str.empty=true
 hd:PySem.W.hasDictIn K C=true
 po:PySem.W.plainOver K C=true
 sa:PySem.W.findIn K (.ref C) "__setattr__"=some (some (.builtin "object.__setattr__"))
def nP.get{K:qo}{C:Addr}(c:nP K C)(f:Str):PySem.W.plainGet K C f=true:=c.pg
def dF(K:qo)(C:Addr)(f:Str):Prop:=PySem.W.findIn K (.ref C) f=some none
def dF.taker{K:qo}{C:Addr}{f:Str}(n:dF K C f):PySem.W.takerIn K C f=some none:=by
 unfold PySem.W.takerIn;rw[show PySem.W.findIn K (.ref C) f=some none from n];rfl
structure Meth(K:qo)(C:Addr)(m:Str)(f:Addr):Prop where
 at_:PySem.W.findIn K (.ref C) m=some (some (.ref f))
 fn:PySem.W.isFn K (.ref f)=true
 kp:PySem.W.keepIn K (.ref f)=true
section
variable{X:Cx}{aa:List (Addr×Obj)}{Z:St}{H:Hp}{s:Shared}{a C dx:Addr}{fs:List (Str×V)}{f:Str}{v:V}{A:Around}{E:Value->Shared->Prop}
def zm1{b:Bool}{Q:Value->Shared->Prop}(I:Inv X aa Z H s)(e:H a=some (.ins C dx fs))(c:nP X.K C)(n:dF X.K C f)(l:fs.lookup f=some v)
  (h:∀u s',Inv X aa Z H s'->RelV v u->Q u s'):wpAny (model X.prog X.w) A (getAttr (.ref a) f b) Q E s:=by
 obtain⟨mA,O,r,_,_,_⟩:=zk5 I.hok e;obtain⟨u,hu,ru⟩:=g8.some_of (v:=v) (o:=mA f) (by rw[<-l];exact r f);exact zs7 I.kIn O (c.get f) c.hd n hu (znh ru) (h u _ (I.tok _) ru)
def zfy{m:Str}{g:Addr}{pl:Sem Bool}{Q:Value×List Value->Shared->Prop}(I:Inv X aa Z H s)(e:H a=some (.ins C dx fs))(c:nP X.K C)(k:Meth X.K C m g)(l:fs.lookup m=none)
  (h:Q (.ref g,[.ref a]) s):wpAny (model X.prog X.w) A (getMethod (.ref a) m pl) Q E s:=by
 obtain⟨mA,O,r,_,_,_⟩:=zk5 I.hok e;have hn:mA m=none:=g8.none_of (by rw[<-l];exact r m);exact zqi I.kIn O (c.get m) k.at_ k.fn hn h
def zmT{y:V}{u:Value}{Q:Unit->Shared->Prop}(I:Inv X aa Z H s)(e:H a=some (.ins C dx fs))(c:nP X.K C)(n:dF X.K C f)(hl:fs.length<1000)(ry:RelV y u)
  (h:∀s',Inv X aa Z (upd H a (.ins C dx (gP f y fs))) s'->Q () s'):wpAny (model X.prog X.w) A (setAttr (.ref a) f u) Q E s:=by
 obtain⟨mA,O,r,wi,_,ho⟩:=zk5 I.hok e;have hz:(fs.map (·.1)).length<=sizeLine:=by rw[bW,mG];omega
 refine zrG I.kIn O c.sa c.po n.taker c.hd wi hz λh' O' sb=>h _ ?_;have hd:∃o,h'.get? dx=some o:=let⟨o,_,_,e',_⟩:=O'.ns;⟨o,e'⟩
 refine I.write (x:=a) (e:=dx) (by rw[e];exact True.intro) (.inr ho) (λb q hb z=>(sb.2 b hb).trans z) hd ?_;refine⟨by rw[au O.ne];exact ho,?_,O.ne,O'.obj,_,O'.ns,λg=>?_,λg hg=>?_⟩
 .have:=zhd f y fs;omega
 .show g8 ((gP f y fs).lookup g) (if g=f then some u else mA g);rw[zhl];by_cases q:g=f
  .rw[if_pos q,if_pos q];exact ry
  .rw[if_neg q,if_neg q];exact r g
 .by_cases q:g=f
  .rw[q];exact(zhb f y fs).1
  .refine(zhb f y fs).2 g (wi g λz=>hg ?_);show(if g=f then some u else mA g)=none;rw[if_neg q];exact z
def Inv.made(I:Inv X aa Z H s):Inv X aa Z (upd (upd H s.heap.objs.size (.own (s.heap.objs.size+1))) (s.heap.objs.size+1) (.ins C s.heap.objs.size []))
  {s with heap:=(s.heap.push PySem.W.emptyDict).push (PySem.W.instObj C s.heap.objs.size)}:=by
 have e1:(s.heap.push PySem.W.emptyDict).get? s.heap.objs.size=some PySem.W.emptyDict:=jF s.heap rfl;have e2:((s.heap.push PySem.W.emptyDict).push (PySem.W.instObj C s.heap.objs.size)).get? (s.heap.objs.size+1)=some (PySem.W.instObj C s.heap.objs.size):=by
  have:=jF (s.heap.push PySem.W.emptyDict) (o:=PySem.W.instObj C s.heap.objs.size) rfl
  rwa[xJ]at this
 have e3:(s.heap.push PySem.W.emptyDict).Ns s.heap.objs.size (λ_=>none):=⟨PySem.W.emptyDict,#[],_,e1,rfl,(λe he=>absurd he (by simp)),λ_=>rfl⟩;have I1:=I.laid (a:=s.heap.objs.size) (o:=.own (s.heap.objs.size+1)) (h':=s.heap.push PySem.W.emptyDict) (t':=s.toks) (λb u q=>dO _ q) (dJ _) ⟨_,e1⟩;refine I1.laid (a:=s.heap.objs.size+1) (o:=.ins C s.heap.objs.size []) (t':=s.toks) (λb u q=>dO _ q) (Nat.le_of_eq (xJ _ _)) ?_;have ne:s.heap.objs.size≠s.heap.objs.size+1:=fK (YCr _);refine⟨by rw[au ne,cH],vX _,ne,e2,λ_=>none,(Heap.Ns1.of_empty e3).at λo q=>dO _ q,λ_=>True.intro,λy hy=>absurd rfl hy⟩
def zsg{prog:Program}{w:World}{env:Env}{e:Expr}{f:Str}{pos:Pos}{s:Shared}{Q:Value->Shared->Prop}(hb:attributeBase e f env (eval e env)=eval e env)
  (h:wpAny (model prog w) A (eval e env) (λo s₁=>wpAny (model prog w) A (getAttr o f true) Q E s₁) E s):wpAny (model prog w) A (eval (.Attribute e f pos) env) Q E s:=
 Attribute_any_ h (by rw[arm_eval_Attribute,hb])
end
def tFld(K:qo)(ta:TE)(f:Str):TE:=λZ H Q=>ta Z H λx H1=>∃a C dx fs v,x=.ref a/\H1 a=some (.ins C dx fs)/\nP K C/\dF K C f/\fs.lookup f=some v/\Q v H1
def sFld(K:qo)(ta tv:TE)(f:Str):TS:=λD Z H=>tv Z H λy H1=>ta Z H1 λx H2=>∃a C dx fs,x=.ref a/\H2 a=some (.ins C dx fs)/\nP K C/\dF K C f/\fs.length<1000 /\
 D.nx Z (upd H2 a (.ins C dx (gP f y fs)))
def Gi(X:Cx)(op:Operator)(rd:V->V->Hp->VK->Prop):Prop:=
 ∀(aa:List (Addr×Obj))(s:Shared)(Z:St)(H:Hp)(x y:V)(u v:Value)(Q:VK),Inv X aa Z H s->RelV x u->RelV y v->rd x y H Q->wpAny (model X.prog X.w) X.A (inplaceOp op u v) (EP X aa Z Q) X.xe s
section
variable{X:Cx}{o e value:Expr}{f:Str}{pos pos' tpos:Pos}{ta tv:TE}
def znw(he:PE X e ta)(hb:attributeBase e f X.env (eval e X.env)=eval e X.env):PE X (.Attribute e f pos) (tFld X.K ta f):=by
 intro aa s Z H Q I h;refine zsg hb (bF (he aa s Z H _ I h) λu s1 ⟨x,H1,I1,rx,a,C,dx,fs,v,ex,ea,c,n,l,q⟩=>?_);subst ex;obtain rfl:u=Value.ref a:=rx;exact zm1 I1 ea c n l λu' s2 I2 ru=>⟨v,H1,I2,ru,q⟩
def zuX(ha:PE X o ta)(hv:PE X value tv)(hs:swapsWith value (some (.Attribute o f pos')) pos.line X.env=pure false):PS X (.Assign [.Attribute o f pos'] value pos) (sFld X.K ta tv f):=by
 intro aa s Z H D I h;refine plainObj_wpAny_Assign_Attribute (bF (hv aa s Z H _ I h) λu s1 ⟨y,H1,I1,ry,q⟩=>bF (ha aa s1 Z H1 _ I1 q) λov s2 ⟨x,H2,I2,rx,a,C,dx,fs,ex,ea,c,n,l,q2⟩=>?_) hs;subst ex;obtain rfl:ov=Value.ref a:=rx;exact zmT I2 ea c n l ry λs3 I3=>⟨Z,_,I3,q2⟩
def rAdd:V->V->Hp->VK->Prop:=λx y H Q=>∃i j,x=.int i/\y=.int j/\Q (.int (i+j)) H
def zt0:Gi X .Add rAdd:=by
 rintro aa s Z H x y u v Q I rx ry ⟨i,j,rfl,rfl,q⟩;obtain⟨t,rfl⟩:=(show ∃t,u=Value.int i t from rx);obtain⟨t',rfl⟩:=(show ∃t',v=Value.int j t' from ry);exact PyProof.Rows.iadd_int ⟨.int (i+j),H,I.tok _,⟨_,rfl⟩,q⟩
end
structure bD(k:Nat)(A:Around):Prop where
 hd:A.handled=none
 dp:A.depth+3*k+5<recursionLimit
 un:A.units+16*k+200<cLine
def bD.mono(r:bD k A)(h:j<=k):bD j A:=⟨r.hd,by have:=r.dp;omega,by have:=r.un;omega⟩
theorem bD.deeper{k:Nat}{A:Around}(r:bD (k+1) A)(env:Env):bD k (A.deeper env):=
 ⟨r.hd,by have:=r.dp;show A.depth+1+3*k+5<_;omega,by have:=r.un;show A.units+3+16*k+200<_;omega⟩
def zmG{A:Around}{C:Addr}{us:List Value}{kw:List (Str×Value)}:(A.under (.builtin "type.__call__" ⟨.ref C::us,kw⟩)).depth=A.depth+1:=by
 first|rfl|simp[Around.under,Code.weight,Code.isCreation,Code.isGuard,Code.isCaller,Code.frames,Code.isFrame,guardIds]
def zmr{A:Around}{C:Addr}{us:List Value}{kw:List (Str×Value)}:(A.under (.builtin "type.__call__" ⟨.ref C::us,kw⟩)).units=A.units+1:=by
 first|rfl|simp[Around.under,Code.cUnits,Code.frames,Code.isFrame]
def bD.make(r:bD (k+1) A)(C:Addr)(us:List Value)(kw:List (Str×Value)):bD k (A.under (.builtin "type.__call__" ⟨.ref C::us,kw⟩)):=
 ⟨r.hd,by have:=r.dp;rw[zmG];omega,by have:=r.un;rw[zmr];omega⟩
theorem bD.depth{k:Nat}{A:Around}(r:bD k A):A.depth<recursionLimit:=by have:=r.dp;omega
theorem bD.units(r:bD k A):A.units+64<cLine:=by have:=r.un;omega
def wX:TA:=λ_ H Q=>Q [] H
def zvU(ta:TE)(tr:TA):TA:=λZ H Q=>ta Z H λx H1=>tr Z H1 λxs H2=>Q (x::xs) H2
section
variable{X:Cx}{e:Expr}{es:List Expr}{te:TE}{t:TA}{pos:Pos}
def km:PA X [] wX:=λ_ _ _ _ H Q I h=>Calls.spliced_nil ⟨[],H,I,.nil,h⟩
def iM(ha:PE X e te)(hr:PA X es t)(hs:starEach (e::es) X.env=(false,eval e X.env)::starEach es X.env:=by rfl):PA X (e::es) (zvU te t):=by
 intro pos aa s Z H Q I h;rw[hs];show wpAny _ _ (spliced ((false,eval e X.env)::backTo pos (starEach es X.env))) _ _ s;refine Calls.spliced_cons (bF (ha aa s Z H _ I h) λu s1 ⟨x,H1,I1,r1,q1⟩=>?_);exact bF (hr pos aa s1 Z H1 _ I1 q1) λus s2 ⟨xs,H2,I2,r2,q2⟩=>⟨x::xs,H2,I2,.cons r1 r2,q2⟩
def tTup(t:TA):TE:=λZ H Q=>t Z H λxs H1=>xs.length<=sizeLine/\∀p,H1 p=none->Q (.ref p) (upd H1 p (.tup xs))
def tLst(t:TA):TE:=λZ H Q=>t Z H λxs H1=>xs.length<=sizeLine/\∀p,H1 p=none->Q (.ref p) (upd H1 p (.lst xs))
def ztK{x1}(h:PA X es t):PE X (.Tuple es x1 pos) (tTup t):=by
 intro aa s Z H Q I hq;refine wpAny_Tuple_spliced (bF (h pos aa s Z H _ I hq) λus s1 ⟨xs,H1,I1,r,z,q⟩=>⟨by rw[<-r.length];exact z,?_⟩);have hf:H1 s1.heap.objs.size=none:=I1.hok.fresh (dJ _);refine⟨.ref s1.heap.objs.size,upd H1 s1.heap.objs.size (.tup xs),I1.laid (t':=s1.toks) (λb u e=>dO _ e) (dJ _) ?_,rfl,q _ hf⟩;exact⟨z,us,r,⟨_,jF _ rfl,rfl,_,rfl⟩⟩
def zrt(h:PA X es t):PE X (.List es pos) (tLst t):=by
 intro aa s Z H Q I hq;refine wpAny_List_spliced (bF (h pos aa s Z H _ I hq) λus s1 ⟨xs,H1,I1,r,z,q⟩=>⟨by rw[<-r.length];exact z,?_⟩);have hf:H1 s1.heap.objs.size=none:=I1.hok.fresh (dJ _);refine⟨.ref s1.heap.objs.size,upd H1 s1.heap.objs.size (.lst xs),I1.laid (t':=s1.toks) (λb u e=>dO _ e) (dJ _) ?_,rfl,q _ hf⟩;exact⟨z,us,0,r,jF _ rfl⟩
end
abbrev Sp:=List V->Hp->VK->XK->Prop
abbrev mO:=List Env->Hp->Shared->XK->Value->Shared->Prop
structure nq(P:Program)(w:World)(K:qo)(mg:Str->Option Value)(base:Heap)(A:Around)(outer:List Env)(s:Shared)(H:Hp):Prop where
 frames:A.frames=some outer
 mod:Mod K mg base
 bs:∀b o,base.get? b=some o->s.heap.get? b=some o/\H b=none
 bsz:base.objs.size<=s.heap.objs.size
 funs:s.heap.FunFrames base outer
 frf:∀b∈frs outer,H b=none
 hok:iT P w H s.heap
 bare:AllBare s.gens
def CE(outer:List Env)(P:Program)(w:World)(H:Hp)(s:Shared)(Q:VK)(u:Value)(s':Shared):Prop:=
 ∃v H',s'.os=s.os/\AllBare s'.gens/\Un (frs outer) [] H H' s.heap s'.heap/\iT P w H' s'.heap/\RelV v u/\Q v H'
def CR(CX:mO)(outer:List Env)(P:Program)(w:World)(H:Hp)(s:Shared)(Q:VK)(E:XK)(r:Result)(s':Shared):Prop:=
 match r with
 |.ok (.ret u)=>CE outer P w H s Q u s'
 |.ok _=>False
 |.error e=>CX outer H s E e s'
structure aM(P:Program)(w:World)(K:qo)(mg:Str->Option Value)(base:Heap)(CX:mO)(k:Nat)(f:Addr)(fd:FuncData)(ps:List Str)(sp:Sp):Prop where
 len:∀vs H Q E,sp vs H Q E->vs.length=ps.length
 run:∀(A:Around)(outer:List Env)(s:Shared)(H:Hp)(args:Args)(us:List Value)(vs:List V)(Q:VK)(E:XK),bD k A->nq P w K mg base A outer s H->BindsTo s fd args (ps.zip us)->Vals vs us->sp vs H Q E ->
  codeAny (model P w) A (.call (.ref f) args) (CR CX outer P w H s Q E) s
def aM.imp{P:Program}{w:World}{K:qo}{mg:Str->Option Value}{base:Heap}{CX:mO}{k:Nat}{f:Addr}{fd:FuncData}{ps:List Str}{sp sp':Sp}(F:aM P w K mg base CX k f fd ps sp)
  (h:∀vs H Q E,sp' vs H Q E->sp vs H Q E):aM P w K mg base CX k f fd ps sp':=
 ⟨λvs H Q E q=>F.len vs H Q E (h _ _ _ _ q),λA outer s H args us vs Q E hr he hb hv hs=>F.run A outer s H args us vs Q E hr he hb hv (h _ _ _ _ hs)⟩
def nq.make{P:Program}{w:World}{K:qo}{mg:Str->Option Value}{base:Heap}{A:Around}{outer:List Env}{s:Shared}{H:Hp}(e:nq P w K mg base A outer s H)(C:Addr)(us:List Value)(kw:List (Str×Value)) :
  nq P w K mg base (A.under (.builtin "type.__call__" ⟨.ref C::us,kw⟩)) outer s H:=⟨by first|exact e.frames|(simpa[Around.under,Code.envs,Code.isFrame,pushEnvs]using e.frames),e.mod,e.bs,e.bsz,e.funs,e.frf,e.hok,e.bare⟩
section
variable{X:Cx}{aa:List (Addr×Obj)}{Z:St}{H:Hp}{s s':Shared}
def Inv.env0(I:Inv X aa Z H s):nq X.prog X.w X.K X.mg X.base X.A X.stack s H:=
 ⟨I.ok.frames,I.ok.mod,I.bs,iu I.ok.bsz I.sz,I.stack,I.stkFree,I.hok,I.bare⟩
def Inv.after(I:Inv X aa Z H s)(h:CE X.stack X.prog X.w H s Q u s'):EP X aa Z Q u s':=by
 obtain⟨v,H',os,bare,un,hok,r,q⟩:=h;obtain⟨hh,g,d,t,os'⟩:=s';obtain rfl:os'=s.os:=os;exact⟨v,H',I.call (h':=hh) (g':=g) (d':=d) (t':=t) (ch:=[]) un hok bare (λb z=>absurd z (by simp)),r,q⟩
end
def zuA(sp:Sp)(dvs:List V)(E:XK)(t:TA):TE:=λZ H Q=>t Z H λvs H1=>sp (vs++dvs) H1 Q E
def CW(C:Addr)(m:Str)(sp:Sp)(dvs:List V)(E:XK)(ta:TE)(t:TA):TE:=λZ H Q=>ta Z H λx H1=>∃a dx fs,x=.ref a/\H1 a=some (.ins C dx fs)/\fs.lookup m=none /\
 t Z H1 λvs H2=>sp (x::(vs++dvs)) H2 Q E
def zwd(C:Addr)(sp:Sp)(dvs:List V)(E:XK)(t:TA):TE:=λZ H Q=>t Z H λvs H1=>∀x dx,H1 x=none->H1 dx=none->dx≠x ->
 sp (.ref x::(vs++dvs)) (upd (upd H1 dx (.own x)) x (.ins C dx [])) (λv H2=>v=.non/\Q (.ref x) H2) E
def Binds(K:qo)(fd:FuncData)(ps:List Str)(ds:List Value):Prop:=
 ∀(s:Shared)(us:List Value),K.In s.heap->(us++ds).length=ps.length->BindsTo s fd ⟨us,[]⟩ (ps.zip (us++ds))
def Binds.all{K:qo}{fd:FuncData}{ps:List Str}(h:∀us:List Value,us.length=ps.length->bindArgs fd ⟨us,[]⟩=pure (ps.zip us)):Binds K fd ps []:=λs us _ hl=>by
 rw[rQ]at hl ⊢;exact .of_eq (h us hl)
def nH(CX:mO)(X:Cx)(E:XK):Prop:=∀(aa:List (Addr×Obj))(Z:St)(H:Hp)(s:Shared)(e:Value)(s':Shared),Inv X aa Z H s->CX X.stack H s E e s'->X.xe e s'
section
variable{X:Cx}{CX:mO}{k:Nat}{f C:Addr}{fd:FuncData}{ps:List Str}{sp:Sp}{dvs:List V}{ds:List Value}{E:XK}{x m:Str}{p pos apos:Pos}{e o:Expr}{es:List Expr}{ta:TE}{t:TA}
def KH{aa:List (Addr×Obj)}{Z:St}{H:Hp}{s:Shared}{Q:VK}{us:List Value}{vs:List V}(F:aM X.prog X.w X.K X.mg X.base CX k f fd ps sp)(hr:bD k X.A)(hb:Binds X.K fd ps ds)(hd:Vals dvs ds)(hx:nH CX X E)
  (I:Inv X aa Z H s) (r:Vals vs us) (h:sp (vs++dvs) H Q E):wpAny (model X.prog X.w) X.A (call (.ref f) us) (EP X aa Z Q) X.xe s:=by
 have r2:Vals (vs++dvs) (us++ds):=r.append hd;have hl:(us++ds).length=ps.length:=by rw[<-r2.length];exact F.len _ _ _ _ h
 refine CK (Cz (F.run X.A X.stack s H ⟨us,[]⟩ (us++ds) (vs++dvs) Q E hr I.env0 (hb s us I.kIn hl) r2 h) λr s' hq=>?_);cases r with
 |error e=>exact hx aa Z H s e s' I hq
 |ok fl=>
  cases fl with
  |ret u=>exact I.after hq
  |next=>exact False.elim hq
  |brk=>exact False.elim hq
  |cont=>exact False.elim hq
def yG(F:aM X.prog X.w X.K X.mg X.base CX k f fd ps sp)(hr:bD k X.A)(hg:Gl X x)(hm:X.mg x=some (.ref f))(hk:PySem.W.keepIn X.K (.ref f)=true)(hb:Binds X.K fd ps ds)(hd:Vals dvs ds)(hx:nH CX X E)
  (ha:PA X (e::es) t) (hdb:(x==("__debug__":Str))=false:=by decide) (he:starEach (e::es) X.env=(false,eval e X.env)::starEach es X.env:=by rfl) (hpl:(backTo pos (starEach es X.env)).any (·.1)=false:=by rfl) :
  PE X (.Call (.Name x p) (e::es) [] pos) (zuA sp dvs E t):=by
 intro aa s Z H Q I h;refine xR (yM I hg hm ?_ hdb);refine KJ (h₀:=X.base) I.ok.mod.kin hk (bF (ha pos aa s Z H _ I h) λus s1 ⟨vs,H1,I1,r,q⟩=>⟨I1.kIn,?_⟩) he hpl;exact KH F hr hb hd hx I1 r q
def zpf(F:aM X.prog X.w X.K X.mg X.base CX k f fd ps sp)(hr:bD k X.A)(hg:Gl X x)(hm:X.mg x=some (.ref f))(hk:PySem.W.keepIn X.K (.ref f)=true)(hb:Binds X.K fd ps ds)(hd:Vals dvs ds)(hx:nH CX X E)
  (hdb:(x==("__debug__":Str))=false:=by decide):PE X (.Call (.Name x p) [] [] pos) (zuA sp dvs E wX):=by
 intro aa s Z H Q I h;refine xR (yM I hg hm ?_ hdb);exact YCB I.kIn hk (KH (us:=[]) F hr hb hd hx I .nil h)
def zsi(he:PE X o ta)(c:nP X.K C)(hm:Meth X.K C m f)(F:aM X.prog X.w X.K X.mg X.base CX k f fd ps sp)(hr:bD k X.A)(hb:Binds X.K fd ps ds)(hd:Vals dvs ds)(hx:nH CX X E)(ha:PA X (e::es) t)
  (hst:starEach (e::es) X.env=(false,eval e X.env)::starEach es X.env:=by rfl) (hpl:(backTo pos (starEach es X.env)).any (·.1)=false:=by rfl)
  (ht:eval (.Call (.Attribute o m apos) (e::es) [] pos) X.env=(do
   let ov <-eval o X.env
   standAt apos.atName
   let(f,first) <-holding [ov] (getMethod ov m pl)
   callWith pos f first (backTo pos (starEach (e::es) X.env)) (backToKw pos (keywordEach [] X.env))):=by rfl) :
  PE X (.Call (.Attribute o m apos) (e::es) [] pos) (CW C m sp dvs E ta t):=by
 intro aa s Z H Q I h;refine YCm (pl:=pl) (bF (he aa s Z H _ I h) λu s1 ⟨x,H1,I1,rx,a,dx,fs,ex,ea,l,q⟩=>?_) ht;subst ex;obtain rfl:u=Value.ref a:=rx;refine zfy I1 ea c hm l ?_;refine KJ (first:=[.ref a]) (h₀:=X.base) I.ok.mod.kin hm.kp (bF (ha pos aa s1 Z H1 _ I1 q) λus s2 ⟨vs,H2,I2,r,q2⟩=>⟨I2.kIn,?_⟩) hst hpl;exact KH (us:=.ref a::us) (vs:=.ref a::vs) F hr hb hd hx I2 (.cons rfl r) q2
def zp1(he:PE X o ta)(c:nP X.K C)(hm:Meth X.K C m f)(F:aM X.prog X.w X.K X.mg X.base CX k f fd ps sp)(hr:bD k X.A)(hb:Binds X.K fd ps ds)(hd:Vals dvs ds)(hx:nH CX X E)
  (ht:eval (.Call (.Attribute o m apos) [] [] pos) X.env=(do
   let ov <-eval o X.env
   standAt apos.atName
   let(f,first) <-holding [ov] (getMethod ov m pl)
   callWith pos f first (backTo pos (starEach [] X.env)) (backToKw pos (keywordEach [] X.env))):=by rfl) :
  PE X (.Call (.Attribute o m apos) [] [] pos) (CW C m sp dvs E ta wX):=by
 intro aa s Z H Q I h;refine YCm (pl:=pl) (bF (he aa s Z H _ I h) λu s1 ⟨x,H1,I1,rx,a,dx,fs,ex,ea,l,q⟩=>?_) ht;subst ex;obtain rfl:u=Value.ref a:=rx;refine zfy I1 ea c hm l ?_;exact YCB (first:=[.ref a]) I1.kIn hm.kp (KH (us:=[.ref a]) (vs:=[.ref a]) F hr hb hd hx I1 (.cons rfl .nil) q)
structure Mk(K:qo)(C f:Addr):Prop where
 makes:PySem.W.makesIn K C=true
 init:PySem.W.findIn K (.ref C) "__init__"=some (some (.ref f))
 fn:PySem.W.isFn K (.ref f)=true
 kp:PySem.W.keepIn K (.ref C)=true
def zp7(M:Mk X.K C f)(F:aM X.prog X.w X.K X.mg X.base CX k f fd ps sp)(hr:bD (k+1) X.A)(hb:Binds X.K fd ps ds)(hd:Vals dvs ds)
  (hx:nH CX X E) (I:Inv X aa Z H s) (r:Vals vs us)
  (h:∀x dx,H x=none->H dx=none->dx≠x->sp (.ref x::(vs++dvs)) (upd (upd H dx (.own x)) x (.ins C dx [])) (λv H2=>v=.non/\Q (.ref x) H2) E) :
  wpAny (model X.prog X.w) X.A (call (.ref C) us) (EP X aa Z Q) X.xe s:=by
 have hq:=h (s.heap.objs.size+1) s.heap.objs.size (I.hok.fresh (Nat.le_succ _)) (I.hok.fresh (dJ _)) (fK (YCr _));have I2:=Inv.made (C:=C) I;have r2:Vals (V.ref (s.heap.objs.size+1)::(vs++dvs)) (Value.ref (s.heap.objs.size+1)::(us++ds)):=.cons rfl (r.append hd);have hl:(Value.ref (s.heap.objs.size+1)::us++ds).length=ps.length:=by
  have e:=r2.length;rw[F.len _ _ _ _ hq]at e;exact e.symm
 refine CK (zpe (f:=f) I.kIn M.makes M.init (yz.mp M.fn) (Cz (F.run _ X.stack _ _ ⟨Value.ref (s.heap.objs.size+1)::us,[]⟩ (Value.ref (s.heap.objs.size+1)::(us++ds)) _ _ E (hr.make C us [])
  (I2.env0.make C us []) (hb _ (Value.ref (s.heap.objs.size+1)::us) I2.kIn hl) r2 hq) λr s' hq'=>?_))
 cases r with
 |error e=>exact hx aa Z _ _ e s' I2 hq'
 |ok fl=>
  cases fl with
  |ret u=>
   obtain⟨v,H',I3,rv,ev,q3⟩:=I2.after hq';subst ev;exact⟨rv,⟨V.ref (s.heap.objs.size+1),H',I3,rfl,q3⟩⟩
  |next=>exact False.elim hq'
  |brk=>exact False.elim hq'
  |cont=>exact False.elim hq'
def zql(M:Mk X.K C f)(F:aM X.prog X.w X.K X.mg X.base CX k f fd ps sp)(hr:bD (k+1) X.A)(hg:Gl X x)(hm:X.mg x=some (.ref C))(hb:Binds X.K fd ps ds)(hd:Vals dvs ds)(hx:nH CX X E)
  (hdb:(x==("__debug__":Str))=false:=by decide):PE X (.Call (.Name x p) [] [] pos) (zwd C sp dvs E wX):=by
 intro aa s Z H Q I h;refine xR (yM I hg hm ?_ hdb);exact YCB I.kIn M.kp (zp7 (us:=[]) M F hr hb hd hx I .nil h)
end
structure cZ(N P:List Str)(sc:Scope):Prop where
 kind:sc.kind=.function
 co:sc.isCoroutine=false
 gen:sc.isGenerator=false
 nd:N.Nodup
 pre:N.take P.length=P
 par:∀x∈P,sc.names.lookup x=some .local\/sc.names.lookup x=some .cell
 nofree:∀y∈sc.names,y.2≠.free
theorem zi0{kindOf:Str->Option NameKind}{x:Str}:∀{binds:List (Str×Value)}{m:Str->Option Value},(∀v,(x,v)∉binds)->bindL kindOf binds m x=m x
 |[],_,_=>rfl
 | (n,v)::r,m,h=>by
  unfold bindL;rw[zi0 λw hw=>h w (je _ hw)];split
  .have:x≠n:=by rintro rfl;exact h v gw
   simp[this]
  .rfl
theorem zjI{kindOf:Str->Option NameKind}{x:Str}:∀{binds:List (Str×Value)}{m:Str->Option Value},(∀v,(x,v)∉binds)->bindC kindOf binds m x=m x
 |[],_,_=>rfl
 | (n,v)::r,m,h=>by
  unfold bindC;rw[zjI λw hw=>h w (je _ hw)];split
  .rfl
  .have:x≠n:=by rintro rfl;exact h v gw
   simp[this]
theorem zi4{kindOf:Str->Option NameKind}{x:Str}{v:Value}:∀{P:List Str}{vs:List Value}{i:Nat}{m:Str->Option Value},P.Nodup->P[i]?=some x->vs[i]?=some v->kindOf x=some .local ->
  bindL kindOf (P.zip vs) m x=some v
 |[],_,_,_,_,h,_,_=>by simp at h
 |_::_,[],_,_,_,_,h,_=>by simp at h
 |p::P,w::vs,0,m,nd,h1,h2,hk=>by
  simp at h1 h2;subst h1;subst h2;show bindL kindOf ((p,w)::P.zip vs) m p=_;unfold bindL;rw[zi0 λv hv=>(YAP.mp nd).1 (YCC hv).1,if_pos hk]
  simp
 |p::P,w::vs,i+1,m,nd,h1,h2,hk=>by
  show bindL kindOf ((p,w)::P.zip vs) m x=_;unfold bindL;exact zi4 (i:=i) (YAP.mp nd).2 (by simpa using h1) (by simpa using h2) hk
theorem zj8{kindOf:Str->Option NameKind}{x:Str}{v:Value}:∀{P:List Str}{vs:List Value}{i:Nat}{m:Str->Option Value},P.Nodup->P[i]?=some x->vs[i]?=some v->kindOf x≠some .local ->
  bindC kindOf (P.zip vs) m x=some v
 |[],_,_,_,_,h,_,_=>by simp at h
 |_::_,[],_,_,_,_,h,_=>by simp at h
 |p::P,w::vs,0,m,nd,h1,h2,hk=>by
  simp at h1 h2;subst h1;subst h2;show bindC kindOf ((p,w)::P.zip vs) m p=_;unfold bindC;rw[zjI λv hv=>(YAP.mp nd).1 (YCC hv).1,if_neg hk]
  simp
 |p::P,w::vs,i+1,m,nd,h1,h2,hk=>by
  show bindC kindOf ((p,w)::P.zip vs) m x=_;unfold bindC;exact zj8 (i:=i) (YAP.mp nd).2 (by simpa using h1) (by simpa using h2) hk
def nC(N:List Str)(vs:List V):St:=vs.map some++List.replicate (N.length-vs.length) none
noncomputable def di(CX:mO)(P:Program)(w:World)(K:qo)(mg:Str->Option Value)(base:Heap)(N:List Str)(qual:Str)(scope:Scope)(f:Addr)(cd:Value)(A:Around)(outer:List Env)(s:Shared)(H:Hp)(E:XK):Cx where
 prog:=P
 w:=w
 K:=K
 mg:=mg
 base:=base
 A:=A.deeper (envOfC qual scope s.heap.objs.size f cd)
 N:=N
 s₀:=s
 H₀:=H
 env:=envOfC qual scope s.heap.objs.size f cd
 outer:=outer
 stack:=envOfC qual scope s.heap.objs.size f cd::outer
 ex:=[]
 calm:=true
 fn:=λ_=>true
 pn:=[]
 xe:=λe s'=>wpAny (model P w) (A.deeper (envOfC qual scope s.heap.objs.size f cd)) (leaving (envOfC qual scope s.heap.objs.size f cd) e) (λ_ s''=>CX outer H s E e s'') (λe' s''=>CX outer H s E e' s'') s'
def zlC{sc:Scope}{n:Nat}{x:Str}(h:sc.names.lookup x=some .cell):∃c,(cellsFrom n sc.names []).lookup x=some c:=by
 have q:=YCa sc.names n [] (.inl h);exact YB0.mp q
def zjd{CX:mO}{P:Program}{w:World}{K:qo}{mg:Str->Option Value}{base:Heap}{N ps:List Str}{qual:Str}{scope:Scope}{f:Addr}{cd:Value}{A:Around}{outer:List Env}{s s1:Shared}{H:Hp}{E:XK}{us:List Value}{vs:List V}
  (qj:cZ N ps scope) (hd:A.handled=none) (e0:nq P w K mg base A outer s H) (hl:vs.length=ps.length) (r:Vals vs us)
  (x:InCallC s s.heap.objs.size (bindL (envOfC qual scope s.heap.objs.size f cd).kindOf (ps.zip us) λ_=>none) (cellsFrom (s.heap.objs.size+1) scope.names []) (bindC (envOfC qual scope s.heap.objs.size f cd).kindOf (ps.zip us) λ_=>none) s1) :
  Inv (di CX P w K mg base N qual scope f cd A outer s H E) [] (nC N vs) H s1:=by
 have hpl:ps.length<=N.length:=by have:=congrArg List.length qj.pre;rw[DQ]at this;omega
 obtain⟨h1,tk,rfl,hk⟩:=x.done;have noA:∀b:Addr,b∉(di CX P w K mg base N qual scope f cd A outer s H E).ex:=λb z=>absurd (show b∈([]:List Addr)from z) (by simp);refine⟨⟨e0.mod,qj.kind,rfl,rfl,dJ _,λy z c h1 h2=>?_,λy hy=>?_,λy c _ h=>?_,λ_=>hd,Around.frames_deeper e0.frames,.inr ⟨rfl,rfl⟩,λb z=>absurd z (noA b),e0.bs,e0.bsz,λb _ _=>noA b,λb z=>absurd z (noA b),e0.funs,e0.frf⟩,
  rfl,e0.bare,Un.kept hk,⟨_,x.toInCall.ns,λi y v h1 h2 h3=>?_⟩,λy c h=>⟨_,x.cell y c h⟩,e0.hok.fresh (dJ _),λy c h=>?_,λp hp=>absurd (show p∈([]:List (Addr×Obj))from hp) (by simp),e0.hok.kept hk,?_⟩
 .exact name_of_addr x.apart (zK h1) (zK h2)
 .have hy:scope.names.lookup y=some .cell\/scope.names.lookup y=some .free:=hy;rcases hy with hy|hy
  .exact zlC hy
  .exact absurd rfl (qj.nofree _ (zK hy))
 .exact Nat.le_of_lt (x.above y c (zK h))
 .have hi:i<vs.length:=by
   unfold nC at h2;by_cases hi:i<vs.length
   .exact hi
   .rw[YBv (by simpa using hi)]at h2;rw[JD]at h2;split at h2<;>cases h2
  have ha:vs[i]?=some v:=by
   unfold nC at h2;rw[Dy (by simpa using hi),jG]at h2;cases e:vs[i]? with
   |none=>rw[e]at h2;cases h2
   |some a=>rw[e]at h2;cases h2;rfl
  obtain⟨u,hu,rv⟩:=r.get ha;have hp:ps[i]?=some y:=by
   rw[<-qj.pre,List.getElem?_take_of_lt (by omega)];exact h1
  have ndP:ps.Nodup:=by rw[<-qj.pre];exact qj.nd.sublist (List.take_sublist _ _)
  refine⟨u,rv,?_⟩;rcases qj.par y (YBW hp)with k|k
  .exact .inl ⟨k,zi4 ndP hp hu k⟩
  .obtain⟨c,e⟩:=zlC (n:=s.heap.objs.size+1) k;refine .inr ⟨.inl k,c,e,?_⟩;have q:=x.cell y c e;rw[zj8 ndP hp hu (by show scope.names.lookup y≠_;rw[k];decide)]at q;exact q
 .exact e0.hok.fresh (Nat.le_of_lt (x.above y c (zK h)))
 .unfold nC;show _=N.length;rw[iU,bW,List.length_replicate];omega
def zsD{CX:mO}{P:Program}{w:World}{K:qo}{mg:Str->Option Value}{base:Heap}{k:Nat}{f:Addr}{name qual:Str}{params:Arguments}{body:List Stmt}{scope:Scope}{dV kV doc pm cdv ct oc:Value}{an od:Option Addr}
  {osl:Array (Option Value)} {N ps:List Str} {sp:Sp} (lk:K.lookup f=some ⟨oc,od,.func (PySem.W.fnOf name qual params body scope dV kV doc pm an cdv ct),osl⟩) (hcd:PySem.W.codeIn K cdv qual=true) (qj:cZ N ps scope)
  (len:∀vs H Q E,sp vs H Q E->vs.length=ps.length)
  (hbody:∀(A:Around)(outer:List Env)(s:Shared)(H:Hp)(vs:List V)(Q:VK)(E:XK),bD k (A.deeper (envOfC qual scope s.heap.objs.size f cdv))->sp vs H Q E ->
   ∃t,lJ (di CX P w K mg base N qual scope f cdv A outer s H E) body t/\t {nx:=λ_ H'=>Q .non H',rt:=Q} (nC N vs) H) :
  aM P w K mg base CX (k+1) f (PySem.W.fnOf name qual params body scope dV kV doc pm an cdv ct) ps sp:=by
 refine⟨len,λA outer s H args us vs Q E hr e0 hb r hsp=>?_⟩;have hl:=len _ _ _ _ hsp;have KX:K.In s.heap:=e0.mod.kin.keeps λb o e=>(e0.bs b o e).1;have lim:s.heap.NoLimit:=e0.mod.nolimit.keeps λb o e=>(e0.bs b o e).1;have hkind:∀y∈ps.zip us,scope.names.lookup y.1=some .local\/(scope.names.lookup y.1=some .cell/\((cellsFrom (s.heap.objs.size+1) scope.names []).lookup y.1).isSome=true):=λ⟨n,v⟩ hy=>by
  rcases qj.par n (YCC hy).1 with q|q
  .exact .inl q
  .exact .inr ⟨q,YCa _ _ _ (.inl q)⟩
 refine codeAny_call_function hr.depth (KX _ _ lk) rfl qj.co qj.gen rfl (PySem.W.codeRec_of KX hcd) (hb _ _ _ _ ?_);refine wpAny_newFunctionEnv_cells qj.kind hkind λenv he s1 x=>?_;subst he;refine⟨lim.keeps x.toInCall.keep,codeAny_func ?_⟩;obtain⟨t,ht,hq⟩:=hbody A outer s H vs Q E (hr.deeper _) hsp;have I:Inv (di CX P w K mg base N qual scope f cdv A outer s H E) [] (nC N vs) H s1:=zjd qj hr.hd e0 hl r x;refine YAT (ht [] s1 (nC N vs) H _ I hq) (λfl s' hs=>?_) λe s' hs=>hs;have fin:∀{Z':St}{H':Hp}{v:V}{u:Value},Inv (di CX P w K mg base N qual scope f cdv A outer s H E) [] Z' H' s'->RelV v u->Q v H'->CE outer P w H s Q u s':=
  λ{Z' H' v u} J rv q=>⟨v,H',J.os,J.bare,J.base,J.hok,rv,q⟩
 cases fl with
 |ret u=>
  obtain⟨v,Z',H',J,rv,q⟩:=hs;exact fin J rv q
 |next=>
  obtain⟨Z',H',J,q⟩:=hs;exact fin (v:=V.non) (u:=Value.none) J rfl q
 |brk=>
  obtain⟨_,_,_,q⟩:=hs;exact False.elim q
 |cont=>
  obtain⟨_,_,_,q⟩:=hs;exact False.elim q
section
variable{X:Cx}{x:Str}{p pos:Pos}{e:Expr}{es:List Expr}{t:TA}{id T:String}{r:List V->Hp->VK->Prop}
def tCB(r:List V->Hp->VK->Prop)(t:TA):TE:=λZ H Q=>t Z H λvs H1=>r vs H1 Q
def JN(hc:cU X (.builtin id) r)(hg:Gl X x)(hm:X.mg x=none)(hv:bootBuiltins x=some (.builtin id))(ha:PA X (e::es) t)(hn:x≠"__name__":=by decide)(hdb:(x==("__debug__":Str))=false:=by decide)
  (he:starEach (e::es) X.env=(false,eval e X.env)::starEach es X.env:=by rfl) (hpl:(backTo pos (starEach es X.env)).any (·.1)=false:=by rfl):PE X (.Call (.Name x p) (e::es) [] pos) (tCB r t):=by
 intro aa s Z H Q I h;refine xR (Eo I hg hm hv ?_ hn hdb);exact PyProof.Rows.callWith_builtin1 (bF (ha pos aa s Z H _ I h) λus s1 ⟨vs,H1,I1,r1,q1⟩=>hc aa s1 Z H1 vs us Q I1 r1 q1) he hpl
def yH(hc:cU X (.type T) r)(hg:Gl X x)(hm:X.mg x=none)(hv:bootBuiltins x=some (.type T))(ha:PA X (e::es) t)(hn:x≠"__name__":=by decide)(hdb:(x==("__debug__":Str))=false:=by decide)
  (he:starEach (e::es) X.env=(false,eval e X.env)::starEach es X.env:=by rfl) (hpl:(backTo pos (starEach es X.env)).any (·.1)=false:=by rfl):PE X (.Call (.Name x p) (e::es) [] pos) (tCB r t):=by
 intro aa s Z H Q I h;refine xR (Eo I hg hm hv ?_ hn hdb);exact YBt (bF (ha pos aa s Z H _ I h) λus s1 ⟨vs,H1,I1,r1,q1⟩=>hc aa s1 Z H1 vs us Q I1 r1 q1) he hpl
end
end L2
namespace HT
open PySem PyProof.Rows
section
variable{prog:Program}{w:World}{A:Around}{E:Value->Shared->Prop}{s:Shared}
def xU(ht:IsTup s.heap t vs.toArray)(hb:IsTup s.heap b ws.toArray)(hv:vs≠[])
  (h1:ws=[]->Q (.ref t) s) (h2:ws≠[]->Q (.ref s.heap.objs.size) {s with heap:=s.heap.push {cls:=.type "tuple",data:=.seq (vs++ws).toArray}})
  (hsz:vs.length+ws.length<=sizeLine):wpAny (model prog w) A (binaryOp .Add (.ref t) (.ref b)) Q E s:=by
 obtain⟨⟨cls,dd,data,sl⟩,ho,hc,n,hd⟩:=id ht;obtain⟨⟨cls2,dd2,data2,sl2⟩,ho2,hc2,n2,hd2⟩:=id hb;simp only at hc hd hc2 hd2;subst hc hd hc2 hd2;have e:vs.toArray++ws.toArray=(vs++ws).toArray:=by simp
 by_cases hw:ws=[]
 .exact concat_meets ⟨_,ho,rfl⟩ ⟨_,ho2,rfl⟩ YCY seq_tuple_add YCb YB4 (YB1 _ _)
   (tuple_addW1 t b vs.toArray ws.toArray n n2 dd dd2 sl sl2 (by simpa using hv) (by simp[hw])) ⟨ho,ho2,h1 hw⟩
 .refine concat_meets ⟨_,ho,rfl⟩ ⟨_,ho2,rfl⟩ YCY seq_tuple_add YCb YB4 (YB1 _ _)
   (tuple_addW2 t b vs.toArray ws.toArray n n2 dd dd2 sl sl2 (by simpa using hv) (by simpa using hw) (by rw[jj,jj];exact hsz)) ⟨ho,ho2,?_⟩
  rw[e];exact h2 hw
def bY(n d:Nat):Option Int->Nat
 |none=>d
 |some v=>if v<0 then(v+(n:Int)).toNat else min v.toNat n
def uP(n d:Nat):bY n d none=d:=rfl
def jx(n d k:Nat):bY n d (some (k:Int))=min k n:=by
 show(if (k:Int)<0 then((k:Int)+(n:Int)).toNat else min (k:Int).toNat n)=min k n;rw[if_neg (by omega),Ed]
def zly(n d:Nat)(hd:d<=n)(o:Option Int):bY n d o<=n:=by
 cases o with
 |none=>exact hd
 |some v=>
  show(if v<0 then(v+(n:Int)).toNat else min v.toNat n)<=n;by_cases hv:v<0
  .rw[if_pos hv];omega
  .rw[if_neg hv];exact YCs _ _
def znp(v:Int)(n d:Nat):(if v<0 then max (v+(n:Int)) 0 else min v (n:Int))=((bY n d (some v):Nat):Int):=by
 show(if v<0 then max (v+(n:Int)) 0 else min v (n:Int))=(((if v<0 then(v+(n:Int)).toNat else min v.toNat n):Nat):Int);by_cases hv:v<0
 .simp only[if_pos hv];omega
 .simp only[if_neg hv];omega
def zmM(lo hi:Option Int)(n:Nat):Builtin.Slice.sliceAdjust lo hi 1 (n:Int)=(((bY n 0 lo:Nat):Int),((bY n n hi:Nat):Int)):=by
 have h1:¬ ((1:Int)<0):=by omega
 unfold Builtin.Slice.sliceAdjust;simp only[h1,um];refine Prod.ext ?_ ?_
 .cases lo with
  |none=>rfl
  |some v=>exact znp v n 0
 .cases hi with
  |none=>rfl
  |some v=>exact znp v n n
def zmu(i j:Nat):Builtin.Slice.slicePlaces (i:Int) (j:Int) 1=j-i:=by
 unfold Builtin.Slice.slicePlaces;have h1:(1:Int)>0:=by omega
 simp only[h1,uB,Int.ediv_one];split<;>omega
def zhQ{v:Value}{o:Option Int}{Q:Option Int->Shared->Prop}(p:IsPart v o)(h:Q o s):wpAny (model prog w) A (Builtin.Slice.slicePartIndex v) Q E s:=by
 cases p with
 |none=>exact slicePart_none h
 |int i t=>exact slicePart_int h
def zdY{sl:Addr}{vl vu:Value}{lo hi:Option Int}{n:Nat}{Q:Int×Int×Nat->Shared->Prop}(hs:s.heap.IsSliceOf sl vl vu .none)(pl:IsPart vl lo)(pu:IsPart vu hi)
  (h:Q (((bY n 0 lo:Nat):Int),1,bY n n hi-bY n 0 lo) s):wpAny (model prog w) A (Builtin.Slice.sliceApplied (.ref sl) (pure (n:Int))) Q E s:=by
 obtain⟨os,hos,hcs,hds⟩:=id hs;unfold Builtin.Slice.sliceApplied Builtin.Slice.sliceFields;refine aJ (aJ (YAF hos hds (x:=vl) rfl (aJ (YAF hos hds (x:=vu) rfl (aJ (YAF hos hds (x:=.none) rfl (bV ?_)))))));refine aJ (slicePart_none ?_);show wpAny _ _ (if ((1:Int)==0)=true then _ else _) _ _ s;rw[if_neg (by decide)];refine aJ (zhQ pl (aJ (zhQ pu (aJ (bV ?_)))));show wpAny _ _ (match Builtin.Slice.sliceAdjust lo hi 1 (n:Int)with|(lo,hi)=>pure (lo,(1:Int),Builtin.Slice.slicePlaces lo hi 1)) _ _ s;rw[zmM lo hi n];show wpAny _ _ (pure (((bY n 0 lo:Nat):Int),(1:Int),Builtin.Slice.slicePlaces ((bY n 0 lo:Nat):Int) ((bY n n hi:Nat):Int) 1)) _ _ s;rw[zmu];exact bV h
def zp2(xs:Array Value)(i k:Nat):((List.range k).filterMap λ(m:Nat)=>xs[((i:Int)+(m:Int)*1).toNat]?).toArray=((xs.toList.drop i).take k).toArray:=by
 have e:(λ(m:Nat)=>xs[((i:Int)+(m:Int)*1).toNat]?)=λm=>xs[i+m]?:=by
  funext m
  have:((i:Int)+(m:Int)*1).toNat=i+m:=by omega
  rw[this]
 rw[e]
 have:=pick_run xs i k
 rw[List.filterMap_map]at this;have e2:((λx=>xs[x]?)∘λx=>i+x)=λm=>xs[i+m]?:=rfl;rw[e2]at this;rw[this]
def jq{t sl:Addr}{items:Array Value}{vl vu:Value}{lo hi:Option Int}{Q:Value->Shared->Prop}(ht:IsTup s.heap t items)(hs:s.heap.IsSliceOf sl vl vu .none)(pl:IsPart vl lo)(pu:IsPart vu hi)
  (hw:¬ (bY items.size 0 lo=0/\bY items.size items.size hi=items.size))
  (h:Q (.ref s.heap.objs.size) {s with heap:=s.heap.push {cls:=.type "tuple",data:=.seq ((items.toList.drop (bY items.size 0 lo)).take (bY items.size items.size hi-bY items.size 0 lo)).toArray}})
  (hsz:items.size<=sizeLine):wpAny (model prog w) A (getItem (.ref t) (.ref sl)) Q E s:=by
 have htake:sizeOk (.seq ((items.toList.drop (bY items.size 0 lo)).take (bY items.size items.size hi-bY items.size 0 lo)).toArray):=by
  show((items.toList.drop (bY items.size 0 lo)).take (bY items.size items.size hi-bY items.size 0 lo)).toArray.size<=sizeLine;rw[jj,DQ,YCt,Ay];omega
 have hj:bY items.size items.size hi<=items.size:=zly _ _ (dJ _) hi;obtain⟨os,hos,hcs,hds⟩:=id hs;have hTs:s.TypeIs (.ref sl) "slice":=⟨os,hos,hcs⟩;unfold getItem
 try with_reducible refine YAW ?_
 first|refine aJ (bV ?_)|skip
 refine aJ (wpAny_sequenceKey ht.typeIs (by decide) ?_);refine aJ (YAH (name:=Str.ofString "__getitem__") ht.typeIs YAQ
  (uL YAQ ht.typeIs entry_tuple_getitem ?_ (args_tuple_getitem _ _)))
 show wpAny _ _ (Builtin.Tuple.tupleItemsOf (.ref t) >>= _) _ _ s;refine aJ (tupleItemsOf_ ht ?_);refine aJ (KD hTs ?_);rw[if_pos (by decide)];refine aJ (zdY hs pl pu ?_);have hno:¬ ((((bY items.size 0 lo:Nat):Int)==0&&(1:Int)==1&&(bY items.size items.size hi-bY items.size 0 lo)==items.size)=true):=by
  intro q;rw[YAB,YAB]at q;have q1:((bY items.size 0 lo:Nat):Int)=0:=eq_of_beq q.1.1;have q2:bY items.size items.size hi-bY items.size 0 lo=items.size:=eq_of_beq q.2;exact hw ⟨by omega,by omega⟩
 show wpAny _ _ (if (((bY items.size 0 lo:Nat):Int)==0&&(1:Int)==1&&(bY items.size items.size hi-bY items.size 0 lo)==items.size)=true then _ else _) _ _ s;rw[if_neg hno,zp2];first
  |exact aJ (m:=Builtin.Tuple.tupleExact _) (YAI (bV ⟨_,rfl,bV h⟩) htake)
  |exact aJ (m:=Builtin.Tuple.tupleExact _) (YAI (aJ (bV (bV ⟨_,rfl,bV h⟩))) htake)
  |exact aJ (aJ (m:=Builtin.Tuple.tupleExact _) (YAI (bV (bV ⟨_,rfl,bV h⟩)) htake))
  |exact aJ (aJ (m:=Builtin.Tuple.tupleExact _) (YAI (bV ⟨_,rfl,bV h⟩) htake))
end
end HT
namespace L2
open PySem PySem.Spec PyProof.Rows
abbrev TO:=St->Hp->(Option Int->Hp->Prop)->Prop
def PO(X:Cx)(e:Option Expr)(t:TO):Prop:=
 ∀(aa:List (Addr×Obj))(s:Shared)(Z:St)(H:Hp)(Q:Option Int->Hp->Prop),Inv X aa Z H s->t Z H Q ->
  wpAny (model X.prog X.w) X.A (evalPart e X.env) (λu s'=>∃o H',Inv X aa Z H' s'/\IsPart u o/\Q o H') X.xe s
def zrM:TO:=λ_ H Q=>Q none H
def zwl(t:TE):TO:=λZ H Q=>t Z H λx H1=>∃i,x=.int i/\Q (some i) H1
section
variable{X:Cx}{e:Expr}{te:TE}{lo hi:Option Expr}{tl th:TO}{pos p2:Pos}
def zoZ:PO X none zrM:=by
 intro aa s Z H Q I h;rw[evalPart_none];exact bV ⟨none,H,I,.none,h⟩
def zo0(h:PE X e te):PO X (some e) (zwl te):=by
 intro aa s Z H Q I hw;rw[evalPart_some];refine bF (h aa s Z H _ I hw) λu s1 ⟨x,H1,I1,r1,q1⟩=>?_;obtain⟨i,rfl,q⟩:=q1;obtain⟨t,rfl⟩:=r1;exact⟨some i,H1,I1,.int i t,q⟩
noncomputable def yf(X:Cx)(r:V->Option Int->Option Int->Hp->VK->Prop):Prop:=
 ∀(aa:List (Addr×Obj))(s:Shared)(Z:St)(H:Hp)(x:V)(v vl vu:Value)(lo hi:Option Int)(sl:Addr)(Q:VK),Inv X aa Z H s->RelV x v->s.heap.IsSliceOf sl vl vu .none->IsPart vl lo->IsPart vu hi->r x lo hi H Q ->
  ∃T id,typeLookup (.type T) "__getitem__"=pure (some (.builtin id))/\s.TypeIs v T/\wpAny (model X.prog X.w) X.A (getItem v (.ref sl)) (EP X aa Z Q) X.xe s
def yf.or{r r':V->Option Int->Option Int->Hp->VK->Prop}(h:yf X r)(h':yf X r'):yf X (λx lo hi H Q=>r x lo hi H Q\/r' x lo hi H Q):=by
 intro aa s Z H x v vl vu lo hi sl Q I rx hs pl pu q;rcases q with q|q
 .exact h aa s Z H x v vl vu lo hi sl Q I rx hs pl pu q
 .exact h' aa s Z H x v vl vu lo hi sl Q I rx hs pl pu q
def tSl(r:V->Option Int->Option Int->Hp->VK->Prop)(te:TE)(tl th:TO):TE:=λZ H Q=>te Z H λx H1=>tl Z H1 λl H2=>th Z H2 λu H3=>r x l u H3 Q
def zl0(hr:yf X r)(he:PE X e te)(hl:PO X lo tl)(hu:PO X hi th):PE X (.Subscript e (.Slice lo hi none p2) pos) (tSl r te tl th):=by
 intro aa s Z H Q I h;refine Subscript_ (bF (he aa s Z H _ I h) λv s1 ⟨x,H1,I1,r1,q1⟩=>?_);refine wpAny_Slice (bF (hl aa s1 Z H1 _ I1 q1) λvl s2 ⟨l,H2,I2,pl,q2⟩=>bF (hu aa s2 Z H2 _ I2 q2) λvu s3 ⟨u,H3,I3,pu,q3⟩=>?_);rw[evalPart_none];refine bV ?_;have I4:Inv X aa Z H3 {s3 with heap:=s3.heap.push {cls:=.type "slice",data:=.fields #[vl,vu,.none]}}:=I3.kept (t':=s3.toks) λb ob q=>dO _ q;obtain⟨T,id,hT,ht,hg⟩:=hr aa {s3 with heap:=s3.heap.push {cls:=.type "slice",data:=.fields #[vl,vu,.none]}} Z H3 x v vl vu l u s3.heap.objs.size Q I4 r1 (Heap.IsSliceOf.new ..) pl pu q3;show wpAny (model X.prog X.w) X.A (subscriptTail e (.Slice lo hi none p2) v (.ref s3.heap.objs.size)) (EP X aa Z Q) X.xe {s3 with heap:=s3.heap.push {cls:=.type "slice",data:=.fields #[vl,vu,.none]}};exact tail_any (ops:=[.ref s3.heap.objs.size,v]) ht hT hg (by with_unfolding_all rfl)
def jO(xs:List V)(lo hi:Option Int):List V:=(xs.drop (HT.bY xs.length 0 lo)).take (HT.bY xs.length xs.length hi-HT.bY xs.length 0 lo)
def zgG(xs:List V)(lo hi:Option Int):(jO xs lo hi).length<=xs.length:=by
 unfold jO;rw[DQ,YCt];omega
def rSlT(K:qo):V->Option Int->Option Int->Hp->VK->Prop:=λx lo hi H Q=>∃a xs,x=.ref a/\fX K H a xs /\
 ¬ (HT.bY xs.length 0 lo=0/\HT.bY xs.length xs.length hi=xs.length)/\∀p,H p=none->Q (.ref p) (upd H p (.tup (jO xs lo hi)))
def zuE:yf X (rSlT X.K):=by
 intro aa s Z H x v vl vu lo hi sl Q I rx hs pl pu h;obtain⟨a,xs,rfl,hx,hw,q⟩:=h;cases rx;obtain⟨its,r,ht,hz⟩:=I.tuple hx;have hlen:its.toArray.size=xs.length:=by rw[jj];exact r.length.symm
 refine⟨"tuple",_,YAQ.lookup,ht.typeIs,?_⟩;refine HT.jq ht hs pl pu (by rw[hlen];exact hw) ?_ (by rw[hlen];exact hz);rw[hlen];refine⟨.ref s.heap.objs.size,_,I.laid (t':=s.toks) (o:=.tup (jO xs lo hi)) (λb ob q=>dO _ q) (dJ _) ?_,rfl,q _ (I.hok.fresh (dJ _))⟩;exact⟨iu (zgG xs lo hi) hz,_,(r.drop (HT.bY xs.length 0 lo)).take (HT.bY xs.length xs.length hi-HT.bY xs.length 0 lo),IsTup.new _ _⟩
def zvG(K:qo):R2:=λx y H Q=>∃a b xs ys,x=.ref a/\y=.ref b/\fX K H a xs/\fX K H b ys/\xs≠[]/\xs.length+ys.length<=sizeLine /\
 (ys=[]->Q (.ref a) H)/\(ys≠[]->∀p,H p=none->Q (.ref p) (upd H p (.tup (xs++ys))))
def Vals.nil_iff(r:Vals xs us):us=[]↔xs=[]:=by
 cases r with
 |nil=>simp
 |cons _ _=>simp
def zrX:fL X (binaryOp .Add) (zvG X.K):=by
 intro aa s Z H x y v u Q I rx ry h;obtain⟨a,b,xs,ys,rfl,rfl,ha,hb,hx,hz,q1,q2⟩:=h;cases rx;cases ry;obtain⟨its,r1,p1,_⟩:=I.tuple ha;obtain⟨its2,r2,p2,_⟩:=I.tuple hb;refine HT.xU p1 p2 (λz=>hx (r1.nil_iff.mp z)) (λz=>⟨.ref a,H,I,rfl,q1 (r2.nil_iff.mp z)⟩) (λz=>?_) (by rw[<-r1.length,<-r2.length];exact hz);refine⟨.ref s.heap.objs.size,_,I.laid (t':=s.toks) (o:=.tup (xs++ys)) (λb ob q=>dO _ q) (dJ _) ?_,rfl,q2 (λw=>z (r2.nil_iff.mpr w)) _ (I.hok.fresh (dJ _))⟩;exact⟨by rw[iU];exact hz,_,r1.append r2,IsTup.new _ _⟩
end
def rW(n:Nat)(i:Int):Option Nat:=if 0<=i then(if i<n then some i.toNat else none)else if -(n:Int)<=i then some (i+n).toNat else none
def gR{α:Type}(xs:List α)(i:Int):Option α:=(rW xs.length i).bind λj=>xs[j]?
def zn9(h:rW n i=some j):seqIndex? i n=some j/\j<n/\-(n:Int)<=i/\i<n:=by
 unfold rW at h;by_cases h0:0<=i
 .rw[if_pos h0]at h;by_cases h1:i<n
  .rw[if_pos h1]at h;have e:i.toNat=j:=Option.some.inj h;exact⟨by rw[seqIndex_of h0 h1,e],by omega,by omega,h1⟩
  .rw[if_neg h1]at h;cases h
 .rw[if_neg h0]at h;by_cases h1:-(n:Int)<=i
  .rw[if_pos h1]at h;have e:(i+n).toNat=j:=Option.some.inj h;exact⟨by rw[seqIndex_neg (by omega) h1,e],by omega,h1,by omega⟩
  .rw[if_neg h1]at h;cases h
def zkp{α:Type}{xs:List α}{i:Int}{v:α}(h:gR xs i=some v):∃j,seqIndex? i xs.length=some j/\xs[j]?=some v/\j<xs.length/\-(xs.length:Int)<=i/\i<xs.length:=by
 unfold gR at h;cases e:rW xs.length i with
 |none=>rw[e]at h;cases h
 |some j=>
  rw[e]at h;obtain⟨h1,h2,h3,h4⟩:=zn9 e;exact⟨j,h1,h,h2,h3,h4⟩
def gF{α:Type}{xs:List α}{j:Nat}{v:α}(h:xs[j]?=some v):gR xs (j:Int)=some v:=by
 have hj:j<xs.length:=(jB.mp h).1;have e:rW xs.length (j:Int)=some j:=by
  unfold rW;rw[if_pos (by omega),if_pos (by omega)];simp
 unfold gR;rw[e];exact h
def zkv(b:Expr):Prop:=∀o i,subscripted b false o i=operate [o,i] (getItem o i)
noncomputable def xr(X:Cx)(r:R2):Prop:=
 ∀(value slice:Expr)(aa:List (Addr×Obj))(s:Shared)(Z:St)(H:Hp)(x y:V)(v u:Value)(Q:VK),Inv X aa Z H s->RelV x v->RelV y u->r x y H Q ->
  subscripted slice false v u=operate [v,u] (getItem v u)->wpAny (model X.prog X.w) X.A (subscriptTail value slice v u) (EP X aa Z Q) X.xe s
def Jt(X:Cx)(id:String)(r:V->List V->Hp->VK->Prop):Prop:=
 ∀(aa:List (Addr×Obj))(s:Shared)(Z:St)(H:Hp)(x:V)(xs:List V)(v:Value)(us:List Value)(Q:VK),Inv X aa Z H s->RelV x v->Vals xs us->r x xs H Q ->
  wpAny (model X.prog X.w) X.A (call (.builtin id) (v::us)) (EP X aa Z Q) X.xe s
section
variable{X:Cx}{a b:Expr}{ta tb:TE}{pos:Pos}
def xr.or{r r':R2}(h:xr X r)(h':xr X r'):xr X (λx y H Q=>r x y H Q\/r' x y H Q):=by
 intro value slice aa s Z H x y v u Q I rx ry q hs;rcases q with q|q
 .exact h value slice aa s Z H x y v u Q I rx ry q hs
 .exact h' value slice aa s Z H x y v u Q I rx ry q hs
def vL(hr:xr X r)(ha:PE X a ta)(hb:PE X b tb)(hs:zkv b):PE X (.Subscript a b pos) (Hc r ta tb):=by
 intro aa s Z H Q I h;exact Subscript_ (Aq ha hb I h λv u s2 x y H2 I2 rx ry q=>hr a b aa s2 Z H2 x y v u Q I2 rx ry q (hs _ _))
def Jm(K:qo):R2:=λx y H Q=>∃p xs i v,x=.ref p/\y=.int i/\cA K H p xs/\gR xs i=some v/\Q v H
def Gq(K:qo):R2:=λx y H Q=>∃p xs i v,x=.ref p/\y=.int i/\fX K H p xs/\gR xs i=some v/\Q v H
def Gv:R2:=λx y H Q=>∃z i c,x=.str z/\y=.int i/\z.length<=sizeLine/\gR z.cps.toList i=some c/\Q (.str ⟨#[c]⟩) H
def dH:xr X (Jm X.K):=by
 intro value slice aa s Z H x y v u Q I rx ry h hs;obtain⟨p,xs,i,z,rfl,rfl,hq,he,q⟩:=h;cases rx;obtain⟨t,rfl⟩:=ry;obtain⟨its,r,pl,hz⟩:=I.list hq;obtain⟨j,h1,h2,h3,h4,h5⟩:=zkp he;obtain⟨w,ew,rw'⟩:=r.get h2;have hl:=r.length;have hn:=zc;have fin:EP X aa Z Q w s:=⟨z,H,I,rw',q⟩;by_cases h0:0<=i
 .have hj:i.toNat=j:=by
   rw[seqIndex_of h0 h5]at h1;exact Option.some.inj h1
  exact item_listR pl.isList h0 (by omega) (by rw[hj];simpa using ew) fin hs
 .have hj:(i+(its.toArray.size:Int)).toNat=j:=by
   rw[seqIndex_neg (by omega) h4]at h1;rw[jj,<-hl];exact Option.some.inj h1
  exact subscriptTail_builtinR (x:=w) pl.isList.typeIs slot_list_getitem.lookup
   (wpAny_getItem_list_neg (Q:=λr s'=>r=w/\EP X aa Z Q r s') pl.isList (by omega) (by rw[jj]<;>omega) (by omega) (by rw[hj];simpa using ew) ⟨rfl,fin⟩) hs
def Bp:xr X (Gq X.K):=by
 intro value slice aa s Z H x y v u Q I rx ry h hs;obtain⟨p,xs,i,z,rfl,rfl,hq,he,q⟩:=h;cases rx;obtain⟨t,rfl⟩:=ry;obtain⟨its,r,pl,hz⟩:=I.tuple hq;obtain⟨j,h1,h2,h3,h4,h5⟩:=zkp he;obtain⟨w,ew,rw'⟩:=r.get h2;have hl:=r.length;have hn:=zc;have fin:EP X aa Z Q w s:=⟨z,H,I,rw',q⟩;exact subscriptTail_builtinR (x:=w) pl.typeIs slot_tuple_getitem.lookup
  (getItem_tuple (j:=j) (Q:=λr s'=>r=w/\EP X aa Z Q r s') pl (by omega) (by omega) (by rw[jj,<-hl];exact h1) (by simpa using ew) ⟨rfl,fin⟩) hs
def ztZ:xr X Gv:=by
 intro value slice aa s Z H x y v u Q I rx ry h hs;obtain⟨z,i,c,rfl,rfl,hz,he,q⟩:=h;obtain⟨t,rfl⟩:=rx;obtain⟨t',rfl⟩:=ry;obtain⟨j,h1,h2,h3,h4,h5⟩:=zkp he;have hl:z.cps.toList.length=z.length:=by simp[Str.length]
 rw[hl]at h1 h4 h5;have hn:=zc;exact tail_any (Cy s z t) slot_str_getitem.lookup (getItem_str (c:=c) (by
  have e1:decide (i < -(2^63:Int))=false:=gV (by omega);have e2:decide (i ≥ 2^63)=false:=gV (by omega);rw[e1,e2,Bool.or_false]) (by rw[h1];simpa using h2) ⟨.str ⟨#[c]⟩,H,I.tok _,⟨_,rfl⟩,q⟩) hs
def rIx(K:qo):R2:=λx y H Q=>Jm K x y H Q\/Gq K x y H Q\/Gv x y H Q
def zrc:xr X (rIx X.K):=dH.or (Bp.or ztZ)
def zmE(its:List Value)(n j:Nat)(u:Value):Obj.mapSeq (·.setIfInBounds j u) {cls:=.type "list",data:=.seq its.toArray n}={cls:=.type "list",data:=.seq (its.set j u).toArray n}:=by
 simp[Obj.mapSeq]
theorem Inv.lst{aa:List (Addr×Obj)}{Z:St}{H:Hp}{s:Shared}{p:Addr}{xs:List V}(I:Inv X aa Z H s)(h:H p=some (.lst xs)) :
  ∃(its:List Value)(n:Nat),Vals xs its/\s.heap.get? p=some {cls:=.type "list",data:=.seq its.toArray n}/\xs.length<=sizeLine:=by
 obtain⟨z,its,n,r,e⟩:=I.hok p _ h;exact⟨its,n,r,e,z⟩
def Inv.lstUpd{aa:List (Addr×Obj)}{Z:St}{H:Hp}{s:Shared}{p:Addr}{xs ys:List V}{its its':List Value}{n n':Nat}{f:Obj->Obj}(I:Inv X aa Z H s)(h:H p=some (.lst xs))
  (ho:s.heap.get? p=some {cls:=.type "list",data:=.seq its.toArray n}) (hf:f {cls:=.type "list",data:=.seq its.toArray n}={cls:=.type "list",data:=.seq its'.toArray n'}) (r:Vals ys its') (hz:ys.length<=sizeLine) (t:Nat) :
  Inv X aa Z (upd H p (.lst ys)) {s with heap:=s.heap.update p f,toks:=t}:=by
 have e:(s.heap.update p f).get? p=some {cls:=.type "list",data:=.seq its'.toArray n'}:=by
  rw[YAR f ho (by rw[hf]<;>rfl),hf]
 refine I.write (x:=p) (e:=p) (by rw[h];trivial) (.inl rfl) (λb u hb q=>(YAJ _ _ (YAM hb)).trans q) ⟨_,e⟩ ?_;exact⟨hz,its',n',r,e⟩
def zwa:V->V->V->Hp->(Hp->Prop)->Prop:=λo i v H Q=>∃p xs k j,o=.ref p/\i=.int k/\H p=some (.lst xs)/\rW xs.length k=some j/\Q (upd H p (.lst (xs.set j v)))
def G8:zY X zwa:=by
 intro aa s Z H o i v ov iv u Q I ro ri rv h;obtain⟨p,xs,k,j,rfl,rfl,hp,hj,q⟩:=h;cases ro;obtain⟨t,rfl⟩:=ri;obtain⟨its,n,r,ho,hz⟩:=I.lst hp;obtain⟨h1,h2,h3,h4⟩:=zn9 hj;have hl:=r.length;have hn:=zc;have I':Inv X aa Z (upd H p (.lst (xs.set j v))) {s with heap:=s.heap.update p (Obj.mapSeq (·.setIfInBounds j u))}:=
  I.lstUpd hp ho (zmE its n j u) (r.set rv j) (by rw[Hx];exact hz) s.toks
 by_cases h0:0<=k
 .have hk:k.toNat=j:=by
   rw[seqIndex_of h0 h4]at h1;exact Option.some.inj h1
  exact PySem.W.ki_setAt ho h0 (by omega) (by rw[jj,<-hl];exact h4) (by rw[hk];exact⟨_,I',q⟩)
 .have hk:(k+(its.toArray.size:Int)).toNat=j:=by
   rw[seqIndex_neg (by omega) h3]at h1;rw[jj,<-hl];exact Option.some.inj h1
  exact PySem.W.ki_setBack ho (by omega) (by rw[jj,<-hl];exact h3) (by omega) (by rw[hk];exact⟨_,I',q⟩)
def zjO(lo hi:Option Int)(n:Nat):(sliceBounds lo hi none n).1=((HT.bY n 0 lo:Nat):Int)/\(sliceBounds lo hi none n).2.1=((HT.bY n n hi:Nat):Int)/\(sliceBounds lo hi none n).2.2=1:=by
 refine⟨?_,?_,rfl⟩
 .cases lo with
  |none=>simp[sliceBounds,HT.bY]
  |some i=>
   simp only[sliceBounds,HT.bY,Option.getD_none,show(1:Int)>0 by decide,uB];by_cases h:i<0
   .simp only[h,uB]<;>omega
   .simp only[h,um]<;>omega
 .cases hi with
  |none=>simp[sliceBounds,HT.bY]
  |some i=>
   simp only[sliceBounds,HT.bY,Option.getD_none,show(1:Int)>0 by decide,uB];by_cases h:i<0
   .simp only[h,uB]<;>omega
   .simp only[h,um]<;>omega
def zib(its:List Value)(lo hi:Option Int):slicePick its.toArray lo hi none=((its.drop (HT.bY its.length 0 lo)).take (HT.bY its.length its.length hi-HT.bY its.length 0 lo)).toArray:=by
 obtain⟨h1,h2,h3⟩:=zjO lo hi its.toArray.size;unfold slicePick;rw[h1,h2,h3];simp only[sliceRange_one,pick_run,jj]<;>rfl
def rSlL(K:qo):V->Option Int->Option Int->Hp->VK->Prop:=λx lo hi H Q=>∃a xs,x=.ref a/\cA K H a xs/\∀p,H p=none->Q (.ref p) (upd H p (.lst (jO xs lo hi)))
def qT:yf X (rSlL X.K):=by
 intro aa s Z H x v vl vu lo hi sl Q I rx hs pl pu h;obtain⟨a,xs,rfl,hx,q⟩:=h;cases rx;obtain⟨its,r,ht,hz⟩:=I.list hx;have hlen:=r.length;refine⟨"list",_,slot_list_getitem.lookup,ht.isList.typeIs,?_⟩;refine wpAny_getItem_list_slice ht.isList hs pl pu .none (by simp) ?_ (by rw[jj]<;>omega);rw[zib,<-hlen];refine⟨.ref s.heap.objs.size,_,I.laid (t':=s.toks) (o:=.lst (jO xs lo hi)) (λb ob q=>dO _ q) (dJ _) ?_,rfl,q _ (I.hok.fresh (dJ _))⟩;exact⟨iu (zgG xs lo hi) hz,_,0,(r.drop (HT.bY xs.length 0 lo)).take (HT.bY xs.length xs.length hi-HT.bY xs.length 0 lo),jF _ rfl⟩
def zi6:fL X (compareOp .NotIn) (λx y H Q=>∃i j,x=.str i/\y=.str j/\Q (.bl (!(!(Builtin.Str.occurrences j i 0 j.length 1).isEmpty))) H):=by
 intro aa s Z H x y v u Q I rx ry h;obtain⟨i,j,rfl,rfl,q⟩:=h;obtain⟨t,rfl⟩:=rx;obtain⟨t',rfl⟩:=ry;exact notIn_str ⟨.bl _,H,I,rfl,q⟩
def jl:cU X (.builtin "len") (λxs H Q=>∃p ys,xs=[.ref p]/\(cA X.K H p ys\/fX X.K H p ys)/\Q (.int ys.length) H):=by
 intro aa s Z H xs us Q I r h;obtain⟨p,ys,rfl,hq,q⟩:=h;obtain⟨u,rfl,rx⟩:=qK r;cases rx;have hn:=zc;rcases hq with hq|hq
 .obtain⟨its,r',pl,hz⟩:=I.list hq;have hlen:=r'.length;exact Calls.call_len_list pl.isList (by simp only[jj]<;>omega) ⟨.int ys.length,H,I.tok _,⟨s.toks+1,by rw[jj,hlen]⟩,q⟩
 .obtain⟨its,r',pl,hz⟩:=I.tuple hq;have hlen:=r'.length;exact len_tuple pl (by simp only[jj]<;>omega) ⟨.int ys.length,H,I.tok _,⟨s.toks+1,by rw[jj,hlen]⟩,q⟩
def zjf:cU X (.builtin "len") (λxs H Q=>∃z,xs=[.str z]/\z.length<=sizeLine/\Q (.int z.length) H):=by
 intro aa s Z H xs us Q I r h;obtain⟨z,rfl,hz,q⟩:=h;obtain⟨u,rfl,t,rfl⟩:=qK r;have hn:=zc;exact len_str (by omega) ⟨.int z.length,H,I.tok _,⟨_,rfl⟩,q⟩
def cU.or{f:Value}{r r':List V->Hp->VK->Prop}(h:cU X f r)(h':cU X f r'):cU X f (λxs H Q=>r xs H Q\/r' xs H Q):=by
 intro aa s Z H xs us Q I rs q;rcases q with q|q
 .exact h aa s Z H xs us Q I rs q
 .exact h' aa s Z H xs us Q I rs q
def zea:cU X (.type "list") (λxs H Q=>∃p ys,xs=[.ref p]/\(cA X.K H p ys\/fX X.K H p ys)/\∀l,H l=none->Q (.ref l) (upd H l (.lst ys))):=by
 intro aa s Z H xs us Q I r h;obtain⟨p,ys,rfl,hq,q⟩:=h;obtain⟨u,rfl,rx⟩:=qK r;cases rx;have fin:∀(its:List Value),Vals ys its->ys.length<=sizeLine->∀(h':Heap)(c':Nat),(∀b o',s.heap.get? b=some o'->h'.get? b=some o') ->
   h'.get? s.heap.objs.size=some {cls:=.type "list",dict:=none,data:=.seq its.toArray c',slots:=#[]}->EP X aa Z Q (.ref s.heap.objs.size) {s with heap:=h'}:=λits r' hz h' c' kp e=>
  ⟨.ref s.heap.objs.size,_,I.laid (t':=s.toks) kp (dJ _) (show cg X.prog X.w _ h' _ (.lst ys)from⟨hz,its,c',r',e⟩),rfl,q _ (I.hok.fresh (dJ _))⟩
 rcases hq with hq|hq
 .obtain⟨its,r',pl,hz⟩:=I.list hq;have hlen:=r'.length;obtain⟨o,ho,hc,n,hd⟩:=pl.isList;exact call_list_seq p (.inl rfl) ho hc hd (λh' c' kp e=>fin its r' hz h' c' kp e) (by simp only[jj]<;>omega)
 .obtain⟨its,r',pl,hz⟩:=I.tuple hq;have hlen:=r'.length;obtain⟨o,ho,hc,n,hd⟩:=pl;exact call_list_seq p (.inr rfl) ho hc hd (λh' c' kp e=>fin its r' hz h' c' kp e) (by simp only[jj]<;>omega)
def zhV:cU X (.type "tuple") (λxs H Q=>∃p ys,xs=[.ref p]/\((cA X.K H p ys/\∀l,H l=none->Q (.ref l) (upd H l (.tup ys)))\/(fX X.K H p ys/\Q (.ref p) H))):=by
 intro aa s Z H xs us Q I r h;obtain⟨p,ys,rfl,h⟩:=h;obtain⟨u,rfl,rx⟩:=qK r;cases rx;rcases h with⟨hq,q⟩|⟨hq,q⟩
 .obtain⟨its,r',pl,hz⟩:=I.list hq;have hlen:=r'.length;refine call_tuple_list pl.isList (λh' kp=>?_) (by simp only[jj]<;>omega);have I1:Inv X aa Z H {s with heap:=h'}:=I.kept (t':=s.toks) kp;have I2:Inv X aa Z (upd H h'.objs.size (.tup ys)) {s with heap:=h'.push {cls:=.type "tuple",data:=.seq its.toArray}}:=
   I1.laid (t':=s.toks) (λb o e=>dO _ e) (dJ _) (show cg X.prog X.w _ _ _ (.tup ys)from⟨hz,its,r',IsTup.new _ _⟩)
  exact⟨.ref h'.objs.size,_,I2,rfl,q _ (I1.hok.fresh (dJ _))⟩
 .obtain⟨its,r',pl,hz⟩:=I.tuple hq;exact call_tuple_same pl ⟨.ref p,H,I,rfl,q⟩
noncomputable def tyV(K:qo)(T:String)(x:V)(H:Hp):Prop:=match x with
 |.str _=>T="str"
 |.int _=>T="int"
 |.ref p=>(T="list" /\ ∃xs,cA K H p xs)\/(T="tuple" /\ ∃o,K.lookup p=some o/\o.cls=.type "tuple" /\ o.dict=none) \/
   (T="dict" /\ ((∃kvs,H p=some (.dK kvs))\/∃kvs,H p=some (.dT kvs)))\/(T="set" /\ ∃qj n,H p=some (.set qj n))
 |_=>False
def zu2(I:Inv X aa Z H s)(r:RelV x v)(ty:tyV X.K T x H) :
  s.TypeIs v T/\∀a,v=.ref a->∃ob,s.heap.get? a=some ob/\ob.dict=none:=by
 cases x with
 |str z=>
  obtain⟨t,rfl⟩:=r;cases (show T="str" from ty);exact⟨Cy s z t,λ_ e=>nomatch e⟩
 |int i=>
  obtain⟨t,rfl⟩:=r;cases (show T="int" from ty);exact⟨typeIs_int s i t,λ_ e=>nomatch e⟩
 |ref p=>
  cases r;rcases ty with⟨rfl,xs,hq⟩|⟨rfl,o,hk,hc,hd⟩|⟨rfl,hk⟩|⟨rfl,qj,n,hk⟩
  .obtain⟨its,_,pl,_⟩:=I.list hq;refine⟨pl.isList.typeIs,λa e=>?_⟩;cases e;obtain⟨o,n,e,c,hd,_⟩:=pl;exact⟨o,e,hd⟩
  .refine⟨⟨o,I.kIn p o hk,hc⟩,λa e=>?_⟩;cases e;exact⟨o,I.kIn _ o hk,hd⟩
  .have z:∃o,s.heap.get? p=some o/\o.ExactDict:=by
    rcases hk with⟨kvs,hk⟩|⟨kvs,hk⟩
    .obtain⟨_,_,_,_,o,_,_,e,ex,_⟩:=I.hok p _ hk;exact⟨o,e,ex⟩
    .obtain⟨_,_,_,_,o,_,_,e,ex,_⟩:=I.hok p _ hk;exact⟨o,e,ex⟩
   obtain⟨o,e,ex⟩:=z;refine⟨⟨o,e,ex.1⟩,λa e2=>?_⟩;cases e2;exact⟨o,e,ex.2.1⟩
  .obtain⟨o,_,_,_,e,ex,_⟩:=I.hok p _ hk;refine⟨⟨o,e,ex.1⟩,λa e2=>?_⟩;cases e2;exact⟨o,e,ex.2.1⟩
 |_=>exact False.elim ty
def tBM(K:qo)(T:String)(r:V->List V->Hp->VK->Prop)(to:TE)(t:TA):TE:=λZ H Q=>to Z H λx H1=>tyV K T x H1/\t Z H1 λxs H2=>r x xs H2 Q
variable{o e:Expr}{es:List Expr}{to:TE}{t:TA}{name:Str}{apos cpos:Pos}{T id:String}{r:V->List V->Hp->VK->Prop}
def zpQ(pa:PlainAttrs T)(slot:Slot T name id)(hty:typeOf (.builtin id)=pure (.type "method_descriptor"))(hm:Jt X id r)(ho:PE X o to)(ha:PA X (e::es) t)
  (hbase:attributeBase o name X.env (eval o X.env)=eval o X.env:=by rfl)
  (hfew:((backTo cpos (starEach (e::es) X.env)).all (λx=>!x.1)&&(backToKw cpos (keywordEach [] X.env)).all (λx=>x.1.isSome)
   && decide ((e::es).length+([]:List Keyword).length+(if ([]:List Keyword).isEmpty then 0 else 1)<30))=true:=by rfl)
  (hline:(apos.endLine==cpos.line)=true:=by rfl) (hs:starEach (e::es) X.env=(false,eval e X.env)::starEach es X.env:=by rfl) (hplain:(backTo cpos (starEach es X.env)).any (·.1)=false:=by rfl) :
  PE X (.Call (.Attribute o name apos) (e::es) [] cpos) (tBM X.K T r to t):=by
 intro aa s Z H Q I h;refine wpAny_Call_method_late hbase hfew hline rfl (bF (ho aa s Z H _ I h) λv s1 ⟨x,H1,I1,r1,ty,q1⟩=>?_);obtain⟨h1,h2⟩:=zu2 I1 r1 ty;refine⟨T,id,pa,slot,hty,h1,h2,?_⟩;have hA:=ha cpos aa s1 Z H1 _ I1 q1;rw[hs]at hA ⊢;refine Calls.callWith_builtin (by show(false || (backTo cpos (starEach es X.env)).any (·.1))=false;rw[hplain]<;>rfl) (Calls.evalArgs_plain ?_);exact bF hA λus s2 ⟨vs,H2,I2,r2,q2⟩=>hm aa s2 Z H2 x vs v us Q I2 r1 r2 q2
end
def MtM(X:Cx)(id:String)(r:V->List V->Hp->VK->Prop):Prop:=
 ∀(aa:List (Addr×Obj))(s:Shared)(Z:St)(H:Hp)(x:V)(xs:List V)(v:Value)(us:List Value)(Q:VK),Inv X aa Z H s->RelV x v->Vals xs us->r x xs H Q ->
  wpAny (model X.prog X.w) X.A (call (.builtin id) (v::us)) (EP X aa Z Q) X.xe s
def Vals.one:∀{x:V}{us:List Value},Vals [x] us->∃u,us=[u]/\RelV x u
 |_,_,.cons r .nil=>⟨_,rfl,r⟩
theorem Vals.rep(h:Vals xs us):∀k:Nat,Vals (List.replicate k xs).flatten (List.replicate k us).flatten
 |0=>.nil
 |k+1=>by
  rw[yK,yK,BL,BL];exact Vals.append h (Vals.rep h k)
theorem ziY(its:List Value):∀(k:Nat)(acc:List Value),
  List.foldl (λx1 x2=>x1++x2) acc.toArray (List.replicate k its.toArray)=(acc++(List.replicate k its).flatten).toArray
 |0,acc=>by simp
 |k+1,acc=>by
  have e:acc.toArray++its.toArray=(acc++its).toArray:=by simp
  have e2:(acc++its)++(List.replicate k its).flatten=acc++(List.replicate (k+1) its).flatten:=by
   rw[yK,BL,YCh]
  rw[<-e2,<-ziY its k (acc++its),<-e,yK,List.foldl_cons]
section
variable{X:Cx}{aa:List (Addr×Obj)}{Z:St}{H:Hp}{s:Shared}{l b:Addr}{xs ys zs:List V}
def Inv.lset{its its':List Value}{n:Nat}{f:Array Value->Array Value}{t':Nat}(I:Inv X aa Z H s)(hH:H l=some (.lst xs))
  (e:s.heap.get? l=some {cls:=.type "list",data:=.seq its.toArray n}) (hf:f its.toArray=its'.toArray) (hv:Vals ys its') (hz:ys.length<=sizeLine) :
  Inv X aa Z (upd H l (.lst ys)) {s with heap:=s.heap.update l (Obj.mapSeq f),toks:=t'}:=by
 have q:=PySem.IsL.update e f;rw[hf]at q;refine I.write (x:=l) (e:=l) (by rw[hH];exact trivial) (.inl rfl) (λb' u hb hu=>(YAJ s.heap (Obj.mapSeq f) (YAM hb)).trans hu) ⟨_,q⟩ ?_;exact⟨hz,its',_,hv,q⟩
def Inv.lnew(I:Inv X aa Z H s)(hv:Vals ys its)(hz:ys.length<=sizeLine) :
  Inv X aa Z (upd H s.heap.objs.size (.lst ys)) {s with heap:=s.heap.push {cls:=.type "list",data:=.seq its.toArray},toks:=t'}:=
 I.laid (λ_ _ q=>dO _ q) (dJ _) ⟨hz,its,0,hv,jF _ rfl⟩
theorem Inv.fresh(I:Inv X aa Z H s):H s.heap.objs.size=none:=I.hok.fresh (dJ _)
def Inv.lstM(I:Inv X aa Z H s)(hH:H l=some (.lst xs)):xs.length<=sizeLine/\∃(its:List Value)(n:Nat),Vals xs its/\xs.length=its.length/\s.heap.get? l=some {cls:=.type "list",data:=.seq its.toArray n}:=by
 obtain⟨z,its,n,r,e⟩:=I.hok l _ hH;exact⟨z,its,n,r,r.length,e⟩
def zpn{n:Nat}(h:n<=sizeLine):Builtin.List.listTooLong n=false:=by
 unfold Builtin.List.listTooLong;exact gV (by omega)
end
section
variable{X:Cx}
def zsc:V->List V->Hp->VK->Prop:=λx vs H Q=>∃l xs y,x=.ref l/\vs=[y]/\H l=some (.lst xs)/\xs.length<sizeLine/\Q .non (upd H l (.lst (xs++[y])))
def zgK:MtM X "list.append" zsc:=by
 intro aa s Z H x vs v us Q I rx rv h;obtain⟨l,xs,y,rfl,rfl,hH,hz,q⟩:=h;cases rx;obtain⟨u,rfl,ru⟩:=rv.one;obtain⟨z,its,n,r,hl,e⟩:=I.lstM hH;refine Bs F.slot_list_append ⟨_,e,rfl⟩ F.entry_list_append (F.args_list_append_2 _ _) (PySem.list_append l its.toArray n u (by rw[jj];omega)) ⟨e,?_⟩;refine⟨.non,_,I.lset (its':=its++[u]) hH e (by simp) (r.append (.cons ru .nil)) ?_,rfl,q⟩;rw[iU,YCn];omega
def Kh:R2:=λx y H Q=>∃l b xs zs,x=.ref l/\y=.ref b/\H l=some (.lst xs)/\H b=some (.lst zs)/\xs.length+zs.length<=sizeLine/\∀p,H p=none->Q (.ref p) (upd H p (.lst (xs++zs)))
def u9:fL X (binaryOp .Add) Kh:=by
 intro aa s Z H x y v u Q I rx ry h;obtain⟨l,b,xs,zs,rfl,rfl,hH,hB,hz,q⟩:=h;cases rx;cases ry;obtain⟨z,its,n,r,hl,e⟩:=I.lstM hH;obtain⟨z2,its2,n2,r2,hl2,e2⟩:=I.lstM hB;refine PySem.P.add_list e e2 ?_ (by rw[jj,jj];omega);have ea:its.toArray++its2.toArray=(its++its2).toArray:=by simp
 rw[ea];exact⟨.ref _,_,I.lnew (t':=s.toks) (r.append r2) (by rw[iU];omega),rfl,q _ I.fresh⟩
def Fx:R2:=λx y H Q=>∃l k xs,x=.ref l/\y=.int k/\H l=some (.lst xs)/\-(2^63)<=k/\k<2^63/\xs.length*k.toNat<=sizeLine /\
 ∀p,H p=none->Q (.ref p) (upd H p (.lst (List.replicate k.toNat xs).flatten))
def zrz{α:Type}(xs:List α)(k:Nat):(List.replicate k xs).flatten.length=k*xs.length:=by
 induction k with
 |zero=>simp
 |succ k ih=>rw[yK,BL,iU,ih,Nat.succ_mul,Nat.add_comm]
def zq7:fL X (binaryOp .Mult) Fx:=by
 intro aa s Z H x y v u Q I rx ry h;obtain⟨l,k,xs,rfl,rfl,hH,h1,h2,hz,q⟩:=h;cases rx;obtain⟨t,rfl⟩:=ry;obtain⟨z,its,n,r,hl,e⟩:=I.lstM hH;have hlen:its.toArray.size*k.toNat<=sizeLine:=by rw[jj,<-hl];exact hz
 have hcap:¬ its.toArray.size*k.toNat>(2^63-1) / 8:=by
  have:(sizeLine:Nat)<=(2^63-1) / 8:=by decide
  omega
 have hfit:¬ (!Builtin.List.listFitsIndex k)=true:=by
  rw[fitsIndex_both h1 h2];exact yx
 have hlong:¬ Builtin.List.listTooLong (its.toArray.size*k.toNat)=true:=by
  rw[zpn hlen];exact yx
 have hnew:List.foldl (λx1 x2=>x1++x2) #[] (List.replicate (if its.toArray.isEmpty=true then 0 else k.toNat) its.toArray)=(List.replicate k.toNat its).flatten.toArray:=by
  have f0:∀m:Nat,List.foldl (λx1 x2=>x1++x2) #[] (List.replicate m its.toArray)=(List.replicate m its).flatten.toArray:=λm=>by
   have:=ziY its m []
   rw[YC5]at this;exact this
  rw[f0];cases its with
  |nil=>simp
  |cons a r'=>rw[if_neg (by simp)]
 refine wpAny_binaryOp_repeat_ref (T:="list") (U:="int") (by decide) ⟨_,e,rfl⟩ (λs'=>typeIs_int s' k t) noFill_list_mul F.fills_int_mul F.slot_int_rmul repeat_list F.slot_int_index.lookup
  (Bs F.slot_int_rmul (typeIs_int s k t) F.entry_int_rmul (F.args_int_rmul_2 _ _) (int___rmul___int_list k t l its.toArray n)
   ⟨e,rfl,⟨_,e,rfl⟩,Bs F.slot_list_mul ⟨_,e,rfl⟩ F.entry_list_mul (F.args_list_mul_2 _ _) (AutoListH.list___mul___list_int_3 l its.toArray n k t hfit hcap hlong) ⟨e,?_⟩⟩)
 rw[hnew];exact⟨.ref _,_,I.lnew (t':=s.toks) (r.rep k.toNat) (by rw[zrz,Nat.mul_comm];exact hz),rfl,q _ I.fresh⟩
end
end L2
namespace Att
open PySem PySem.W PySem.Calls PyProof.Rows
def zgQ{P:Params}{h:Heap}:∀(ns:List Int)(vs:List Value),WellAll P h vs (ns.map WData.int)->IntsAre vs ns:=by
 intro ns
 induction ns with
 |nil=>
  intro vs w;rw[rT]at w;cases w;exact .nil
 |cons n ns ih=>
  intro vs w;rw[dZ]at w;cases w with
  |cons a b=>
   cases a;exact .cons _ _ (ih _ b)
def zn0{l:OpenLaw}{n:Nat}(hn:l.most=some n){P:Params}{h:Heap}{args:List WData}{vals:List Value}
  (hpre:l.row.toRowW.claim.pre args=true) (hwl:WellAll P h vals args) :
  ∃a vs ns,vals=[Value.ref a]/\args=[WData.list (ns.map WData.int)]/\h.get? a=some {cls:=.type "list",data:=.seq vs.toArray}/\IntsAre vs ns/\ns.length<=n:=by
 have hsh:WShape.hasAll [] args [.list .int]=true:=(pre_splitW hpre).1;have hc:l.pre.holds [] {args:=args}=true:=(pre_splitW hpre).2;obtain⟨d,r,rfl,h1,h2⟩:=hasAllW_cons hsh;obtain rfl:=hasAllW_nil h2;obtain⟨xs,rfl,h3⟩:=hasW_list h1;obtain⟨ns,rfl⟩:=items_int h3;have hlen:ns.length<=n:=by
  unfold OpenLaw.pre at hc;have h4:(WTm.not (.lt (.lit (.int (n:Int))) (.len (.arg 0)))).holds [] {args:=[.list (ns.map .int)]}=true:=by
   have h4:=(holds_andW hc).1;rw[hn]at h4;exact h4
  have h5:=condW_of h4 (w_not (w_lt w_lit (w_len_list (w_arg rfl))));rw[bW]at h5;refine Nat.le_of_not_lt λq=>?_;have q':(n:Int)<((ns.length:Nat):Int):=by omega
  first
   | (rw[iB q']at h5;exact absurd h5 (by decide))
   | (simp at h5;omega)
 cases hwl with
 |cons w1 w2=>
  cases w2;cases w1 with
  |list ho hall=>exact⟨_,_,ns,rfl,rfl,ho,zgQ ns _ hall,hlen⟩
def zov(l:OpenLaw)(args:List WData):l.row.toRowW.claim.post args (.bool true) args=true:=
 postW_of (r:=l.row.toRowW) (X:=(true==true))
  (show WShape.has [] (.bool true) .bool=true by first|rfl|decide|simp[WShape.has,WShape.arms,WShape.armsAll])
  (show(WTm.eq .res (.lit (.bool true))).value [] {args:=args,res:=some (.bool true),after:=args}=some (.bool (true==true))from w_eq_bool (w_res rfl) w_lit) rfl
def pJ{l:OpenLaw}{n:Nat}{q:Program}{loose:List Str}{XP:(Str->Option Value)->Heap->Prop}{YP:World->Heap->Prop}{d:DefRec}
  (hn:l.most=some n) (hdf:d.params.defaults=[])
  (call:∀(w:World)(s₀ s₁:Shared)(mg mb:Str->Option Value)(fa:Addr)(o:Obj)(pm cd doc:Value)(a:Addr)(vs:List Value)(ns:List Int),
   Ground q loose [] XP w s₀ mg mb s₁.heap->YP w s₁.heap ->
   s₁.heap.get? fa=some o->o.data=.func (docDef d.name d.params d.body d.scope pm cd doc)->s₁.heap.CodeRec cd d.name->mg d.name=some (.ref fa) ->
   s₁.heap.get? a=some {cls:=.type "list",data:=.seq vs.toArray}->IntsAre vs ns->ns.length<=n->s₁.gens=#[] ->
   codeAny (model l.prog w) callerA (.call (.ref fa) ⟨[.ref a],[]⟩) (λr s'=>r=.ok (.ret (.bool true))/\OldK s₁.heap s'.heap/\s'.os=s₁.os/\AllBare s'.gens) s₁) :
  WalkO q loose XP YP l.row.toRowW d [] (λf vs=>PySem.call f vs):=by
 intro w s₀ s₁ mg mb G Y fa o pm cd doc dV kV ho hd hcd hD hmg hg args vals as hpre hlay hrd hwl hlo;obtain rfl:dV=.none:=Dflts.none hD hdf;obtain rfl:kV=.none:=Dflts.noKw hD;obtain⟨a,vs,ns,rfl,rfl,hobj,hints,hlen⟩:=zn0 hn hpre hwl;refine enter_call (Cz (call w s₀ s₁ mg mb fa o pm cd doc a vs ns G Y ho (fd_plain hd) hcd hmg hobj hints hlen hg) λr s' hq=>?_);obtain⟨rfl,h2,h3,h4⟩:=hq;exact⟨.inl ⟨.bool true,.bool true,[],rfl,λ_=>rfl,.bool true,zov l _,λ_=>⟨List.Pairwise.nil,λ_ hm=>(nomatch hm)⟩⟩,h2,h3,h4⟩
end Att
namespace L2
open PySem PySem.Spec PyProof.Rows
theorem zi7:∀{vs:List Value}{ns:List Int},IntsAre vs ns->Vals (ns.map V.int) vs
 |_,_,.nil=>.nil
 |_,_,.cons n t h=>.cons ⟨t,rfl⟩ (zi7 h)
def Only(H:Hp):Prop:=∀b,H b=none\/∃o xs,H b=some (.iV o (.lst xs))
def zpF{P:Program}{w:World}{K:qo}{mg mb:Str->Option Value}{CX:mO}{k:Nat}{fa a:Addr}{fd:FuncData}{x:Str}{sp:Sp}{s₁:Shared}{vs:List Value}{ns:List Int}
  (KX:K.In s₁.heap) (hns:s₁.heap.Ns mainGlobals mg) (hb:s₁.heap.Ns builtinsNs mb) (hbb:∀x:Str,x≠"__name__" -> mb x=bootBuiltins x) (hlim:s₁.heap.NoLimit) (hg:s₁.gens=#[])
  (ha:s₁.heap.get? a=some {cls:=.type "list",data:=.seq vs.toArray}) (hi:IntsAre vs ns) (hl:ns.length<=sizeLine) (hr:bD k callerA)
  (F:∀base:Heap,K.In base->base.Ns mainGlobals mg->aM P w K mg base CX k fa fd [x] sp) (hbind:∀(s:Shared)(u:Value),BindsTo s fd ⟨[u],[]⟩ [(x,u)])
  (hsp:∀H:Hp,Only H->cA K H a (ns.map V.int)->sp [.ref a] H (λv _=>v=.bl true) λ_ _ _=>False)
  (hCX:∀H e s',CX [] H s₁ (λ_ _ _=>False) e s'->False) :
  codeAny (model P w) callerA (.call (.ref fa) ⟨[.ref a],[]⟩) (λr s'=>r=.ok (.ret (.bool true))/\OldK s₁.heap s'.heap/\s'.os=s₁.os/\AllBare s'.gens) s₁:=by
 have rv:=zi7 hi;have lenV:=hi.length
 -- from an abstract heap in which nothing but the script may be tracked
 have core:∀H:Hp,Only H->cA K H a (ns.map V.int)->iT P w H s₁.heap->(∀b,H b≠none->b=a)->(H a≠none->K.lookup a=none) ->
   codeAny (model P w) callerA (.call (.ref fa) ⟨[.ref a],[]⟩) (λr s'=>r=.ok (.ret (.bool true))/\OldK s₁.heap s'.heap/\s'.os=s₁.os/\AllBare s'.gens) s₁:=by
  intro H hO hS hok hA hK;have base_of:∀{b:Addr}{o:Obj},s₁.heap.get? b=some o->H b=none->(nO s₁.heap H).get? b=some o:=λe n=>zpl e n;have noA:∀{b:Addr}{o:Obj}{es:Array DictEntry}{ep:Nat},s₁.heap.get? b=some o->o.data=.dict es ep->H b=none:=λ{b o es ep} e d=>by
   cases q:H b with
   |none=>rfl
   |some u=>
    have e':b=a:=hA b (by rw[q];simp);subst e';rw[ha]at e;cases e;have d':Data.seq vs.toArray _=Data.dict es ep:=d;cases d'
  have nsK:∀{b:Addr}{m:Str->Option Value},s₁.heap.Ns b m->(nO s₁.heap H).Ns b m:=λ{b m} ⟨o,es,ep,e,d,r⟩=>⟨o,es,ep,base_of e (noA e d),d,r⟩;have hKb:K.In (nO s₁.heap H):=λb o e=>base_of (KX b o e) (by
   cases q:H b with
   |none=>rfl
   |some u=>
    have e':b=a:=hA b (by rw[q];simp);subst e';rw[hK (by rw[q];simp)]at e;cases e)
  have hM:Mod K mg (nO s₁.heap H):=⟨hKb,nsK hns,⟨mb,nsK hb,hbb⟩,let⟨mc,h1,h2⟩:=hlim;⟨mc,nsK h1,h2⟩⟩;have e0:nq P w K mg (nO s₁.heap H) callerA [] s₁ H:=⟨rfl,hM,λb o e=>zrC e,Nat.le_of_eq (zof _ _),trivial,λb hb=>absurd (show b∈([]:List Addr)from hb) (by simp),hok,.of_eq hg⟩;refine Cz ((F _ hKb (nsK hns)).run callerA [] s₁ H ⟨[.ref a],[]⟩ [.ref a] [.ref a] _ _ hr e0 (hbind s₁ (.ref a)) (.cons rfl .nil) (hsp H hO hS)) λr s' h=>?_;cases r with
  |error e=>exact(hCX H e s' h).elim
  |ok fl=>
   cases fl with
   |next=>exact False.elim h
   |brk=>exact False.elim h
   |cont=>exact False.elim h
   |ret u=>
    obtain⟨v,H',os,bare,un,hok',r',q⟩:=h;have q':v=.bl true:=q;subst q';obtain rfl:u=Value.bool true:=r';refine⟨rfl,OldK.of_keep λb o e=>?_,os,bare⟩;cases q:H b with
    |none=>exact un.keep b o e q (by intro z;exact absurd (show b∈([]:List Addr)from z) (by simp)) (by simp)
    |some u=>
     rcases hO b with z|⟨ob,xs,z⟩
     .rw[q]at z;cases z
     .have z2:=un.frzs b ob _ z;obtain⟨e1,_⟩:=hok b _ z;obtain⟨e2,_⟩:=hok' b _ z2;rw[e]at e1;cases e1;exact e2
 cases hk:K.lookup a with
 |some o=>
  -- the script is one of the module's own objects
  have e:=KX a o hk;rw[ha]at e;cases e;refine core (λ_=>none) (λ_=>.inl rfl) (.inr ⟨_,vs.toArray,_,hk,rfl,rfl,rfl,by rw[jj,lenV];exact hl,by simpa using rv⟩) (λb u z=>by have z':(none:Option HO)=some u:=z;cases z') (λb z=>absurd rfl z) λz=>absurd rfl z
 |none=>
  refine core (λb=>if b=a then some (.iV {cls:=.type "list",data:=.seq vs.toArray} (.lst (ns.map V.int)))else none) (λb=>?_) (.inl (.inr ⟨{cls:=.type "list",data:=.seq vs.toArray},if_pos rfl⟩)) (λb u z=>?_) (λb z=>?_) λ_=>hk
  .by_cases hb:b=a
   .exact .inr ⟨_,_,if_pos hb⟩
   .exact .inl (if_neg hb)
  .by_cases hb:b=a
   .have z':=(if_pos hb).symm.trans z;cases z';subst hb;exact⟨ha,by rw[bW];exact hl,vs,_,rv,ha⟩
   .have z':=(if_neg hb).symm.trans z;cases z'
  .by_cases hb:b=a
   .exact hb
   .exact absurd (if_neg hb) z
def zsd{l:PySem.W.OpenLaw}{n k:Nat}{q:Program}{loose:List Str}{XP:(Str->Option Value)->Heap->Prop}{YP:World->Heap->Prop}{d:DefRec}{K:Params->qo}{CX:World->mO}{sp:World->Sp}{x:Str}
  (hn:l.most=some n) (hn2:n<=sizeLine) (hdf:d.params.defaults=[]) (hr:bD k callerA)
  (hY:∀(w:World)(h:Heap),YP w h->(K w.params).In h)
  (F:∀(w:World)(mg:Str->Option Value)(fa:Addr)(h:Heap),(K w.params).In h->h.Ns mainGlobals mg->mg d.name=some (.ref fa) ->
   ∃fd:FuncData,(∀(s:Shared)(u:Value),BindsTo s fd ⟨[u],[]⟩ [(x,u)]) /\
    ∀base:Heap,(K w.params).In base->base.Ns mainGlobals mg->aM l.prog w (K w.params) mg base (CX w) k fa fd [x] (sp w))
  (hsp:∀(w:World)(H:Hp)(a:Addr)(ns:List Int),ns.length<=n->Only H->cA (K w.params) H a (ns.map V.int)->sp w [.ref a] H (λv _=>v=.bl true) λ_ _ _=>False)
  (hCX:∀(w:World)(H:Hp)(s:Shared)(e:Value)(s':Shared),CX w [] H s (λ_ _ _=>False) e s'->False) :
  PySem.W.WalkO q loose XP YP l.row.toRowW d [] (λf vs=>PySem.call f vs):=by
 refine Att.pJ hn hdf λw s₀ s₁ mg mb fa o pm cd doc a vs ns G Y ho hd hcd hmg hobj hints hlen hg=>?_;have KX:=hY w _ Y;obtain⟨fd,hb,hF⟩:=F w mg fa _ KX G.T.g hmg;exact zpF KX G.T.g G.T.b G.T.builtins G.T.nolimit hg hobj hints (iu hlen hn2) hr hF hb (λH hO hS=>hsp w H a ns hlen hO hS) λH e s'=>hCX w H s₁ e s'
def uZ(s:Stmt):Arguments:=match s with
 |.FunctionDef _ a _ _ _ _ _ _ _ _=>a
 |_=>{posonlyargs:=[],args:=[],vararg:=none,kwonlyargs:=[],kw_defaults:=[],kwarg:=none,defaults:=[]}
def nW(s:Stmt):List Stmt:=match s with
 |.FunctionDef _ _ b _ _ _ _ _ _ _=>b
 |_=>[]
def gC(s:Stmt):Scope:=match s with
 |.FunctionDef _ _ _ _ _ _ sc _ _ _=>sc
 |_=>{kind:=.function,names:=[],isGenerator:=false,isCoroutine:=false}
abbrev cR:mO:=λ_ _ _ _ _ _=>False
abbrev E0:XK:=λ_ _ _=>False
def Ah:nH cR X E0:=λ_ _ _ _ _ _ _ h=>h.elim
structure bZ(K:qo)(x qual:Str)(st:Stmt)(f:Addr)(fd:FuncData):Prop where
 ex:∃(oc:Value)(od:Option Addr)(kV doc pm:Value)(an:Option Addr)(cdv ct:Value)(osl:Array (Option Value)),
  fd=PySem.W.fnOf x qual (uZ st) (nW st) (gC st) .none kV doc pm an cdv ct/\K.lookup f=some ⟨oc,od,.func fd,osl⟩/\PySem.W.codeIn K cdv qual=true
 kp:PySem.W.keepIn K (.ref f)=true
section
variable{P:Program}{w:World}{K:qo}{mg:Str->Option Value}{base:Heap}
def bZ.ok{x qual:Str}{st:Stmt}{f:Addr}{fd:FuncData}{N ps:List Str}{k:Nat}{sp:Sp}(F:bZ K x qual st f fd)(qj:cZ N ps (gC st))(len:∀vs H Q E,sp vs H Q E->vs.length=ps.length)
  (hbody:∀(cdv:Value)(A:Around)(outer:List Env)(s:Shared)(H:Hp)(vs:List V)(Q:VK)(E:XK),bD k (A.deeper (envOfC qual (gC st) s.heap.objs.size f cdv))->sp vs H Q E ->
   ∃t,lJ (di cR P w K mg base N qual (gC st) f cdv A outer s H E).nox (nW st) t/\t {nx:=λ_ H'=>Q .non H',rt:=Q} (nC N vs) H):aM P w K mg base cR (k+1) f fd ps sp:=by
 obtain⟨oc,od,kV,doc,pm,an,cdv,ct,osl,rfl,lk,hcd⟩:=F.ex;refine zsD lk hcd qj len λA outer s H vs Q E hr hsp=>?_;obtain⟨t,h,q⟩:=hbody cdv A outer s H vs Q E hr hsp;exact⟨t,h.nox,q⟩
def bZ.binds{x qual:Str}{st:Stmt}{f:Addr}{fd:FuncData}{ps:List Str}(F:bZ K x qual st f fd)
  (h:∀(kV doc pm:Value)(an:Option Addr)(cdv ct:Value)(us:List Value),us.length=ps.length->bindArgs (PySem.W.fnOf x qual (uZ st) (nW st) (gC st) .none kV doc pm an cdv ct) ⟨us,[]⟩=pure (ps.zip us)):Binds K fd ps []:=by
 obtain⟨oc,od,kV,doc,pm,an,cdv,ct,osl,rfl,lk,hcd⟩:=F.ex;exact .all (h kV doc pm an cdv ct)
end
section
variable{X:Cx}
def pv(i:Nat)(hN:X.N[i]?=some x:=by rfl)(hv:Cu X.env.scope x:=by first|exact Or.inl rfl|exact Or.inr (Or.inl rfl)|exact Or.inr (Or.inr rfl))(hd:(x==("__debug__":Str))=false:=by decide)
  (hcd:(x==("__classdict__":Str))=false:=by decide):PE X (.Name x pos) (tW i):=lU hN hv hd hcd
end
def wZ{c A B:Prop}[Decidable c](h1:c->A)(h2:¬ c->B):if c then A else B:=by
 by_cases h:c
 .rw[if_pos h];exact h1 h
 .rw[if_neg h];exact h2 h
def Same(H H':Hp):Prop:=∀b o,H b=some o->H' b=some o
def Same.refl(H:Hp):Same H H:=λ_ _ h=>h
def Same.trans{H H1 H2:Hp}(a:Same H H1)(b:Same H1 H2):Same H H2:=λc o h=>b c o (a c o h)
def Same.free{H H':Hp}(e:Same H H'){l:Addr}(h:H' l=Option.none):H l=Option.none:=by
 cases q:H l with
 |none=>rfl
 |some o=>
  rw[e l o q]at h;cases h
def Same.seq{K:qo}{H H':Hp}{a:Addr}{xs:List V}(e:Same H H')(h:cA K H a xs):cA K H' a xs:=by
 rcases h with(h|⟨o,h⟩)|h
 .exact .inl (.inl (e _ _ h))
 .exact .inl (.inr ⟨o,e _ _ h⟩)
 .exact .inr h
section
variable{κ:Type}[DecidableEq κ]
def eX(kvs:List (κ×V))(k:κ):Option V:=(kvs.find? λkv=>decide (kv.1=k)).map (·.2)
def putK(kvs:List (κ×V))(k:κ)(v:V):List (κ×V):=
 if (kvs.any λkv=>decide (kv.1=k))=true then kvs.map (λkv=>if kv.1=k then(kv.1,v)else kv)else kvs++[(k,v)]
def Je{p:κ×V}{r:List (κ×V)}{k:κ}(e:p.1=k):eX (p::r) k=some p.2:=by simp[eX,Eb,e]
def GJ{p:κ×V}{r:List (κ×V)}{k:κ}(e:¬ p.1=k):eX (p::r) k=eX r k:=by simp[eX,Eb,e]
theorem zgo(k:κ):∀kvs:List (κ×V),(kvs.any λkv=>decide (kv.1=k))=(eX kvs k).isSome
 |[]=>rfl
 |p::r=>by
  rw[Ak];by_cases e:p.1=k
  .simp only[Je e,iB e,Bool.true_or,Option.isSome_some]
  .rw[GJ e,gV e,Bool.false_or];exact zgo k r
def zeM(kvs:List (κ×V))(k:κ)(v:V):(putK kvs k v).length<=kvs.length+1:=by
 unfold putK;split
 .rw[bW];omega
 .rw[iU,lF,List.length_nil];omega
def zpU{kvs:List (κ×V)}{k:κ}(v:V)(h:eX kvs k=none):putK kvs k v=kvs++[(k,v)]:=by
 unfold putK;rw[zgo,h];exact if_neg (by decide)
def g8.isSome_eq(r:g8 o u):o.isSome=u.isSome:=by
 cases o with
 |none=>cases u with
  |none=>rfl
  |some _=>exact(show False from r).elim
 |some _=>cases u with
  |none=>exact(show False from r).elim
  |some _=>rfl
def KV.val{kvs:List (κ×V)}{vs:List (κ×Value)}(r:KV kvs vs)(k:κ):g8 (eX kvs k) (valueAt vs k):=by
 unfold KV at r
 induction r with
 |nil=>exact True.intro
 |@cons p q ps qs h t ih=>
  obtain⟨h1,h2⟩:=h;by_cases e:p.1=k
  .have e':q.1=k:=h1.symm.trans e;have b:valueAt (q::qs) k=some q.2:=by simp[valueAt,Eb,e']
   rw[Je e,b];exact h2
  .have e':¬ q.1=k:=λz=>e (h1.trans z);have b:valueAt (q::qs) k=valueAt qs k:=by simp[valueAt,Eb,e']
   rw[GJ e,b];exact ih
theorem KV.any(r:KV kvs vs)(k:κ):(kvs.any λkv=>decide (kv.1=k))=vs.any λkv=>decide (kv.1=k):=by
 unfold KV at r
 induction r with
 |nil=>rfl
 |cons h t ih=>rw[Ak,Ak,ih,h.1]
def KV.repl(r:KV kvs vs)(k:κ)(ry:RelV y u) :
  KV (kvs.map λkv=>if kv.1=k then(kv.1,y)else kv) (vs.map λkv=>if kv.1=k then(kv.1,u)else kv):=by
 unfold KV at r ⊢
 induction r with
 |nil=>exact .nil
 |@cons p q ps qs h t ih=>
  rw[dZ,dZ];refine .cons ?_ ih;obtain⟨h1,h2⟩:=h;by_cases e:p.1=k
  .rw[if_pos e,if_pos (h1.symm.trans e)];exact⟨h1,ry⟩
  .rw[if_neg e,if_neg (λz=>e (h1.trans z))];exact⟨h1,h2⟩
def KV.put(r:KV kvs vs)(k:κ)(ry:RelV y u):KV (putK kvs k y) (stored vs k u):=by
 unfold putK stored;rw[r.any k];by_cases e:(vs.any λkv=>decide (kv.1=k))=true
 .rw[if_pos e,if_pos e];exact r.repl k ry
 .rw[if_neg e,if_neg e];exact Paired.snoc r ⟨rfl,ry⟩
theorem KV.length(r:KV kvs vs):kvs.length=vs.length:=Paired.length r
end
def zW(r:RelV (kV k) u):(lC P w).is k u=true:=by
 cases k with
 |inl i=>obtain⟨t,e⟩:=(show ∃t,u=Value.int i t from r);subst e;exact zk2 P w i t
 |inr x=>obtain⟨t,e⟩:=(show ∃t,u=Value.str x t from r);subst e;exact zkJ P w x t
theorem zjL :∀{ks:List Key}{us:List Value},Vals (ks.map kV) us->ItemsAre (lC P w) ks us
 |[],_,r=>by rw[rT]at r;cases r;exact .nil
 |k::ks,_,r=>by
  rw[dZ]at r;cases r with
  |cons h t=>exact .cons (zW h) (zjL t)
abbrev KT(H:Hp):List (List Key×V)->List (List Key×Addr×Value)->Prop:=Paired λp q=>p.1=q.1/\H q.2.1=some (.tup (p.1.map kV))/\RelV p.2 q.2.2
def KT.val{H:Hp}{kvs:List (List Key×V)}{xs:List (List Key×Addr×Value)}(r:KT H kvs xs)(k:List Key):g8 (eX kvs k) ((atKey xs k).map (·.2)):=by
 induction r with
 |nil=>exact True.intro
 |@cons p q ps qs h t ih=>
  obtain⟨h1,_,h2⟩:=h;by_cases e:p.1=k
  .have e':q.1=k:=h1.symm.trans e;have b:atKey (q::qs) k=some q.2:=by simp[atKey,Eb,e']
   rw[Je e,b];exact h2
  .have e':¬ q.1=k:=λz=>e (h1.trans z);have b:atKey (q::qs) k=atKey qs k:=by simp[atKey,Eb,e']
   rw[GJ e,b];exact ih
def KT.repl(r:KT H kvs xs)(k:List Key)(ry:RelV y u) :
  KT H (kvs.map λkv=>if kv.1=k then(kv.1,y)else kv) (xs.map (putAt k u)):=by
 induction r with
 |nil=>exact .nil
 |@cons p q ps qs h t ih=>
  rw[dZ,dZ];refine .cons ?_ ih;obtain⟨h1,h2,h3⟩:=h;unfold putAt;by_cases e:p.1=k
  .rw[if_pos e,if_pos (h1.symm.trans e)];exact⟨h1,h2,ry⟩
  .rw[if_neg e,if_neg (λz=>e (h1.trans z))];exact⟨h1,h2,h3⟩
def KT.put(r:KT H kvs xs)(k:List Key)(hb:H b=some (.tup (k.map kV)))(ry:RelV y u) :
  KT H (putK kvs k y) (storedH xs k b u):=by
 have e:(kvs.any λkv=>decide (kv.1=k))=(atKey xs k).isSome:=by
  rw[zgo,(r.val k).isSome_eq,YCR]
 unfold putK storedH;rw[e];by_cases q:(atKey xs k).isSome=true
 .rw[if_pos q,if_pos q];exact r.repl k ry
 .rw[if_neg q,if_neg q];exact Paired.snoc r ⟨rfl,hb,ry⟩
def KT.keeps(r:KT H kvs xs)(ht:∀b ys,H b=some (.tup ys)->H' b=some (.tup ys)):KT H' kvs xs:=
 Paired.mapP r λ_ _ z=>⟨z.1,ht _ _ z.2.1,z.2.2⟩
section
variable{P:Program}{w:World}{H:Hp}{h:Heap}{a:Addr}
def zuc(ok:iT P w H h)(e:Rd H a u):cg P w H h a u:=e.ok ok
def zG(ok:iT P w H h)(e:Rd H a (.dK kvs)):kvs.length<=sizeLine/\(a==sysModules)=false/\∃vs,KV kvs vs/\h.DictOf (lC P w) a vs:=
 show cg P w H h a (.dK kvs)from zuc ok e
def zta(ok:iT P w H h)(e:H a=some (.dK kvs)):kvs.length<=sizeLine/\(a==sysModules)=false/\∃vs,KV kvs vs/\h.DictOf (lC P w) a vs:=zG ok (.inl e)
def JF(ok:iT P w H h)(e:H a=some (.tup (ks.map kV))):(tupleKind (lC P w)).is h ks a:=by
 obtain⟨_,its,r,o,h1,h2,n,h3⟩:=(show cg P w H h a (.tup (ks.map kV))from ok a _ e);exact⟨o,its.toArray,n,h1,h2,h3,by simpa using zjL r⟩
def HN(ok:iT P w H h)(e:Rd H a (.dT kvs)):kvs.length<=sizeLine/\(a==sysModules)=false /\
  ∃xs,KT H kvs xs/\h.DictOfH (tupleKind (lC P w)) a xs:=by
 obtain⟨z,y,xs,r,o,es,ep,h1,h2,h3,h4,h5⟩:=(show cg P w H h a (.dT kvs)from zuc ok e);refine⟨z,y,xs,r,o,es,ep,h1,h2,h3,h4,λx hx=>?_,h5⟩;have all:∀{l:List (List Key×V)}{m:List (List Key×Addr×Value)},KT H l m->∀x∈m,(tupleKind (lC P w)).is h x.1 x.2.1:=by
  intro l m q
  induction q with
  |nil=>intro x hx;exact nomatch hx
  |@cons p q ps qs hq t ih=>
   intro x hx;rcases ir.mp hx with e|hx
   .subst e;exact JF ok (by rw[<-hq.1];exact hq.2.1)
   .exact ih x hx
 exact all r x hx
def zwi(ok:iT P w H h)(e:H a=some (.dT kvs)):kvs.length<=sizeLine/\(a==sysModules)=false /\
  ∃xs,KT H kvs xs/\h.DictOfH (tupleKind (lC P w)) a xs:=HN ok (.inl e)
end
def iZ(H:Hp)(a:Addr)(y:V)(r:Option V):Prop:=
 (∃kvs k,Rd H a (.dK kvs)/\y=kV k/\r=eX kvs k)\/∃kvs k b,Rd H a (.dT kvs)/\y=.ref b/\H b=some (.tup (k.map kV))/\r=eX kvs k
def nM(H:Hp)(a:Addr)(y v:V)(H':Hp):Prop:=
 (∃kvs k,H a=some (.dK kvs)/\y=kV k/\kvs.length<sizeLine/\H'=upd H a (.dK (putK kvs k v))) \/
 ∃kvs k b,H a=some (.dT kvs)/\y=.ref b/\H b=some (.tup (k.map kV))/\kvs.length<sizeLine/\H'=upd H a (.dT (putK kvs k v))
theorem iZ.k{H:Hp}{a:Addr}{kvs:List (Key×V)}{k:Key}(e:H a=some (.dK kvs)):iZ H a (kV k) (eX kvs k):=.inl ⟨kvs,k,.inl e,rfl,rfl⟩
theorem nM.k{H:Hp}{a:Addr}{kvs:List (Key×V)}{k:Key}{v:V}(e:H a=some (.dK kvs))(hl:kvs.length<sizeLine):nM H a (kV k) v (upd H a (.dK (putK kvs k v))):=.inl ⟨kvs,k,e,rfl,hl,rfl⟩
section
variable{X:Cx}{aa:List (Addr×Obj)}{Z:St}{H:Hp}{s:Shared}{a:Addr}{y v:V}{u r:Value}{o:Option V}{A:Around}{E:Value->Shared->Prop}
def Inv.big(I:Inv X aa Z H s):sysModules<s.heap.objs.size:=by
 have h:mainGlobals<s.heap.objs.size:=(I.mod.glob.keeps I.bk).lt;exact Nat.lt_trans (by decide) h
def zjP(hu:A.units+1<cLine)(I:Inv X aa Z H s)(g:iZ H a y (some v))(ry:RelV y u)(h:∀w' s',Inv X aa Z H s'->RelV v w'->Q w' s') :
  wpAny (model X.prog X.w) A (getItem (.ref a) u) Q E s:=by
 rcases g with⟨kvs,k,e,ey,l⟩|⟨kvs,k,b,e,ey,eb,l⟩
 .subst ey;obtain⟨z,hd,vs,rel,dd⟩:=zG I.hok e;obtain⟨w',hw,rw'⟩:=g8.some_of (v:=v) (o:=valueAt vs k) (by rw[l];exact rel.val k);exact wpAny_getItem_of (zW ry) dd.mapOf hw (h w' _ (I.tok _) rw')
 .subst ey;cases (show u=Value.ref b from ry);obtain⟨z,hd,xs,rel,dd⟩:=HN I.hok e;obtain⟨w',hw,rw'⟩:=g8.some_of (v:=v) (o:=(atKey xs k).map (·.2)) (by rw[l];exact rel.val k);obtain⟨p,hp,hp2⟩:=Option.map_eq_some_iff.mp hw;refine wpAny_getItem_heap (YB7 hu) (JF I.hok eb) dd hp ?_;rw[hp2];exact h w' _ (I.tok _) rw'
def d_in(hu:A.units+1<cLine)(I:Inv X aa Z H s)(g:iZ H a y o)(ry:RelV y u)(h:∀s',Inv X aa Z H s'->Q (.bool o.isSome) s') :
  wpAny (model X.prog X.w) A (compareOp .In u (.ref a)) Q E s:=by
 rcases g with⟨kvs,k,e,ey,l⟩|⟨kvs,k,b,e,ey,eb,l⟩
 .subst ey;obtain⟨z,hd,vs,rel,dd⟩:=zG I.hok e;refine wpAny_in_of (zW ry) hd dd.mapOf ?_;rw[<-(rel.val k).isSome_eq,<-l];exact h _ (I.tok _)
 .subst ey;cases (show u=Value.ref b from ry);obtain⟨z,hd,xs,rel,dd⟩:=HN I.hok e;refine wpAny_in_heap (YB7 hu) (JF I.hok eb) hd dd ?_;have q:=(rel.val k).isSome_eq;rw[YCR]at q;rw[<-q,<-l];exact h _ (I.tok _)
def zsu(hu:A.units+1<cLine)(I:Inv X aa Z H s)(g:iZ H a y o)(ry:RelV y u)(h:∀s',Inv X aa Z H s'->Q (.bool (!o.isSome)) s') :
  wpAny (model X.prog X.w) A (compareOp .NotIn u (.ref a)) Q E s:=by
 rcases g with⟨kvs,k,e,ey,l⟩|⟨kvs,k,b,e,ey,eb,l⟩
 .subst ey;obtain⟨z,hd,vs,rel,dd⟩:=zG I.hok e;refine wpAny_notIn_of (zW ry) hd dd.mapOf ?_;rw[<-(rel.val k).isSome_eq,<-l];exact h _ (I.tok _)
 .subst ey;cases (show u=Value.ref b from ry);obtain⟨z,hd,xs,rel,dd⟩:=HN I.hok e;refine wpAny_notIn_heap (YB7 hu) (JF I.hok eb) hd dd ?_;have q:=(rel.val k).isSome_eq;rw[YCR]at q;rw[<-q,<-l];exact h _ (I.tok _)
def zk9(I:Inv X aa Z H s)(mu:Fv (H a))(hs:Heap.SameBut a s.heap h')(he:∃q,h'.get? a=some q)(new:cg X.prog X.w (upd H a ob) h' a ob) :
  Inv X aa Z (upd H a ob) {s with heap:=h',toks:=t'}:=
 I.write (x:=a) (e:=a) mu (.inl rfl) (λb q hb z=>(hs.2 b hb).trans z) he new
def zne(z:kvs.length<=sizeLine)(hd:(a==sysModules)=false)(rel:KV kvs vs)(dd:h'.DictOf (lC P w) a vs) :
  cg P w H' h' a (.dK kvs):=⟨z,hd,vs,rel,dd⟩
def zjq(hu:A.units+1<cLine)(I:Inv X aa Z H s)(g:nM H a y v H')(ry:RelV y u)(rv:RelV v r)(h:∀s',Inv X aa Z H' s'->Q () s') :
  wpAny (model X.prog X.w) A (setItem (.ref a) u r) Q E s:=by
 rcases g with⟨kvs,k,e,ey,l,eH⟩|⟨kvs,k,b,e,ey,eb,l,eH⟩
 .subst ey eH;obtain⟨z,hd,vs,rel,dd⟩:=zta I.hok e;have hz:vs.length<=sizeLine:=by rw[<-rel.length];exact z
  have hl:(putK kvs k v).length<=sizeLine:=by have:=zeM kvs k v;omega
  refine wpAny_setItem_pairs (hsz:=hz) (zW ry) dd λh' dd' hs=>h _ ?_;have he:∃q,h'.get? a=some q:=let⟨q,_,_,hq,_⟩:=dd';⟨q,hq⟩
  exact zk9 I (by rw[e];exact True.intro) hs he (zne hl hd (rel.put k rv) dd')
 .subst ey eH;cases (show u=Value.ref b from ry);obtain⟨z,hd,xs,rel,dd⟩:=zwi I.hok e;have hz:xs.length<=sizeLine:=by rw[<-Paired.length rel];exact z
  have hl:(putK kvs k v).length<=sizeLine:=by have:=zeM kvs k v;omega
  refine wpAny_setItem_heap (hsz:=hz) (YB7 hu) (JF I.hok eb) dd λh' dd' hs=>h _ ?_;obtain⟨q,es,ep,hq,h2,h3,h4,_,h5⟩:=dd';refine zk9 I (by rw[e];exact True.intro) hs ⟨q,hq⟩ ⟨hl,hd,_,(rel.put k eb rv).keeps λc ys ec=>?_,q,es,ep,hq,h2,h3,h4,h5⟩;rw[au (zwm ec e (λz=>nomatch z))];exact ec
end
section
variable{X:Cx}{aa:List (Addr×Obj)}{Z:St}{H:Hp}{s:Shared}{a:Addr}{kvs:List (Key×V)}{k:Key}{u:Value}{A:Around}{E:Value->Shared->Prop}
def zvt(I:Inv X aa Z H s)(e:Rd H a (.dK kvs))(h:∀t s',Inv X aa Z H s'->Q (.int kvs.length t) s'):wpAny (model X.prog X.w) A (call (.builtin "len") [.ref a]) Q E s:=by
 obtain⟨z,hd,vs,rel,dd⟩:=zG I.hok e;refine call_len_dict hd dd (by rw[<-rel.length];rw[mG]at z;omega) ?_;rw[<-rel.length];exact h _ _ (I.tok _)
end
def t6(i:Expr):Prop:=∀ov iv,subscripted i false ov iv=operate [ov,iv] (getItem ov iv)
def zox{prog:Program}{w:World}{A:Around}{E:Value->Shared->Prop}{s:Shared}{env:Env}{value slice:Expr}{pos:Pos}{T id:String}{Q:Value->Shared->Prop}
  (hl:typeLookup (.type T) "__getitem__"=pure (some (.builtin id))) (hs:t6 slice)
  (h:wpAny (model prog w) A (eval value env) (λo s₁=>wpAny (model prog w) A (eval slice env) (λi s₂=>s₂.TypeIs o T/\wpAny (model prog w) A (getItem o i) Q E s₂) E s₁) E s) :
  wpAny (model prog w) A (eval (.Subscript value slice pos) env) Q E s:=by
 refine Subscript_ (YAT h (λo s₁ h₁=>YAT h₁ (λi s₂ h₂=>?_) λ_ _ x=>x) λ_ _ x=>x);obtain⟨hT,h₂⟩:=h₂;unfold subscriptTail;refine aJ ?_;rw[getitemInPython_of_ne hT.not_modules];refine aJ (YC6 hT hl ?_);have fin:wpAny (model prog w) A (subscripted slice false o i) (λr s₃=>wpAny (model prog w) A (letTemporaryGo value o r >>=λ_=>pure r) Q E s₃) E s₂:=by
  rw[hs o i];exact wpAny_operating (YAT h₂ (λr s₃ h₃=>aJ (wpAny_letTemporaryGo (bV h₃))) λ_ _ x=>x)
 first
  |exact bV (aJ fin)
  |exact aJ (bV (aJ fin))
  |exact aJ fin
def zlc(I:Inv X aa Z H s)(g:iZ H a y o):s.TypeIs (.ref a) "dict":=by
 rcases g with⟨kvs,k,e,_,_⟩|⟨kvs,k,b,e,_,_,_⟩
 .obtain⟨_,_,vs,_,dd⟩:=zG I.hok e;exact dd.typeIs
 .obtain⟨_,_,xs,_,dd⟩:=HN I.hok e;exact dd.typeIs
def zwo(td ty:TE):TE:=λZ H Q=>td Z H λx H1=>ty Z H1 λy H2=>∃a v,x=.ref a/\iZ H2 a y (some v)/\Q v H2
def tDIn(ty td:TE):TE:=λZ H Q=>ty Z H λy H1=>td Z H1 λx H2=>∃a o,x=.ref a/\iZ H2 a y o/\Q (.bl o.isSome) H2
def zsE(ty td:TE):TE:=λZ H Q=>ty Z H λy H1=>td Z H1 λx H2=>∃a o,x=.ref a/\iZ H2 a y o/\Q (.bl (!o.isSome)) H2
def zvA(td ty tv:TE):TS:=λD Z H=>tv Z H λv H1=>td Z H1 λx H2=>ty Z H2 λy H3=>∃a H4,x=.ref a/\nM H3 a y v H4/\D.nx Z H4
def zvT(td ty tv:TE)(rd:V->V->Hp->VK->Prop):TS:=λD Z H=>td Z H λx H1=>ty Z H1 λy H2=>∃a v,x=.ref a/\iZ H2 a y (some v) /\
 tv Z H2 λy2 H3=>rd v y2 H3 λz H4=>∃H5,nM H4 a y z H5/\D.nx Z H5
section
variable{X:Cx}{o i e value:Expr}{pos pos' tpos:Pos}{td ty tv:TE}
def znR(hu:X.A.units+1<cLine)(ho:PE X o td)(hi:PE X i ty)(hs:t6 i):PE X (.Subscript o i pos) (zwo td ty):=by
 intro aa s Z H Q I h;refine zox PySem.F.slot_dict_getitem.lookup hs (bF (ho aa s Z H _ I h) λu s1 ⟨x,H1,I1,rx,q1⟩=>bF (hi aa s1 Z H1 _ I1 q1) λiv s2 ⟨y,H2,I2,ry,a,v,ex,g,q2⟩=>?_);subst ex;obtain rfl:u=Value.ref a:=rx;exact⟨zlc I2 g,zjP hu I2 g ry λw' s3 I3 rw'=>⟨v,H2,I3,rw',q2⟩⟩
def zuN(hu:X.A.units+1<cLine)(hi:PE X i ty)(ho:PE X o td):PC X .In i o (tDIn ty td):=by
 intro aa s Z H Q I h;refine bF (hi aa s Z H _ I h) λiv s1 ⟨y,H1,I1,ry,q1⟩=>bF (ho aa s1 Z H1 _ I1 q1) λu s2 ⟨x,H2,I2,rx,a,ov,ex,g,q2⟩=>?_;subst ex;obtain rfl:u=Value.ref a:=rx;exact d_in hu I2 g ry λs3 I3=>⟨.bl ov.isSome,H2,I3,rfl,q2⟩
def zo2(hu:X.A.units+1<cLine)(hi:PE X i ty)(ho:PE X o td):PC X .NotIn i o (zsE ty td):=by
 intro aa s Z H Q I h;refine bF (hi aa s Z H _ I h) λiv s1 ⟨y,H1,I1,ry,q1⟩=>bF (ho aa s1 Z H1 _ I1 q1) λu s2 ⟨x,H2,I2,rx,a,ov,ex,g,q2⟩=>?_;subst ex;obtain rfl:u=Value.ref a:=rx;exact zsu hu I2 g ry λs3 I3=>⟨.bl (!ov.isSome),H2,I3,rfl,q2⟩
def zki(hu:X.A.units+1<cLine)(ho:PE X o td)(hi:PE X i ty)(hv:PE X value tv)(hs:swapsWith value (some (.Subscript o i pos')) pos.line X.env=pure false) :
  PS X (.Assign [.Subscript o i pos'] value pos) (zvA td ty tv):=by
 intro aa s Z H D I h;refine wpAny_Assign_Subscript (bF (hv aa s Z H _ I h) λr s1 ⟨v,H1,I1,rv,q1⟩=>bF (ho aa s1 Z H1 _ I1 q1) λu s2 ⟨x,H2,I2,rx,q2⟩=>bF (hi aa s2 Z H2 _ I2 q2) λiv s3 ⟨y,H3,I3,ry,a,H4,ex,g,q3⟩=>?_) hs;subst ex;obtain rfl:u=Value.ref a:=rx;exact zjq hu I3 g ry rv λs4 I4=>⟨Z,H4,I4,q3⟩
def zrL(hu:X.A.units+1<cLine)(ho:PE X o td)(hi:PE X i ty)(hv:PE X value tv)(hop:Gi X op rd)
  (ha:∀ov iv new,augStore i ov iv new=(do holding [new,ov,iv] (setItem ov iv new);release [new,ov,iv] [];pure .next)):PS X (.AugAssign (.Subscript o i tpos) op value pos) (zvT td ty tv rd):=by
 intro aa s Z H D I h;refine wpAny_AugAssign_SubscriptAny (bF (ho aa s Z H _ I h) λu s1 ⟨x,H1,I1,rx,q1⟩=>bF (hi aa s1 Z H1 _ I1 q1) λiv s2 ⟨y,H2,I2,ry,a,v,ex,g,q2⟩=>?_) ha;subst ex;obtain rfl:u=Value.ref a:=rx;refine zjP hu I2 g ry λw' s3 I3 rw'=>bF (hv aa s3 Z H2 _ I3 q2) λw2 s4 ⟨y2,H3,I4,ry2,q3⟩=>bF (hop aa s4 Z H3 v y2 w' w2 _ I4 rw' ry2 q3) λw3 s5 ⟨z,H4,I5,rz,H5,g5,q4⟩=>?_;exact zjq hu I5 g5 ry rz λs6 I6=>⟨Z,H5,I6,q4⟩
end
def zlV(h:Heap)(hb:sysModules<h.objs.size):cg P w H (h.push {cls:=.type "dict",data:=.dict #[]}) h.objs.size (.dK []):=
 ⟨vX _,YAU.mpr (YAM (fK hb)),[],.nil,Heap.DictOf.new h⟩
def zud:TE:=λ_ H Q=>∀p,H p=none->Q (.ref p) (upd H p (.dK []))
section
variable{X:Cx}{pos:Pos}
def zqe:PE X (.Dict [] [] pos) zud:=λaa s Z H Q I h=>
 wpAny_Dict_empty ⟨.ref s.heap.objs.size,_,I.laid (a:=s.heap.objs.size) (o:=.dK []) (t':=s.toks) (λ_ _ q=>dO _ q) (dJ _) (zlV s.heap I.big),rfl,h _ (I.hok.fresh (dJ _))⟩
end
def zme:List (TE×TE)->St->Hp->(List (V×V)->Hp->Prop)->Prop
 |[],_,H,Q=>Q [] H
 | (tk,tv)::r,Z,H,Q=>tk Z H λx H1=>tv Z H1 λy H2=>zme r Z H2 λps H3=>Q ((x,y)::ps) H3
abbrev VV:List (V×V)->List (Value×Value)->Prop:=Paired λp q=>RelV p.1 q.1/\RelV p.2 q.2
noncomputable def JQ(X:Cx)(pos:Pos)(keys:List (Option Expr))(values:List Expr)(trs:List (TE×TE)):Prop:=
 ∀(aa:List (Addr×Obj))(s:Shared)(Z:St)(H:Hp)(Q:List (V×V)->Hp->Prop),Inv X aa Z H s->zme trs Z H Q ->
  wpAny (model X.prog X.w) X.A (evalPairs (pairTrees keys values X.env pos)) (λvs s'=>∃ps H',Inv X aa Z H' s'/\VV ps vs/\Q ps H') X.xe s
def zsj:JQ X pos [] [] []:=λaa s Z H Q I h=>pairTrees_nil_walk ⟨[],H,I,.nil,h⟩
def zqB(hk:PE X k tk)(hv:PE X v tv)(hr:JQ X pos ks vs trs) :
  JQ X pos (some k::ks) (v::vs) ((tk,tv)::trs):=λaa s Z H Q I h=>
 pairTrees_cons_walk (bF (hk aa s Z H _ I h) λu s1 ⟨x,H1,I1,rx,q1⟩=>bF (hv aa s1 Z H1 _ I1 q1) λw2 s2 ⟨y,H2,I2,ry,q2⟩=>
  bF (hr aa s2 Z H2 _ I2 q2) λws s3 ⟨ps,H3,I3,rel,q3⟩=>⟨(x,y)::ps,H3,I3,.cons ⟨rx,ry⟩ rel,q3⟩)
def yr(kvs more:List (Key×V)):List (Key×V):=more.foldl (λacc kv=>putK acc kv.1 kv.2) kvs
def KV.merge:∀{more:List (Key×V)}{rs:List (Key×Value)}{kvs:List (Key×V)}{vs:List (Key×Value)},KV more rs->KV kvs vs->KV (yr kvs more) (merged vs rs):=by
 intro more rs kvs vs r;unfold KV at r
 induction r generalizing kvs vs with
 |nil=>intro q;exact q
 |@cons p q ps qs h t ih=>
  intro r0;have e:KV (putK kvs p.1 p.2) (stored vs q.1 q.2):=by
   have:=r0.put p.1 h.2
   rw[<-h.1];exact this
  exact ih e
theorem ze0:∀(more kvs:List (Key×V)),(yr kvs more).length<=kvs.length+more.length
 |[],kvs=>by show kvs.length<=kvs.length+0;omega
 |p::r,kvs=>by
  have h1:=ze0 r (putK kvs p.1 p.2);have h2:=zeM kvs p.1 p.2;show(yr (putK kvs p.1 p.2) r).length<=_;rw[lF];omega
theorem zhI :∀{kvs:List (Key×V)}{ws:List (Value×Value)},VV (kvs.map λkv=>(kV kv.1,kv.2)) ws->∃rs,Carries (lC P w) ws rs/\KV kvs rs
 |[],_,r=>by rw[rT]at r;cases r;exact⟨[],True.intro,.nil⟩
 |p::kvs,_,r=>by
  rw[dZ]at r;cases r with
  |@cons a b as bs h t=>
   obtain⟨rs,c,q⟩:=zhI (P:=P) (w:=w) t;obtain⟨b1,b2⟩:=b;exact⟨(p.1,b2)::rs,⟨zW h.1,rfl,c⟩,.cons ⟨rfl,h.2⟩ q⟩
def zwx(trs:List (TE×TE)):TE:=λZ H Q=>∀p,H p=none->zme trs Z (upd H p (.dK [])) λps H2=>H2 p=some (.dK [])/\∃kvs:List (Key×V),ps=kvs.map (λkv=>(kV kv.1,kv.2))/\kvs.length<=15/\Q (.ref p) (upd H2 p (.dK (yr [] kvs)))
def zsa(h:JQ X pos keys values trs)(hall:keys.all (·.isSome)=true)(hl:keys.length=values.length)(h0:keys≠[])
  (h15:keys.length<=15):PE X (.Dict keys values pos) (zwx trs):=by
 intro aa s Z H Q I q;have hn:=I.hok.fresh (dJ s.heap.objs.size);have I1:=I.laid (a:=s.heap.objs.size) (o:=.dK []) (h':=s.heap.push {cls:=.type "dict",data:=.dict #[]}) (t':=s.toks) (λ_ _ q=>dO _ q) (dJ _) (zlV s.heap I.big);refine wpAny_Dict_walk (knd:=lC X.prog X.w) hall hl h0 h15 (bF (h aa _ Z _ _ I1 (q _ hn)) λws s2 ⟨ps,H2,I2,rel,e,kvs,ep,lk,q2⟩=>?_);subst ep;obtain⟨rs,c,rk⟩:=zhI (P:=X.prog) (w:=X.w) rel;obtain⟨z,hd,vs0,r0,dd⟩:=zta I2.hok e;cases r0;refine⟨rs,c,dd,λh' dd' hs=>⟨.ref s.heap.objs.size,_,?_,rfl,q2⟩⟩;have hz:(yr [] kvs).length<=sizeLine:=by
  have h1:=ze0 kvs [];rw[List.length_nil]at h1;rw[mG];omega
 have he:∃q,h'.get? s.heap.objs.size=some q:=let⟨q,_,_,hq,_⟩:=dd';⟨q,hq⟩
 exact zk9 I2 (by rw[e];exact True.intro) hs he (zne hz hd (rk.merge .nil) dd')
section
variable{X:Cx}{aa:List (Addr×Obj)}{Z:St}{H:Hp}{s:Shared}{a:Addr}{kvs:List (Key×V)}{A:Around}{E:Value->Shared->Prop}
def zpA(I:Inv X aa Z H s)(e:Rd H a (.dK kvs))(h:∀p s',H p=none->Inv X aa Z (upd H p (.dK kvs)) s'->Q (.ref p) s'):wpAny (model X.prog X.w) A (call (.type "dict") [.ref a]) Q E s:=by
 obtain⟨z,hd,vs,rel,dd⟩:=zG I.hok e;refine kt_call_dict hd dd (by rw[<-rel.length];exact z) λh' dd' hs=>?_;refine h _ _ (I.hok.fresh (dJ _)) (I.laid (a:=s.heap.objs.size) (o:=.dK kvs) (t':=s.toks) (λb q hq=>?_) (dJ _) (zne z (YAU.mpr (YAM (fK I.big))) rel dd'));exact(hs.2 b (fK (dw hq))).trans (dO _ hq)
end
section
variable{κ:Type}[DecidableEq κ]
def zs5{kvs:List (κ×V)}{k:κ}{v:V}(h:eX kvs k=some v):k∈kvs.map (·.1):=by
 have q:(kvs.any λkv=>decide (kv.1=k))=true:=by
  rw[zgo,h]
  all_goals rfl
 obtain⟨p,hp,e⟩:=List.any_eq_true.mp q;exact YAK.mpr ⟨p,hp,YAD e⟩
end
def zti(Z:St):Option Nat->Option V
 |none=>none
 |some j=>(Z[j]?).join
def pF(sub:List (Option Nat))(Z:St):St:=sub.map (zti Z)
def zj0(sub:List (Option Nat))(Z:St):(pF sub Z).length=sub.length:=by unfold pF;simp
def zjF{sub:List (Option Nat)}{Z:St}{i:Nat}{v:V}(h:(pF sub Z)[i]?=some (some v)):∃j,sub[i]?=some (some j)/\Z[j]?=some (some v):=by
 unfold pF at h;rw[jG]at h;cases e:sub[i]? with
 |none=>rw[e]at h;cases h
 |some o=>
  rw[e]at h;have h':zti Z o=some v:=Option.some.inj h;cases o with
  |none=>cases h'
  |some j=>
   refine⟨j,rfl,?_⟩;have h2:(Z[j]?).join=some v:=h';cases e2:Z[j]? with
   |none=>rw[e2]at h2;cases h2
   |some w=>rw[e2]at h2;exact congrArg some h2
noncomputable def Eh(N:List Str)(osc sc:Scope)(Nc:List Str)(sub:List (Option Nat)):Bool:=
 decide (sc.kind=.function)&&sc.names.all (λy=>decide (y.2≠.cell))&&sc.names.all (λy=>!decide (y.2=.local) || decide (sc.names.lookup y.1=some .local))&&decide (sub.length=Nc.length) &&
 (Nc.zip sub).all (λp=>match p.2 with|none=>true|some j=>decide (N[j]?=some p.1)&&decide (sc.names.lookup p.1=some .free)) &&
 sc.names.all (λy=>!decide (y.2=.free) || (decide (osc.names.lookup y.1=some .cell) || decide (osc.names.lookup y.1=some .free)))
structure bR(N:List Str)(osc sc:Scope)(Nc:List Str)(sub:List (Option Nat)):Prop where
 kind:sc.kind=.function
 nocell:∀y∈sc.names,y.2≠.cell
 names:∀y∈sc.names,y.2=.local->sc.names.lookup y.1=some .local
 len:sub.length=Nc.length
 vis:∀(i j:Nat)(x:Str),Nc[i]?=some x->sub[i]?=some (some j)->N[j]?=some x/\sc.names.lookup x=some .free
 frees:∀y∈sc.names,y.2=.free->osc.names.lookup y.1=some .cell\/osc.names.lookup y.1=some .free
def bR.of{N:List Str}{osc sc:Scope}{Nc:List Str}{sub:List (Option Nat)}(h:Eh N osc sc Nc sub=true):bR N osc sc Nc sub:=by
 unfold Eh at h;simp only[YAB,An,xH,Bool.or_eq_true,Bool.not_eq_true',YB8]at h;obtain⟨⟨⟨⟨⟨h1,h2⟩,h3⟩,h4⟩,h5⟩,h6⟩:=h;refine⟨h1,h2,λy hy e=>(h3 y hy).elim (λz=>absurd e z) id,h4,λi j x e1 e2=>?_,λy hy e=>(h6 y hy).elim (λz=>absurd e z) id⟩;have hz:(Nc.zip sub)[i]?=some (x,some j):=by
  rw[List.getElem?_zip_eq_some];exact⟨e1,e2⟩
 have q:=h5 (x,some j) (YBW hz);simp only[YAB,xH]at q;exact q
def nD(cells:List (Str×Addr)):List (Str×NameKind)->List (Str×Addr)->List (Str×Addr)
 |[],acc=>acc
 | (n,k)::r,acc=>nD cells r (if k=.free then(n,(cells.lookup n).getD 0)::acc else acc)
def zhU:∀(names:List (Str×NameKind))(acc:List (Str×Addr)),(∀y∈names,y.2=.free->∃c,env.cells.lookup y.1=some c) ->
  (forIn names acc λx r=>match x with|(name,kind)=>if (kind==NameKind.free)=true then do let a <-cellOf env name;pure (ForInStep.yield ((name,a)::r))else pure (ForInStep.yield r):Sem (List (Str×Addr)))=pure (nD env.cells names acc):=by
 intro names
 induction names with
 |nil=>intro acc _;rfl
 |cons y r ih=>
  intro acc h;obtain⟨n,k⟩:=y;have ih':=ih (if k=.free then(n,(env.cells.lookup n).getD 0)::acc else acc) λy hy=>h y (je _ hy);rw[YCE];by_cases hk:k=.free
  .subst hk;obtain⟨c,hc⟩:=h (n,.free) gw rfl;have e1:cellOf env n=pure c:=by unfold cellOf;rw[hc]
   simp only[beq_self_eq_true,uB,e1,pure_bind];unfold nD;rw[hc]at ih' ⊢
   simpa using ih'
  .have hb:(k==NameKind.free)=false:=by simpa using hk
   simp only[hb,Ba,um,pure_bind];unfold nD;rw[if_neg hk]at ih' ⊢;exact ih'
def zqA:∀(names:List (Str×NameKind))(acc:List (Str×Addr)),(∀y∈names,y.2=.free->∃c,cells.lookup y.1=some c)->(∀p∈acc,cells.lookup p.1=some p.2) ->
  ∀p∈nD cells names acc,cells.lookup p.1=some p.2:=by
 intro names
 induction names with
 |nil=>intro acc _ h;exact h
 |cons y r ih=>
  intro acc h ha;obtain⟨n,k⟩:=y;refine ih _ (λy hy=>h y (je _ hy)) ?_;by_cases hk:k=.free
  .rw[if_pos hk];intro p hp;rcases ir.mp hp with e|e
   .subst e;obtain⟨c,hc⟩:=h (n,k) gw hk;show cells.lookup n=some ((cells.lookup n).getD 0);have hc':cells.lookup n=some c:=hc;rw[hc'];rfl
   .exact ha p e
  .rw[if_neg hk];exact ha
def zoa :∀(names:List (Str×NameKind))(acc:List (Str×Addr)),p∈acc->p∈nD cells names acc:=by
 intro names
 induction names with
 |nil=>intro acc h;exact h
 |cons y r ih=>
  intro acc h;obtain⟨n,k⟩:=y;refine ih _ ?_;by_cases hk:k=.free
  .rw[if_pos hk];exact je _ h
  .rw[if_neg hk];exact h
def zps :∀(names:List (Str×NameKind))(acc:List (Str×Addr)),(x,NameKind.free)∈names->∃c,(x,c)∈nD cells names acc:=by
 intro names
 induction names with
 |nil=>intro acc h;cases h
 |cons y r ih=>
  intro acc h;obtain⟨n,k⟩:=y;rcases ir.mp h with e|e
  .cases e;refine⟨(cells.lookup x).getD 0,?_⟩;unfold nD;refine zoa _ _ ?_;rw[if_pos rfl];exact gw
  .exact ih _ e
theorem zfn{α:Type}{x:Str}{c:α}:∀{l:List (Str×α)},(x,c)∈l->∃d,l.lookup x=some d
 |[],h=>by cases h
 | (y,d)::r,h=>by
  by_cases e:x=y
  .subst e;exact⟨d,by simp[List.lookup]⟩
  .have hb:(x==y)=false:=YAU.mpr e;rcases ir.mp h with q|q
   .cases q;exact absurd rfl e
   .obtain⟨d',q'⟩:=zfn q;exact⟨d',by simp only[List.lookup,hb];exact q'⟩
def zen(h:∀y∈scope.names,y.2=.free->∃c,env.cells.lookup y.1=some c) :
  ∃cl,closureFor scope env=pure cl/\(∀x c,cl.lookup x=some c->env.cells.lookup x=some c)/\∀x,scope.names.lookup x=some .free->∃c,cl.lookup x=some c:=by
 refine⟨nD env.cells scope.names [],?_,λx c e=>?_,λx e=>?_⟩
 .unfold closureFor;show(forIn scope.names ([]:List (Str×Addr)) (λx r=>match x with|(name,kind)=>if (kind==NameKind.free)=true then do let a <-cellOf env name;pure (ForInStep.yield ((name,a)::r))else pure (ForInStep.yield r)) >>=λcs=>pure cs:Sem (List (Str×Addr)))=_;rw[zhU scope.names [] h,pure_bind]
 .exact zqA scope.names [] h (λp hp=>nomatch hp) (x,c) (zK e)
 .obtain⟨c,hc⟩:=zps (cells:=env.cells) scope.names [] (zK e);exact zfn hc
theorem zcW{env:Env}:∀{names:List (Str×NameKind)}{x:Str},names.lookup x=some .free ->
  (names.map λ(n,k)=>if (k==NameKind.free&&env.scope.kind==.function&&env.kindOf n==some .cell)then(n,NameKind.cell)else(n,k)).lookup x=some .cell \/
  (names.map λ(n,k)=>if (k==NameKind.free&&env.scope.kind==.function&&env.kindOf n==some .cell)then(n,NameKind.cell)else(n,k)).lookup x=some .free
 |[],_,h=>by simp at h
 | (n,k)::r,x,h=>by
  have ih:=@zcW env r x;show List.lookup x ((if (k==NameKind.free&&env.scope.kind==.function&&env.kindOf n==some .cell)=true then(n,NameKind.cell)else(n,k))::_)=_\/List.lookup x ((if (k==NameKind.free&&env.scope.kind==.function&&env.kindOf n==some .cell)=true then(n,NameKind.cell)else(n,k))::_)=_;cases hx:x==n with
  |true=>
   simp only[rO,hx]at h;cases h;by_cases hc:(NameKind.free==NameKind.free&&env.scope.kind==.function&&env.kindOf n==some .cell)=true
   .rw[if_pos hc];left;simp only[rO,hx]
   .rw[if_neg hc];right;simp only[rO,hx]
  |false=>
   simp only[rO,hx]at h;by_cases hc:(k==NameKind.free&&env.scope.kind==.function&&env.kindOf n==some .cell)=true
   .rw[if_pos hc];simp only[rO,hx];exact ih h
   .rw[if_neg hc];simp only[rO,hx];exact ih h
theorem zd1{env:Env}:∀{names:List (Str×NameKind)}{x:Str},(∀y∈names,y.2≠.cell) ->
  ((names.map λ(n,k)=>if (k==NameKind.free&&env.scope.kind==.function&&env.kindOf n==some .cell)then(n,NameKind.cell)else(n,k)).lookup x=some .cell \/
  (names.map λ(n,k)=>if (k==NameKind.free&&env.scope.kind==.function&&env.kindOf n==some .cell)then(n,NameKind.cell)else(n,k)).lookup x=some .free)->names.lookup x=some .free
 |[],_,_,h=>by simp at h
 | (n,k)::r,x,nc,h=>by
  have ih:=@zd1 env r x λy hy=>nc y (je _ hy);have nk:k≠.cell:=nc (n,k) gw;have h':List.lookup x ((if (k==NameKind.free&&env.scope.kind==.function&&env.kindOf n==some .cell)=true then(n,NameKind.cell)else(n,k))::(r.map λ(n,k)=>if (k==NameKind.free&&env.scope.kind==.function&&env.kindOf n==some .cell)then(n,NameKind.cell)else(n,k)))=some .cell\/List.lookup x ((if (k==NameKind.free&&env.scope.kind==.function&&env.kindOf n==some .cell)=true then(n,NameKind.cell)else(n,k))::(r.map λ(n,k)=>if (k==NameKind.free&&env.scope.kind==.function&&env.kindOf n==some .cell)then(n,NameKind.cell)else(n,k)))=some .free:=h;clear h;by_cases hc:(k==NameKind.free&&env.scope.kind==.function&&env.kindOf n==some .cell)=true
  .rw[if_pos hc]at h';have kf:k=.free:=by
    rw[YAB,YAB]at hc;exact yz.mp hc.1.1
   cases hx:x==n with
   |true=>simp only[rO,hx];rw[kf]
   |false=>simp only[rO,hx]at h' ⊢;exact ih h'
  .rw[if_neg hc]at h';cases hx:x==n with
   |true=>
    simp only[rO,hx]at h' ⊢;rcases h' with e|e
    .exact absurd (Option.some.inj e) nk
    .exact e
   |false=>simp only[rO,hx]at h' ⊢;exact ih h'
def gQ(X:Cx)(Nc:List Str)(scope:Scope)(cl:List (Str×Addr))(L:Addr)(s₀:Shared)(H₀:Hp)(ex:List Addr):Cx:=
 {X with N:=Nc,s₀:=s₀,H₀:=H₀,env:=compEnvC scope cl L X.env,outer:=X.stack,ex:=ex,fn:=λ_=>false,pn:=[],xe:=λ_ _=>False}
def yQ(sub:List (Option Nat))(g:TG):Prop:=∀v Z H (Q:St->Hp->Prop),g v Z H Q->g v Z H λZ2 H2=>Q Z2 H2/\∀(i j:Nat),sub[i]?=some (some j)->Z2[i]?=Z[i]?
def Fb(sub:List (Option Nat))(g:ut):Prop:=∀v Z H (Q:St->Hp->Prop),g v Z H Q->g v Z H λZ2 H2=>Q Z2 H2/\∀(i j:Nat),sub[i]?=some (some j)->Z2[i]?=Z[i]?
def zsS(h:sub[i]?=some none):yQ sub (zB i):=λv Z H Q q=>by
 refine⟨q,λk j e=>?_⟩;have ne:i≠k:=λz=>by subst z;rw[h]at e;cases e
 rw[jE ne]
def zs4:Fb sub xq:=λ_ _ _ _ ⟨e,q⟩=>⟨e,q,λ_ _ _=>rfl⟩
def xP(g:TG):Prop:=∀v Z H (Q Q':St->Hp->Prop),(∀ Z2 H2,Q Z2 H2->Q' Z2 H2)->g v Z H Q->g v Z H Q'
def DK(g:ut):Prop:=∀v Z H (Q Q':St->Hp->Prop),(∀ Z2 H2,Q Z2 H2->Q' Z2 H2)->g v Z H Q->g v Z H Q'
def zsG:xP (zB i):=λ_ _ _ _ _ f q=>f _ _ q
def zsK:DK xq:=λ_ _ _ _ _ f ⟨e,q⟩=>⟨e,f _ _ q⟩
def zp6(h1:xP t)(h2:DK u):DK (zph t u):=λv Z H Q Q' f ⟨x,r,e,q⟩=>⟨x,r,e,h1 _ _ _ _ _ (λZ2 H2 z=>h2 _ _ _ _ _ f z) q⟩
def zpS(h1:yQ sub t)(m1:xP t)(h2:Fb sub u)(m2:DK u):Fb sub (zph t u):=λv Z H Q ⟨x,r,e,q⟩=>by
 refine⟨x,r,e,?_⟩;refine m1 _ _ _ _ _ (λZ2 H2 z=>?_) (h1 _ _ _ _ q);obtain⟨z,k⟩:=z;refine m2 _ _ _ _ _ (λZ3 H3 y=>?_) (h2 _ _ _ _ z);exact⟨y.1,λi j e=>(y.2 i j e).trans (k i j e)⟩
noncomputable def qQ(X:Cx)(ifs:List Expr)(t:TT):Prop:=
 ∀(aa:List (Addr×Obj))(s:Shared)(Z:St)(H:Hp)(Q:Bool->Hp->Prop),Inv X aa Z H s->t Z H Q ->
  wpAny (model X.prog X.w) X.A (forIn ifs true λc r=>if r=true then do let ok <-isTrue c X.env (eval c X.env);pure (ForInStep.yield ok)else pure (ForInStep.yield r)) (TP X aa Z Q) X.xe s
def zv9:TT:=λ_ H Q=>Q true H
def pif0:qQ X [] zv9:=λ_ _ _ H _ I h=>wpAny_tests_nil ⟨H,I,h⟩
def pif1(h:PT X c t):qQ X [c] t:=λaa s Z H Q I q=>wpAny_tests_one (h aa s Z H Q I q)
noncomputable def zri(g:TG)(tc:TT)(te:TE)(Zc:St)(l:Addr)(J:It)(H1:Hp)(Q:VK):Prop:=
 ∃W:Nat->Nat->List V->Hp->Prop,(∃m,W 0 m [] (upd H1 l (.lst [])))/\∀i m xs H2,W i m xs H2->H2 l=some (.lst xs) /\
  ((J.stop i H2/\Q (.ref l) H2)\/(J.go i H2/\∃N:List V->Hp->Prop,(∀xs' H',N xs' H'->∃m',m'<m/\W (i+1) m' xs' H') /\
   ∀x H',J.yld i H2 x H'->g x Zc H' λZ2 H3=>tc Z2 H3 λb H4=>if b=true then te Z2 H4 λy H5=>H5 l=some (.lst xs)/\xs.length<sizeLine/\N (xs++[y]) (upd H5 l (.lst (xs++[y])))else N xs H4))
def zlK(sub:List (Option Nat))(wi:TI)(g:TG)(tc:TT)(te:TE):TE:=λZ H Q=>wi Z H λJ H1=>∀l,H1 l=none->zri g tc te (pF sub Z) l J H1 Q
section
variable{X:Cx}{aa:List (Addr×Obj)}{Z:St}{H:Hp}{s:Shared}{scope:Scope}{Nc:List Str}{sub:List (Option Nat)}{elt tg iter:Expr}{ifs:List Expr}{pos:Pos}{g:TG}{tc:TT}{te:TE}
def znI{cl:List (Str×Addr)}{fp:List Addr}{it:Addr}{J:It}{tn:Nat->Heap->Prop}(I:Inv X aa Z H s)(hS:bR X.N X.env.scope scope Nc sub)
  (hcl:∀x c,cl.lookup x=some c->X.env.cells.lookup x=some c) (hcl2:∀x,scope.names.lookup x=some .free->∃c,cl.lookup x=some c)
  (hf:∀b∈fp,il X aa H b) (hlt:∀b∈fp,b<s.heap.objs.size):(gQ X Nc scope cl s.heap.objs.size s H fp).Ok where
 mod:=I.ok.mod
 kind:=hS.kind
 glob:=I.ok.glob
 blt:=I.ok.blt
 above:=dJ _
 inj:=λx y c e1 e2=>I.ok.inj x y c (hcl x c e1) (hcl y c e2)
 has:=λx h=>hcl2 x (zd1 (env:=X.env) hS.nocell h)
 cab:=λx c h=>by cases h
 hd:=I.ok.hd
 frames:=I.ok.frames
 stk:=.inl rfl
 exf:=λb hb=>⟨fK (hlt b hb),λx c e=>(hf b hb).2.2.2.2.1 x c (hcl x c e)⟩
 bs:=I.bs
 bsz:=iu I.ok.bsz I.sz
 noex:=λb o e hb=>by
  rcases(hf b hb).2.2.2.1 with z|z
  .exact I.ok.noex b o e z
  .exact absurd (jN (dw e) (iu I.ok.bsz z)) (ud _)
 exfs:=λb hb hq=>by
  rcases ir.mp (I.stkSub b hq)with z|z
  .exact(hf b hb).2.1 z
  .exact(hf b hb).2.2.1 z
 funs:=I.stack
 frf:=I.stkFree
def zj7{cl:List (Str×Addr)}{fp:List Addr}{h1:Heap}{t':Nat}{m:Str->Option Value}(I:Inv X aa Z H s)(hS:bR X.N X.env.scope scope Nc sub)
  (hcl:∀x c,cl.lookup x=some c->X.env.cells.lookup x=some c) (hcl2:∀x,scope.names.lookup x=some .free->∃c,cl.lookup x=some c)
  (ok:(gQ X Nc scope cl s.heap.objs.size s H fp).Ok) (hn:h1.Ns s.heap.objs.size m) (hk:∀b o,s.heap.get? b=some o->h1.get? b=some o) :
  Inv (gQ X Nc scope cl s.heap.objs.size s H fp) [] (pF sub Z) H {s with heap:=h1,toks:=t'}where
 ok:=ok
 os:=rfl
 bare:=I.bare
 base:=Un.kept hk
 loc:=by
  refine⟨m,hn,λi x v e1 e2 _=>?_⟩;obtain⟨j,e3,e4⟩:=zjF e2;obtain⟨e5,e6⟩:=hS.vis i j x e1 e3;obtain⟨m',_,hl⟩:=I.loc;have hfr:X.env.kindOf x=some .cell\/X.env.kindOf x=some .free:=hS.frees (x,.free) (zK e6) rfl;obtain⟨u,r,l⟩:=hl j x v e5 e4 (.inr hfr);refine⟨u,r,?_⟩;rcases l with⟨k,_⟩|⟨_,c,e,z⟩
  .rcases hfr with q|q
   .rw[k]at q;cases q
   .rw[k]at q;cases q
  .obtain⟨c',e'⟩:=hcl2 x e6
   have:=hcl x c' e'
   rw[e]at this;cases this;exact .inr ⟨zcW (env:=X.env) e6,c,e',z.keeps hk⟩
 cell:=λx c e=>by
  obtain⟨v,z⟩:=I.cell x c (hcl x c e);exact⟨v,z.keeps hk⟩
 free:=I.hok.fresh (dJ _)
 freeC:=λx c e=>I.freeC x c (hcl x c e)
 pin:=λp hp=>absurd (show p∈([]:List (Addr×Obj))from hp) (by simp)
 hok:=I.hok.kept hk
 len:=(zj0 sub Z).trans hS.len
def zmL{cl:List (Str×Addr)}{fp:List Addr}{pinsC:List (Addr×Obj)}{Zc:St}{H':Hp}{s':Shared}(I:Inv X aa Z H s)(hf:∀b∈fp,il X aa H b)
  (J:Inv (gQ X Nc scope cl s.heap.objs.size s H fp) pinsC Zc H' s'):Inv X aa Z H' s':=
 I.call' (ch:=fp) J.os J.base J.hok J.bare λb hb=>⟨(hf b hb).2.2.2.1,(hf b hb).2.1,(hf b hb).2.2.2.2.1,(hf b hb).2.2.2.2.2⟩
noncomputable def zlw(X:Cx)(tg:Expr)(J:It)(fp:List Addr)(it:Addr)(tn:Nat->Heap->Prop):Prop:=∀(i:Nat)(s:Shared)(Z:St)(H:Hp),Inv X [] Z H s->(∀b∈fp,il X [] H b)->tn i s.heap ->
 (J.go i H->∀E,wpAny (model X.prog X.w) X.A (pyNext (.ref it)) (λr s1=>∃u,r=some u/\wpAny (model X.prog X.w) X.A (letOwnedTupleGo tg (.ref it) u) (λ_ s2=>∃x H',Inv X [] Z H' s2/\RelV x u/\J.yld i H x H'/\tn (i+1) s2.heap/\∀b∈fp,H' b=none) E s1) E s) /\
 (J.stop i H->∀E,wpAny (model X.prog X.w) X.A (pyNext (.ref it)) (λr s1=>r=none/\Inv X [] Z H s1) E s)
def Turn.at{P:Program}{w:World}{K:qo}{J:It}{fp:List Addr}{it:Addr}{tn:Nat->Heap->Prop}(T:Turn P w K tg J fp it tn)(h1:X.prog=P)(h2:X.w=w)(h3:X.K=K)(hc:X.calm=true):zlw X tg J fp it tn:=by
 subst h1 h2 h3;exact λi s Z H I hf st=>⟨λg E=>T.item X rfl rfl rfl hc i [] s Z H E I hf st g,λg E=>T.done X rfl rfl rfl hc i [] s Z H E I hf st g⟩
def zlH{cl:List (Str×Addr)}{fp:List Addr}{it:Addr}{J:It}{tn:Nat->Heap->Prop}{E:Value->Shared->Prop}{Q:VK}{RR:Value->Addr->Result->Shared->Prop}
  (I:Inv X aa Z H s) (hS:bR X.N X.env.scope scope Nc sub)
  (hcl:∀x c,cl.lookup x=some c->X.env.cells.lookup x=some c) (hcl2:∀x,scope.names.lookup x=some .free->∃c,cl.lookup x=some c)
  (hT:∀s0:Shared,(∀b o,s.heap.get? b=some o->s0.heap.get? b=some o)->zlw (gQ X Nc scope cl s0.heap.objs.size s0 (upd H s.heap.objs.size (.lst [])) fp) tg J fp it tn) (T:Turn X.prog X.w X.K tg J fp it tn) (st:tn 0 s.heap) (hf:∀b∈fp,il X aa H b)
  (hg:∀cl L s0 H0 ex,PG (gQ X Nc scope cl L s0 H0 ex) tg g) (gk:yQ sub g)
  (hi:∀cl L s0 H0 ex,qQ (gQ X Nc scope cl L s0 H0 ex) ifs tc) (he:∀cl L s0 H0 ex,PE (gQ X Nc scope cl L s0 H0 ex) elt te)
  (gm:xP g) (q:∀l,H l=none->zri g tc te (pF sub Z) l J H Q)
  (hRR:∀l C H' s' m,Inv X aa Z H' s'->Q (.ref l) H'->s'.heap.Ns C m->s.heap.objs.size<=C->H' C=none->RR (.ref l) C (.ok .next) s') :
  wpAny (model X.prog X.w) X.A (newList []) (λacc s₃=>wpAny (model X.prog X.w) X.A (newFunctionEnv scope X.env.globals cl [] X.env.qual none .none (some X.env)) (λcenv s₄=>
   codeAny (model X.prog X.w) X.A (.compStart (.ListComp elt [⟨tg,iter,ifs,0⟩] scope pos) 0 (.ref it) acc {cenv with scope:=relabel scope X.env}) (RR acc cenv.locals) s₄) E s₃) E s:=by
 have hlt:∀b∈fp,b<s.heap.objs.size:=λb hb=>let⟨o,e,_⟩:=T.obj _ _ st b hb;dw e
 have hl0:H s.heap.objs.size=none:=I.hok.fresh (dJ _);obtain⟨W,⟨m0,w0⟩,turn⟩:=q s.heap.objs.size hl0;refine YAI ?_
 -- the list is laid
 have I3:Inv X aa Z (upd H s.heap.objs.size (.lst [])) {s with heap:=s.heap.push {cls:=.type "list",data:=.seq ([]:List Value).toArray},toks:=s.toks}:=I.lnew (its:=[]) .nil (vX _);generalize hs3:({s with heap:=s.heap.push {cls:=.type "list",data:=.seq ([]:List Value).toArray},toks:=s.toks}:Shared)=s3 at I3;have e3:({s with heap:=s.heap.push {cls:=.type "list",data:=.seq ([]:List Value).toArray}}:Shared)=s3:=hs3;have k3:∀b o,s.heap.get? b=some o->s3.heap.get? b=some o:=λb o e=>by rw[<-hs3];exact dO _ e
 have z3:s.heap.objs.size<=s3.heap.objs.size:=by rw[<-hs3];show _<=(s.heap.push _).objs.size;rw[xJ];exact Nat.le_succ _
 have f3:∀b∈fp,il X aa (upd H s.heap.objs.size (.lst [])) b:=λb hb=>⟨by rw[au (fK (hlt b hb))];exact(hf b hb).1,(hf b hb).2⟩;have lt3:∀b∈fp,b<s3.heap.objs.size:=λb hb=>jN (hlt b hb) z3;have st3:tn 0 s3.heap:=T.keep _ _ _ st λb _ o e=>k3 b o e;refine wpAny_newFunctionEnv hS.nocell (by intro y hy;simp at hy) (λh₁ hns₁ hsb₁=>?_) hS.kind;have k4:∀b o,s3.heap.get? b=some o->h₁.get? b=some o:=λb o e=>hsb₁.extBut b o (fK (dw e)) (dO _ e);have ok4:=znI (J:=J) (it:=it) (tn:=tn) I3 hS hcl hcl2 f3 lt3;have I4:=zj7 (t':=s3.toks+([]:List (Str×Value)).length) I3 hS hcl hcl2 ok4 hns₁ k4;have st4:tn 0 h₁:=T.keep _ _ _ st3 λb _ o e=>k4 b o e
 -- what stays true of the iterator's objects
 have stat:∀{H':Hp},(∀b∈fp,H' b=none)->∀b∈fp,il (gQ X Nc scope cl s3.heap.objs.size s3 (upd H s.heap.objs.size (.lst [])) fp) [] H' b:=λhn b hb=>
  ⟨hn b hb,(ok4.exf b hb).1,ok4.exfs b hb,.inl hb,(ok4.exf b hb).2,λp hp=>absurd (show p∈([]:List (Addr×Obj))from hp) (by simp)⟩
 have loop:∀s₄:Shared,s₄={s3 with heap:=h₁,toks:=s3.toks+([]:List (Str×Value)).length} ->
   codeAny (model X.prog X.w) X.A (.compLoop (.ListComp elt [⟨tg,iter,ifs,0⟩] scope pos) 0 (.ref it) (.ref s.heap.objs.size) (compEnvC scope cl s3.heap.objs.size X.env)) (RR (.ref s.heap.objs.size) s3.heap.objs.size) s₄:=by
  rintro s₄ rfl;refine codeAny_loop rfl (λn s'=>∃i xs H',Inv (gQ X Nc scope cl s3.heap.objs.size s3 (upd H s.heap.objs.size (.lst [])) fp) [] (pF sub Z) H' s'/\tn i s'.heap/\(∀b∈fp,H' b=none)/\W i n xs H') ?_ m0
   ⟨0,[],_,I4,st4,λb hb=>(f3 b hb).1,w0⟩
  rintro n s5 ⟨i,xs,H5,I5,st5,fr5,w5⟩;show wpAny _ X.A ((compTurn (.ListComp elt [⟨tg,iter,ifs,0⟩] scope pos) 0 (.ref it) (.ref s.heap.objs.size) (compEnvC scope cl s3.heap.objs.size X.env)).onRaise (λx=>do noteFrame x (compEnvC scope cl s3.heap.objs.size X.env);theTreesLotGoes x)) _ _ s5;refine wpAny_noted ?_;rw[compTurn_list];refine aJ (JR (aJ ?_));obtain⟨hl5,w5⟩:=turn i n xs H5 w5;rcases w5 with⟨stop,qn⟩|⟨go,N,hN,step⟩
  .refine bF ((hT s3 k3 i s5 (pF sub Z) H5 I5 (stat fr5) st5).2 stop _) λr s6 ⟨hr,I6⟩=>?_;subst hr;obtain⟨m6,hn6,_⟩:=I6.loc;exact bV (hRR _ _ H5 s6 m6 (zmL I3 f3 I6) qn hn6 z3 I6.free)
  .refine bF ((hT s3 k3 i s5 (pF sub Z) H5 I5 (stat fr5) st5).1 go _) λr s6 ⟨u,hr,h6⟩=>?_;subst hr;refine aJ (bF h6 λ_ s7 ⟨x,H7,I7,r7,y7,st7,fr7⟩=>?_);have I7':=I7.pinned (stat fr7) (T.obj _ _ st7);have again:∀{Z8:St}{H8:Hp}{ys:List V}{s8:Shared},Inv (gQ X Nc scope cl s3.heap.objs.size s3 (upd H s.heap.objs.size (.lst [])) fp) ([]++Fw fp s7.heap) Z8 H8 s8->(∀(i j:Nat),sub[i]?=some (some j)->Z8[i]?=(pF sub Z)[i]?)->N ys H8 ->
     ∃m,m<n/\∃i xs H',Inv (gQ X Nc scope cl s3.heap.objs.size s3 (upd H s.heap.objs.size (.lst [])) fp) [] (pF sub Z) H' s8/\tn i s8.heap/\(∀b∈fp,H' b=none)/\W i m xs H':=λ{Z8 H8 ys s8} I8 k8 n8=>by
    obtain⟨m',hm,w8⟩:=hN ys H8 n8;refine⟨m',hm,i+1,ys,H8,?_,T.keep _ _ _ st7 λb hb o e=>(I8.pin (b,o) (YAE _ (YAE _ (zer hb e)))).1,λb hb=>?_,w8⟩
    .refine I8.unpinned.weak ?_ λk v e=>?_
     .rw[I8.len];exact(zj0 sub Z).trans hS.len
     .obtain⟨j,e1,_⟩:=zjF e;rw[k8 k j e1];exact e
    .obtain⟨o,e,d⟩:=T.obj _ _ st7 b hb;exact(I8.pin (b,o) (YAE _ (YAE _ (zer hb e)))).2.1
   refine aJ (YAT (hg cl _ s3 _ fp _ s7 (pF sub Z) H7 x u _ I7' r7 (gk _ _ _ _ (step x H7 y7))) (λ_ s8 ⟨Z8,H8,I8,q8,k8⟩=>?_) λ_ _ z=>False.elim z);refine aJ (YAT (hi cl _ s3 _ fp _ s8 Z8 H8 _ I8 q8) (λok s9 ⟨H9,I9,q9⟩=>?_) λ_ _ z=>False.elim z);cases ok with
   |false=>exact bV ⟨rfl,again I9 k8 q9⟩
   |true=>
    refine aJ (aJ (YAT (he cl _ s3 _ fp _ s9 Z8 H9 _ I9 q9) (λxv s10 ⟨y,H10,I10,r10,mX,hz,q10⟩=>?_) λ_ _ z=>False.elim z));refine aJ (YAT (zgK (X:=(gQ X Nc scope cl s3.heap.objs.size s3 (upd H s.heap.objs.size (.lst [])) fp)) _ s10 Z8 H10 (.ref s.heap.objs.size) [y] (.ref s.heap.objs.size) [xv] (λ_ H11=>N (xs++[y]) H11) I10 rfl (.cons r10 .nil) ⟨_,xs,y,rfl,rfl,mX,hz,q10⟩) (λ_ s11 ⟨_,H11,I11,_,q11⟩=>?_) λ_ _ z=>False.elim z);exact bV (bV ⟨rfl,again I11 k8 q11⟩)
 exact codeAny_compStart_list (loop _ rfl) (T.self _ 0 _ _ _ st4 (loop _ rfl))
def zhS(I:Inv X aa Z H s)(hS:bR X.N X.env.scope scope Nc sub):∀y∈scope.names,y.2=.free->∃c,X.env.cells.lookup y.1=some c:=λy hy e=>
 I.ok.has y.1 (hS.frees y hy e)
noncomputable def PIT(X:Cx)(Nc:List Str)(scope:Scope)(tg iter:Expr)(wi:TI):Prop:=
 ∀(aa:List (Addr×Obj))(s:Shared)(Z:St)(H:Hp)(R:It->Hp->Prop),Inv X aa Z H s->wi Z H R->wpAny (model X.prog X.w) X.A (eval iter X.env) (λv s1=>wpAny (model X.prog X.w) X.A (pyIter v) (λitv s2=>
  ∃(it:Addr)(fp:List Addr)(tn:Nat->Heap->Prop)(J:It)(H':Hp),itv=.ref it/\Inv X aa Z H' s2/\Turn X.prog X.w X.K tg J fp it tn/\tn 0 s2.heap/\(∀b∈fp,il X aa H' b)/\R J H' /\
   ∀cl s0,(∀b o,s2.heap.get? b=some o->s0.heap.get? b=some o)->zlw (gQ X Nc scope cl s0.heap.objs.size s0 (upd H' s2.heap.objs.size (.lst [])) fp) tg J fp it tn) X.xe s1) X.xe s
def PI.t{wi:TI}(hc:X.calm=true)(h:PI X tg iter wi):PIT X Nc scope tg iter wi:=λaa s Z H R I q=>bF (h aa s Z H R I q) λv s1 h1=>bF h1 λitv s2 ⟨it,fp,tn,J,H',e,I2,T,st,f,r⟩=>⟨it,fp,tn,J,H',e,I2,T,st,f,r,λ_ _ _=>T.at rfl rfl rfl hc⟩
def zjr{wi:TI}(hS:bR X.N X.env.scope scope Nc sub)(hI:PIT X Nc scope tg iter wi)
  (hg:∀cl L s0 H0 ex,PG (gQ X Nc scope cl L s0 H0 ex) tg g) (gk:yQ sub g) (gm:xP g)
  (hi:∀cl L s0 H0 ex,qQ (gQ X Nc scope cl L s0 H0 ex) ifs tc) (he:∀cl L s0 H0 ex,PE (gQ X Nc scope cl L s0 H0 ex) elt te)
  (hs:∀x,foldedSetIterable iter X.env x=pure x:=by intro _;rfl):PE X (.ListComp elt [⟨tg,iter,ifs,0⟩] scope pos) (zlK sub wi g tc te):=by
 intro aa s Z H Q I h;obtain⟨cl,hcl0,hcl,hcl2⟩:=zen (zhS I hS);rw[eval_ListComp];refine wpAny_comprehension_free (use:=none) rfl hs hcl0 hS.kind hS.names ?_;refine bF (hI aa s Z H _ I h) λxv s1 h1=>bF h1 λitv s2 h2=>?_;obtain⟨it,fp,tn,J,H2,e,I2,T,st2,f2,q,hT⟩:=h2;subst e;refine zlH I2 hS hcl hcl2 (hT cl) T st2 f2 hg gk hi he gm q λl C H' s' m I' q' hn hC hfr=>?_;refine⟨m,hn,λh' sb=>?_⟩;have nL:C≠X.env.locals:=wu (jN I2.lt hC);refine⟨.ref l,H',?_,rfl,q'⟩;exact I'.turned (it:=C) (t':=s'.toks) (λb o hb e=>(sb.2 b hb).trans e) hfr nL (.inr (iu I2.sz hC)) (λx c e z=>by
  obtain⟨v,w⟩:=I2.cell x c e;exact absurd (jN w.lt (by rw[z];exact hC)) (ud _)) λp hp z=>
  absurd (jN (dw (I2.pin p hp).1) (by rw[z];exact hC)) (ud _)
def zpv(hc:X.calm=true)(hS:bR X.N X.env.scope scope Nc sub)(hI:PI X tg iter wi)
  (hg:∀cl L s0 H0 ex,PG (gQ X Nc scope cl L s0 H0 ex) tg g) (gk:yQ sub g) (gm:xP g)
  (hi:∀cl L s0 H0 ex,qQ (gQ X Nc scope cl L s0 H0 ex) ifs tc) (he:∀cl L s0 H0 ex,PE (gQ X Nc scope cl L s0 H0 ex) elt te)
  (hs:∀x,foldedSetIterable iter X.env x=pure x:=by intro _;rfl):PE X (.ListComp elt [⟨tg,iter,ifs,0⟩] scope pos) (zlK sub wi g tc te):=zjr hS (hI.t hc) hg gk gm hi he hs
def zou(hc:X.calm=true)(hN:X.N.Nodup)(hiN:X.N[i]?=some y)(hy:X.env.scope.names.lookup y=some .local)(hS:bR X.N X.env.scope scope Nc sub)(hI:PI X tg iter wi)
  (hg:∀cl L s0 H0 ex,PG (gQ X Nc scope cl L s0 H0 ex) tg g) (gk:yQ sub g) (gm:xP g)
  (hi:∀cl L s0 H0 ex,qQ (gQ X Nc scope cl L s0 H0 ex) ifs tc) (he:∀cl L s0 H0 ex,PE (gQ X Nc scope cl L s0 H0 ex) elt te)
  (hsw:swapsWith (.ListComp elt [⟨tg,iter,ifs,0⟩] scope pos) (some (.Name y py)) spos.line X.env=pure true:=by rfl)
  (hs:∀x,foldedSetIterable iter X.env x=pure x:=by intro _;rfl):PS X (.Assign [.Name y py] (.ListComp elt [⟨tg,iter,ifs,0⟩] scope pos) spos) (tG (zlK sub wi g tc te) (zB i)):=by
 intro aa s Z H D I h;obtain⟨cl,hcl0,hcl,hcl2⟩:=zen (zhS I hS);rw[exec_Assign_Name_used _ _ _ _ hsw];refine aJ (JR (aJ ?_));show wpAny _ X.A (do let _ <-comprehension (.ListComp elt [⟨tg,iter,ifs,0⟩] scope pos) scope X.env _ (newList []) false (eval iter X.env) (some (assign (.Name y py) X.env))) _ _ s;refine aJ (YAT (wpAny_comprehension_free (use:=some (assign (.Name y py) X.env)) (Q:=λ_ s'=>SP X aa D .next s') rfl hs hcl0 hS.kind hS.names
  (bF (hI aa s Z H _ I h) λxv s1 h1=>bF h1 λitv s2 h2=>?_)) (λ_ s' hq=>bV (bV hq)) λ_ _ e=>e)
 obtain⟨it,fp,tn,J,H2,e,I2,T,st2,f2,q⟩:=h2;subst e;refine zlH I2 hS hcl hcl2 (λ_ _=>T.at rfl rfl rfl hc) T st2 f2 hg gk hi he gm q λl C H' s' m I' q' hn hC hfr=>?_;have nL:C≠X.env.locals:=wu (jN I2.lt hC);show wpAny _ X.A (assign (.Name y py) X.env (.ref l)) _ _ _;refine wpAny_assign_Name (zja I' hN hiN (.inl hy) (v:=.ref l) rfl (λs6 I6 ⟨a,sb6,ha⟩=>?_) (.inr hy));have nA:C≠a:=λz=>by
  rcases ha with e|e
  .exact nL (z.trans e)
  .obtain⟨v,w⟩:=I2.cell y a e;exact absurd (jN w.lt (by rw[<-z];exact hC)) (ud _)
 refine⟨m,hn.sameBut sb6 nA,λh' sb=>?_⟩;refine⟨_,H',I6.turned (it:=C) (t':=s6.toks) (λb o hb e=>(sb.2 b hb).trans e) hfr nL (.inr (iu I2.sz hC)) (λx c e z=>by
  obtain⟨v,w⟩:=I2.cell x c e;exact absurd (jN w.lt (by rw[z];exact hC)) (ud _)) (λp hp z=>
  absurd (jN (dw (I2.pin p hp).1) (by rw[z];exact hC)) (ud _)),q'⟩
end
end L2
namespace L2
open PySem PyProof.Rows
def zqO{M:Model}{A:Around}{E:Value->Shared->Prop}{s:Shared}{α:Type}{c:Prop}[Decidable c]{x y:Sem α}{Q:α->Shared->Prop}(hc:c)(h:wpAny M A x Q E s):wpAny M A (if c then x else y) Q E s:=by rw[if_pos hc];exact h
def BZ{M:Model}{A:Around}{E:Value->Shared->Prop}{s:Shared}{α:Type}{c:Prop}[Decidable c]{x y:Sem α}{Q:α->Shared->Prop}(hc:¬ c)(h:wpAny M A y Q E s):wpAny M A (if c then x else y) Q E s:=by rw[if_neg hc];exact h
end L2
namespace L2
open PySem PySem.Spec PyProof.Rows
section
variable{X:Cx}
inductive iR(K:qo)(H:Hp):V->String->Bool->Prop
 |bl_bool (b):iR K H (.bl b) "bool" true
 |bl_int (b):iR K H (.bl b) "int" true
 |bl_list (b):iR K H (.bl b) "list" false
 |bl_tuple (b):iR K H (.bl b) "tuple" false
 |bl_str (b):iR K H (.bl b) "str" false
 |int_bool (i):iR K H (.int i) "bool" false
 |int_int (i):iR K H (.int i) "int" true
 |int_list (i):iR K H (.int i) "list" false
 |int_tuple (i):iR K H (.int i) "tuple" false
 |int_str (i):iR K H (.int i) "str" false
 |non_bool:iR K H .non "bool" false
 |non_int:iR K H .non "int" false
 |non_list:iR K H .non "list" false
 |non_tuple:iR K H .non "tuple" false
 |non_str:iR K H .non "str" false
 |str_bool (i):iR K H (.str i) "bool" false
 |str_int (i):iR K H (.str i) "int" false
 |str_list (i):iR K H (.str i) "list" false
 |str_tuple (i):iR K H (.str i) "tuple" false
 |str_str (i):iR K H (.str i) "str" true
 |list_bool (p xs):cA K H p xs->iR K H (.ref p) "bool" false
 |list_int (p xs):cA K H p xs->iR K H (.ref p) "int" false
 |list_list (p xs):cA K H p xs->iR K H (.ref p) "list" true
 |list_tuple (p xs):cA K H p xs->iR K H (.ref p) "tuple" false
 |list_str (p xs):cA K H p xs->iR K H (.ref p) "str" false
 |tuple_bool (p xs):fX K H p xs->iR K H (.ref p) "bool" false
 |tuple_int (p xs):fX K H p xs->iR K H (.ref p) "int" false
 |tuple_list (p xs):fX K H p xs->iR K H (.ref p) "list" false
 |tuple_tuple (p xs):fX K H p xs->iR K H (.ref p) "tuple" true
 |tuple_str (p xs):fX K H p xs->iR K H (.ref p) "str" false
def zqh:cU X (.builtin "isinstance") (λvs H Q=>∃x T b,vs=[x,.ty T]/\iR X.K H x T b/\Q (.bl b) H):=by
 intro aa s Z H vs us Q I r h;obtain⟨x,T,b,rfl,hi,q⟩:=h;obtain⟨u,w',rfl,rx,ry⟩:=zrD r;cases ry;have f0:EP X aa Z Q (.bool b) s:=⟨.bl b,H,I,rfl,q⟩;have f1:EP X aa Z Q (.bool b) {s with toks:=s.toks+1}:=⟨.bl b,H,I.tok _,rfl,q⟩;cases hi with
 |bl_bool=>cases rx;exact IsiPair.bool_bool f0
 |bl_int=>cases rx;exact IsiPair.bool_int f0
 |bl_list=>cases rx;exact IsiPair.bool_list f1
 |bl_tuple=>cases rx;exact IsiPair.bool_tuple f1
 |bl_str=>cases rx;exact IsiPair.bool_str f1
 |int_bool=>obtain⟨t,rfl⟩:=rx;exact IsiPair.int_bool f1
 |int_int=>obtain⟨t,rfl⟩:=rx;exact IsiPair.int_int f0
 |int_list=>obtain⟨t,rfl⟩:=rx;exact IsiPair.int_list f1
 |int_tuple=>obtain⟨t,rfl⟩:=rx;exact IsiPair.int_tuple f1
 |int_str=>obtain⟨t,rfl⟩:=rx;exact IsiPair.int_str f1
 |non_bool=>cases rx;exact IsiPair.NoneType_bool f1
 |non_int=>cases rx;exact IsiPair.NoneType_int f1
 |non_list=>cases rx;exact IsiPair.NoneType_list f1
 |non_tuple=>cases rx;exact IsiPair.NoneType_tuple f1
 |non_str=>cases rx;exact IsiPair.NoneType_str f1
 |str_bool=>obtain⟨t,rfl⟩:=rx;exact IsiPair.str_bool f1
 |str_int=>obtain⟨t,rfl⟩:=rx;exact IsiPair.str_int f1
 |str_list=>obtain⟨t,rfl⟩:=rx;exact IsiPair.str_list f1
 |str_tuple=>obtain⟨t,rfl⟩:=rx;exact IsiPair.str_tuple f1
 |str_str=>obtain⟨t,rfl⟩:=rx;exact IsiPair.str_str f0
 |list_bool p xs h=>cases rx;obtain⟨_,_,⟨o,n,e,c,_⟩,_⟩:=I.list h;exact IsiPair.list_bool e c f1
 |list_int p xs h=>cases rx;obtain⟨_,_,⟨o,n,e,c,_⟩,_⟩:=I.list h;exact IsiPair.list_int e c f1
 |list_list p xs h=>cases rx;obtain⟨_,_,⟨o,n,e,c,_⟩,_⟩:=I.list h;exact IsiPair.list_list e c f0
 |list_tuple p xs h=>cases rx;obtain⟨_,_,⟨o,n,e,c,_⟩,_⟩:=I.list h;exact IsiPair.list_tuple e c f1
 |list_str p xs h=>cases rx;obtain⟨_,_,⟨o,n,e,c,_⟩,_⟩:=I.list h;exact IsiPair.list_str e c f1
 |tuple_bool p xs h=>cases rx;obtain⟨_,_,⟨o,e,c,_⟩,_⟩:=I.tuple h;exact IsiPair.tuple_bool e c f1
 |tuple_int p xs h=>cases rx;obtain⟨_,_,⟨o,e,c,_⟩,_⟩:=I.tuple h;exact IsiPair.tuple_int e c f1
 |tuple_list p xs h=>cases rx;obtain⟨_,_,⟨o,e,c,_⟩,_⟩:=I.tuple h;exact IsiPair.tuple_list e c f1
 |tuple_tuple p xs h=>cases rx;obtain⟨_,_,⟨o,e,c,_⟩,_⟩:=I.tuple h;exact IsiPair.tuple_tuple e c f0
 |tuple_str p xs h=>cases rx;obtain⟨_,_,⟨o,e,c,_⟩,_⟩:=I.tuple h;exact IsiPair.tuple_str e c f1
def zlW{bs:List Bool}:∀{us:List Value},Vals (bs.map V.bl) us->∀(i:Nat) v,us[i]?=some v->v=.bool (bs.getD i false):=by
 induction bs with
 |nil=>intro us r i v h;cases r;simp at h
 |cons b bs ih=>
  intro us r i v h;rw[dZ]at r;cases r with
  |cons r1 r2=>
   cases i with
   |zero=>simp at h;subst h;exact r1
   |succ i=>simpa using ih r2 i v (by simpa using h)
def zny(bs:List Bool):((List.range bs.length).all λi=>bs.getD i false)=bs.all id:=by
 induction bs with
 |nil=>rfl
 |cons b bs ih=>
  rw[lF,YCc,List.all_cons,List.all_map,List.all_cons,<-ih];rfl
def znE(bs:List Bool):((List.range bs.length).any λi=>bs.getD i false)=bs.any id:=by
 induction bs with
 |nil=>rfl
 |cons b bs ih=>
  rw[lF,YCc,Ak,List.any_map,Ak,<-ih];rfl
def zpb(hc:X.calm=true):cU X (.builtin "all") (λvs H Q=>∃(p:Addr)(bs:List Bool),vs=[.ref p]/\cA X.K H p (bs.map V.bl)/\Q (.bl (bs.all id)) H):=by
 intro aa s Z H vs us Q I r h;obtain⟨p,bs,rfl,hq,q⟩:=h;obtain⟨u,rfl,rx⟩:=qK r;cases rx;obtain⟨its,r',pl,hz⟩:=I.list hq;have hlen:=r'.length;rw[bW]at hlen;have hp:p<s.heap.objs.size:=let⟨o,n,e,_⟩:=pl;dw e
 refine call_all_walk (Jx pl.isList ?_);refine⟨s.heap.objs.size,_,[s.heap.objs.size],_,_,_,λi=>bs.getD i false,rfl,Walks.list (A:=X.A.in1) (I.ok.hd hc) _ p (fK hp) its.toArray,⟨⟨_,jF _ rfl,rfl,rfl⟩,pl.isList.push _⟩,λi v s' Q' E' hP hQ=>?_,λh' tk hk=>?_⟩
 .rw[zlW r' i v (by simpa using hP)];exact vQ hQ
 .rw[jj,<-hlen,zny];exact⟨.bl _,H,I.kept λb o e=>hk b o (by simpa using fK (dw e)) (dO _ e),rfl,q⟩
def zoi(hc:X.calm=true):cU X (.builtin "any") (λvs H Q=>∃(p:Addr)(bs:List Bool),vs=[.ref p]/\cA X.K H p (bs.map V.bl)/\Q (.bl (bs.any id)) H):=by
 intro aa s Z H vs us Q I r h;obtain⟨p,bs,rfl,hq,q⟩:=h;obtain⟨u,rfl,rx⟩:=qK r;cases rx;obtain⟨its,r',pl,hz⟩:=I.list hq;have hlen:=r'.length;rw[bW]at hlen;have hp:p<s.heap.objs.size:=let⟨o,n,e,_⟩:=pl;dw e
 refine call_any_walk (Jx pl.isList ?_);refine⟨s.heap.objs.size,_,[s.heap.objs.size],_,_,_,λi=>bs.getD i false,rfl,Walks.list (A:=X.A.in1) (I.ok.hd hc) _ p (fK hp) its.toArray,⟨⟨_,jF _ rfl,rfl,rfl⟩,pl.isList.push _⟩,λi v s' Q' E' hP hQ=>?_,λh' tk hk=>?_⟩
 .rw[zlW r' i v (by simpa using hP)];exact vQ hQ
 .rw[jj,<-hlen,znE];exact⟨.bl _,H,I.kept λb o e=>hk b o (by simpa using fK (dw e)) (dO _ e),rfl,q⟩
def zwh(i j:Int):Prop:=0<j/\j<2^64
def zml:fL X (binaryOp .FloorDiv) (rI zwh λi j=>.int (i / j)):=JC λi j _ _ _ _ _ hc q=>by
 have hp:(0:Int)<j:=hc.1;have hl:j.natAbs.log2<9000:=by
  have h2:j<2^64:=hc.2;have h3:j.natAbs<2^64:=by omega
  have h4:j.natAbs.log2<64:=(Nat.log2_lt (by omega)).mpr h3;omega
 exact floordiv_int (by omega) (by rw[Int.fdiv_eq_ediv_of_nonneg i (by omega)];exact q) (.inl (PyProof.noPylong_of_log2 hl))
def zv6(K:qo):V->V->Hp->VK->Prop:=λx y H Q=>∃(p:Addr)(xs:List V)(j:Nat)(v:V),x=.ref p/\y=.int j/\cA K H p xs/\xs[j]?=some v/\Q v H
def zqg:Hq X (zv6 X.K):=by
 intro aa s Z H o i ov iv Q I r1 r2 h;obtain⟨p,xs,j,v,rfl,rfl,hq,he,q⟩:=h;cases r1;obtain⟨t,rfl⟩:=r2;obtain⟨its,r,pl,hz⟩:=I.list hq;obtain⟨u,eu,ru⟩:=r.get he;have hj:j<xs.length:=(jB.mp he).1;have hn:=zc;exact wpAny_getItem_list pl.isList (by omega) (by omega) (by simpa using eu) ⟨v,H,I,ru,q⟩
end
section
variable{P:Program}{w:World}{A:Around}{E:Value->Shared->Prop}{s:Shared}
def zkd(ht:s.heap.IsTupleIter it t i)(hl:s.heap.IsTuple t xs)(hx:xs[i]?=some x)
  (q:∀h',h'.IsTupleIter it t (i+1)->Heap.SameBut it s.heap h'->Q x {s with heap:=h'}):wpAny (model P w) A (Builtin.SmallTypes.nextOf (.ref it)) Q E s:=by
 obtain⟨o,e,c,d⟩:=id ht;obtain⟨ol,el,_,n,dl⟩:=hl;unfold Builtin.SmallTypes.nextOf;refine aJ (YAH (name:=Str.ofString "__next__") ht.typeIs YBw (uL YBw ht.typeIs F.entry_tuple_iterator_next ?_ (F.args_tuple_iterator_next_1 _)));show wpAny _ _ (field (.ref it) 0 >>= _) _ _ s;refine aJ (YAF e d (x:=.ref t) rfl ?_);show wpAny _ _ (if (Value.ref t==Value.none)=true then _ else _) _ _ s;rw[if_neg (show ¬ ((Value.ref t==Value.none)=true)from yx)];show wpAny _ _ (field (.ref it) 1 >>= _) _ _ s;refine aJ (YAF e d (x:=.int i 0) rfl ?_);show wpAny _ _ (seqItems? (.ref t) >>= _) _ _ s;refine aJ (vO el dl ?_);simp only[hx,Ed];refine aJ (yw e d (by simp) (bV ⟨x,rfl,bV (q _ ⟨_,YAR _ e (YBQ (Dz d _)),(YCi ..).trans c,by rw[Dz d];simp[rawInt]⟩ (YBZ ..))⟩))
def zjk(hh:A.handled=none)(ht:s.heap.IsTupleIter it t i)(hl:s.heap.IsTuple t xs)(hx:xs[i]?=none)
  (q:∀h' e,Heap.ExtBut it s.heap h'->(∃o,h'.get? e=some o/\o.cls=.type "StopIteration")->E (.ref e) {s with heap:=h'}):wpAny (model P w) A (Builtin.SmallTypes.nextOf (.ref it)) Q E s:=by
 obtain⟨o,e,c,d⟩:=id ht;obtain⟨ol,el,_,n,dl⟩:=hl;unfold Builtin.SmallTypes.nextOf;refine aJ (YAH (name:=Str.ofString "__next__") ht.typeIs YBw (uL YBw ht.typeIs F.entry_tuple_iterator_next ?_ (F.args_tuple_iterator_next_1 _)));show wpAny _ _ (field (.ref it) 0 >>= _) _ _ s;refine aJ (YAF e d (x:=.ref t) rfl ?_);show wpAny _ _ (if (Value.ref t==Value.none)=true then _ else _) _ _ s;rw[if_neg (show ¬ ((Value.ref t==Value.none)=true)from yx)];show wpAny _ _ (field (.ref it) 1 >>= _) _ _ s;refine aJ (YAF e d (x:=.int i 0) rfl ?_);show wpAny _ _ (seqItems? (.ref t) >>= _) _ _ s;refine aJ (vO el dl ?_);simp only[hx,Ed];refine aJ (yJ (aJ (yw e d (by simp) ?_)));show wpAny _ _ (newExc (.type "StopIteration") [] >>= _) _ _ _;refine aJ ?_;simp only[newTuple,newExc];refine aJ (YAI (aJ (m:=firstArgMember _ _) (wpAny_of_eq (a:=Value.none) (by first|rfl|(simp only[firstArgMember];rfl)) (YAI ?_ (by size_fits)))) (by size_fits));simp only[raiseNew];refine aJ (wpAny_handled ?_);first|rw[show A.in1.handled=none from hh]|rw[hh]
 exact aJ (bV (wpAny_throw (q _ _ (((YBZ ..).extBut.push _).push _) ⟨_,jF _ rfl,rfl⟩)))
end
def zkM(hh:A.handled=none)(it t:Addr)(hne:t≠it)(xs:Array Value) :
  Draws P w A it [it,t] xs.size (λi v=>xs[i]?=some v) (λi h=>h.IsTupleIter it t i/\h.IsTuple t xs)where
 live:=λ_ _ st=>let⟨o,e,_⟩:=st.1;⟨o,e⟩
 frame:=λ_ _ _ st k=>⟨let⟨o,e,r⟩:=st.1;⟨o,k it (by simp) o e,r⟩,let⟨o,e,r⟩:=st.2;⟨o,k t (by simp) o e,r⟩⟩
 item:=λi s Q E hi st q=>zkd st.1 st.2 (x:=xs[i]) (by simp[hi]) λh' a sb=>q _ h' s.toks (by simp[hi]) ⟨a,st.2.extBut sb.extBut hne⟩ sb
 done:=λs Q E st q=>zjk hh st.1 st.2 (by simp) q
structure yN(z a b i j:Addr)(f g:List Addr):Prop where
 az:a≠z
 bz:b≠z
 iz:i≠z
 jz:j≠z
 ab:a≠b
 ai:a≠i
 aj:a≠j
 bi:b≠i
 bj:b≠j
 ij:i≠j
 zf:z∉f
 bf:b∉f
 jf:j∉f
 zg:z∉g
 bg:b∉g
 ig:i∉g
section
variable{P:Program}{w:World}{A:Around}{E:Value->Shared->Prop}{s:Shared}{z a b i j:Addr}{f g:List Addr}{n m k:Nat}{F1 F2:Nat->Value->Prop}{S1 qk:Nat->Heap->Prop}
def sJ{h h':Heap}{c:Addr}{l:List Addr}(sb:Heap.SameBut c h h')(hc:c∉l):∀b∈l,∀o,h.get? b=some o->h'.get? b=some o:=λb hb o e=>sb.extBut b o (λz=>hc (z▸hb)) e
def zji{u v:Value}{Q:Value->Shared->Prop}(qg:yN z a b i j f g)(D1:Draws P w A i f n F1 S1)(D2:Draws P w A j g m F2 qk)(hz:IsZip s.heap z a b .none)(ha:IsPair s.heap a (.ref i) (.ref j))(hb:IsPair s.heap b u v)
  (s1:S1 k s.heap) (s2:qk k s.heap) (k1:k<n) (k2:k<m)
  (q:∀x y h' tk t,F1 k x->F2 k y->t=s.heap.objs.size->IsZip h' z a b (rawInt t)->IsPair h' b x y->S1 (k+1) h'->qk (k+1) h'->IsPair h' t x y ->
   (∀c o,c≠z->c≠b->c≠i->c≠j->s.heap.get? c=some o->h'.get? c=some o)->Q (.ref t) {s with heap:=h',toks:=tk}) :
  wpAny (model P w) A (Builtin.«zip.__next__» ⟨[.ref z],[]⟩) (λfin s'=>∃v,fin=.done (.ret v)/\Q v s') E s:=by
 show wpAny _ _ (field (.ref z) 2 >>= _) _ _ _;refine aJ (YAF hz rfl (x:=.bool false) rfl ?_);show wpAny _ _ (field (.ref z) 3 >>= _) _ _ _;refine aJ (YAF hz rfl (x:=.ref a) rfl (aJ (vO ha rfl ?_)));show wpAny _ _ (Builtin.SmallTypes.ownedTupleIsFree (.ref z) >>= _) _ _ _;refine aJ ?_;unfold Builtin.SmallTypes.ownedTupleIsFree;refine aJ (YAF hz rfl (x:=.none) rfl (bV ?_));simp only[uB];refine aJ (yJ (aJ (YAF hz rfl (x:=.ref b) rfl (aJ (zV hz (by simp) λh1 z1 e1=>?_)))))
 replace z1:IsZip h1 z a b .ellipsis:=z1
 refine aJ ?_;simp only[YCZ,YC7,YCE,YDc];refine aJ (aJ (Ky ?_));show wpAny _ _ (Builtin.SmallTypes.nextOf (.ref i) >>= _) _ _ _;have t1:S1 k h1:=D1.frame _ _ _ s1 (sJ e1 qg.zf);have t2:qk k h1:=D2.frame _ _ _ s2 (sJ e1 qg.zg);refine aJ (D1.item k _ _ _ k1 t1 λx h2 tk2 px u1 e2=>bV ?_);have b2:IsPair h2 b u v:=e2.extBut _ _ qg.bi (e1.extBut _ _ qg.bz hb);refine aJ (vO b2 rfl (aJ (YCu b2 λh3 b3 e3=>?_)))
 replace b3:IsPair h3 b x v:=b3
 refine aJ (YDf (bV ?_));refine aJ (aJ (Ky ?_));show wpAny _ _ (Builtin.SmallTypes.nextOf (.ref j) >>= _) _ _ _;have t3:qk k h3:=D2.frame _ _ _ (D2.frame _ _ _ t2 (sJ e2 qg.ig)) (sJ e3 qg.bg);refine aJ (D2.item k _ _ _ k2 t3 λy h4 tk4 py u2 e4=>bV ?_);have b4:IsPair h4 b x v:=e4.extBut _ _ qg.bj b3;refine aJ (vO b4 rfl (aJ (YCu b4 λh5 b5 e5=>?_)))
 replace b5:IsPair h5 b x y:=b5
 refine aJ (YDf (bV (bV (aJ (vO b5 rfl (aJ (wpAny_newTuple ?_)))))));have sz:h5.objs.size=s.heap.objs.size:=by rw[e5.1,e4.1,e3.1,e2.1,e1.1]
 have z5:IsZip h5 z a b .ellipsis:=e5.extBut _ _ qg.bz.symm (e4.extBut _ _ qg.jz.symm (e3.extBut _ _ qg.bz.symm (e2.extBut _ _ qg.iz.symm z1)));have k5:∀c o,c≠z->c≠b->c≠i->c≠j->s.heap.get? c=some o->h5.get? c=some o:=λc o c1 c2 c3 c4 e=>e5.extBut _ _ c2 (e4.extBut _ _ c4 (e3.extBut _ _ c2 (e2.extBut _ _ c3 (e1.extBut _ _ c1 e))));have v1:S1 (k+1) h5:=D1.frame _ _ _ (D1.frame _ _ _ (D1.frame _ _ _ u1 (sJ e3 qg.bf)) (sJ e4 qg.jf)) (sJ e5 qg.bf);have v2:qk (k+1) h5:=D2.frame _ _ _ u2 (sJ e5 qg.bg);have zl:z<h5.objs.size:=dw z5;show wpAny _ _ (Builtin.SmallTypes.ownedTupleHandOut (.ref z) (.ref h5.objs.size) >>= _) _ _ _;refine aJ ?_;unfold Builtin.SmallTypes.ownedTupleHandOut;have z6:IsZip (h5.push {cls:=.type "tuple",data:=.seq #[x,y]}) z a b .ellipsis:=dO _ z5;refine aJ (zV z6 (by simp) λh7 z7 e7=>?_)
 replace z7:IsZip h7 z a b (rawInt h5.objs.size):=z7
 refine zV z7 (by simp) λh8 z8 e8=>?_
 replace z8:IsZip h8 z a b (rawInt h5.objs.size):=z8
 have up:∀c o,c≠z->h5.get? c=some o->h8.get? c=some o:=λc o c1 e=>e8.extBut _ _ c1 (e7.extBut _ _ c1 (dO _ e));refine bV ⟨_,rfl,?_⟩;exact q x y h8 _ h5.objs.size px py sz z8 (up _ _ qg.bz b5) (D1.frame _ _ _ v1 λc hc o e=>up c o (λzz=>qg.zf (zz▸hc)) e) (D2.frame _ _ _ v2 λc hc o e=>up c o (λzz=>qg.zg (zz▸hc)) e)
  (e8.extBut _ _ (wu zl) (e7.extBut _ _ (wu zl) (jF _ rfl))) λc o c1 c2 c3 c4 e=>up c o c1 (k5 c o c1 c2 c3 c4 e)
def zjR{Q:Fin->Shared->Prop}(qg:yN z a b i j f g)(D1:Draws P w A i f n F1 S1)(hz:IsZip s.heap z a b .none)(ha:IsPair s.heap a (.ref i) (.ref j))(s1:S1 n s.heap)
  (q:∀h' e,(∀c o,c≠z->c≠b->c≠i->c≠j->s.heap.get? c=some o->h'.get? c=some o)->(∃o,h'.get? e=some o/\o.cls=.type "StopIteration")->E (.ref e) {s with heap:=h'}) :
  wpAny (model P w) A (Builtin.«zip.__next__» ⟨[.ref z],[]⟩) Q E s:=by
 show wpAny _ _ (field (.ref z) 2 >>= _) _ _ _;refine aJ (YAF hz rfl (x:=.bool false) rfl ?_);show wpAny _ _ (field (.ref z) 3 >>= _) _ _ _;refine aJ (YAF hz rfl (x:=.ref a) rfl (aJ (vO ha rfl ?_)));show wpAny _ _ (Builtin.SmallTypes.ownedTupleIsFree (.ref z) >>= _) _ _ _;refine aJ ?_;unfold Builtin.SmallTypes.ownedTupleIsFree;refine aJ (YAF hz rfl (x:=.none) rfl (bV ?_));simp only[uB];refine aJ (yJ (aJ (YAF hz rfl (x:=.ref b) rfl (aJ (zV hz (by simp) λh1 z1 e1=>?_)))))
 replace z1:IsZip h1 z a b .ellipsis:=z1
 refine aJ ?_;simp only[YCZ,YC7,YCE,YDc];refine aJ (aJ (Ky ?_));show wpAny _ _ (Builtin.SmallTypes.nextOf (.ref i) >>= _) _ _ _;refine aJ (D1.done _ _ _ (D1.frame _ _ _ s1 (sJ e1 qg.zf)) λh2 e e2 he=>?_);obtain⟨oe,ho,hc⟩:=he;have z2:IsZip h2 z a b .ellipsis:=e2 _ _ qg.iz.symm z1;have ez:e≠z:=λx=>by subst x;rw[z2]at ho;cases ho;simp at hc
 refine zV z2 (by simp) λh3 _ e3=>q h3 e (λc o c1 _ c3 _ x=>e3.extBut _ _ c1 (e2 _ _ c3 (e1.extBut _ _ c1 x))) ⟨oe,e3.extBut _ _ ez ho,hc⟩
def zhj{u v:Value}{Q:Option Value->Shared->Prop}(qg:yN z a b i j f g)(D1:Draws P w A.in1 i f n F1 S1)(D2:Draws P w A.in1 j g m F2 qk)(hz:IsZip s.heap z a b .none)(ha:IsPair s.heap a (.ref i) (.ref j))(hb:IsPair s.heap b u v)
  (s1:S1 k s.heap) (s2:qk k s.heap) (k1:k<n) (k2:k<m)
  (q:∀x y h' tk t,F1 k x->F2 k y->t=s.heap.objs.size->IsZip h' z a b (rawInt t)->IsPair h' b x y->S1 (k+1) h'->qk (k+1) h'->IsPair h' t x y ->
   (∀c o,c≠z->c≠b->c≠i->c≠j->s.heap.get? c=some o->h'.get? c=some o)->Q (some (.ref t)) {s with heap:=h',toks:=tk}):wpAny (model P w) A (pyNext (.ref z)) Q E s:=by
 have hT:s.TypeIs (.ref z) "zip":=⟨_,hz,rfl⟩;unfold pyNext;exact aJ (yW (YAH (name:=Str.ofString "__next__") hT Dl (uL Dl hT YC0
  (zji qg D1 D2 hz ha hb s1 s2 k1 k2 λx y h' tk t a1 a2 a3 a4 a5 a6 a7 a8 a9=>bV (q x y h' tk t a1 a2 a3 a4 a5 a6 a7 a8 a9)) (YCS _))))
def zgH(qg:yN z a b i j f g)(D1:Draws P w A.in1 i f n F1 S1)(hz:IsZip s.heap z a b .none)(ha:IsPair s.heap a (.ref i) (.ref j))(s1:S1 n s.heap)
  (q:∀h',(∀c o,c≠z->c≠b->c≠i->c≠j->s.heap.get? c=some o->h'.get? c=some o)->Q none {s with heap:=h'}):wpAny (model P w) A (pyNext (.ref z)) Q E s:=by
 have hT:s.TypeIs (.ref z) "zip":=⟨_,hz,rfl⟩;unfold pyNext;refine aJ (yW (YAH (name:=Str.ofString "__next__") hT Dl (uL Dl hT YC0 (zjR qg D1 hz ha s1 λh' e hk he=>?_) (YCS _))));obtain⟨o,ho,hc⟩:=he;exact aJ (Ft (T:="StopIteration") (b:=true) ⟨o,ho,hc⟩ YCL (bV (q _ hk)))
end
section
variable{X:Cx}{aa:List (Addr×Obj)}{Z:St}{H:Hp}{s:Shared}{h':Heap}{ch:List Addr}{t':Nat}
def Inv.turnedLaid(I:Inv X aa Z H s)(k:∀b u,b∉ch->s.heap.get? b=some u->h'.get? b=some u)(hf:∀b∈ch,il X aa H b)(hp:s.heap.objs.size<=a)(new:cg X.prog X.w (upd H a o) h' a o) :
  Inv X aa Z (upd H a o) {s with heap:=h',toks:=t'}:=by
 have hn:H a=none:=I.hok.fresh hp;have nch:∀b u,H b=some u->b∉ch:=λb u e z=>by rw[(hf b z).1]at e;cases e
 refine I.step (g':=s.gens) (d':=s.drawn) (ch:=ch) (λb hb=>⟨(hf b hb).2.2.2.1,(hf b hb).2.1,(hf b hb).2.2.2.2.1,(hf b hb).2.2.2.2.2⟩) (λb u _ _ hc e _=>k b u hc e) (λb u _ _ hc e _=>⟨u.slots,k b u hc e⟩)
  (λb u _ e n=>by rw[au (fK (jN (dw e) hp))];exact n) (λb u hc e=>⟨u,k b u hc e⟩) (λb xs e=>by rw[au (lO e hn)];exact e) (λb u xs e=>by rw[au (lO e hn)];exact e)
  (λb ps e=>⟨#[],by rw[au (lO e hn),e];simp⟩) (λm hm=>?_) (λb u e=>?_) I.bare
 .obtain⟨o,es,ep,ho,r⟩:=hm;exact⟨o,es,ep,k _ o (λz=>(hf _ z).2.1 rfl) ho,r⟩
 .by_cases hb:b=a
  .subst hb;rw[cH]at e;cases e;exact new
  .rw[au hb]at e;refine(I.hok b u e).stay (λc v hc q=>k c v ?_ q) (λc q=>by rw[au (lO q hn)];exact q) λc xs q=>by rw[au (lO q hn)];exact q
   rcases hc with z|z
   .rw[z];exact nch b u e
   .exact nch c _ z
def Inv.turnedAll(I:Inv X aa Z H s)(k:∀b u,b∉ch->s.heap.get? b=some u->h'.get? b=some u)(hf:∀b∈ch,il X aa H b):Inv X aa Z H {s with heap:=h',toks:=t'}:=by
 have nch:∀b u,H b=some u->b∉ch:=λb u e z=>by rw[(hf b z).1]at e;cases e
 refine I.step (g':=s.gens) (d':=s.drawn) (ch:=ch) (λb hb=>⟨(hf b hb).2.2.2.1,(hf b hb).2.1,(hf b hb).2.2.2.2.1,(hf b hb).2.2.2.2.2⟩) (λb u _ _ hc e _=>k b u hc e) (λb u _ _ hc e _=>⟨u.slots,k b u hc e⟩)
  (λ_ _ _ _ n=>n) (λb u hc e=>⟨u,k b u hc e⟩) (λ_ _ e=>e) (λ_ _ _ e=>e) (λb ps e=>⟨#[],by rw[e];simp⟩) (λm hm=>?_) (λb u e=>?_) I.bare
 .obtain⟨o,es,ep,ho,r⟩:=hm;exact⟨o,es,ep,k _ o (λz=>(hf _ z).2.1 rfl) ho,r⟩
 .refine(I.hok b u e).stay (λc v hc q=>k c v ?_ q) (λ_ q=>q) λ_ _ q=>q;rcases hc with z|z
  .rw[z];exact nch b u e
  .exact nch c _ z
end
def yX(tp:Bool)(h:Heap)(it l:Addr)(k:Nat):Prop:=match tp with|true=>h.IsTupleIter it l k|false=>h.IsListIter it l k
def qF(tp:Bool)(h:Heap)(l:Addr)(xs:Array Value):Prop:=match tp with|true=>h.IsTuple l xs|false=>h.IsList l xs
def SQ(tp:Bool)(K:qo)(H:Hp)(a:Addr)(xs:List V):Prop:=match tp with|true=>fX K H a xs|false=>cA K H a xs
def yX.obj(x:yX tp h it l k):∃o,h.get? it=some o/\∀v,o.data≠.cell v:=by
 cases tp<;>(obtain⟨o,e,c,d⟩:=x;exact⟨o,e,λv z=>by rw[d]at z;cases z⟩)
def yX.keep(x:yX tp h it l k)(q:∀o,h.get? it=some o->h'.get? it=some o):yX tp h' it l k:=by
 cases tp<;>(obtain⟨o,e,r⟩:=x;exact⟨o,q o e,r⟩)
def qF.lt(x:qF tp h l xs):l<h.objs.size:=by
 cases tp<;>(obtain⟨o,e,_⟩:=x;exact dw e)
def HH(tp:Bool)(hh:A.handled=none)(it l:Addr)(hne:l≠it)(xs:Array Value) :
  Draws P w A it [it,l] xs.size (λi v=>xs[i]?=some v) (λi h=>yX tp h it l i/\qF tp h l xs):=by
 cases tp
 .exact Draws.list hh it l hne xs
 .exact zkM hh it l hne xs
section
variable{X:Cx}{aa:List (Addr×Obj)}{Z:St}{H:Hp}{s:Shared}{tp:Bool}{a:Addr}{xs ys:List V}
def Inv.sq(I:Inv X aa Z H s)(h:SQ tp X.K H a xs):∃its:List Value,Vals xs its/\qF tp s.heap a its.toArray/\xs.length<=sizeLine:=by
 cases tp
 .obtain⟨its,r,p,z⟩:=I.list h;exact⟨its,r,p.isList,z⟩
 .exact I.tuple h
def Inv.sq_inj(I:Inv X aa Z H s)(h:SQ tp X.K H a xs)(h':SQ tp X.K H a ys):xs=ys:=by
 cases tp
 .exact I.list_inj h h'
 .exact I.tuple_inj h h'
end
def zuf(n l m:Nat)(h1:l<n)(h2:m<n):yN (n+4) (n+2) (n+3) n (n+1) [n,l] [n+1,m]:=by
 have e:∀{p q:Nat},p≠q->∀{r:Nat},p≠r->p∉[q,r]:=λ{p q} h {r} h' z=>by
  rcases ir.mp z with z|z
  .exact h z
  .exact h' (lX.mp z)
 have r:∀{p q:Nat},p<q\/q<p->(p:Addr)≠q:=λh=>h.elim fK λh=>(fK h).symm;exact⟨r (by omega),r (by omega),r (by omega),r (by omega),r (by omega),r (by omega),r (by omega),r (by omega),r (by omega),r (by omega),e (r (by omega)) (r (by omega)),e (r (by omega)) (r (by omega)),e (r (by omega)) (r (by omega)),e (r (by omega)) (r (by omega)),e (r (by omega)) (r (by omega)),e (r (by omega)) (r (by omega))⟩
theorem ze9:∀(more:List (Key×V))(kvs:List (Key×V)),(∀k∈more.map (·.1),k∉kvs.map (·.1))->(more.map (·.1)).Nodup->yr kvs more=kvs++more
 |[],kvs,_,_=>by unfold yr;simp
 |x::more,kvs,h,hn=>by
  rw[dZ,YAP]at hn;have hx:eX kvs x.1=none:=by
   cases e:eX kvs x.1 with
   |none=>rfl
   |some v=>exact absurd (zs5 e) (h x.1 (by simp))
  show yr (putK kvs x.1 x.2) more=_;rw[zpU _ hx,ze9 more _ (λk hk q=>?_) hn.2,YCh]
  .rfl
  .rw[lL]at q;rcases YAG.mp q with q|q
   .exact h k (by rw[dZ];exact je _ hk) q
   .have:k=x.1:=by simpa using q
    exact hn.1 (this▸hk)
section
variable{X:Cx}{aa:List (Addr×Obj)}{Z:St}{H:Hp}{s:Shared}
def Inv.freeze(I:Inv X aa Z H s)(hd:H d=some (.dK kvs))(ho:s.heap.get? d=some o):Inv X aa Z (upd H d (.iV o (.dK kvs))) s:=by
 have nd:∀b u,H b=some u->(∀q,u≠.dK q)->b≠d:=λb u e n z=>by rw[z,hd]at e;cases e;exact n _ rfl
 refine I.step (g':=s.gens) (d':=s.drawn) (t':=s.toks) (h':=s.heap) (ch:=[]) (λ_ z=>nomatch z) (λb u _ _ _ e _=>e) (λb u _ _ _ e _=>⟨u.slots,e⟩)
  (λb u _ e n=>by rw[au (λz=>by rw[z,hd]at n;cases n)];exact n) (λb u _ e=>⟨u,e⟩) (λb xs e=>by rw[au (nd b _ e (λq z=>by cases z))];exact e) (λb u xs e=>by rw[au (nd b _ e (λq z=>by cases z))];exact e)
  (λb ps e=>⟨#[],by rw[au (nd b _ e (λq z=>by cases z)),e];simp⟩) (λm hm=>hm) (λb u e=>?_) I.bare
 have st:∀c w,H c=some w->cg X.prog X.w (upd H d (.iV o (.dK kvs))) s.heap c w:=λc w q=>
  (I.hok c w q).stay (λ_ _ _ z=>z) (λc' q'=>by rw[au (nd c' _ q' (λq z=>by cases z))];exact q') λc' xs q'=>by rw[au (nd c' _ q' (λq z=>by cases z))];exact q'
 by_cases hb:b=d
 .subst hb;rw[cH]at e;cases e;exact⟨ho,st b _ hd⟩
 .rw[au hb]at e;exact st b u e
end
theorem zjG{α β:Type}{F:α->β->Prop}:∀{l₁:List α}{l₂:List β},Paired F l₁ l₂->∀{i:Nat}{a:α}{b:β},l₁[i]?=some a->l₂[i]?=some b->F a b
 |_,_,.nil,i,a,b,h,_=>by simp at h
 |_,_,.cons r t,0,a,b,h1,h2=>by simp at h1 h2;subst h1 h2;exact r
 |_,_,.cons r t,i+1,a,b,h1,h2=>zjG t (by simpa using h1) (by simpa using h2)
def zuL(h:zP k u=true):RelV (kV k) u:=by
 rcases wg h with⟨i,t,rfl,rfl⟩|⟨x,t,rfl,rfl⟩
 .exact⟨t,rfl⟩
 .exact⟨t,rfl⟩
def zh0:splitId "dict.__len__"=some ("dict","__len__"):=by decide +kernel
end L2
namespace HT
open PySem PySem.Spec PyProof.Rows
section
variable{prog:Program}{w:World}{A:Around}{E:Value->Shared->Prop}{s:Shared}
def iJ{t sl:Addr}{items:Array Value}{vl vu:Value}{lo hi:Option Int}{Q:Value->Shared->Prop}(ht:IsTup s.heap t items)(hs:s.heap.IsSliceOf sl vl vu .none)(pl:IsPart vl lo)(pu:IsPart vu hi)
  (hw:bY items.size 0 lo=0/\bY items.size items.size hi=items.size)
  (h:Q (.ref t) s):wpAny (model prog w) A (getItem (.ref t) (.ref sl)) Q E s:=by
 obtain⟨os,hos,hcs,hds⟩:=id hs;have hTs:s.TypeIs (.ref sl) "slice":=⟨os,hos,hcs⟩;unfold getItem
 try with_reducible refine YAW ?_
 first|refine aJ (bV ?_)|skip
 refine aJ (wpAny_sequenceKey ht.typeIs (by decide) ?_);refine aJ (YAH (name:=Str.ofString "__getitem__") ht.typeIs YAQ
  (uL YAQ ht.typeIs entry_tuple_getitem ?_ (args_tuple_getitem _ _)))
 show wpAny _ _ (Builtin.Tuple.tupleItemsOf (.ref t) >>= _) _ _ s;refine aJ (tupleItemsOf_ ht ?_);refine aJ (KD hTs ?_);rw[if_pos (by decide)];refine aJ (zdY hs pl pu ?_);have hyes:((((bY items.size 0 lo:Nat):Int)==0&&(1:Int)==1&&(bY items.size items.size hi-bY items.size 0 lo)==items.size)=true):=by
  rw[hw.1,hw.2];simp
 show wpAny _ _ (if (((bY items.size 0 lo:Nat):Int)==0&&(1:Int)==1&&(bY items.size items.size hi-bY items.size 0 lo)==items.size)=true then _ else _) _ _ s;rw[if_pos hyes];unfold Builtin.Tuple.tupleIsExact;refine aJ (aJ (KD ht.typeIs (bV ?_)));rw[if_pos (by decide)];refine aJ (yJ ?_);exact bV ⟨_,rfl,bV h⟩
end
end HT
namespace L2
open PySem PySem.Spec PyProof.Rows
section
variable{prog:Program}{w:World}{A:Around}{E:Value->Shared->Prop}{s:Shared}
theorem zj2(hne:t≠it):∀(n i:Nat)(s:Shared)(Q:List Value->Shared->Prop),s.heap.IsListIter it t i->s.heap.IsList t items->i+n<=items.size ->
  (∀h',h'.IsListIter it t (i+n)->Heap.SameBut it s.heap h'->Q ((items.toList.drop i).take n) {s with heap:=h'})->wpAny (model prog w) A (draw (.ref it) n) Q E s
 |0,i,s,Q,hit,_,_,hQ=>by
  show wpAny _ _ (pure []) Q E s;exact bV (by simpa using hQ s.heap hit (Heap.SameBut.refl ..))
 |n+1,i,s,Q,hit,ht,hle,hQ=>by
  have hlt:i<items.size:=by omega
  show wpAny _ _ (pyNext (.ref it) >>= _) Q E s;refine aJ (wpAny_pyNext_list_item hit ht (x:=items[i]) (by simp[hlt]) λh₁ hit₁ hs₁=>?_);refine aJ (YAW (zj2 hne n (i+1) _ _ hit₁ (ht.extBut hs₁.extBut hne) (by omega) λh₂ hit₂ hs₂=>bV ?_));have hd:items.toList.drop i=items[i]::items.toList.drop (i+1):=by simp[YBE,hlt]
  have:=hQ h₂ (by rw[show i+(n+1)=i+1+n by omega];exact hit₂) (hs₁.trans hs₂)
  rw[hd,List.take_succ_cons]at this;exact this
def zgf(hh:A.handled=none)(ht:s.heap.IsList t items)
  (hQ:∀h',Heap.ExtBut s.heap.objs.size s.heap h'->Q items.toList {s with heap:=h'}):wpAny (model prog w) A (unpackItems (.ref t) items.size none) Q E s:=by
 have hlt:t≠s.heap.objs.size:=by obtain⟨o,ho,_⟩:=ht;exact fK (dw ho)
 unfold unpackItems;refine aJ ?_
 .unfold notIterableAtAll;refine aJ (YC6 ht.typeIs slot_list_iter.lookup ?_);refine bV ?_;simp only[Ba,um];refine aJ (YAW (Jx ht ?_));have ht0:=ht.push {cls:=.type "list_iterator",data:=.fields #[.ref t,.int 0 0]};refine aJ (YAW (zj2 hlt items.size 0 _ _ ⟨_,jF _ rfl,rfl,rfl⟩ ht0 (by omega) λh₁ hit₁ hs₁=>?_));have hall:List.take items.size (List.drop 0 items.toList)=items.toList:=by
   rw[List.drop_zero];exact YCd (by simp)
  rw[hall];rw[if_neg (by simp)];have ht₁:h₁.IsList t items:=ht0.extBut hs₁.extBut hlt;refine aJ (YAW (wpAny_pyNext_list_end hh hit₁ ht₁ (by simp) λh₂ he₂=>?_));simp only[Option.isSome_none,Ba,um];refine bV (hQ h₂ λb o hb e=>he₂ b o hb (hs₁.extBut b o hb (dO _ e)))
def zfC{x1}(hh:A.handled=none)(ht:s.heap.IsList t items)
  (hn:(assignEach elts env).length=items.size) (hstar:(assignEach elts env).findIdx? (·.1)=none)
  (h:∀h',Heap.ExtBut s.heap.objs.size s.heap h'->wpAny (model prog w) A (assignInOrder ((assignEach elts env).map (·.2)) items.toList) Q E {s with heap:=h'}) :
  wpAny (model prog w) A (assign (.Tuple elts x1 pos) env (.ref t)) Q E s:=by
 rw[assign_Tuple];refine aJ (JR ?_);unfold unpack;rw[hn,hstar];exact aJ (YAW (zgf hh ht h))
end
def wY(K:qo)(n:Nat)(t:ut):TG:=λv Z H Q=>∃a xs,v=.ref a/\(fX K H a xs\/cA K H a xs)/\xs.length=n/\t xs Z H Q
def pX(hc:X.calm=true)(h:Iu X es t)
  (hn:(assignEach es X.env).length=n:=by rfl) (hst:(assignEach es X.env).findIdx? (·.1)=none:=by rfl):PG X (.Tuple es k pos) (wY X.K n t):=by
 intro aa s Z H v u Q I r hw;obtain⟨a,xs,e1,hq,hl,hw⟩:=hw;rcases hq with hq|hq
 .exact ztG hc h hn hst aa s Z H v u Q I r ⟨a,xs,e1,hq,hl,hw⟩
 .subst e1;cases r;obtain⟨its,rv,ht,hz⟩:=I.list hq;refine zfC (I.ok.hd hc) ht.isList (by simp[hn,<-hl,rv.length]) hst λh' hx=>?_;have I1:Inv X aa Z H {s with heap:=h'}:=I.kept (t':=s.toks) λb o e=>hx b o (fK (dw e)) e;exact h aa _ Z H xs _ Q I1 (by simpa using rv) hw
def ztv{K:qo}{n:Nat}{t:ut}(h:DK t):xP (wY K n t):=λv Z H Q Q' f ⟨a,xs,e,s,l,q⟩=>⟨a,xs,e,s,l,h _ _ _ _ _ f q⟩
def zuH{K:qo}{sub:List (Option Nat)}{n:Nat}{t:ut}(h:Fb sub t):yQ sub (wY K n t):=λv Z H Q ⟨a,xs,e,s,l,q⟩=>⟨a,xs,e,s,l,h _ _ _ _ q⟩
section
variable{P:Program}{w:World}{A:Around}{E:Value->Shared->Prop}{s:Shared}{z a b i j:Addr}{f g:List Addr}{n m k:Nat}{F1 F2:Nat->Value->Prop}{S1 qk:Nat->Heap->Prop}
def ziD(qg:yN z a b i j f g)(D1:Draws P w A i f n F1 S1)(D2:Draws P w A j g m F2 qk)(hz:IsZip s.heap z a b .none)(ha:IsPair s.heap a (.ref i) (.ref j))(hb:IsPair s.heap b u v)
  (s1:S1 m s.heap) (s2:qk m s.heap) (k1:m<n)
  (q:∀h' tk e,(∀c o,c≠z->c≠b->c≠i->c≠j->s.heap.get? c=some o->h'.get? c=some o)->(∃o,h'.get? e=some o/\o.cls=.type "StopIteration")->E (.ref e) {s with heap:=h',toks:=tk}) :
  wpAny (model P w) A (Builtin.«zip.__next__» ⟨[.ref z],[]⟩) Q E s:=by
 show wpAny _ _ (field (.ref z) 2 >>= _) _ _ _;refine aJ (YAF hz rfl (x:=.bool false) rfl ?_);show wpAny _ _ (field (.ref z) 3 >>= _) _ _ _;refine aJ (YAF hz rfl (x:=.ref a) rfl (aJ (vO ha rfl ?_)));show wpAny _ _ (Builtin.SmallTypes.ownedTupleIsFree (.ref z) >>= _) _ _ _;refine aJ ?_;unfold Builtin.SmallTypes.ownedTupleIsFree;refine aJ (YAF hz rfl (x:=.none) rfl (bV ?_));simp only[uB];refine aJ (yJ (aJ (YAF hz rfl (x:=.ref b) rfl (aJ (zV hz (by simp) λh1 z1 e1=>?_)))))
 replace z1:IsZip h1 z a b .ellipsis:=z1
 refine aJ ?_;simp only[YCZ,YC7,YCE,YDc];refine aJ (aJ (Ky ?_));show wpAny _ _ (Builtin.SmallTypes.nextOf (.ref i) >>= _) _ _ _;have t1:S1 m h1:=D1.frame _ _ _ s1 (sJ e1 qg.zf);have t2:qk m h1:=D2.frame _ _ _ s2 (sJ e1 qg.zg);refine aJ (D1.item m _ _ _ k1 t1 λx h2 tk2 px u1 e2=>bV ?_);have b2:IsPair h2 b u v:=e2.extBut _ _ qg.bi (e1.extBut _ _ qg.bz hb);refine aJ (vO b2 rfl (aJ (YCu b2 λh3 b3 e3=>?_)))
 replace b3:IsPair h3 b x v:=b3
 refine aJ (YDf (bV ?_));refine aJ (aJ (Ky ?_));show wpAny _ _ (Builtin.SmallTypes.nextOf (.ref j) >>= _) _ _ _;have t3:qk m h3:=D2.frame _ _ _ (D2.frame _ _ _ t2 (sJ e2 qg.ig)) (sJ e3 qg.bg);refine aJ (D2.done _ _ _ t3 λh4 e e4 he=>?_);obtain⟨oe,ho,hc⟩:=he;have z3:IsZip h3 z a b .ellipsis:=e3.extBut _ _ qg.bz.symm (e2.extBut _ _ qg.iz.symm z1);have z4:IsZip h4 z a b .ellipsis:=e4 _ _ qg.jz.symm z3;have ez:e≠z:=λx=>by subst x;rw[z4]at ho;cases ho;simp at hc
 refine zV z4 (by simp) λh5 _ e5=>q h5 tk2 e (λc o c1 c2 c3 c4 x=>e5.extBut _ _ c1 (e4 _ _ c4 (e3.extBut _ _ c2 (e2.extBut _ _ c3 (e1.extBut _ _ c1 x))))) ⟨oe,e5.extBut _ _ ez ho,hc⟩
def zf7(qg:yN z a b i j f g)(D1:Draws P w A.in1 i f n F1 S1)(D2:Draws P w A.in1 j g m F2 qk)(hz:IsZip s.heap z a b .none)(ha:IsPair s.heap a (.ref i) (.ref j))(hb:IsPair s.heap b u v)(s1:S1 m s.heap)(s2:qk m s.heap)(k1:m<n)
  (q:∀h' tk,(∀c o,c≠z->c≠b->c≠i->c≠j->s.heap.get? c=some o->h'.get? c=some o)->Q none {s with heap:=h',toks:=tk}):wpAny (model P w) A (pyNext (.ref z)) Q E s:=by
 have hT:s.TypeIs (.ref z) "zip":=⟨_,hz,rfl⟩;unfold pyNext;refine aJ (yW (YAH (name:=Str.ofString "__next__") hT Dl (uL Dl hT YC0 (ziD qg D1 D2 hz ha hb s1 s2 k1 λh' tk e hk he=>?_) (YCS _))));obtain⟨o,ho,hc⟩:=he;exact aJ (Ft (T:="StopIteration") (b:=true) ⟨o,ho,hc⟩ YCL (bV (q _ _ hk)))
end
section
variable{X:Cx}
def zuu(K:qo):R2:=λx y H Q=>∃a b xs ys,x=.ref a/\y=.ref b/\fX K H a xs/\fX K H b ys/\xs.length+ys.length<=sizeLine /\
 (xs=[]->Q (.ref b) H)/\(xs≠[]->ys=[]->Q (.ref a) H)/\(∀p,H p=none->Q (.ref p) (upd H p (.tup (xs++ys))))
def zsM:fL X (binaryOp .Add) (zuu X.K):=by
 intro aa s Z H x y v u Q I rx ry h;obtain⟨a,b,xs,ys,rfl,rfl,ha,hb,hz,q1,q2,q3⟩:=h;by_cases hx:xs=[]
 .subst hx;cases rx;cases ry;obtain⟨its,r1,p1,_⟩:=I.tuple ha;obtain⟨its2,r2,p2,_⟩:=I.tuple hb;obtain⟨⟨cls,dd,data,sl⟩,ho,hc,n,hd⟩:=id p1;obtain⟨⟨cls2,dd2,data2,sl2⟩,ho2,hc2,n2,hd2⟩:=id p2;simp only at hc hd hc2 hd2;subst hc hd hc2 hd2;have hi:its=[]:=r1.nil_iff.mpr rfl;exact concat_meets ⟨_,ho,rfl⟩ ⟨_,ho2,rfl⟩ YCY seq_tuple_add YCb YB4 (YB1 _ _)
   (tuple_addW0 a b its.toArray its2.toArray n n2 dd dd2 sl sl2 (by simp[hi])) ⟨ho,ho2,⟨.ref b,H,I,rfl,q1 rfl⟩⟩
 .exact zrX aa s Z H (.ref a) (.ref b) v u Q I rx ry ⟨a,b,xs,ys,rfl,rfl,ha,hb,hx,hz,q2 hx,λ_ p hp=>q3 p hp⟩
def rSl3(K:qo):V->Option Int->Option Int->Hp->VK->Prop:=λx lo hi H Q=>∃a xs,x=.ref a/\fX K H a xs/\(jO xs lo hi=xs->Q (.ref a) H)/\∀p,H p=none->Q (.ref p) (upd H p (.tup (jO xs lo hi)))
def zrw:yf X (rSl3 X.K):=by
 intro aa s Z H x v vl vu lo hi sl Q I rx hs pl pu h;obtain⟨a,xs,rfl,hx,q1,q2⟩:=h;by_cases hw:HT.bY xs.length 0 lo=0/\HT.bY xs.length xs.length hi=xs.length
 .cases rx;obtain⟨its,r,ht,hz⟩:=I.tuple hx;have hlen:its.toArray.size=xs.length:=by rw[jj];exact r.length.symm
  refine⟨"tuple",_,YAQ.lookup,ht.typeIs,?_⟩;refine HT.iJ ht hs pl pu (by rw[hlen];exact hw) ?_;refine⟨.ref a,H,I,rfl,q1 ?_⟩;unfold jO;rw[hw.1,hw.2];simp
 .exact zuE aa s Z H (.ref a) v vl vu lo hi sl Q I rx hs pl pu ⟨a,xs,rfl,hx,hw,q2⟩
end
end L2
namespace Fd
open PySem L2
inductive D where
 |non|bl (b:Bool)|int (i:Int)|str (x:Str)|tup (xs:List D)|lst (n:Bool) (xs:List D)|box|dct (n:Bool) (ks:List Str) (xs:List D)|obj (a:Addr)|fdc (ks:List Str) (xs:List D)
def dB(ks:List Str)(vs:List V):List (Key×V):=(ks.zip vs).map λp=>(Sum.inr p.1,p.2)
structure Bk where
 K:qo
 β:Addr
 H0:Hp
 G0:Hp
 P:Prop
mutual
def Rep(c:Bk)(G:Hp):D->V->Prop
 |.non,v=>v=.non
 |.bl b,v=>v=.bl b
 |.int i,v=>v=.int i
 |.str x,v=>v=.str x
 |.tup xs,v=>∃a vs,v=.ref a/\fX c.K G a vs/\aG c G xs vs
 |.lst n xs,v=>∃a vs,v=.ref a/\G a=some (.lst vs)/\(n=true->c.H0 a=none)/\aG c G xs vs
 |.box,v=>v=.ref c.β
 |.dct n ks xs,v=>∃a vs,v=.ref a/\G a=some (.dK (dB ks vs))/\(n=true->c.H0 a=none)/\ks.length=vs.length/\aG c G xs vs
 |.fdc ks xs,v=>∃a vs o,v=.ref a/\G a=some (.iV o (.dK (dB ks vs)))/\ks.length=vs.length/\aG c G xs vs
 |.obj a,v=>v=.ref a
def aG(c:Bk)(G:Hp):List D->List V->Prop
 |[],vs=>vs=[]
 |x::xs,vs=>∃v ws,vs=v::ws/\Rep c G x v/\aG c G xs ws
end
def qp(e:Same H H')(h:fX K H a xs):fX K H' a xs:=by
 rcases h with h|h
 .rcases h with h|⟨o,h⟩
  .exact .inl (.inl (e _ _ h))
  .exact .inl (.inr ⟨o,e _ _ h⟩)
 .exact .inr h
mutual
theorem Rep.mono(e:Same G G'):∀{d:D}{v:V},Rep c G d v->Rep c G' d v
 |.non,_,h=>h
 |.bl _,_,h=>h
 |.int _,_,h=>h
 |.str _,_,h=>h
 |.box,_,h=>h
 |.obj _,_,h=>h
 |.dct n ks xs,_,⟨a,vs,h1,h2,h4,h5,h3⟩=>⟨a,vs,h1,e _ _ h2,h4,h5,aG.mono e h3⟩
 |.fdc ks xs,_,⟨a,vs,o,h1,h2,h5,h3⟩=>⟨a,vs,o,h1,e _ _ h2,h5,aG.mono e h3⟩
 |.tup xs,_,⟨a,vs,h1,h2,h3⟩=>⟨a,vs,h1,qp e h2,aG.mono e h3⟩
 |.lst n xs,_,⟨a,vs,h1,h2,h4,h3⟩=>⟨a,vs,h1,e _ _ h2,h4,aG.mono e h3⟩
theorem aG.mono(e:Same G G'):∀{ds:List D}{vs:List V},aG c G ds vs->aG c G' ds vs
 |[],_,h=>h
 |_::_,_,⟨v,ws,h1,h2,h3⟩=>⟨v,ws,h1,Rep.mono e h2,aG.mono e h3⟩
end
def D.old:D->D
 |.non=>.non
 |.bl b=>.bl b
 |.int i=>.int i
 |.str x=>.str x
 |.box=>.box
 |.obj a=>.obj a
 |.dct _ ks xs=>.dct false ks (xs.map D.old)
 |.fdc ks xs=>.fdc ks (xs.map D.old)
 |.tup xs=>.tup (xs.map D.old)
 |.lst _ xs=>.lst false (xs.map D.old)
mutual
/-- handed on to another call -/
theorem Rep.hand(hk:c.K=c'.K)(hb:c.β=c'.β):∀{d:D}{v:V},Rep c G d v->Rep c' G d.old v
 |.non,_,h=>by unfold D.old;exact h
 |.bl _,_,h=>by unfold D.old;exact h
 |.int _,_,h=>by unfold D.old;exact h
 |.str _,_,h=>by unfold D.old;exact h
 |.box,_,h=>by unfold D.old;show _=V.ref c'.β;rw[<-hb];exact h
 |.obj _,_,h=>by unfold D.old;exact h
 |.dct n ks xs,_,⟨a,vs,h1,h2,h4,h5,h3⟩=>by unfold D.old;exact⟨a,vs,h1,h2,(λz=>by cases z),h5,aG.hand hk hb h3⟩
 |.fdc ks xs,_,⟨a,vs,o,h1,h2,h5,h3⟩=>by unfold D.old;exact⟨a,vs,o,h1,h2,h5,aG.hand hk hb h3⟩
 |.tup xs,_,⟨a,vs,h1,h2,h3⟩=>by unfold D.old;exact⟨a,vs,h1,hk▸h2,aG.hand hk hb h3⟩
 |.lst n xs,_,⟨a,vs,h1,h2,h4,h3⟩=>by unfold D.old;exact⟨a,vs,h1,h2,(λz=>by cases z),aG.hand hk hb h3⟩
theorem aG.hand(hk:c.K=c'.K)(hb:c.β=c'.β):∀{ds:List D}{vs:List V},aG c G ds vs->aG c' G (ds.map D.old) vs
 |[],_,h=>h
 |_::_,_,⟨v,ws,h1,h2,h3⟩=>⟨v,ws,h1,Rep.hand hk hb h2,aG.hand hk hb h3⟩
end
mutual
/-- and back: what is newer than the inner call is newer than the outer one -/
theorem Rep.back(hk:c'.K=c.K)(hb:c'.β=c.β)(hn:∀a,c'.H0 a=none->c.H0 a=none):∀{d:D}{v:V},Rep c' G d v->Rep c G d v
 |.non,_,h=>h
 |.bl _,_,h=>h
 |.int _,_,h=>h
 |.str _,_,h=>h
 |.box,_,h=>by show _=V.ref c.β;rw[<-hb];exact h
 |.obj _,_,h=>h
 |.dct n ks xs,_,⟨a,vs,h1,h2,h4,h5,h3⟩=>⟨a,vs,h1,h2,λz=>hn a (h4 z),h5,aG.back hk hb hn h3⟩
 |.fdc ks xs,_,⟨a,vs,o,h1,h2,h5,h3⟩=>⟨a,vs,o,h1,h2,h5,aG.back hk hb hn h3⟩
 |.tup xs,_,⟨a,vs,h1,h2,h3⟩=>⟨a,vs,h1,hk▸h2,aG.back hk hb hn h3⟩
 |.lst n xs,_,⟨a,vs,h1,h2,h4,h3⟩=>⟨a,vs,h1,h2,λz=>hn a (h4 z),aG.back hk hb hn h3⟩
theorem aG.back(hk:c'.K=c.K)(hb:c'.β=c.β)(hn:∀a,c'.H0 a=none->c.H0 a=none):∀{ds:List D}{vs:List V},aG c' G ds vs->aG c G ds vs
 |[],_,h=>h
 |_::_,_,⟨v,ws,h1,h2,h3⟩=>⟨v,ws,h1,Rep.back hk hb hn h2,aG.back hk hb hn h3⟩
end
theorem aG.length :∀{ds:List D}{vs:List V},aG c G ds vs->ds.length=vs.length
 |[],_,h=>by cases h;rfl
 |_::_,_,⟨v,ws,h1,_,h3⟩=>by subst h1;simp[aG.length h3]
theorem aG.get :∀{ds:List D}{vs:List V}{i:Nat}{d:D},aG c G ds vs->ds[i]?=some d->∃v,vs[i]?=some v/\Rep c G d v
 |[],_,_,_,_,e=>by simp at e
 |_::_,_,0,_,⟨v,ws,h1,h2,_⟩,e=>by subst h1;simp at e;subst e;exact⟨v,rfl,h2⟩
 |_::_,_,i+1,d,⟨v,ws,h1,_,h3⟩,e=>by subst h1;exact aG.get (i:=i) h3 (by simpa using e)
theorem aG.append :∀{ds es:List D}{vs ws:List V},aG c G ds vs->aG c G es ws->aG c G (ds++es) (vs++ws)
 |[],_,_,_,h,k=>by cases h;exact k
 |_::_,_,_,_,⟨v,us,h1,h2,h3⟩,k=>by subst h1;exact⟨v,us++_,rfl,h2,aG.append h3 k⟩
def aG.one(h:Rep c G d v):aG c G [d] [v]:=⟨v,[],rfl,h,rfl⟩
theorem aG.set(h:Rep c G d v):∀{ds:List D}{vs:List V}(i:Nat),aG c G ds vs->aG c G (ds.set i d) (vs.set i v)
 |[],_,_,k=>by cases k;rfl
 |_::_,_,0,⟨u,us,h1,h2,h3⟩=>by subst h1;exact⟨v,us,rfl,h,h3⟩
 |_::_,_,i+1,⟨u,us,h1,h2,h3⟩=>by subst h1;exact⟨u,us.set i v,rfl,h2,aG.set h i h3⟩
theorem aG.take :∀{ds:List D}{vs:List V}(i:Nat),aG c G ds vs->aG c G (ds.take i) (vs.take i)
 |[],_,_,k=>by cases k;simp[aG]
 |_::_,_,0,_=>by simp[aG]
 |_::_,_,i+1,⟨u,us,h1,h2,h3⟩=>by subst h1;exact⟨u,us.take i,rfl,h2,aG.take i h3⟩
theorem aG.drop :∀{ds:List D}{vs:List V}(i:Nat),aG c G ds vs->aG c G (ds.drop i) (vs.drop i)
 |[],_,_,k=>by cases k;simp[aG]
 |_::_,_,0,k=>k
 |_::_,_,i+1,⟨u,us,h1,h2,h3⟩=>by subst h1;exact aG.drop i h3
theorem gB :∀{ns:List Bool}{vs:List V},aG c G (ns.map D.bl) vs↔vs=ns.map V.bl
 |[],_=>Iff.rfl
 |n::ns,vs=>by
  constructor
  .rintro⟨v,ws,h1,h2,h3⟩;rw[h1,gB.mp h3]
   have:v=V.bl n:=h2
   rw[this];rfl
  .rintro rfl;exact⟨V.bl n,ns.map V.bl,rfl,rfl,gB.mpr rfl⟩
def sG(cc:Addr)(p r d:Int):HO:=.lst [.ref cc,.int p,.int r,.int d]
structure d7(β:Addr)(H G:Hp):Prop where
 ex:∃cc p r d,∃ns:List Int,H β=some (sG cc p r d)/\0<=p/\0<=r/\0<=d/\d<2147483629/\G cc=some (.lst (ns.map V.int))/\ns.length<=63
 still:G β=none
def d7.at(b:d7 β H G):∃o,H β=some o:=by
 obtain⟨cc,p,r,d,ns,h,_⟩:=b.ex;exact⟨_,h⟩
def wJ:HO->Prop
 |.tup _=>True
 |.iV _ _=>True
 |_=>False
structure aX(β:Addr)(H G H' G':Hp):Prop where
 gg:Same G G'
 gh:Same G' H'
 fr:∀a o,a≠β->H a=some o->H' a=some o
 nw:∀a,G' a≠none->G a≠none\/H a=none\/∃o,H a=some o/\wJ o
 bx:d7 β H' G'
 b0:H β≠none
 bc:∀cc p r d,H β=some (sG cc p r d)->∃p r d,H' β=some (sG cc p r d)
theorem aX.refl(gh:Same G H)(b:d7 β H G):aX β H G H G:=
 ⟨Same.refl _,gh,λ_ _ _ e=>e,λ_ e=>.inl e,b,λz=>by(obtain⟨o,h⟩:=b.at;rw[z]at h;cases h),λ_ p r d h=>⟨p,r,d,h⟩⟩
def aX.free(s:aX β H G H' G')(h:H' a=none):H a=none:=by
 cases e:H a with
 |none=>rfl
 |some o=>
  by_cases z:a=β
  .obtain⟨o',h'⟩:=s.bx.at;rw[z,h']at h;cases h
  .rw[s.fr a o z e]at h;cases h
theorem aX.trans(s:aX β H G H1 G1)(t:aX β H1 G1 H2 G2):aX β H G H2 G2:=
 ⟨s.gg.trans t.gg,t.gh,λa o n e=>t.fr a o n (s.fr a o n e),λa e=>(t.nw a e).elim (s.nw a) λz=>z.elim (λz=>.inr (.inl (s.free z))) λ⟨o,ho,st⟩=>by
  cases e:H a with
  |none=>exact .inr (.inl rfl)
  |some o'=>
   have nb:a≠β:=λz=>by
    obtain⟨cc,p,r,d,ns,h,_⟩:=s.bx.ex;rw[z,h]at ho;cases ho;exact st
   have:=s.fr a o' nb e
   rw[ho]at this;cases this;exact .inr (.inr ⟨o,rfl,st⟩),t.bx,s.b0,λcc p r d h=>by
  obtain⟨p1,r1,d1,h1⟩:=s.bc cc p r d h;exact t.bc cc p1 r1 d1 h1⟩
def d7.new(b:d7 β H G)(hl:H l=none):d7 β (upd H l o) G:=by
 obtain⟨cc,p,r,d,ns,h,q⟩:=b.ex;exact⟨⟨cc,p,r,d,ns,by rw[au (lO h hl)];exact h,q⟩,b.still⟩
def zqF(gh:Same G H)(hl:H l=none):Same G (upd H l o):=λa u e=>by
 rw[au (lO (gh a u e) hl)];exact gh a u e
def aX.own(gh:Same G H)(b:d7 β H G)(hl:H l=none):aX β H G (upd H l o) G:=
 ⟨Same.refl _,zqF gh hl,λa u _ e=>by rw[au (lO e hl)];exact e,λ_ e=>.inl e,b.new hl,λz=>by(obtain⟨o,h⟩:=b.at;rw[z]at h;cases h),λcc p r d h=>⟨p,r,d,by rw[au (lO h hl)];exact h⟩⟩
def lQ(gh:Same G H)(hl:H l=none):G l=none:=gh.free hl
theorem aX.still(s:aX β H G H' G')(h':H' l=some o)(h0:H l=none)(hb:l≠β)(hg:G' l=none):aX β H G H' (upd G' l o):=
 ⟨s.gg.trans λa u e=>by rw[au (lO e hg)];exact e,
 λa u e=>by
  by_cases z:a=l
  .subst z;rw[cH]at e;rw[h'];exact e
  .rw[au z]at e;exact s.gh a u e,
 s.fr,λa e=>by
  by_cases z:a=l
  .subst z;exact .inr (.inl h0)
  .rw[au z]at e;exact s.nw a e,
 ⟨by
   obtain⟨cc,p,r,d,ns,h,p1,p2,p3,p4,hc,q⟩:=s.bx.ex;exact⟨cc,p,r,d,ns,h,p1,p2,p3,p4,by rw[au (lO hc hg)];exact hc,q⟩,by rw[au (YAM hb)];exact s.bx.still⟩,s.b0,s.bc⟩
def aX.new(gh:Same G H)(b:d7 β H G)(hl:H l=none):aX β H G (upd H l o) (upd G l o):=by
 have hb:l≠β:=λz=>by obtain⟨o,h⟩:=b.at;rw[<-z,hl]at h;cases h
 exact(aX.own gh b hl).still cH hl hb (lQ gh hl)
def pB(hg:G l=none):Same G (upd G l o):=λa u e=>by rw[au (lO e hg)];exact e
inductive Sl where
 |un|val (d:D)|own (xs:List D)|dic (ks:List Str) (xs:List D)
abbrev Env:=List Sl
noncomputable def ym(c:Bk)(H G:Hp):Sl->Option (Option V)->Prop
 |.un,_=>True
 |.val d,o=>∃v,o=some (some v)/\Rep c G d v
 |.own xs,o=>∃a vs,o=some (some (.ref a))/\H a=some (.lst vs)/\G a=none/\c.H0 a=none/\a≠c.β/\aG c G xs vs
 |.dic ks xs,o=>∃a vs,o=some (some (.ref a))/\H a=some (.dK (dB ks vs))/\G a=none/\c.H0 a=none/\a≠c.β/\aG c G xs vs/\ks.length=vs.length
structure Rel(c:Bk)(S:Env)(Z:St)(H G:Hp):Prop where
 len:S.length=Z.length
 stp:aX c.β c.H0 c.G0 H G
 slot:∀(i:Nat) s,S[i]?=some s->ym c H G s Z[i]?
 dis:∀(i j:Nat) a xs ys,S[i]?=some (.own xs)->S[j]?=some (.own ys)->Z[i]?=some (some (.ref a))->Z[j]?=some (some (.ref a))->i=j
 kn:c.P
theorem Rel.gh(r:Rel c S Z H G):Same G H:=r.stp.gh
theorem Rel.bx(r:Rel c S Z H G):d7 c.β H G:=r.stp.bx
theorem Rel.refl(r:Rel c S Z H G):aX c.β H G H G:=aX.refl r.gh r.bx
def ym.step(t:aX c.β H G H' G'):∀{s:Sl}{o:Option (Option V)},ym c H G s o->ym c H' G' s o
 |.un,_,_=>trivial
 |.val d,_,⟨v,h1,h2⟩=>⟨v,h1,h2.mono t.gg⟩
 |.own xs,_,⟨a,vs,h1,h2,h3,h4,h5,h6⟩=>⟨a,vs,h1,t.fr a _ h5 h2,(by
   cases e:G' a with
   |none=>rfl
   |some o=>
    rcases t.nw a (by rw[e];simp)with z|z|⟨o',z,st⟩
    .exact absurd h3 z
    .rw[h2]at z;cases z
    .rw[h2]at z;cases z;exact st.elim),h4,h5,h6.mono t.gg⟩
 |.dic ks xs,_,⟨a,vs,h1,h2,h3,h4,h5,h6,h7⟩=>⟨a,vs,h1,t.fr a _ h5 h2,(by
   cases e:G' a with
   |none=>rfl
   |some o=>
    rcases t.nw a (by rw[e];simp)with z|z|⟨o',z,st⟩
    .exact absurd h3 z
    .rw[h2]at z;cases z
    .rw[h2]at z;cases z;exact st.elim),h4,h5,h6.mono t.gg,h7⟩
theorem Rel.step(r:Rel c S Z H G)(t:aX c.β H G H' G'):Rel c S Z H' G':=
 ⟨r.len,r.stp.trans t,λi s e=>(r.slot i s e).step t,r.dis,r.kn⟩
def Rel.put(r:Rel c S Z H G)(h:Rep c G d v):Rel c (S.set i (.val d)) (Z.set i (some v)) H G:=by
 refine⟨by simp[r.len],r.stp,λj s e=>?_,λj k a xs ys e1 e2 e3 e4=>?_,r.kn⟩
 .by_cases z:i=j
  .subst z;have hi:i<S.length:=by have:=(jB.mp e).1;simpa using this
   rw[jK hi]at e;cases e;exact⟨v,by rw[jK (by rw[<-r.len];exact hi)],h⟩
  .rw[jE z]at e ⊢;exact r.slot j s e
 .have nj:i≠j:=λz=>by
   subst z;have hi:i<S.length:=by have:=(jB.mp e1).1;simpa using this
   rw[jK hi]at e1;cases e1
  have nk:i≠k:=λz=>by
   subst z;have hi:i<S.length:=by have:=(jB.mp e2).1;simpa using this
   rw[jK hi]at e2;cases e2
  rw[jE nj]at e1 e3;rw[jE nk]at e2 e4;exact r.dis j k a xs ys e1 e2 e3 e4
def Rel.putOwn(r:Rel c S Z H G)(hl:H l=some (.lst vs))(hg:G l=none)(h0:c.H0 l=none)(hb:l≠c.β)(h:aG c G xs vs)
  (hn:∀(j:Nat) ys,S[j]?=some (.own ys)->Z[j]?≠some (some (.ref l))):Rel c (S.set i (.own xs)) (Z.set i (some (.ref l))) H G:=by
 refine⟨by simp[r.len],r.stp,λj s e=>?_,λj k a xs' ys e1 e2 e3 e4=>?_,r.kn⟩
 .by_cases z:i=j
  .subst z;have hi:i<S.length:=by have:=(jB.mp e).1;simpa using this
   rw[jK hi]at e;cases e;exact⟨l,vs,by rw[jK (by rw[<-r.len];exact hi)],hl,hg,h0,hb,h⟩
  .rw[jE z]at e ⊢;exact r.slot j s e
 .by_cases zj:i=j
  .by_cases zk:i=k
   .exact zj.symm.trans zk
   .subst zj;have hi:i<S.length:=by have:=(jB.mp e1).1;simpa using this
    rw[jK (by rw[<-r.len];exact hi)]at e3;cases e3;rw[jE zk]at e2 e4;exact absurd e4 (hn k ys e2)
  .by_cases zk:i=k
   .subst zk;have hi:i<S.length:=by have:=(jB.mp e2).1;simpa using this
    rw[jK (by rw[<-r.len];exact hi)]at e4;cases e4;rw[jE zj]at e1 e3;exact absurd e3 (hn j xs' e1)
   .rw[jE zj]at e1 e3;rw[jE zk]at e2 e4;exact r.dis j k a xs' ys e1 e2 e3 e4
def Rel.write(r:Rel c S Z H G)(hi:S[i]?=some (.own xs))(hs:Z[i]?=some (some (.ref l)))(h:aG c G ys ws) :
  Rel c (S.set i (.own ys)) Z (upd H l (.lst ws)) G:=by
 obtain⟨a,vs,h1,h2,h3,h4,h5,h6⟩:=r.slot i _ hi;rw[hs]at h1;cases h1;have hil:i<S.length:=(jB.mp hi).1;refine⟨by simp[r.len],⟨r.stp.gg,λb u e=>?_,λb u n e=>?_,r.stp.nw,?_,r.stp.b0,λcc p q d e=>by
  obtain⟨p',q',d',e'⟩:=r.stp.bc cc p q d e;exact⟨p',q',d',by rw[au (YAM h5)];exact e'⟩⟩,λj s e=>?_,λj k b xs' ys' e1 e2 e3 e4=>?_,r.kn⟩
 .rw[au (λz=>by rw[z,h3]at e;cases e)];exact r.gh b u e
 .rw[au (λz=>by rw[z,h4]at e;cases e)];exact r.stp.fr b u n e
 .obtain⟨cc,p,q,d,ns,e,z⟩:=r.bx.ex;exact⟨⟨cc,p,q,d,ns,by rw[au (YAM h5)];exact e,z⟩,r.bx.still⟩
 .by_cases z:i=j
  .subst z;rw[jK hil]at e;cases e;exact⟨l,ws,hs,cH,h3,h4,h5,h⟩
  .rw[jE z]at e;have q:=r.slot j s e;cases s with
   |un=>trivial
   |val d=>exact q
   |own zs=>
    obtain⟨b,us,g1,g2,g3⟩:=q;have nb:b≠l:=λy=>z (r.dis i j l xs zs hi e hs (by rw[g1,y]));exact⟨b,us,g1,by rw[au nb];exact g2,g3⟩
   |dic ks zs=>
    obtain⟨b,us,g1,g2,g3⟩:=q;have nb:b≠l:=λy=>by rw[y,h2]at g2;cases g2
    exact⟨b,us,g1,by rw[au nb];exact g2,g3⟩
 .have f:∀(m:Nat) zs,(S.set i (.own ys))[m]?=some (.own zs)->∃zs',S[m]?=some (.own zs'):=λm zs e=>by
   by_cases z:i=m
   .exact⟨xs,z▸hi⟩
   .rw[jE z]at e;exact⟨zs,e⟩
  obtain⟨_,f1⟩:=f j _ e1;obtain⟨_,f2⟩:=f k _ e2;exact r.dis j k b _ _ f1 f2 e3 e4
def Rel.freeze(r:Rel c S Z H G)(hi:S[i]?=some (.own xs)):∃G',Same G G'/\Rel c (S.set i (.val (.lst true xs))) Z H G':=by
 obtain⟨a,vs,h1,h2,h3,h4,h5,h6⟩:=r.slot i _ hi;have hil:i<S.length:=(jB.mp hi).1;have sg:Same G (upd G a (.lst vs)):=pB h3;refine⟨upd G a (.lst vs),sg,by simp[r.len],r.stp.still h2 h4 h5 h3,λj s e=>?_,λj k b xs' ys' e1 e2 e3 e4=>?_,r.kn⟩
 .by_cases z:i=j
  .subst z;rw[jK hil]at e;cases e;exact⟨.ref a,h1,a,vs,rfl,cH,λ_=>h4,h6.mono sg⟩
  .rw[jE z]at e;have q:=r.slot j s e;cases s with
   |un=>trivial
   |val d=>obtain⟨v,g1,g2⟩:=q;exact⟨v,g1,g2.mono sg⟩
   |own zs=>
    obtain⟨b,us,g1,g2,g3,g4,g5,g6⟩:=q;have nb:b≠a:=λy=>z (r.dis i j a xs zs hi e h1 (by rw[g1,y]));exact⟨b,us,g1,g2,by rw[au nb];exact g3,g4,g5,g6.mono sg⟩
   |dic ks zs=>
    obtain⟨b,us,g1,g2,g3,g4,g5,g6,g7⟩:=q;have nb:b≠a:=λy=>by rw[y,h2]at g2;cases g2
    exact⟨b,us,g1,g2,by rw[au nb];exact g3,g4,g5,g6.mono sg,g7⟩
 .have f:∀(m:Nat) zs,(S.set i (.val (.lst true xs)))[m]?=some (.own zs)->S[m]?=some (.own zs):=λm zs e=>by
   by_cases z:i=m
   .subst z;rw[jK hil]at e;cases e
   .rw[jE z]at e;exact e
  exact r.dis j k b _ _ (f j _ e1) (f k _ e2) e3 e4
structure Nk(X:Cx)(i:Nat)(x:Str):Prop where
 N:X.N[i]?=some x
 v:Cu X.env.scope x
 d:(x==("__debug__":Str))=false
 c:(x==("__classdict__":Str))=false
abbrev Sk(X:Cx)(e:Expr)(es:List Expr)(pos:Pos):Prop:=starEach (e::es) X.env=(false,eval e X.env)::starEach es X.env/\(backTo pos (starEach es X.env)).any (·.1)=false
abbrev WE:=Env->(D->Prop)->Prop
abbrev WL:=Env->(List D->Prop)->Prop
abbrev WT:=Env->(Bool->Prop)->Prop
def jm(W:WE):Prop:=∀ S Q Q',(∀d,Q d->Q' d)->W S Q->W S Q'
def rN(W:WL):Prop:=∀ S Q Q',(∀d,Q d->Q' d)->W S Q->W S Q'
def wF(W:WT):Prop:=∀ S Q Q',(∀d,Q d->Q' d)->W S Q->W S Q'
def tD(c:Bk)(W:WE):TE:=λZ H Q=>∃ S G,Rel c S Z H G/\W S λd=>∀v H' G',aX c.β H G H' G'->Rep c G' d v->Q v H'
def tDs(c:Bk)(W:WL):TA:=λZ H Q=>∃ S G,Rel c S Z H G/\W S λds=>∀vs H' G',aX c.β H G H' G'->aG c G' ds vs->Q vs H'
def tDf(c:Bk)(W:WL):TE:=λZ H Q=>∃ S G,Rel c S Z H G/\W S λds=>∀l vs H' G',aX c.β H G H' G'->H' l=some (.lst vs)->G' l=none->H l=none->aG c G' ds vs->Q (.ref l) H'
def Dw(c:Bk)(W:WT):TT:=λZ H Q=>∃ S G,Rel c S Z H G/\W S λb=>∀H' G',aX c.β H G H' G'->Q b H'
structure DE(X:Cx)(c:Bk)(e:Expr)(W:WE):Prop where
 mono:jm W
 pe:PE X e (tD c W)
structure DF(X:Cx)(c:Bk)(e:Expr)(W:WL):Prop where
 mono:rN W
 pe:PE X e (tDf c W)
structure DA(X:Cx)(c:Bk)(es:List Expr)(W:WL):Prop where
 mono:rN W
 pa:PA X es (tDs c W)
structure DT(X:Cx)(c:Bk)(e:Expr)(W:WT):Prop where
 mono:wF W
 pt:PT X e (Dw c W)
section
variable{X:Cx}
def dM(h:PE X e t)(k:∀ Z H Q,t' Z H Q->t Z H Q):PE X e t':=λaa s Z H Q I q=>h aa s Z H Q I (k Z H Q q)
def yR(h:PT X e t)(k:∀ Z H Q,t' Z H Q->t Z H Q):PT X e t':=λaa s Z H Q I q=>h aa s Z H Q I (k Z H Q q)
def zq4(h:PA X e t)(k:∀ Z H Q,t' Z H Q->t Z H Q):PA X e t':=λpos aa s Z H Q I q=>h pos aa s Z H Q I (k Z H Q q)
def Rel.new0(r:Rel c S Z H G)(h:H l=none):c.H0 l=none:=r.stp.free h
def Rel.neβ(r:Rel c S Z H G)(h:H l=none):l≠c.β:=λz=>by
 obtain⟨o,e⟩:=r.bx.at;rw[<-z,h]at e;cases e
abbrev aN(W:WL):WE:=λS Q=>W S λxs=>Q (.lst true xs)
def DF.de(h:DF X c e W):DE X c e (aN W)where
 mono:=λS Q Q' k q=>h.mono S _ _ (λxs z=>k _ z) q
 pe:=dM h.pe λZ H Q ⟨S,G,r,q⟩=>⟨S,G,r,h.mono S _ _ (λxs z l vs H' G' t hl hg h0 hv=>
  z (.ref l) H' (upd G' l (.lst vs)) (t.still hl h0 (r.neβ h0) hg) ⟨l,vs,rfl,cH,λ_=>r.new0 h0,hv.mono (pB hg)⟩) q⟩
def vW(i:Nat):WE:=λS Q=>match S[i]? with|some (.val d)=>Q d|_=>False
abbrev kW(d:D):WE:=λ_ Q=>Q d
def dv(i:Nat)(nk:Nk X i x:=by decreasing_trivial):DE X c (.Name x pos) (vW i)where
 mono:=λS Q Q' k q=>by
  unfold vW at q ⊢;split at q
  .exact k _ q
  .exact q.elim
 pe:=dM (lU nk.N nk.v nk.d nk.c) λZ H Q ⟨S,G,r,q⟩=>by
  unfold vW at q;split at q
  .rename_i d e
   obtain⟨v,h1,h2⟩:=r.slot i _ e;exact⟨v,h1,q v H G r.refl h2⟩
  .exact q.elim
def Di(d:D):jm (kW d):=λ_ _ _ k q=>k _ q
def aQ:DE X c (.Constant (.int i) j pos) (kW (.int i)):=⟨Di _,dM ju λZ H Q ⟨S,G,r,q⟩=>q _ H G r.refl rfl⟩
def Ka:DE X c (.Constant (.bool i) j pos) (kW (.bl i)):=⟨Di _,dM zvE λZ H Q ⟨S,G,r,q⟩=>q _ H G r.refl rfl⟩
def Ao:DE X c (.Constant .none j pos) (kW .non):=⟨Di _,dM zts λZ H Q ⟨S,G,r,q⟩=>q _ H G r.refl rfl⟩
def aV:DE X c (.Constant (.str i) j pos) (kW (.str i)):=⟨Di _,dM zrj λZ H Q ⟨S,G,r,q⟩=>q _ H G r.refl rfl⟩
abbrev F2:=D->D->(D->Prop)->Prop
def lg(f:F2):Prop:=∀x y Q Q',(∀d,Q d->Q' d)->f x y Q->f x y Q'
abbrev ak(f:F2)(A B:WE):WE:=λS Q=>A S λx=>B S λy=>f x y Q
def m8(c:Bk)(f:F2)(r:R2):Prop:=∀(H G:Hp)(x y:D)(u v:V)(Q:VK),Same G H->d7 c.β H G->(∀a,H a=none->c.H0 a=none)->Rep c G x u->Rep c G y v ->
 f x y (λd=>∀v H' G',aX c.β H G H' G'->Rep c G' d v->Q v H')->r u v H Q
def zgn(fm:lg f)(mA:jm A)(mB:jm B)(hr:m8 c f r)(Z:St)(H:Hp)(Q:VK)(h:tD c (ak f A B) Z H Q):Hc r (tD c A) (tD c B) Z H Q:=by
 obtain⟨S,G,R,q⟩:=h;refine⟨S,G,R,mA S _ _ (λx q1 u H1 G1 t1 e1=>⟨S,G1,R.step t1,mB S _ _ (λy q2 v H2 G2 t2 e2=>?_) q1⟩) q⟩;refine hr H2 G2 x y u v Q t2.gh t2.bx (λa z=>R.new0 (t1.free (t2.free z))) (e1.mono t2.gg) e2 (fm x y _ _ (λd z w H3 G3 t3 e3=>z w H3 G3 ((t1.trans t2).trans t3) e3) q2)
def Cm(fm:lg f)(mA:jm A)(mB:jm B):jm (ak f A B):=λS Q Q' k q=>mA S _ _ (λx q1=>mB S _ _ (λy q2=>fm x y _ _ k q2) q1) q
def Ec(fm:lg f)(ho:fL X (binaryOp op) r)(hr:m8 c f r)(hA:DE X c a A)(hB:DE X c b B):DE X c (.BinOp a op b pos) (ak f A B):=
 ⟨Cm fm hA.mono hB.mono,dM (pD ho hA.pe hB.pe) λZ H Q h=>zgn fm hA.mono hB.mono hr Z H Q h⟩
def zsI(fm:lg f)(ho:fL X (compareOp op) r)(hr:m8 c f r)(hA:DE X c a A)(hB:DE X c b B)(hm:behindInMarks op b=false):DE X c (.Compare a [op] [b] pos) (ak f A B):=
 ⟨Cm fm hA.mono hB.mono,dM (zsC ho hA.pe hB.pe hm) λZ H Q h=>zgn fm hA.mono hB.mono hr Z H Q h⟩
def bA(A:WE):WT:=λS Q=>A S λd=>match d with|.bl b=>Q b|_=>False
def ziQ(m:jm A):wF (bA A):=λS Q Q' k q=>m S _ _ (λd z=>by
 cases d<;>first|exact k _ z|exact z) q
def znl(m:jm A)(Z:St)(H:Hp)(Q:Bool->Hp->Prop)(h:Dw c (bA A) Z H Q):zsp (tD c A) Z H Q:=by
 obtain⟨S,G,R,q⟩:=h;refine⟨S,G,R,m S _ _ (λd z v H1 G1 t e=>?_) q⟩;cases d with
 |bl b=>exact⟨b,e,z H1 G1 t⟩
 |_=>exact z.elim
def BP(fm:lg f)(ho:fL X (compareOp op) r)(hr:m8 c f r)(hA:DE X c a A)(hB:DE X c b B)(hm:behindInMarks op b=false):DT X c (.Compare a [op] [b] pos) (bA (ak f A B)):=
 ⟨ziQ (Cm fm hA.mono hB.mono),yR (zh7 ho hA.pe hB.pe hm) λZ H Q h=>by
  obtain⟨S,G,R,q⟩:=znl (Cm fm hA.mono hB.mono) Z H Q h;exact zgn fm hA.mono hB.mono hr Z H _ ⟨S,G,R,q⟩⟩
def aU:F2
 |.int i,.int j,Q=>Q (.int (i+j))
 |.str a,.str b,Q=>a.length+b.length<=100000/\Q (.str (a++b))
 |.lst _ xs,.lst _ ys,Q=>xs.length+ys.length<=100000/\Q (.lst true (xs++ys))
 |.tup xs,.tup ys,Q=>xs.length+ys.length<=100000/\Q (.tup (xs++ys))
 |_,_,_=>False
def ik:F2
 |.int i,.int j,Q=>Q (.int (i-j))
 |_,_,_=>False
def jb:F2
 |.int i,.int j,Q=>uN i j/\Q (.int (i*j))
 |.lst _ xs,.int k,Q=>(0<=k/\k<=1000/\xs.length<=1000)/\Q (.lst true (List.replicate k.toNat xs).flatten)
 |_,_,_=>False
def kO:F2
 |.int i,.int j,Q=>0<j/\Q (.int (i % j))
 |_,_,_=>False
def sU:F2
 |.int i,.int j,Q=>Cg i j/\Q (.int (i^j.toNat))
 |_,_,_=>False
def fM(h:n<=100000):n<=sizeLine:=iu h (by rw[mG];decide)
def zwr:lg aU:=λx y Q Q' k q=>by
 cases x<;>cases y<;>first|exact k _ q|exact⟨q.1,k _ q.2⟩|exact q
def zwz:lg ik:=λx y Q Q' k q=>by
 cases x<;>cases y<;>first|exact k _ q|exact q
def ztJ:lg jb:=λx y Q Q' k q=>by
 cases x<;>cases y<;>first|exact⟨q.1,k _ q.2⟩|exact q
def zwk:lg kO:=λx y Q Q' k q=>by
 cases x<;>cases y<;>first|exact⟨q.1,k _ q.2⟩|exact q
def zvO:lg sU:=λx y Q Q' k q=>by
 cases x<;>cases y<;>first|exact⟨q.1,k _ q.2⟩|exact q
def zuJ(K:qo):R2:=λx y H Q=>(vA (λi j=>.int (i+j)) x y H Q\/(∃i j,x=.str i/\y=.str j/\i.length+j.length<=sizeLine/\Q (.str (i++j)) H))\/(Kh x y H Q\/zuu K x y H Q)
def zsF{c:Bk}(hK:c.K=X.K):fL X (binaryOp .Add) (zuJ c.K):=by rw[hK];exact(mU.or zmN).or (u9.or zsM)
def ztO:m8 c aU (zuJ c.K):=by
 intro H G x y u v Q gh bx h0 rx ry q;cases x with
 |int i=>cases y with
  |int j=>cases rx;cases ry;exact .inl (.inl ⟨i,j,rfl,rfl,q _ H G (aX.refl gh bx) rfl⟩)
  |_=>exact q.elim
 |str i=>cases y with
  |str j=>cases rx;cases ry;exact .inl (.inr ⟨i,j,rfl,rfl,fM q.1,q.2 _ H G (aX.refl gh bx) rfl⟩)
  |_=>exact q.elim
 |lst n xs=>cases y with
  |lst m ys=>
   obtain⟨a,vs,rfl,ha,_,rv⟩:=rx;obtain⟨b,ws,rfl,hb,_,rw'⟩:=ry;refine .inr (.inl ⟨a,b,vs,ws,rfl,rfl,gh _ _ ha,gh _ _ hb,?_,λp hp=>?_⟩)
   .rw[<-rv.length,<-rw'.length];exact fM q.1
   .have hg:=lQ gh hp;exact q.2 (.ref p) _ _ (aX.new gh bx hp) ⟨p,vs++ws,rfl,cH,λ_=>h0 p hp,(rv.append rw').mono (pB hg)⟩
  |_=>exact q.elim
 |tup xs=>cases y with
  |tup ys=>
   obtain⟨a,vs,rfl,ha,rv⟩:=rx;obtain⟨b,ws,rfl,hb,rw'⟩:=ry;refine .inr (.inr ⟨a,b,vs,ws,rfl,rfl,qp gh ha,qp gh hb,?_,λe=>?_,λ_ e=>?_,λp hp=>?_⟩)
   .rw[<-rv.length,<-rw'.length];exact fM q.1
   .subst e
    have:xs=[]:=by have:=rv.length;simpa using this
    subst this;exact q.2 (.ref b) H G (aX.refl gh bx) ⟨b,ws,rfl,hb,rw'⟩
   .subst e
    have:ys=[]:=by have:=rw'.length;simpa using this
    subst this;exact q.2 (.ref a) H G (aX.refl gh bx) ⟨a,vs,rfl,ha,by simpa using rv⟩
   .have hg:=lQ gh hp;exact q.2 (.ref p) _ _ (aX.new gh bx hp) ⟨p,vs++ws,rfl,fX.of cH,(rv.append rw').mono (pB hg)⟩
  |_=>exact q.elim
 |_=>exact q.elim
def d9(hA:DE X c a A)(hB:DE X c b B)(hK:c.K=X.K:=by rfl):DE X c (.BinOp a .Add b pos) (ak aU A B):=Ec zwr (zsF hK) ztO hA hB
def zuV:m8 c ik (vA λi j=>.int (i-j)):=by
 intro H G x y u v Q gh bx h0 rx ry q;cases x with
 |int i=>cases y with
  |int j=>cases rx;cases ry;exact⟨i,j,rfl,rfl,q _ H G (aX.refl gh bx) rfl⟩
  |_=>exact q.elim
 |_=>exact q.elim
def xM(hA:DE X c a A)(hB:DE X c b B):DE X c (.BinOp a .Sub b pos) (ak ik A B):=Ec zwz zu6 zuV hA hB
def ztn:R2:=λx y H Q=>rI uN (λi j=>.int (i*j)) x y H Q\/Fx x y H Q
def zqQ:m8 c jb ztn:=by
 intro H G x y u v Q gh bx h0 rx ry q;cases x with
 |int i=>cases y with
  |int j=>cases rx;cases ry;exact .inl ⟨i,j,rfl,rfl,q.1,q.2 _ H G (aX.refl gh bx) rfl⟩
  |_=>exact q.elim
 |lst n xs=>cases y with
  |int k=>
   obtain⟨a,vs,rfl,ha,_,rv⟩:=rx;cases ry;obtain⟨⟨k0,k1,hz⟩,q⟩:=q;refine .inr ⟨a,k,vs,rfl,rfl,gh _ _ ha,by omega,by omega,?_,λp hp=>?_⟩
   .rw[<-rv.length,mG];have h1:k.toNat<=1000:=by omega
    have:=YCM hz h1
    omega
   .have hg:=lQ gh hp
    have:∀m:Nat,aG c G (List.replicate m xs).flatten (List.replicate m vs).flatten:=λm=>by
     induction m with
     |zero=>rfl
     |succ m ih=>rw[yK,yK,BL,BL];exact rv.append ih
    exact q (.ref p) _ _ (aX.new gh bx hp) ⟨p,_,rfl,cH,λ_=>h0 p hp,(this _).mono (pB hg)⟩
  |_=>exact q.elim
 |_=>exact q.elim
def zsx(hA:DE X c a A)(hB:DE X c b B):DE X c (.BinOp a .Mult b pos) (ak jb A B):=Ec ztJ (mK.or zq7) zqQ hA hB
def zug:m8 c kO (rI (λ_ j=>0<j) λi j=>.int (i % j)):=by
 intro H G x y u v Q gh bx h0 rx ry q;cases x with
 |int i=>cases y with
  |int j=>cases rx;cases ry;exact⟨i,j,rfl,rfl,q.1,q.2 _ H G (aX.refl gh bx) rfl⟩
  |_=>exact q.elim
 |_=>exact q.elim
def zrF(hA:DE X c a A)(hB:DE X c b B):DE X c (.BinOp a .Mod b pos) (ak kO A B):=Ec zwk Dr zug hA hB
def zvk:m8 c sU (rI Cg λi j=>.int (i^j.toNat)):=by
 intro H G x y u v Q gh bx h0 rx ry q;cases x with
 |int i=>cases y with
  |int j=>cases rx;cases ry;exact⟨i,j,rfl,rfl,q.1,q.2 _ H G (aX.refl gh bx) rfl⟩
  |_=>exact q.elim
 |_=>exact q.elim
def zt2(hA:DE X c a A)(hB:DE X c b B):DE X c (.BinOp a .Pow b pos) (ak sU A B):=Ec zvO zoj zvk hA hB
def kJ:D->(D->Prop)->Prop
 |.int i,Q=>Q (.int (-i))
 |_,_=>False
abbrev uh(f:D->(D->Prop)->Prop)(A:WE):WE:=λS Q=>A S λx=>f x Q
def yP(hA:DE X c a A):DE X c (.UnaryOp .USub a pos) (uh kJ A)where
 mono:=λS Q Q' k q=>hA.mono S _ _ (λx z=>by cases x<;>first|exact k _ z|exact z) q
 pe:=dM (zvC zux hA.pe) λZ H Q ⟨S,G,r,q⟩=>⟨S,G,r,hA.mono S _ _ (λx z v H' G' t e=>by
  cases x with
  |int i=>exact⟨i,e,z _ H' G' t rfl⟩
  |_=>exact z.elim) q⟩
def sO(p:Int->Int->Bool):F2
 |.int i,.int j,Q=>Q (.bl (p i j))
 |_,_,_=>False
def sV(p:Int->Int->Bool):lg (sO p):=λx y Q Q' k q=>by
 cases x<;>cases y<;>first|exact k _ q|exact q
def Am(p:Int->Int->Bool):m8 c (sO p) (vA λi j=>.bl (p i j)):=by
 intro H G x y u v Q gh bx h0 rx ry q;cases x with
 |int i=>cases y with
  |int j=>cases rx;cases ry;exact⟨i,j,rfl,rfl,q _ H G (aX.refl gh bx) rfl⟩
  |_=>exact q.elim
 |_=>exact q.elim
abbrev GP:F2:=sO λi j=>decide (i<j)
abbrev mz:F2:=sO λi j=>decide (i<=j)
abbrev Ek:F2:=sO λi j=>decide (j<i)
abbrev Es:F2:=sO λi j=>decide (j<=i)
def Bg(hA:DE X c a A)(hB:DE X c b B):DT X c (.Compare a [.Lt] [b] pos) (bA (ak GP A B)):=BP (sV _) zu4 (Am _) hA hB (wD _)
def xn(hA:DE X c a A)(hB:DE X c b B):DT X c (.Compare a [.Gt] [b] pos) (bA (ak Ek A B)):=BP (sV _) ztg (Am _) hA hB (wD _)
def xZ(hA:DE X c a A)(hB:DE X c b B):DT X c (.Compare a [.GtE] [b] pos) (bA (ak Es A B)):=BP (sV _) zub (Am _) hA hB (wD _)
def El:D->Bool
 |.non=>true
 |_=>false
abbrev j6(A:WE):WE:=λS Q=>A S λx=>Q (.bl (El x))
abbrev uo(A:WE):WE:=λS Q=>A S λx=>Q (.bl (!El x))
def zle(h:Rep c G d v):decide (v=V.non)=El d:=by
 cases d with
 |non=>have:v=V.non:=h;subst this;rfl
 |bl b=>have:v=V.bl b:=h;subst this;rfl
 |int b=>have:v=V.int b:=h;subst this;rfl
 |str b=>have:v=V.str b:=h;subst this;rfl
 |box=>have:v=V.ref c.β:=h;subst this;rfl
 |obj b=>have:v=V.ref b:=h;subst this;rfl
 |dct n ks xs=>obtain⟨a,vs,rfl,_⟩:=h;rfl
 |fdc ks xs=>obtain⟨a,vs,o,rfl,_⟩:=h;rfl
 |tup xs=>obtain⟨a,vs,rfl,_⟩:=h;rfl
 |lst n xs=>obtain⟨a,vs,rfl,_⟩:=h;rfl
def zmk(m:jm A):jm (j6 A):=λS Q Q' k q=>m S _ _ (λx z=>k _ z) q
def zoQ(m:jm A):jm (uo A):=λS Q Q' k q=>m S _ _ (λx z=>k _ z) q
def zt9(hA:DE X c a A):DE X c (.Compare a [.Is] [.Constant .none j pos'] pos) (j6 A):=
 ⟨zmk hA.mono,dM (zvf (zrl hA.pe)) λZ H Q ⟨S,G,r,q⟩=>⟨S,G,r,hA.mono S _ _ (λx z v H' G' t e=>by show Q (V.bl (decide (v=V.non))) H';rw[zle e];exact z _ H' G' t rfl) q⟩⟩
def zp0(hA:DE X c a A):DT X c (.Compare a [.Is] [.Constant .none j pos'] pos) (bA (j6 A)):=
 ⟨ziQ (zmk hA.mono),yR (zlv (zrl hA.pe)) λZ H Q ⟨S,G,r,q⟩=>⟨S,G,r,hA.mono S _ _ (λx z v H' G' t e=>⟨_,rfl,by rw[zle e];exact z H' G' t⟩) q⟩⟩
def zoy(hA:DE X c a A):DT X c (.Compare a [.IsNot] [.Constant .none j pos'] pos) (bA (uo A)):=
 ⟨ziQ (zoQ hA.mono),yR (zlv (zsn hA.pe)) λZ H Q ⟨S,G,r,q⟩=>⟨S,G,r,hA.mono S _ _ (λx z v H' G' t e=>⟨_,rfl,by rw[zle e];exact z H' G' t⟩) q⟩⟩
end
mutual
def toPy:D->PyData
 |.non=>.none
 |.bl b=>.bool b
 |.int i=>.int i
 |.str x=>.str x
 |.box=>.none
 |.obj _=>.none
 |.dct _ _ _=>.none
 |.fdc _ _=>.none
 |.tup xs=>.tuple (lV xs)
 |.lst _ xs=>.list (lV xs)
def lV:List D->List PyData
 |[]=>[]
 |x::xs=>toPy x::lV xs
end
mutual
def dR:D->Bool
 |.non=>true
 |.bl _=>true
 |.int _=>true
 |.str x=>PyData.canLay0 (.str x)
 |.box=>false
 |.obj _=>false
 |.dct _ _ _=>false
 |.fdc _ _=>false
 |.tup xs=>m9 xs
 |.lst _ xs=>m9 xs
def m9:List D->Bool
 |[]=>true
 |x::xs=>dR x&&m9 xs
end
mutual
theorem wy:∀d:D,dR d=true->(toPy d).canLay0=true
 |.non,_=>by unfold toPy PyData.canLay0;rfl
 |.bl _,_=>by unfold toPy PyData.canLay0;rfl
 |.int _,_=>by unfold toPy PyData.canLay0;rfl
 |.str _,h=>by unfold toPy;unfold dR at h;exact h
 |.tup xs,h=>by unfold toPy PyData.canLay0;unfold dR at h;exact zu xs h
 |.lst _ xs,h=>by unfold toPy PyData.canLay0;unfold dR at h;exact zu xs h
theorem zu:∀ds:List D,m9 ds=true->PyData.canLayAll0 (lV ds)=true
 |[],_=>by unfold lV PyData.canLayAll0;rfl
 |x::xs,h=>by
  unfold lV PyData.canLayAll0;unfold m9 at h
  have:=(YAB _ _▸h:dR x=true/\m9 xs=true)
  rw[wy x this.1,zu xs this.2];rfl
end
theorem zgv:∀xs:List D,lV xs=xs.map toPy
 |[]=>rfl
 |x::xs=>by unfold lV;rw[zgv xs];rfl
section
variable{X:Cx}
mutual
theorem Rep.reads(hK:c.K=X.K)(I:Inv X aa Z H s)(gh:Same G H):∀(d:D){v:V}{u:Value},Rep c G d v->RelV v u->dR d=true->∃as,Reads s.heap u (toPy d) as
 |.non,v,u,h,r,_=>by have:v=V.non:=h;subst this;cases r;exact⟨_,.none⟩
 |.bl b,v,u,h,r,_=>by have:v=V.bl b:=h;subst this;cases r;exact⟨_,.bool b⟩
 |.int i,v,u,h,r,_=>by have:v=V.int i:=h;subst this;obtain⟨t,rfl⟩:=r;exact⟨_,.int i t⟩
 |.str i,v,u,h,r,_=>by have:v=V.str i:=h;subst this;obtain⟨t,rfl⟩:=r;exact⟨_,.str i t⟩
 |.box,v,u,h,r,l=>by cases l
 |.obj _,v,u,h,r,l=>by cases l
 |.dct _ _ _,v,u,h,r,l=>by cases l
 |.fdc _ _,v,u,h,r,l=>by cases l
 |.tup xs,v,u,⟨a,vs,h1,h2,h3⟩,r,l=>by
  subst h1;cases r;obtain⟨its,rv,p,_⟩:=I.tuple (hK▸qp gh h2);obtain⟨as,q⟩:=aG.reads hK I gh xs h3 rv l;obtain⟨o,ho,hc,n,hd⟩:=p;unfold toPy;exact⟨_,.tuple ho hc hd (by simpa using q)⟩
 |.lst _ xs,v,u,⟨a,vs,h1,h2,_,h3⟩,r,l=>by
  subst h1;cases r;obtain⟨_,its,n,rv,ho⟩:=I.hok a _ (gh _ _ h2);obtain⟨as,q⟩:=aG.reads hK I gh xs h3 rv l;unfold toPy;exact⟨_,.list ho rfl rfl (by simpa using q)⟩
theorem aG.reads(hK:c.K=X.K)(I:Inv X aa Z H s)(gh:Same G H):∀(ds:List D){vs:List V}{us:List Value},aG c G ds vs->Vals vs us->m9 ds=true->∃as,ReadsAll s.heap us (lV ds) as
 |[],vs,us,h,r,_=>by have:vs=[]:=h;subst this;cases r;exact⟨_,.nil⟩
 |x::xs,vs,us,⟨v,ws,h1,h2,h3⟩,r,l=>by
  subst h1;cases r with
  |cons r1 r2=>
   unfold m9 at l;have l':=(YAB _ _▸l:dR x=true/\m9 xs=true);obtain⟨as,q1⟩:=Rep.reads hK I gh x h2 r1 l'.1;obtain⟨bs,q2⟩:=aG.reads hK I gh xs h3 r2 l'.2;exact⟨_,.cons q1 q2⟩
end
def eqB(x y:D):Bool:=PyData.eqv (toPy x) (toPy y)
def qD(x y:D):Prop:=dR x=true/\dR y=true/\min (toPy x).depth (toPy y).depth<=50
abbrev cD:F2:=λx y Q=>qD x y/\Q (.bl (eqB x y))
abbrev lW:F2:=λx y Q=>qD x y/\Q (.bl (!eqB x y))
def yh(c:Bk)(neg:Bool):R2:=λu v H Q=>∃G x y,Same G H/\Rep c G x u/\Rep c G y v/\qD x y/\Q (.bl (if neg then !eqB x y else eqB x y)) H
def zq5(hK:c.K=X.K)(hu:X.A.units+64<cLine):fL X (compareOp .Eq) (yh c false):=by
 intro aa s Z H u v a b Q I ra rb ⟨G,x,y,gh,hx,hy,⟨lx,ly,ld⟩,q⟩;obtain⟨as,qa⟩:=hx.reads hK I gh x ra lx;obtain⟨bs,qb⟩:=hy.reads hK I gh y rb ly;exact SeqAt.compareEq_reads qa qb (wy x lx) (wy y ly) (by omega) ⟨.bl _,H,I,rfl,q⟩
def zqV(hK:c.K=X.K)(hu:X.A.units+64<cLine):fL X (compareOp .NotEq) (yh c true):=by
 intro aa s Z H u v a b Q I ra rb ⟨G,x,y,gh,hx,hy,⟨lx,ly,ld⟩,q⟩;obtain⟨as,qa⟩:=hx.reads hK I gh x ra lx;obtain⟨bs,qb⟩:=hy.reads hK I gh y rb ly;exact SeqAt.compareNe_reads qa qb (wy x lx) (wy y ly) (by omega) ⟨.bl _,H,I,rfl,q⟩
def FJ:lg cD:=λx y Q Q' k q=>⟨q.1,k _ q.2⟩
def JS:lg lW:=λx y Q Q' k q=>⟨q.1,k _ q.2⟩
def zuW:m8 c cD (yh c false):=λH G x y u v Q gh bx h0 rx ry q=>⟨G,x,y,gh,rx,ry,q.1,q.2 _ H G (aX.refl gh bx) rfl⟩
def ztD:m8 c lW (yh c true):=λH G x y u v Q gh bx h0 rx ry q=>⟨G,x,y,gh,rx,ry,q.1,q.2 _ H G (aX.refl gh bx) rfl⟩
def pZ(x:D)(ys:List D):Prop:=dR x=true/\m9 ys=true/\min (PyData.depthAll (lV ys)) (toPy x).depth<=50
def inB(x:D)(ys:List D):Bool:=(lV ys).any λy=>PyData.eqv y (toPy x)
def inD(neg:Bool):F2
 |x,.lst _ ys,Q=>pZ x ys/\Q (.bl (if neg then !inB x ys else inB x ys))
 |x,.tup ys,Q=>pZ x ys/\Q (.bl (if neg then !inB x ys else inB x ys))
 |_,_,_=>False
def wK(c:Bk)(neg:Bool):R2:=λu v H Q=>∃G x y,Same G H/\Rep c G x u/\Rep c G y v/\inD neg x y λd=>∃b,d=.bl b/\Q (.bl b) H
def zuM(hK:c.K=X.K)(hu:X.A.units+64<cLine):fL X (compareOp .In) (wK c false):=by
 intro aa s Z H u v a b Q I ra rb ⟨G,x,y,gh,hx,hy,q⟩;cases y with
 |lst n ys=>
  obtain⟨⟨lx,ly,ld⟩,_,e,q⟩:=q;cases e;obtain⟨as,qa⟩:=hx.reads hK I gh x ra lx;obtain⟨bs,qb⟩:=hy.reads hK I gh (.lst n ys) rb (by unfold dR;exact ly);unfold toPy at qb;exact SeqAt.in_list_reads qb qa (zu ys ly) (wy x lx) (by omega) ⟨.bl _,H,I,rfl,q⟩
 |tup ys=>
  obtain⟨⟨lx,ly,ld⟩,_,e,q⟩:=q;cases e;obtain⟨as,qa⟩:=hx.reads hK I gh x ra lx;obtain⟨bs,qb⟩:=hy.reads hK I gh (.tup ys) rb (by unfold dR;exact ly);unfold toPy at qb;exact SeqAt.in_tuple_reads qb qa (zu ys ly) (wy x lx) (by omega) ⟨.bl _,H,I,rfl,q⟩
 |_=>exact q.elim
def znL(hK:c.K=X.K)(hu:X.A.units+64<cLine):fL X (compareOp .NotIn) (wK c true):=by
 intro aa s Z H u v a b Q I ra rb ⟨G,x,y,gh,hx,hy,q⟩;cases y with
 |lst n ys=>
  obtain⟨⟨lx,ly,ld⟩,_,e,q⟩:=q;cases e;obtain⟨as,qa⟩:=hx.reads hK I gh x ra lx;obtain⟨bs,qb⟩:=hy.reads hK I gh (.lst n ys) rb (by unfold dR;exact ly);unfold toPy at qb;exact SeqAt.notIn_list_reads qb qa (zu ys ly) (wy x lx) (by omega) ⟨.bl _,H,I,rfl,q⟩
 |tup ys=>
  obtain⟨⟨lx,ly,ld⟩,_,e,q⟩:=q;cases e;obtain⟨as,qa⟩:=hx.reads hK I gh x ra lx;obtain⟨bs,qb⟩:=hy.reads hK I gh (.tup ys) rb (by unfold dR;exact ly);unfold toPy at qb;exact SeqAt.notIn_tuple_reads qb qa (zu ys ly) (wy x lx) (by omega) ⟨.bl _,H,I,rfl,q⟩
 |_=>exact q.elim
def m_in(neg:Bool):lg (inD neg):=λx y Q Q' k q=>by
 cases y<;>first|exact⟨q.1,k _ q.2⟩|exact q
def zvS(neg:Bool):m8 c (inD neg) (wK c neg):=λH G x y u v Q gh bx h0 rx ry q=>⟨G,x,y,gh,rx,ry,by
 cases y with
 |lst n ys=>exact⟨q.1,_,rfl,q.2 _ H G (aX.refl gh bx) rfl⟩
 |tup ys=>exact⟨q.1,_,rfl,q.2 _ H G (aX.refl gh bx) rfl⟩
 |_=>exact q.elim⟩
section
variable{c:Bk}{a b:Expr}{A B:WE}{pos:Pos}
def j0(hA:DE X c a A)(hB:DE X c b B)(hK:c.K=X.K:=by rfl)(hu:X.A.units+64<cLine:=by decreasing_trivial):DE X c (.Compare a [.Eq] [b] pos) (ak cD A B):=zsI FJ (zq5 hK hu) zuW hA hB (wD _)
def d_ne(hA:DE X c a A)(hB:DE X c b B)(hK:c.K=X.K:=by rfl)(hu:X.A.units+64<cLine:=by decreasing_trivial):DE X c (.Compare a [.NotEq] [b] pos) (ak lW A B):=zsI JS (zqV hK hu) ztD hA hB (wD _)
def du(hA:DE X c a A)(hB:DE X c b B)(hK:c.K=X.K:=by rfl)(hu:X.A.units+64<cLine:=by decreasing_trivial):DT X c (.Compare a [.Eq] [b] pos) (bA (ak cD A B)):=BP FJ (zq5 hK hu) zuW hA hB (wD _)
def tH(hA:DE X c a A)(hB:DE X c b B)(hK:c.K=X.K:=by rfl)(hu:X.A.units+64<cLine:=by decreasing_trivial):DT X c (.Compare a [.NotEq] [b] pos) (bA (ak lW A B)):=BP JS (zqV hK hu) ztD hA hB (wD _)
def FT:D->Option Bool
 |.non=>some false
 |.bl b=>some b
 |.int i=>some (i != 0)
 |.lst _ xs=>some (!xs.isEmpty)
 |.tup xs=>some (!xs.isEmpty)
 |_=>none
def mW(d:D)(Q:Bool->Prop):Prop:=match FT d with|some b=>Q b|none=>False
abbrev gJ(A:WE):WT:=λS Q=>A S λd=>mW d Q
def zkr(gh:Same G H)(h:Rep c G d v)(e:FT d=some k):wG c.K v H k:=by
 cases d with
 |non=>cases h;cases e;rfl
 |bl b=>cases h;cases e;rfl
 |int i=>cases h;cases e;rfl
 |lst n xs=>
  obtain⟨a,vs,rfl,h1,_,h2⟩:=h;cases e;refine .inl ⟨vs,.inl (.inl (gh _ _ h1)),?_⟩
  have:=h2.length
  cases xs<;>cases vs<;>first|rfl|simp at this
 |tup xs=>
  obtain⟨a,vs,rfl,h1,h2⟩:=h;cases e;refine .inr (.inl ⟨vs,qp gh h1,?_⟩)
  have:=h2.length
  cases xs<;>cases vs<;>first|rfl|simp at this
 |str x=>cases e
 |box=>cases e
 |obj a=>cases e
 |dct n ks xs=>cases e
 |fdc ks xs=>cases e
def zgZ(d:D)(k:∀b,Q b->Q' b)(q:mW d Q):mW d Q':=by
 unfold mW at q ⊢;split at q
 .exact k _ q
 .exact q.elim
def uc(hA:DE X c a A)(he:∀whole,isTrue a X.env whole=(do let v <-whole;standAt a.pos;holding [v] (truthy v)):=by intro _;rfl)(hK:c.K=X.K:=by rfl):DT X c a (gJ A)where
 mono:=λS Q Q' k q=>hA.mono S _ _ (λd z=>zgZ d k z) q
 pt:=yR (zl2 hA.pe he) λZ H Q ⟨S,G,r,q⟩=>⟨S,G,r,hA.mono S _ _ (λd z v H' G' t e=>by
  unfold mW at z;split at z
  .rename_i k hk
   exact⟨k,hK▸zkr t.gh e hk,z H' G' t⟩
  .exact z.elim) q⟩
abbrev jH(A:WT):WT:=λS Q=>A S λb=>Q (!b)
def yS{A:WT}(hA:DT X c a A):DT X c (.UnaryOp .Not a pos) (jH A)where
 mono:=λS Q Q' k q=>hA.mono S _ _ (λd z=>k _ z) q
 pt:=yR (zq9 hA.pt) λZ H Q ⟨S,G,r,q⟩=>⟨S,G,r,q⟩
abbrev Bv(A B:WT):WT:=λS Q=>A S λb=>if b=true then B S Q else Q false
abbrev rB(A B:WT):WT:=λS Q=>A S λb=>if b=true then Q true else B S Q
structure DW(X:Cx)(c:Bk)(e:Expr)(W:WT):Prop where
 mono:wF W
 pw:PW X e (Dw c W)
def DW.dt(h:DW X c a W):DT X c a W:=⟨h.mono,h.pw.pt⟩
def zqL(h:PW X e t)(k:∀ Z H Q,t' Z H Q->t Z H Q):PW X e t':=λwh aa s Z H Q I q=>h wh aa s Z H Q I (k Z H Q q)
def ztX{A:WT}(hA:DT X c a A):DW X c (.BoolOp .And [a] pos) A:=⟨hA.mono,zso hA.pt⟩
def wQ{A:WT}(hA:DT X c a A):DW X c (.BoolOp .Or [a] pos) A:=⟨hA.mono,zuZ hA.pt⟩
def zwg{A B:WT}{rest:List Expr}(hA:DT X c a A)(hB:DW X c (.BoolOp .And (b::rest) pos) B):DW X c (.BoolOp .And (a::b::rest) pos) (Bv A B)where
 mono:=λS Q Q' k q=>hA.mono S _ _ (λd z=>by
  cases d
  .exact k _ z
  .exact hB.mono S _ _ k z) q
 pw:=zqL (ztM hA.pt hB.pw) λZ H Q ⟨S,G,r,q⟩=>⟨S,G,r,hA.mono S _ _ (λd z H' G' t=>by
  cases d
  .exact z H' G' t
  .exact⟨S,G',r.step t,hB.mono S _ _ (λb' z' H2 G2 t2=>z' H2 G2 (t.trans t2)) z⟩) q⟩
def w_or{A B:WT}{rest:List Expr}(hA:DT X c a A)(hB:DW X c (.BoolOp .Or (b::rest) pos) B):DW X c (.BoolOp .Or (a::b::rest) pos) (rB A B)where
 mono:=λS Q Q' k q=>hA.mono S _ _ (λd z=>by
  cases d
  .exact hB.mono S _ _ k z
  .exact k _ z) q
 pw:=zqL (zvQ hA.pt hB.pw) λZ H Q ⟨S,G,r,q⟩=>⟨S,G,r,hA.mono S _ _ (λd z H' G' t=>by
  cases d
  .exact⟨S,G',r.step t,hB.mono S _ _ (λb' z' H2 G2 t2=>z' H2 G2 (t.trans t2)) z⟩
  .exact z H' G' t) q⟩
def yL(d:D)(Q:Bool->Prop):Prop:=match d with|.bl b=>Q b|_=>False
def zie(d:D)(k:∀b,Q b->Q' b)(q:yL d Q):yL d Q':=by
 cases d<;>first|exact k _ q|exact q
abbrev pC(A B:WE):WE:=λS Q=>A S λx=>yL x λk=>if k=true then B S Q else Q (.bl false)
abbrev xg(A:WE):WE:=λS Q=>A S λx=>yL x λk=>Q (.bl (!k))
def Bb(hA:DE X c a A):DE X c (.BoolOp op [a] pos) A:=⟨hA.mono,zuq hA.pe⟩
def Dk{rest:List Expr}(hA:DE X c a A)(hB:DE X c (.BoolOp .And (b::rest) pos) B):DE X c (.BoolOp .And (a::b::rest) pos) (pC A B)where
 mono:=λS Q Q' k q=>hA.mono S _ _ (λd z=>zie d (λb z=>by
  cases b
  .exact k _ z
  .exact hB.mono S _ _ k z) z) q
 pe:=dM (zto hA.pe hB.pe) λZ H Q ⟨S,G,r,q⟩=>⟨S,G,r,hA.mono S _ _ (λd z v H' G' t e=>by
  cases d with
  |bl k=>
   refine⟨k,e,?_⟩;cases k
   .exact z _ H' G' t rfl
   .exact⟨S,G',r.step t,hB.mono S _ _ (λb' z' v2 H2 G2 t2=>z' v2 H2 G2 (t.trans t2)) z⟩
  |_=>exact z.elim) q⟩
def ztQ(hA:DE X c a A):DE X c (.UnaryOp .Not a pos) (xg A)where
 mono:=λS Q Q' k q=>hA.mono S _ _ (λd z=>zie d (λb z=>k _ z) z) q
 pe:=dM (ztE hA.pe) λZ H Q ⟨S,G,r,q⟩=>⟨S,G,r,hA.mono S _ _ (λd z v H' G' t e=>by
  cases d with
  |bl k=>exact⟨k,e,z _ H' G' t rfl⟩
  |_=>exact z.elim) q⟩
abbrev ifW(C:WT)(A B:WE):WE:=λS Q=>C S λk=>if k=true then A S Q else B S Q
def d_if(hC:DT X c ce C)(hA:DE X c a A)(hB:DE X c b B):DE X c (.IfExp ce a b pos) (ifW C A B)where
 mono:=λS Q Q' k q=>hC.mono S _ _ (λd z=>by
  cases d
  .exact hB.mono S _ _ k z
  .exact hA.mono S _ _ k z) q
 pe:=dM (zpV hC.pt hA.pe hB.pe) λZ H Q ⟨S,G,r,q⟩=>⟨S,G,r,hC.mono S _ _ (λd z H' G' t=>by
  cases d
  .exact⟨S,G',r.step t,hB.mono S _ _ (λb' z' v2 H2 G2 t2=>z' v2 H2 G2 (t.trans t2)) z⟩
  .exact⟨S,G',r.step t,hA.mono S _ _ (λb' z' v2 H2 G2 t2=>z' v2 H2 G2 (t.trans t2)) z⟩) q⟩
abbrev uV(f g:F2)(A B C:WE):WE:=λS Q=>A S λx=>B S λy=>f x y λz=>yL z λk=>if k=true then C S λw=>g y w Q else Q (.bl false)
end
end
section
variable{X:Cx}{c:Bk}{a b e:Expr}{A B:WE}{pos p:Pos}{es:List Expr}
abbrev ao:WL:=λ_ Q=>Q []
abbrev aq(A:WE)(R:WL):WL:=λS Q=>A S λd=>R S λds=>Q (d::ds)
def aK:DA X c [] ao:=⟨λ_ _ _ k q=>k _ q,zq4 km λZ H Q ⟨S,G,r,q⟩=>q [] H G r.refl rfl⟩
def aB(hA:DE X c e A)(hR:DA X c es R)(hs:starEach (e::es) X.env=(false,eval e X.env)::starEach es X.env:=by rfl):DA X c (e::es) (aq A R)where
 mono:=λS Q Q' k q=>hA.mono S _ _ (λd z=>hR.mono S _ _ (λds y=>k _ y) z) q
 pa:=zq4 (iM hA.pe hR.pa hs) λZ H Q ⟨S,G,r,q⟩=>⟨S,G,r,hA.mono S _ _ (λd z v H1 G1 t1 e1=>⟨S,G1,r.step t1,hR.mono S _ _ (λds y vs H2 G2 t2 e2=>
  y (v::vs) H2 G2 (t1.trans t2) ⟨v,vs,rfl,e1.mono t2.gg,e2⟩) z⟩) q⟩
abbrev bK(R:WL):WE:=λS Q=>R S λds=>ds.length<=100000/\Q (.tup ds)
def jc(hR:DA X c es R):DE X c (.Tuple es x1 pos) (bK R)where
 mono:=λS Q Q' k q=>hR.mono S _ _ (λds z=>⟨z.1,k _ z.2⟩) q
 pe:=dM (ztK hR.pa) λZ H Q ⟨S,G,r,q⟩=>⟨S,G,r,hR.mono S _ _ (λds z vs H' G' t e=>⟨by rw[<-e.length];exact fM z.1,λp hp=>
  z.2 (.ref p) _ _ (t.trans (aX.new t.gh t.bx hp)) ⟨p,vs,rfl,fX.of cH,e.mono (pB (lQ t.gh hp))⟩⟩) q⟩
abbrev bh(R:WL):WL:=λS Q=>R S λds=>ds.length<=100000/\Q ds
def gf(hR:DA X c es R):DF X c (.List es pos) (bh R)where
 mono:=λS Q Q' k q=>hR.mono S _ _ (λds z=>⟨z.1,k _ z.2⟩) q
 pe:=dM (zrt hR.pa) λZ H Q ⟨S,G,r,q⟩=>⟨S,G,r,hR.mono S _ _ (λds z vs H' G' t e=>⟨by rw[<-e.length];exact fM z.1,λp hp=>
  z.2 p vs _ _ (t.trans (aX.own t.gh t.bx hp)) cH (lQ t.gh hp) (t.free hp) e⟩) q⟩
def zkV(h:aG c G ds vs)(e:gR ds i=some d):∃v,gR vs i=some v/\Rep c G d v:=by
 unfold gR at e ⊢;rw[h.length]at e;cases z:rW vs.length i with
 |none=>rw[z]at e;cases e
 |some j=>rw[z]at e;exact h.get e
def EY(xs:List D)(y:D)(Q:D->Prop):Prop:=match y with|.int i=>(match gR xs i with|some d=>Q d|none=>False)|_=>False
def ixD:F2
 |.lst _ xs,y,Q=>EY xs y Q
 |.tup xs,y,Q=>EY xs y Q
 |_,_,_=>False
def zlu(k:∀d,Q d->Q' d)(q:EY xs y Q):EY xs y Q':=by
 cases y with
 |int i=>
  unfold EY at q ⊢;simp only at q ⊢;split at q
  .exact k _ q
  .exact q.elim
 |_=>exact q
def m_ix:lg ixD:=λx y Q Q' k q=>by
 cases x<;>first|exact zlu k q|exact q
def zvu:m8 c ixD (rIx c.K):=by
 intro H G x y u v Q gh bx h0 rx ry q;cases x with
 |lst n xs=>
  obtain⟨a,vs,rfl,ha,_,rv⟩:=rx;cases y with
  |int i=>
   cases ry;have q:(match gR xs i with|some d=>_|none=>False):=q;split at q
   .rename_i d e
    obtain⟨w,e',rw'⟩:=zkV rv e;exact .inl ⟨a,vs,i,w,rfl,rfl,cA.of (gh _ _ ha),e',q w H G (aX.refl gh bx) rw'⟩
   .exact q.elim
  |_=>exact q.elim
 |tup xs=>
  obtain⟨a,vs,rfl,ha,rv⟩:=rx;cases y with
  |int i=>
   cases ry;have q:(match gR xs i with|some d=>_|none=>False):=q;split at q
   .rename_i d e
    obtain⟨w,e',rw'⟩:=zkV rv e;exact .inr (.inl ⟨a,vs,i,w,rfl,rfl,qp gh ha,e',q w H G (aX.refl gh bx) rw'⟩)
   .exact q.elim
  |_=>exact q.elim
 |_=>exact q.elim
def cutD{α:Type}(xs:List α)(lo hi:Option Int):List α:=(xs.drop (HT.bY xs.length 0 lo)).take (HT.bY xs.length xs.length hi-HT.bY xs.length 0 lo)
def aG.cut(h:aG c G ds vs)(lo hi:Option Int):aG c G (cutD ds lo hi) (jO vs lo hi):=by
 unfold cutD jO;rw[h.length];exact(h.drop _).take _
abbrev WO:=Env->(Option Int->Prop)->Prop
structure DO(X:Cx)(c:Bk)(e:Option Expr)(W:WO):Prop where
 mono:∀ S Q Q',(∀d,Q d->Q' d)->W S Q->W S Q'
 po:PO X e λZ H Q=>∃ S G,Rel c S Z H G/\W S λo=>∀H' G',aX c.β H G H' G'->Q o H'
abbrev my:WO:=λ_ Q=>Q none
def mD(A:WE):WO:=λS Q=>A S λd=>match d with|.int i=>Q (some i)|_=>False
def wj:DO X c none my:=⟨λ_ _ _ k q=>k _ q,λaa s Z H Q I ⟨S,G,r,q⟩=>zoZ aa s Z H Q I (q H G r.refl)⟩
def vR(hA:DE X c a A):DO X c (some a) (mD A)where
 mono:=λS Q Q' k q=>hA.mono S _ _ (λd z=>by cases d<;>first|exact k _ z|exact z) q
 po:=λaa s Z H Q I ⟨S,G,r,q⟩=>zo0 hA.pe aa s Z H Q I ⟨S,G,r,hA.mono S _ _ (λd z v H' G' t e=>by
  cases d with
  |int i=>exact⟨i,e,z H' G' t⟩
  |_=>exact z.elim) q⟩
def slD(x:D)(lo hi:Option Int)(Q:D->Prop):Prop:=match x with
 |.lst _ xs=>Q (.lst true (cutD xs lo hi))
 |.tup xs=>Q (.tup (cutD xs lo hi))
 |_=>False
def zfG(fm:lg f)(gm:lg g)(mA:jm A)(mB:jm B)(mC:jm C):jm (uV f g A B C):=λS Q Q' k q=>mA S _ _ (λx q1=>mB S _ _ (λy q2=>fm x y _ _ (λz q3=>zie z (λb q4=>by
 cases b
 .exact k _ q4
 .exact mC S _ _ (λw q5=>gm y w _ _ k q5) q4) q3) q2) q1) q
def zhD(fm:lg f)(gm:lg g)(mA:jm A)(mB:jm B)(mC:jm C)(hr:m8 c f r)(hr':m8 c g r')(Z:St)(H:Hp)(Q:VK)(h:tD c (uV f g A B C) Z H Q):zo9 r r' (tD c A) (tD c B) (tD c C) Z H Q:=by
 obtain⟨S,G,R,q⟩:=h;refine⟨S,G,R,mA S _ _ (λx q1 u H1 G1 t1 e1=>⟨S,G1,R.step t1,mB S _ _ (λy q2 v H2 G2 t2 e2=>?_) q1⟩) q⟩;refine hr H2 G2 x y u v _ t2.gh t2.bx (λa z=>R.new0 (t1.free (t2.free z))) (e1.mono t2.gg) e2 (fm x y _ _ (λz q3 w H3 G3 t3 e3=>?_) q2);cases z with
 |bl k=>
  refine⟨k,e3,?_⟩;cases k
  .exact q3 _ H3 G3 ((t1.trans t2).trans t3) rfl
  .refine⟨S,G3,((R.step t1).step t2).step t3,mC S _ _ (λw' q5 v' H4 G4 t4 e4=>?_) q3⟩;exact hr' H4 G4 y w' v v' Q t4.gh t4.bx (λa z=>R.new0 (t1.free (t2.free (t3.free (t4.free z))))) ((e2.mono t3.gg).mono t4.gg) e4 (gm y w' _ _ (λd z w2 H5 G5 t5 e5=>z w2 H5 G5 ((((t1.trans t2).trans t3).trans t4).trans t5) e5) q5)
 |_=>exact q3.elim
end
section
variable{X:Cx}{c:Bk}{a b e:Expr}{A B:WE}{pos p p':Pos}{es:List Expr}
abbrev FL:=List D->(D->Prop)->Prop
def uv(f:FL):Prop:=∀ds Q Q',(∀d,Q d->Q' d)->f ds Q->f ds Q'
abbrev cbW(f:FL)(R:WL):WE:=λS Q=>R S λds=>f ds Q
def vf(c:Bk)(f:FL)(r:List V->Hp->VK->Prop):Prop:=∀(H G:Hp)(ds:List D)(vs:List V)(Q:VK),Same G H->d7 c.β H G->(∀a,H a=none->c.H0 a=none)->aG c G ds vs ->
 f ds (λd=>∀v H' G',aX c.β H G H' G'->Rep c G' d v->Q v H')->r vs H Q
def zo5(fm:uv f)(mR:rN R)(hr:vf c f r)(Z:St)(H:Hp)(Q:VK)(h:tD c (cbW f R) Z H Q):tCB r (tDs c R) Z H Q:=by
 obtain⟨S,G,r',q⟩:=h;exact⟨S,G,r',mR S _ _ (λds z vs H' G' t e=>hr H' G' ds vs Q t.gh t.bx (λa z=>r'.new0 (t.free z)) e (fm ds _ _ (λd y v H2 G2 t2 e2=>y v H2 G2 (t.trans t2) e2) z)) q⟩
def zhX{f:FL}{R:WL}{r:List V->Hp->VK->Prop}{id:String}{x:Str}(fm:uv f)(hc:cU X (.builtin id) r)(hr:vf c f r)(hm:X.mg x=none)(hv:bootBuiltins x=some (.builtin id))(hR:DA X c (e::es) R)(hg:Gl X x:=by rfl)(hn:x≠"__name__":=by decide)(hdb:(x==("__debug__":Str))=false:=by decide)
  (he:starEach (e::es) X.env=(false,eval e X.env)::starEach es X.env:=by rfl) (hpl:(backTo pos (starEach es X.env)).any (·.1)=false:=by rfl):DE X c (.Call (.Name x p) (e::es) [] pos) (cbW f R):=
 ⟨λS Q Q' k q=>hR.mono S _ _ (λds z=>fm ds _ _ k z) q,dM (JN hc hg hm hv hR.pa hn hdb he hpl) (zo5 fm hR.mono hr)⟩
def zlp(fm:uv f)(hc:cU X (.type T) r)(hr:vf c f r)(hm:X.mg x=none)(hv:bootBuiltins x=some (.type T))(hR:DA X c (e::es) R)(hg:Gl X x:=by rfl)(hn:x≠"__name__":=by decide)(hdb:(x==("__debug__":Str))=false:=by decide)
  (he:starEach (e::es) X.env=(false,eval e X.env)::starEach es X.env:=by rfl) (hpl:(backTo pos (starEach es X.env)).any (·.1)=false:=by rfl):DE X c (.Call (.Name x p) (e::es) [] pos) (cbW f R):=
 ⟨λS Q Q' k q=>hR.mono S _ _ (λds z=>fm ds _ _ k z) q,dM (yH hc hg hm hv hR.pa hn hdb he hpl) (zo5 fm hR.mono hr)⟩
def vI(h:aG c G [d] vs):∃v,vs=[v]/\Rep c G d v:=by
 obtain⟨v,ws,rfl,h1,h2⟩:=h;cases h2;exact⟨v,rfl,h1⟩
def zvx(h:aG c G [d,f] vs):∃v w,vs=[v,w]/\Rep c G d v/\Rep c G f w:=by
 obtain⟨v,ws,rfl,h1,w,ws',rfl,h2,h3⟩:=h;cases h3;exact⟨v,w,rfl,h1,h2⟩
def vM:FL
 |[.lst _ xs],Q=>Q (.int xs.length)
 |[.tup xs],Q=>Q (.int xs.length)
 |_,_=>False
def zvN:uv vM:=λds Q Q' k q=>by
 unfold vM at q ⊢;split at q<;>first|exact k _ q|exact q.elim
def zvs:vf c vM (λxs H Q=>∃p ys,xs=[.ref p]/\(cA c.K H p ys\/fX c.K H p ys)/\Q (.int ys.length) H):=by
 intro H G ds vs Q gh bx h0 rv q;unfold vM at q;split at q
 .obtain⟨v,rfl,a,ws,rfl,ha,_,hw⟩:=vI rv;exact⟨a,ws,rfl,.inl (cA.of (gh _ _ ha)),by rw[<-hw.length];exact q _ H G (aX.refl gh bx) rfl⟩
 .obtain⟨v,rfl,a,ws,rfl,ha,hw⟩:=vI rv;exact⟨a,ws,rfl,.inr (qp gh ha),by rw[<-hw.length];exact q _ H G (aX.refl gh bx) rfl⟩
 .exact q.elim
def qx(d:D)(Q:List D->Prop):Prop:=match d with|.lst _ xs=>Q xs|.tup xs=>Q xs|_=>False
def zgU(k:∀xs,Q xs->Q' xs)(q:qx d Q):qx d Q':=by
 cases d<;>first|exact k _ q|exact q
abbrev CJ(A:WE):WL:=λS Q=>A S λd=>qx d Q
def zlh(hA:DE X c e A)(hg:Gl X "list":=by rfl)(he:starEach [e] X.env=(false,eval e X.env)::starEach [] X.env:=by rfl)(hK:c.K=X.K:=by rfl)(hm:X.mg "list"=none:=by decreasing_trivial):DF X c (.Call (.Name "list" p) [e] [] pos) (CJ A)where
 mono:=λS Q Q' k q=>hA.mono S _ _ (λd z=>zgU k z) q
 pe:=dM (yH zea hg hm Gz (iM hA.pe km he) (by decide) (by decide) he rfl) λZ H Q ⟨S,G,r,q⟩=>⟨S,G,r,hA.mono S _ _ (λd z v H' G' t e=>by
  cases d with
  |lst n xs=>
   obtain⟨a,vs,rfl,ha,_,rv⟩:=e;exact⟨a,vs,rfl,.inl (cA.of (t.gh _ _ ha)),λl hl=>z l vs _ _ (t.trans (aX.own t.gh t.bx hl)) cH (lQ t.gh hl) (t.free hl) rv⟩
  |tup xs=>
   obtain⟨a,vs,rfl,ha,rv⟩:=e;exact⟨a,vs,rfl,.inr (hK▸qp t.gh ha),λl hl=>z l vs _ _ (t.trans (aX.own t.gh t.bx hl)) cH (lQ t.gh hl) (t.free hl) rv⟩
  |_=>exact z.elim) q⟩
def HY(A B:WE):WL:=λS Q=>A S λx=>B S λy=>match x,y with|.lst _ xs,.lst _ ys=>xs.length+ys.length<=100000/\Q (xs++ys)|_,_=>False
def zv7(hA:DE X c a A)(hB:DE X c b B):DF X c (.BinOp a .Add b pos) (HY A B)where
 mono:=λS Q Q' k q=>hA.mono S _ _ (λx z=>hB.mono S _ _ (λy w=>by cases x<;>cases y<;>first|exact⟨w.1,k _ w.2⟩|exact w) z) q
 pe:=dM (pD u9 hA.pe hB.pe) λZ H Q ⟨S,G,r,q⟩=>⟨S,G,r,hA.mono S _ _ (λx z u H1 G1 t1 e1=>⟨S,G1,r.step t1,hB.mono S _ _ (λy w v H2 G2 t2 e2=>by
  cases x with
  |lst n xs=>cases y with
   |lst m ys=>
    obtain⟨l,vs,rfl,ha,_,rv⟩:=e1.mono t2.gg;obtain⟨l2,ws,rfl,hb,_,rw'⟩:=e2;refine⟨l,l2,vs,ws,rfl,rfl,t2.gh _ _ ha,t2.gh _ _ hb,?_,λp hp=>?_⟩
    .rw[<-rv.length,<-rw'.length];exact fM w.1
    .exact w.2 p _ _ _ ((t1.trans t2).trans (aX.own t2.gh t2.bx hp)) cH (lQ t2.gh hp) ((t1.trans t2).free hp) (rv.append rw')
   |_=>exact w.elim
  |_=>exact w.elim) z⟩) q⟩
def zm:FL
 |[.lst _ xs],Q=>Q (.tup xs)
 |[.tup xs],Q=>Q (.tup xs)
 |_,_=>False
def zr0:uv zm:=λds Q Q' k q=>by
 unfold zm at q ⊢;split at q<;>first|exact k _ q|exact q.elim
def zpO:vf c zm (λxs H Q=>∃p ys,xs=[.ref p]/\((cA c.K H p ys/\∀l,H l=none->Q (.ref l) (upd H l (.tup ys)))\/(fX c.K H p ys/\Q (.ref p) H))):=by
 intro H G ds vs Q gh bx h0 rv q;unfold zm at q;split at q
 .obtain⟨v,rfl,a,ws,rfl,ha,_,hw⟩:=vI rv;exact⟨a,ws,rfl,.inl ⟨cA.of (gh _ _ ha),λl hl=>q (.ref l) _ _ (aX.new gh bx hl) ⟨l,ws,rfl,fX.of cH,hw.mono (pB (lQ gh hl))⟩⟩⟩
 .obtain⟨v,rfl,a,ws,rfl,ha,hw⟩:=vI rv;exact⟨a,ws,rfl,.inr ⟨qp gh ha,q (.ref a) H G (aX.refl gh bx) ⟨a,ws,rfl,ha,hw⟩⟩⟩
 .exact q.elim
def znn(hR:DA X c [e] R)(hg:Gl X "tuple":=by rfl)(he:starEach [e] X.env=(false,eval e X.env)::starEach [] X.env:=by rfl)(hK:c.K=X.K:=by rfl)(hm:X.mg "tuple"=none:=by decreasing_trivial):DE X c (.Call (.Name "tuple" p) [e] [] pos) (cbW zm R):=
 zlp zr0 zhV (hK▸zpO) hm PyProof.Rows.boot_tuple hR hg (by decide) (by decide) he rfl
def uF:FL
 |[.int i],Q=>Q (.int i)
 |[.bl k],Q=>Q (.int (if k then 1 else 0))
 |_,_=>False
def zvy:uv uF:=λds Q Q' k q=>by
 unfold uF at q ⊢;split at q<;>first|exact k _ q|exact q.elim
def ztW:vf c uF (λxs H Q=>(∃i,xs=[.int i]/\Q (.int i) H)\/∃k,xs=[.bl k]/\Q (.int (if k then 1 else 0)) H):=by
 intro H G ds vs Q gh bx h0 rv q;unfold uF at q;split at q
 .obtain⟨v,rfl,h⟩:=vI rv;cases h;exact .inl ⟨_,rfl,q _ H G (aX.refl gh bx) rfl⟩
 .obtain⟨v,rfl,h⟩:=vI rv;cases h;exact .inr ⟨_,rfl,q _ H G (aX.refl gh bx) rfl⟩
 .exact q.elim
def mZ:FL
 |[.lst _ xs],Q=>∃bs:List Bool,xs=bs.map D.bl/\Q (.bl (bs.all id))
 |_,_=>False
def anyF:FL
 |[.lst _ xs],Q=>∃bs:List Bool,xs=bs.map D.bl/\Q (.bl (bs.any id))
 |_,_=>False
def zv4:uv mZ:=λds Q Q' k q=>by
 unfold mZ at q ⊢;split at q
 .obtain⟨bs,e,q⟩:=q;exact⟨bs,e,k _ q⟩
 .exact q.elim
def zwA:uv anyF:=λds Q Q' k q=>by
 unfold anyF at q ⊢;split at q
 .obtain⟨bs,e,q⟩:=q;exact⟨bs,e,k _ q⟩
 .exact q.elim
def ztl:vf c mZ (λvs H Q=>∃(p:Addr)(bs:List Bool),vs=[.ref p]/\cA c.K H p (bs.map V.bl)/\Q (.bl (bs.all id)) H):=by
 intro H G ds vs Q gh bx h0 rv q;unfold mZ at q;split at q
 .obtain⟨bs,rfl,q⟩:=q;obtain⟨v,rfl,a,ws,rfl,ha,_,hw⟩:=vI rv;rw[gB.mp hw]at ha;exact⟨a,bs,rfl,cA.of (gh _ _ ha),q _ H G (aX.refl gh bx) rfl⟩
 .exact q.elim
def zuF:vf c anyF (λvs H Q=>∃(p:Addr)(bs:List Bool),vs=[.ref p]/\cA c.K H p (bs.map V.bl)/\Q (.bl (bs.any id)) H):=by
 intro H G ds vs Q gh bx h0 rv q;unfold anyF at q;split at q
 .obtain⟨bs,rfl,q⟩:=q;obtain⟨v,rfl,a,ws,rfl,ha,_,hw⟩:=vI rv;rw[gB.mp hw]at ha;exact⟨a,bs,rfl,cA.of (gh _ _ ha),q _ H G (aX.refl gh bx) rfl⟩
 .exact q.elim
def zsz(hR:DA X c [e] R)(hg:Gl X "all":=by rfl)(he:starEach [e] X.env=(false,eval e X.env)::starEach [] X.env:=by rfl)(hK:c.K=X.K:=by rfl)(hcalm:X.calm=true:=by rfl)(hm:X.mg "all"=none:=by decreasing_trivial):DE X c (.Call (.Name "all" p) [e] [] pos) (cbW mZ R):=
 zhX zv4 (zpb hcalm) (hK▸ztl) hm PyProof.Rows.boot_all hR hg (by decide) (by decide) he rfl
def zwu(hR:DA X c [e] R)(hg:Gl X "any":=by rfl)(he:starEach [e] X.env=(false,eval e X.env)::starEach [] X.env:=by rfl)(hK:c.K=X.K:=by rfl)(hcalm:X.calm=true:=by rfl)(hm:X.mg "any"=none:=by decreasing_trivial):DE X c (.Call (.Name "any" p) [e] [] pos) (cbW anyF R):=
 zhX zwA (zoi hcalm) (hK▸zuF) hm PyProof.Rows.boot_any hR hg (by decide) (by decide) he rfl
def yc(T:String):D->Option Bool
 |.non=>some false
 |.bl _=>some (T=="bool" || T=="int")
 |.int _=>some (T=="int")
 |.str _=>some (T=="str")
 |.tup _=>some (T=="tuple")
 |.lst _ _=>some (T=="list")
 |.box=>none
 |.obj _=>none
 |.dct _ _ _=>none
 |.fdc _ _=>none
def jk(T:String)(A:WE):WE:=λS Q=>A S λd=>match yc T d with|some b=>Q (.bl b)|none=>False
def zr1(hT:T="list" \/ T="tuple" \/ T="int" \/ T="bool" \/ T="str")(gh:Same G H)(h:Rep c G d v)(e:yc T d=some k):iR c.K H v T k:=by
 cases d with
 |non=>cases h;rcases hT with rfl|rfl|rfl|rfl|rfl<;>cases e<;>constructor
 |bl b=>cases h;rcases hT with rfl|rfl|rfl|rfl|rfl<;>cases e<;>constructor
 |int b=>cases h;rcases hT with rfl|rfl|rfl|rfl|rfl<;>cases e<;>constructor
 |str b=>cases h;rcases hT with rfl|rfl|rfl|rfl|rfl<;>cases e<;>constructor
 |tup xs=>
  obtain⟨a,vs,rfl,h1,_⟩:=h;have q:=qp gh h1;rcases hT with rfl|rfl|rfl|rfl|rfl<;>cases e
  .exact .tuple_list _ _ q
  .exact .tuple_tuple _ _ q
  .exact .tuple_int _ _ q
  .exact .tuple_bool _ _ q
  .exact .tuple_str _ _ q
 |lst n xs=>
  obtain⟨a,vs,rfl,h1,_⟩:=h;have q:cA c.K H a vs:=cA.of (gh _ _ h1);rcases hT with rfl|rfl|rfl|rfl|rfl<;>cases e
  .exact .list_list _ _ q
  .exact .list_tuple _ _ q
  .exact .list_int _ _ q
  .exact .list_bool _ _ q
  .exact .list_str _ _ q
 |box=>cases e
 |obj a=>cases e
 |dct n ks xs=>cases e
 |fdc ks xs=>cases e
def t7(hA:DE X c e A)(hg:Gl X "isinstance":=by rfl)(hg2:Gl X x:=by rfl)(hn:x≠"__name__":=by decide)(hd:(x==("__debug__":Str))=false:=by decide)(he:starEach [e,.Name x p'] X.env=(false,eval e X.env)::starEach [.Name x p'] X.env:=by rfl)(hK:c.K=X.K:=by rfl)(hT:T="list" \/ T="tuple" \/ T="int" \/ T="bool" \/ T="str":=by decreasing_trivial)(hm:X.mg "isinstance"=none:=by decreasing_trivial)(hm2:X.mg x=none:=by decreasing_trivial)(hbt:bootBuiltins x=some (.type T):=by decreasing_trivial) :
  DE X c (.Call (.Name "isinstance" p) [e,.Name x p'] [] pos) (jk T A)where
 mono:=λS Q Q' k q=>hA.mono S _ _ (λd z=>by
  revert z;cases yc T d with
  |none=>exact id
  |some b=>exact k _) q
 pe:=dM (JN zqh hg hm PyProof.Rows.boot_isinstance (iM hA.pe (iM (zo4 (v:=.ty T) hg2 hm2 hbt rfl hn hd) km) he) (by decide) (by decide) he rfl) λZ H Q ⟨S,G,r,q⟩=>⟨S,G,r,hA.mono S _ _ (λd z v H' G' t e=>by
  revert z;cases hk:yc T d with
  |none=>exact False.elim
  |some b=>exact λz=>⟨v,T,b,rfl,hK▸zr1 hT t.gh e hk,z _ H' G' t rfl⟩) q⟩
abbrev Fn:=List D->(D->Prop)->Prop
def up(F:Fn):Fn:=λds Q=>∃P:D->Prop,F ds P/\∀d,P d->Q d
def rM(F:Fn):uv (up F):=λds Q Q' k ⟨P,h1,h2⟩=>⟨P,h1,λd z=>k d (h2 d z)⟩
def dh(K:qo)(n:Nat)(F:Fn):Sp:=λvs H Q _=>∃ β G ds,Same G H/\d7 β H G/\aG ⟨K,β,λ_=>none,G,True⟩ G ds vs/\vs.length=n/\up F ds λd=>∀v H' G',aX β H G H' G'->Rep ⟨K,β,H,G,True⟩ G' d v->Q v H'
structure fG(P:Program)(w:World)(K:qo)(mg:Str->Option Value)(base:Heap)(x:Str)(k:Nat)(ps:List Str)(sp:Sp):Prop where
 ex:∃f fd,aM P w K mg base cR k f fd ps sp/\mg x=some (.ref f)/\PySem.W.keepIn K (.ref f)=true/\Binds K fd ps []
def fG.of(F:bZ K x qual st f fd)(G:aM P w K mg base cR k f fd ps sp)(hm:mg x=some (.ref f))(hb:Binds K fd ps []):fG P w K mg base x k ps sp:=
 ⟨f,fd,G,hm,F.kp,hb⟩
abbrev aZ(n:Nat)(F:Fn)(R:WL):WE:=λS Q=>R S λds=>ds.length=n/\up F ds Q
def cI(C:fG X.prog X.w X.K X.mg X.base x k ps (dh X.K n F))(hR:DA X c (e::es) R)(hg:Gl X x:=by rfl)
  (hdb:(x==("__debug__":Str))=false:=by decide) (sk:Sk X e es pos:=by exact⟨rfl,rfl⟩) (hK:c.K=X.K:=by rfl) (hr:bD k X.A:=by decreasing_trivial) :
  DE X c (.Call (.Name x p) (e::es) [] pos) (aZ n F R)where
 mono:=λS Q Q' k q=>hR.mono S _ _ (λds z=>⟨z.1,rM F ds _ _ k z.2⟩) q
 pe:=by
  obtain⟨f,fd,FO,hm,hk,hb⟩:=C.ex;refine dM (yG FO hr hg hm hk hb .nil Ah hR.pa hdb sk.1 sk.2) λZ H Q ⟨S,G,r,q⟩=>⟨S,G,r,hR.mono S _ _ (λds z vs H' G' t e=>?_) q⟩;show dh X.K n F (vs++[]) H' Q E0;rw[rQ];exact⟨c.β,G',ds,t.gh,t.bx,aG.back (c':=c) (c:=⟨X.K,c.β,λ_=>none,G',True⟩) hK rfl (λ_ _=>rfl) e,by rw[<-e.length];exact z.1,
   rM F ds _ _ (λd z v H2 G2 t2 e2=>z v H2 G2 (t.trans t2) (Rep.back (c':=⟨X.K,c.β,H',G',True⟩) (c:=c) hK.symm rfl (λa h=>r.new0 (t.free h)) e2)) z.2⟩
end
mutual
inductive Tg where
 |nm (i:Nat)
 |tp (n:Nat) (ts:xO)
inductive xO where
 |nil
 |cons (t:Tg) (ts:xO)
end
mutual
def lE(K:qo):Tg->TG
 |.nm i=>zB i
 |.tp n ts=>wY K n (lw K ts)
def lw(K:qo):xO->ut
 |.nil=>xq
 |.cons t ts=>zph (lE K t) (lw K ts)
end
mutual
def gD:Tg->D->Env->(Env->Prop)->Prop
 |.nm i,d,S,Q=>Q (S.set i (.val d))
 |.tp n ts,.tup ds,S,Q=>ds.length=n/\f9 ts ds S Q
 |.tp n ts,.lst _ ds,S,Q=>ds.length=n/\f9 ts ds S Q
 |.tp _ _,_,_,_=>False
def f9:xO->List D->Env->(Env->Prop)->Prop
 |.nil,[],S,Q=>Q S
 |.cons t ts,d::ds,S,Q=>gD t d S λS'=>f9 ts ds S' Q
 |_,_,_,_=>False
end
mutual
theorem tK:∀(t:Tg)(d:D)(S:Env){Q Q':Env->Prop},(∀ S,Q S->Q' S)->gD t d S Q->gD t d S Q'
 |.nm i,d,S,Q,Q',k,q=>by unfold gD at q ⊢;exact k _ q
 |.tp n ts,.tup ds,S,Q,Q',k,q=>by unfold gD at q ⊢;exact⟨q.1,ziG ts ds S k q.2⟩
 |.tp _ _,.non,_,_,_,_,q=>by unfold gD at q;exact q.elim
 |.tp _ _,.bl _,_,_,_,_,q=>by unfold gD at q;exact q.elim
 |.tp _ _,.int _,_,_,_,_,q=>by unfold gD at q;exact q.elim
 |.tp _ _,.str _,_,_,_,_,q=>by unfold gD at q;exact q.elim
 |.tp n ts,.lst _ ds,S,Q,Q',k,q=>by unfold gD at q ⊢;exact⟨q.1,ziG ts ds S k q.2⟩
 |.tp _ _,.box,_,_,_,_,q=>by unfold gD at q;exact q.elim
 |.tp _ _,.obj _,_,_,_,_,q=>by unfold gD at q;exact q.elim
 |.tp _ _,.dct _ _ _,_,_,_,_,q=>by unfold gD at q;exact q.elim
 |.tp _ _,.fdc _ _,_,_,_,_,q=>by unfold gD at q;exact q.elim
theorem ziG:∀(ts:xO)(ds:List D)(S:Env){Q Q':Env->Prop},(∀ S,Q S->Q' S)->f9 ts ds S Q->f9 ts ds S Q'
 |.nil,[],S,Q,Q',k,q=>by unfold f9 at q ⊢;exact k _ q
 |.cons t ts,d::ds,S,Q,Q',k,q=>by unfold f9 at q ⊢;exact tK t d S (λS' z=>ziG ts ds S' k z) q
 |.nil,_::_,_,_,_,_,q=>by unfold f9 at q;exact q.elim
 |.cons _ _,[],_,_,_,_,q=>by unfold f9 at q;exact q.elim
end
mutual
theorem CN :∀(t:Tg)(d:D)(v:V)(S:Env)(Z:St){Q:St->Hp->Prop},Rel c S Z H G->Rep c G d v->gD t d S (λS'=>∀ Z',Rel c S' Z' H G->Q Z' H)->lE c.K t v Z H Q
 |.nm i,d,v,S,Z,Q,r,e,q=>by unfold gD at q;unfold lE;exact q _ (r.put e)
 |.tp n ts,.tup ds,v,S,Z,Q,r,e,q=>by
  unfold gD at q;unfold lE;obtain⟨a,vs,rfl,ha,hv⟩:=e;exact⟨a,vs,rfl,.inl (qp r.gh ha),by rw[<-hv.length];exact q.1,zii ts ds vs S Z r hv q.2⟩
 |.tp _ _,.non,_,_,_,_,_,_,q=>by unfold gD at q;exact q.elim
 |.tp _ _,.bl _,_,_,_,_,_,_,q=>by unfold gD at q;exact q.elim
 |.tp _ _,.int _,_,_,_,_,_,_,q=>by unfold gD at q;exact q.elim
 |.tp _ _,.str _,_,_,_,_,_,_,q=>by unfold gD at q;exact q.elim
 |.tp n ts,.lst m ds,v,S,Z,Q,r,e,q=>by
  unfold gD at q;unfold lE;obtain⟨a,vs,rfl,ha,_,hv⟩:=e;exact⟨a,vs,rfl,.inr (cA.of (r.gh _ _ ha)),by rw[<-hv.length];exact q.1,zii ts ds vs S Z r hv q.2⟩
 |.tp _ _,.box,_,_,_,_,_,_,q=>by unfold gD at q;exact q.elim
 |.tp _ _,.obj _,_,_,_,_,_,_,q=>by unfold gD at q;exact q.elim
 |.tp _ _,.dct _ _ _,_,_,_,_,_,_,q=>by unfold gD at q;exact q.elim
 |.tp _ _,.fdc _ _,_,_,_,_,_,_,q=>by unfold gD at q;exact q.elim
theorem zii :∀(ts:xO)(ds:List D)(vs:List V)(S:Env)(Z:St){Q:St->Hp->Prop},Rel c S Z H G->aG c G ds vs->f9 ts ds S (λS'=>∀ Z',Rel c S' Z' H G->Q Z' H)->lw c.K ts vs Z H Q
 |.nil,[],vs,S,Z,Q,r,e,q=>by unfold f9 at q;unfold lw;exact⟨e,q _ r⟩
 |.cons t ts,d::ds,vs,S,Z,Q,r,e,q=>by
  unfold f9 at q;unfold lw;obtain⟨v,ws,rfl,e1,e2⟩:=e;exact⟨v,ws,rfl,CN t d v S Z r e1 (tK t d S (λS' z Z' r'=>zii ts ds ws S' Z' r' e2 z) q)⟩
 |.nil,_::_,_,_,_,_,_,_,q=>by unfold f9 at q;exact q.elim
 |.cons _ _,[],_,_,_,_,_,_,q=>by unfold f9 at q;exact q.elim
end
structure En where
 nx:Env->Prop
 rt:D->Prop
 bk:Env->Prop
 ct:Env->Prop
abbrev WS:=En->Env->Prop
structure En.Le(E E':En):Prop where
 nx:∀ S,E.nx S->E'.nx S
 rt:∀d,E.rt d->E'.rt d
 bk:∀ S,E.bk S->E'.bk S
 ct:∀ S,E.ct S->E'.ct S
def Ff(W:WS):Prop:=∀E E' S,En.Le E E'->W E S->W E' S
noncomputable def ends(c:Bk)(G:Hp)(Ds:Ends):En where
 nx:=λS=>∀ Z H' G',Rel c S Z H' G'->Same G G'->Ds.nx Z H'
 rt:=λd=>∀v H' G',aX c.β c.H0 c.G0 H' G'->Rep c G' d v->Ds.rt v H'
 bk:=λS=>∀ Z H' G',Rel c S Z H' G'->Same G G'->Ds.bk Z H'
 ct:=λS=>∀ Z H' G',Rel c S Z H' G'->Same G G'->Ds.ct Z H'
def Jz(s:Same G G1):En.Le (ends c G Ds) (ends c G1 Ds):=
 ⟨λS h Z H' G' r s'=>h Z H' G' r (s.trans s'),λd h=>h,λS h Z H' G' r s'=>h Z H' G' r (s.trans s'),λS h Z H' G' r s'=>h Z H' G' r (s.trans s')⟩
def tDS(c:Bk)(W:WS):TS:=λDs Z H=>∃ S G,Rel c S Z H G/\W (ends c G Ds) S
structure DS(X:Cx)(c:Bk)(st:Stmt)(W:WS):Prop where
 mono:Ff W
 ps:PS X st (tDS c W)
structure rG(X:Cx)(c:Bk)(sts:List Stmt)(W:WS):Prop where
 mono:Ff W
 pss:lJ X sts (tDS c W)
section
variable{X:Cx}{c:Bk}{st:Stmt}{rest:List Stmt}{pos p p':Pos}{e:Expr}
def kY(h:PS X st t)(k:∀D Z H,t' D Z H->t D Z H):PS X st t':=λaa s Z H D I q=>h aa s Z H D I (k D Z H q)
def Er(h:lJ X rest t)(k:∀D Z H,t' D Z H->t D Z H):lJ X rest t':=λaa s Z H D I q=>h aa s Z H D I (k D Z H q)
abbrev bU:WS:=λE S=>E.nx S
abbrev aH(A B:WS):WS:=λE S=>A {E with nx:=B E} S
def fW:rG X c [] bU:=⟨λE E' S l q=>l.nx _ q,Er IW λD Z H ⟨S,G,r,q⟩=>q Z H G r (Same.refl _)⟩
def bO(h1:DS X c st A)(h2:rG X c rest B):rG X c (st::rest) (aH A B)where
 mono:=λE E' S l q=>h1.mono {E with nx:=B E} _ S ⟨λS' z=>h2.mono _ _ S' l z,l.rt,l.bk,l.ct⟩ q
 pss:=Er (nQ h1.ps h2.pss) λD Z H ⟨S,G,r,q⟩=>⟨S,G,r,h1.mono {ends c G D with nx:=B (ends c G D)} _ S ⟨λS' z Z' H' G' r' s'=>⟨S',G',r',h2.mono _ _ S' (Jz s') z⟩,λd z=>z,λS' z=>z,λS' z=>z⟩ q⟩
def bG(h1:DS X c st A):rG X c [st] A:=⟨h1.mono,zJ h1.ps⟩
def iV(i:Nat)(S:Env):Env:=match S[i]? with|some (.own xs)=>S.set i (.val (.lst true xs))|_=>S
abbrev nG(i:Nat)(A:WS):WS:=λE S=>A E (iV i S)
def zm7(r:Rel c S Z H G)(i:Nat):∃G',Same G G'/\Rel c (iV i S) Z H G':=by
 unfold iV;split
 .rename_i xs e;exact r.freeze e
 .exact⟨G,Same.refl _,r⟩
def zpR(i:Nat)(h:DS X c st A):DS X c st (nG i A)where
 mono:=λE E' S l q=>h.mono E E' _ l q
 ps:=kY h.ps λD Z H ⟨S,G,r,q⟩=>by
  obtain⟨G',s',r'⟩:=zm7 r i;exact⟨iV i S,G',r',h.mono _ _ _ (Jz s') q⟩
abbrev cX(C:WT)(A B:WS):WS:=λE S=>C S λb=>if b=true then A E S else B E S
def bM(hC:DT X c e C)(hA:rG X c a A)(hB:rG X c b B):DS X c (.If e a b pos) (cX C A B)where
 mono:=λE E' S l q=>hC.mono S _ _ (λb z=>by
  cases b
  .exact hB.mono _ _ S l z
  .exact hA.mono _ _ S l z) q
 ps:=kY (Dq hC.pt hA.pss hB.pss) λD Z H ⟨S,G,r,q⟩=>⟨S,G,r,hC.mono S _ _ (λb z H' G' t=>by
  cases b
  .exact⟨S,G',r.step t,hB.mono _ _ S (Jz t.gg) z⟩
  .exact⟨S,G',r.step t,hA.mono _ _ S (Jz t.gg) z⟩) q⟩
abbrev aO(A:WE):WS:=λE S=>A S E.rt
def cj(hA:DE X c e A):DS X c (.Return (some e) pos) (aO A)where
 mono:=λE E' S l q=>hA.mono S _ _ l.rt q
 ps:=kY (zE hA.pe) λD Z H ⟨S,G,r,q⟩=>⟨S,G,r,hA.mono S _ _ (λd z v H' G' t e=>z v H' G' (r.stp.trans t) e) q⟩
abbrev Ci(A:WE):WS:=λE S=>A S λ_=>E.nx S
def Gk(hA:DE X c e A)(hs:swapsWith e none pos.line X.env=pure false:=by rfl):DS X c (.Expr e pos) (Ci A)where
 mono:=λE E' S l q=>hA.mono S _ _ (λd z=>l.nx _ z) q
 ps:=kY (zk7 hA.pe hs) λD Z H ⟨S,G,r,q⟩=>⟨S,G,r,hA.mono S _ _ (λd z v H' G' t e=>z Z H' G' (r.step t) t.gg) q⟩
abbrev aP(t:Tg)(A:WE):WS:=λE S=>A S λd=>gD t d S E.nx
def zlY(mA:jm A)(D:Ends)(Z:St)(H:Hp)(h:tDS c (aP t A) D Z H):tG (tD c A) (lE c.K t) D Z H:=by
 obtain⟨S,G,r,q⟩:=h;exact⟨S,G,r,mA S _ _ (λd z v H' G' t1 e1=>CN t d v S Z (r.step t1) e1 (tK t d S (λS' y Z' r'=>y Z' H' G' r' t1.gg) z)) q⟩
def zhW(mA:jm A):Ff (aP t A):=λE E' S l q=>mA S _ _ (λd z=>tK t d S l.nx z) q
def gn(i:Nat)(hi:X.N[i]?=some x:=by rfl)(hx:Loc X.env.scope x:=by first|exact Or.inl rfl|exact Or.inr rfl)(hf:X.fn x=true\/X.env.scope.names.lookup x=some .local:=by first|exact .inl rfl|exact .inr rfl|assumption)(hN:X.N.Nodup:=by decreasing_trivial):PG X (.Name x p) (zB i):=zrx hN hi hx hf
def ndB:List Str->Bool
 |[]=>true
 |x::l=>!l.elem x&&ndB l
theorem vN:∀{l:List Str},ndB l=true->l.Nodup
 |[],_=>YDd
 |x::l,h=>by
  unfold ndB at h
  have:=YCv.mp h
  refine YAP.mpr ⟨λm=>?_,vN this.2⟩;rw[List.elem_iff.mpr m]at this;exact absurd this.1 (by decide)
def dW(i:Nat)(hA:DE X c e A)(hi:X.N[i]?=some x:=by rfl)(hx:Loc X.env.scope x:=by first|exact Or.inl rfl|exact Or.inr rfl)(hs:swapsWith e (some (.Name x p)) pos.line X.env=pure false:=by rfl)(hf:X.fn x=true\/X.env.scope.names.lookup x=some .local:=by first|exact .inl rfl|exact .inr rfl|assumption)(hN:X.N.Nodup:=by decreasing_trivial):DS X c (.Assign [.Name x p] e pos) (aP (.nm i) A):=
 ⟨zhW hA.mono,kY (uA hN hi hx hA.pe hs hf) λD Z H h=>zlY (t:=.nm i) hA.mono D Z H h⟩
def uW(t:Tg)(hA:DE X c e A)(hg:PG X tg (lE c.K t))(hs:swapsWithSole [tg] e pos.line X.env=pure false:=by rfl)(hw:swappedStores [tg] e X.env=pure none:=by rfl)
  (h1:(assignEach [tg] X.env).map (·.2)=[assign tg X.env]:=by rfl):DS X c (.Assign [tg] e pos) (aP t A):=
 ⟨zhW hA.mono,kY (DY hA.pe hg hs hw h1) λD Z H h=>zlY hA.mono D Z H h⟩
abbrev lq(i:Nat)(F:WL):WS:=λE S=>F S λxs=>E.nx (S.set i (.own xs))
def zmj(mF:rN F):Ff (lq i F):=λE E' S l q=>mF S _ _ (λd z=>l.nx _ z) q
def zlT(mF:rN F)(D:Ends)(Z:St)(H:Hp)(h:tDS c (lq i F) D Z H):tG (tDf c F) (zB i) D Z H:=by
 obtain⟨S,G,r,q⟩:=h;refine⟨S,G,r,mF S _ _ (λxs z l vs H' G' t hl hg h0 hv=>?_) q⟩;refine z _ H' G' ((r.step t).putOwn hl hg (r.new0 h0) (r.neβ h0) hv λj ys e1 e2=>?_) t.gg;obtain⟨a,vs',f1,f2,_⟩:=r.slot j _ e1;rw[e2]at f1;cases f1;rw[h0]at f2;cases f2
def zpr(i:Nat)(hF:DF X c e F)(hi:X.N[i]?=some x:=by rfl)(hx:Loc X.env.scope x:=by first|exact Or.inl rfl|exact Or.inr rfl)(hs:swapsWith e (some (.Name x p)) pos.line X.env=pure false:=by rfl)(hf:X.fn x=true\/X.env.scope.names.lookup x=some .local:=by first|exact .inl rfl|exact .inr rfl|assumption)(hN:X.N.Nodup:=by decreasing_trivial):DS X c (.Assign [.Name x p] e pos) (lq i F):=
 ⟨zmj hF.mono,kY (uA hN hi hx hF.pe hs hf) λD Z H h=>zlT hF.mono D Z H h⟩
abbrev Hk(i j:Nat)(A B:WE):WS:=λE S=>A S λx=>B S λy=>E.nx ((S.set i (.val x)).set j (.val y))
def zv3(i j:Nat){kt k2 pt2}(hA:DE X c a A)(hB:DE X c b B)(hij:i≠j:=by decide)(hi:X.N[i]?=some x:=by rfl)(hj:X.N[j]?=some y:=by rfl)(hx:X.env.scope.names.lookup x=some .local:=by rfl)(hy:X.env.scope.names.lookup y=some .local:=by rfl)(hsa:starEach [a,b] X.env=(false,eval a X.env)::starEach [b] X.env:=by rfl)(hsb:starEach [b] X.env=(false,eval b X.env)::starEach [] X.env:=by rfl)(hw:swappedStores [.Tuple [.Name x px,.Name y py] kt pt] (.Tuple [a,b] k2 pt2) X.env=pure (some [x,y]):=by rfl)(hs:swapsWithSole [.Tuple [.Name x px,.Name y py] kt pt] (.Tuple [a,b] k2 pt2) pos.line X.env=pure false:=by rfl)(hc:X.calm=true:=by rfl)(hN:X.N.Nodup:=by decreasing_trivial) :
  DS X c (.Assign [.Tuple [.Name x px,.Name y py] kt pt] (.Tuple [a,b] k2 pt2) pos) (Hk i j A B)where
 mono:=λE E' S l q=>hA.mono S _ _ (λd z=>hB.mono S _ _ (λd' z'=>l.nx _ z') z) q
 ps:=kY (zuG hc hN hi hj hij hx hy (iM hA.pe (iM hB.pe km hsb) hsa) hw hs) λD Z H ⟨S,G,r,q⟩=>⟨S,G,r,hA.mono S _ _ (λd z v H1 G1 t1 e1=>⟨S,G1,r.step t1,hB.mono S _ _ (λd' z' w H2 G2 t2 e2=>
  ⟨v,w,rfl,z' _ H2 G2 ((((r.step t1).step t2).put (e1.mono t2.gg)).put e2) (t1.gg.trans t2.gg)⟩) z⟩) q⟩
def jZ(i:Nat)(A:WE):WS:=λE S=>match S[i]? with
 |some (.own xs)=>A S λd=>xs.length<100000/\E.nx (S.set i (.own (xs++[d])))
 |_=>False
def zsA(i:Nat)(hA:DE X c e A)(nk:Nk X i x:=by decreasing_trivial)
  (hbase:attributeBase (.Name x p) "append" X.env (eval (.Name x p) X.env)=eval (.Name x p) X.env:=by rfl)
  (hfew:((backTo cpos (starEach [e] X.env)).all (λx=>!x.1)&&(backToKw cpos (keywordEach [] X.env)).all (λx=>x.1.isSome)
   && decide (([e]:List Expr).length+([]:List Keyword).length+(if ([]:List Keyword).isEmpty then 0 else 1)<30))=true:=by rfl)
  (hline:(apos.endLine==cpos.line)=true:=by rfl) (hs:starEach [e] X.env=(false,eval e X.env)::starEach [] X.env:=by rfl)
  (hsw:swapsWith (.Call (.Attribute (.Name x p) "append" apos) [e] [] cpos) none pos.line X.env=pure false:=by rfl):DS X c (.Expr (.Call (.Attribute (.Name x p) "append" apos) [e] [] cpos) pos) (jZ i A)where
 mono:=λE E' S l q=>by
  unfold jZ at q ⊢;split at q
  .exact hA.mono S _ _ (λd z=>⟨z.1,l.nx _ z.2⟩) q
  .exact q.elim
 ps:=kY (zk7 (zpQ YB9 PySem.F.slot_list_append PySem.F.type_list_append zgK (lU nk.N nk.v nk.d nk.c) (iM hA.pe km hs) hbase hfew hline hs rfl) hsw) λD Z H ⟨S,G,r,q⟩=>by
  unfold jZ at q;split at q
  .rename_i xs ek
   obtain⟨a,vs,h1,h2,h3,h4,h5,h6⟩:=r.slot i _ ek;refine⟨.ref a,h1,.inl ⟨rfl,vs,cA.of h2⟩,S,G,r,hA.mono S _ _ (λd z w H' G' t e=>?_) q⟩;refine⟨a,vs,w,rfl,rfl,t.fr a _ h5 h2,?_,?_⟩
   .rw[<-h6.length];exact jN z.1 (fM (dJ _))
   .exact z.2 _ _ G' ((r.step t).write ek h1 ((h6.mono t.gg).append (.one e))) t.gg
  .exact q.elim
def FN(xs:List D)(k:D)(Q:Nat->Prop):Prop:=match k with|.int j=>(match rW xs.length j with|some m=>Q m|none=>False)|_=>False
def zpB(f:∀m,Q m->Q' m)(q:FN xs k Q):FN xs k Q':=by
 unfold FN at q ⊢;split at q
 .split at q
  .exact f _ q
  .exact q.elim
 .exact q.elim
def sS(i:Nat)(I A:WE):WS:=λE S=>match S[i]? with
 |some (.own xs)=>A S λd=>I S λk=>FN xs k λm=>E.nx (S.set i (.own (xs.set m d)))
 |_=>False
def zv2(i:Nat)(hA:DE X c e A)(hI:DE X c ie I)(nk:Nk X i x:=by decreasing_trivial)
  (ha:∀v,assign (.Subscript (.Name x p) ie tpos) X.env v=(do
   let ov <-holding [v] (eval (.Name x p) X.env)
   let iv <-holding [v,ov] (eval ie X.env)
   standAt tpos
   holding [v,ov,iv] (setItem ov iv v)
   release [v,ov,iv] []):=by intro _;rfl) (hs:swapsWithSole [.Subscript (.Name x p) ie tpos] e pos.line X.env=pure false:=by rfl) (hw:swappedStores [.Subscript (.Name x p) ie tpos] e X.env=pure none:=by rfl)
  (h1:(assignEach [.Subscript (.Name x p) ie tpos] X.env).map (·.2)=[assign (.Subscript (.Name x p) ie tpos) X.env]:=by rfl):DS X c (.Assign [.Subscript (.Name x p) ie tpos] e pos) (sS i I A)where
 mono:=λE E' S l q=>by
  unfold sS at q ⊢;split at q
  .exact hA.mono S _ _ (λd z=>hI.mono S _ _ (λk y=>zpB (λm=>l.nx _) y) z) q
  .exact q.elim
 ps:=kY (DY hA.pe (zlQ (lU nk.N nk.v nk.d nk.c) hI.pe G8 ha) hs hw h1) λD Z H ⟨S,G,r,q⟩=>by
  unfold sS at q;split at q
  .rename_i xs ek
   refine⟨S,G,r,hA.mono S _ _ (λd z v H1 G1 t1 e1=>?_) q⟩;obtain⟨a,vs,h1,h2,h3,h4,h5,h6⟩:=(r.step t1).slot i _ ek;refine⟨.ref a,h1,S,G1,r.step t1,hI.mono S _ _ (λk y w H2 G2 t2 e2=>?_) z⟩;unfold FN at y;split at y
   .rename_i j
    split at y
    .rename_i m em
     refine⟨a,vs,j,m,rfl,e2,t2.fr a _ h5 h2,by rw[<-h6.length];exact em,?_⟩;exact y Z _ G2 (((r.step t1).step t2).write ek h1 (aG.set (e1.mono t2.gg) m (h6.mono t2.gg))) (t1.gg.trans t2.gg)
    .exact y.elim
   .exact y.elim
  .exact q.elim
def intD(d:D)(Q:Int->Prop):Prop:=match d with|.int j=>Q j|_=>False
def znz(f:∀m,Q m->Q' m)(q:intD d Q):intD d Q':=by
 cases d<;>first|exact f _ q|exact q
end
def qC(c:Bk)(J:It)(xs:List D)(G:Hp):Prop:=∀(i:Nat)(H2 G2:Hp),Same G G2->Same G2 H2->d7 c.β H2 G2->(∀a,H2 a=none->c.H0 a=none) ->
 (i=xs.length->J.stop i H2)/\∀d,xs[i]?=some d->J.go i H2/\∀x H3,J.yld i H2 x H3->∃G3,aX c.β H2 G2 H3 G3/\Rep c G3 d x
def tDI(c:Bk)(I:WL):TI:=λZ H R=>∃ S G,Rel c S Z H G/\I S λxs=>∀J H' G',aX c.β H G H' G'->qC c J xs G'->R J H'
structure DI(X:Cx)(c:Bk)(tg iter:Expr)(I:WL):Prop where
 mono:rN I
 pi:PI X tg iter (tDI c I)
section
variable{X:Cx}{c:Bk}{tg e a b:Expr}{A B:WE}{pos p:Pos}
def zlk(h:PI X tg e wi)(k:∀ Z H R,wi' Z H R->wi Z H R):PI X tg e wi':=λaa s Z H R I q=>h aa s Z H R I (k Z H R q)
def zsX(hl:G l=some (.lst vs))(h:aG c G xs vs):qC c (Itl c.K l) xs G:=by
 intro i H2 G2 s1 s2 bx h0;have q:cA c.K H2 l vs:=cA.of (s2 _ _ (s1 _ _ hl));refine⟨λe=>⟨vs,q,by rw[e,h.length];exact dJ _⟩,λd e=>?_⟩;obtain⟨v,e1,e2⟩:=h.get e;refine⟨⟨vs,v,q,e1⟩,λx H3 y=>?_⟩;obtain⟨rfl,y⟩:=y
 have:=y vs q
 rw[e1]at this;cases this;exact⟨G2,aX.refl s2 bx,e2.mono s1⟩
def zuD(hl:fX c.K G l vs)(h:aG c G xs vs):qC c (Itt c.K l) xs G:=by
 intro i H2 G2 s1 s2 bx h0;have q:fX c.K H2 l vs:=qp (s1.trans s2) hl;refine⟨λe=>⟨vs,q,by rw[e,h.length];exact dJ _⟩,λd e=>?_⟩;obtain⟨v,e1,e2⟩:=h.get e;refine⟨⟨vs,v,q,e1⟩,λx H3 y=>?_⟩;obtain⟨rfl,y⟩:=y
 have:=y vs q
 rw[e1]at this;cases this;exact⟨G2,aX.refl s2 bx,e2.mono s1⟩
def iD(m:Int)(n:Nat):List D:=(List.range n).map λ(k:Nat)=>D.int (m+(k:Int))
def vH(m:Int)(n:Nat):qC c (DG m n) (iD m n) G:=by
 intro i H2 G2 s1 s2 bx h0;refine⟨λe=>by show n<=i;unfold iD at e;simp at e;omega,λd e=>?_⟩;unfold iD at e;rw[jG]at e;have hi:i<n:=by
  by_cases h:i<n
  .exact h
  .rw[List.getElem?_eq_none (by simp;omega)]at e;cases e
 rw[List.getElem?_range hi]at e;cases e;exact⟨hi,λx H3 ⟨y1,y2⟩=>⟨G2,by rw[y1];exact aX.refl s2 bx,y2⟩⟩
def qM(A:WE):WL:=λS Q=>A S λd=>match d with|.int n=>(-(2^62)<=n/\n<2^62)/\Q (iD 0 n.toNat)|_=>False
def yU(hA:DE X c a A)(hg:Gl X "range":=by rfl)(hs:starEach [a] X.env=[(false,eval a X.env)]:=by rfl)(hm:X.mg "range"=none:=by decreasing_trivial):DI X c tg (.Call (.Name "range" p) [a] [] pos) (qM A)where
 mono:=λS Q Q' k q=>hA.mono S _ _ (λd z=>by cases d<;>first|exact⟨z.1,k _ z.2⟩|exact z) q
 pi:=zlk (zoe hg hm (iM hA.pe km hs) hs) λZ H R ⟨S,G,r,q⟩=>⟨S,G,r,hA.mono S _ _ (λd z v H' G' t e=>by
  cases d with
  |int n=>exact⟨n,by cases e;rfl,z.1.1,z.1.2,z.2 _ H' G' t (vH 0 _)⟩
  |_=>exact z.elim) q⟩
def iH:List D->List D->List D
 |x::xs,y::ys=>.tup [x,y]::iH xs ys
 |_,_=>[]
theorem zma:∀{xs ys:List D}{i:Nat}{d:D},(iH xs ys)[i]?=some d->∃x y,xs[i]?=some x/\ys[i]?=some y/\d=.tup [x,y]
 |x::xs,y::ys,0,d,e=>by simp[iH]at e;exact⟨x,y,rfl,rfl,e.symm⟩
 |x::xs,y::ys,i+1,d,e=>by simp[iH]at e;simpa using zma e
 |[],_,_,_,e=>by simp[iH]at e
 |_::_,[],_,_,e=>by simp[iH]at e
theorem zlz:∀(xs ys:List D),(iH xs ys).length=min xs.length ys.length
 |[],_=>by simp[iH]
 |_::_,[]=>by simp[iH]
 |x::xs,y::ys=>by simp[iH,zlz xs ys]
end
def rD(t:Tg)(B:WS)(E:En):List D->Env->Prop
 |[],S=>E.nx S
 |x::xs,S=>gD t x S λS'=>B {nx:=rD t B E xs,ct:=rD t B E xs,bk:=E.nx,rt:=E.rt} S'
abbrev rP(I:WL)(t:Tg)(B:WS):WS:=λE S=>I S λxs=>rD t B E xs S
theorem zg3(mB:Ff B)(l:En.Le E E'):∀(xs:List D)(S:Env),rD t B E xs S->rD t B E' xs S
 |[],S,q=>l.nx S q
 |x::xs,S,q=>tK t x S (λS' z=>mB {nx:=rD t B E xs,ct:=rD t B E xs,bk:=E.nx,rt:=E.rt} _ S' ⟨zg3 mB l xs,l.rt,l.nx,zg3 mB l xs⟩ z) q
section
variable{X:Cx}{c:Bk}{tg iter e:Expr}{body:List Stmt}{pos p:Pos}
def zsr(t:Tg)(hI:DI X c tg iter I)(hg:PG X tg (lE c.K t))(hB:rG X c body B)(hp:PassesOwn (model X.prog X.w) X.A X.env X.xe:=by exact PassesOwn.never)(hc:X.calm=true:=by rfl)(hs:∀x,foldedSetIterable iter X.env x=pure x:=by intro _;rfl) :
  DS X c (.For tg iter body [] pos) (rP I t B)where
 mono:=λE E' S l q=>hI.mono S _ _ (λxs z=>zg3 hB.mono l xs S z) q
 ps:=kY (zqJ hp hc hI.pi hg hB.pss hs) λD Z H ⟨S,G,r,q⟩=>⟨S,G,r,hI.mono S _ _ (λxs z J H1 G1 t1 it=>by
  refine⟨λi m Z H=>m=xs.length-i/\i<=xs.length/\∃ S' G',Rel c S' Z H G'/\Same G1 G'/\rD t B (ends c G D) (xs.drop i) S',⟨xs.length,rfl,vX _,S,G1,r.step t1,Same.refl _,z⟩,?_⟩;rintro i m Z' H' ⟨rfl,hi,S',G',r',s',q'⟩;have ok:=it i H' G' s' r'.gh r'.bx (λa z=>r'.new0 z);by_cases hlt:i<xs.length
  .refine .inr ?_;have ed:xs.drop i=xs[i]::xs.drop (i+1):=YBE hlt;rw[ed]at q';obtain⟨go,yl⟩:=ok.2 xs[i] (jr hlt);refine⟨go,λZ H=>∃ S' G',Rel c S' Z H G'/\Same G1 G'/\rD t B (ends c G D) (xs.drop (i+1)) S',λZ2 H2 h=>⟨xs.length-(i+1),by omega,rfl,by omega,h⟩,λx H3 y=>?_⟩;obtain⟨G3,t3,e3⟩:=yl x H3 y;refine CN t xs[i] x S' Z' (r'.step t3) e3 (tK t xs[i] S' (λS2 z2 Z2 r2=>?_) q');refine⟨S2,G3,r2,hB.mono {nx:=rD t B (ends c G D) (xs.drop (i+1)),ct:=rD t B (ends c G D) (xs.drop (i+1)),bk:=(ends c G D).nx,rt:=(ends c G D).rt} _ S2 ⟨λS3 z3 Z3 H4 G4 r4 s4=>⟨S3,G4,r4,(s'.trans t3.gg).trans s4,z3⟩,λd z=>z,λS3 z3 Z3 H4 G4 r4 s4=>z3 Z3 H4 G4 r4 (((t1.gg.trans s').trans t3.gg).trans s4),λS3 z3 Z3 H4 G4 r4 s4=>⟨S3,G4,r4,(s'.trans t3.gg).trans s4,z3⟩⟩ z2⟩
  .have e:i=xs.length:=by omega
   subst e;rw[YC1]at q';exact .inl ⟨ok.1 rfl,q' Z' H' G' r' (t1.gg.trans s')⟩) q⟩
def fH(n:Nat)(ds:List D):Env:=ds.map (λd=>Sl.val d.old)++List.replicate (n-ds.length) .un
def eG(n:Nat)(B:WS):Fn:=λds Q=>B {nx:=λ_=>Q .non,rt:=Q,bk:=λ_=>False,ct:=λ_=>False} (fH n ds)
def Jr(gh:Same G H)(bx:d7 β H G)(h:aG ⟨K,β,λ_=>none,G,True⟩ G ds vs):Rel ⟨K,β,H,G,True⟩ (fH N.length ds) (L2.nC N vs) H G:=by
 have noOwn:∀(i:Nat) xs,(fH N.length ds)[i]?≠some (.own xs):=λi xs e=>by
  unfold fH at e;by_cases hi:i<ds.length
  .rw[Dy (by simpa using hi),jG,jr hi]at e;cases e
  .rw[YBv (by simpa using hi),JD]at e;split at e<;>cases e
 refine⟨by unfold fH L2.nC;simp[h.length],aX.refl gh bx,λi s e=>?_,λi j a xs ys e1=>absurd e1 (noOwn i xs),trivial⟩;unfold fH at e;by_cases hi:i<ds.length
 .rw[Dy (by simpa using hi),jG]at e;obtain⟨v,e1,e2⟩:=h.get (jr hi);rw[jr hi]at e;cases e;refine⟨v,?_,Rep.hand (c:=⟨K,β,λ_=>none,G,True⟩) (c':=⟨K,β,H,G,True⟩) rfl rfl e2⟩;unfold L2.nC;rw[Dy (by rw[bW,<-h.length];exact hi),jG,e1];rfl
 .rw[YBv (by simpa using hi),JD]at e;split at e<;>cases e
  trivial
def j8(F:bZ K x qual st f fd)
  (hB:∀{cdv:Value}{A:Around}{outer:List PySem.Env}{s:Shared}{H:Hp}{E:XK}{β:Addr}{G:Hp},N.Nodup->bD k (A.deeper (PyProof.Rows.envOfC qual (gC st) s.heap.objs.size f cdv)) ->
   rG (di cR P w K mg base N qual (gC st) f cdv A outer s H E).nox ⟨K,β,H,G,True⟩ (nW st) B) (qj:cZ N ps (gC st):=by exact⟨rfl,rfl,rfl,by decide +kernel,rfl,by decide +kernel,by decide +kernel⟩):aM P w K mg base cR (k+1) f fd ps (dh K ps.length (eG N.length B)):=by
 refine F.ok qj (λvs H Q E ⟨β,G,ds,_,_,_,h,_⟩=>h) (λcdv A outer s H vs Q E hr ⟨β,G,ds,gh,bx,hv,hl,P',q,hP⟩=>?_);have h:=@hB cdv A outer s H E β G qj.nd hr;refine⟨_,h.pss,fH N.length ds,G,Jr gh bx hv,h.mono {nx:=λ_=>P' .non,rt:=P',bk:=λ_=>False,ct:=λ_=>False} _ _ ⟨λS z Z H' G' r s'=>hP _ z .non H' G' r.stp rfl,λd z v H' G' t e=>hP _ z v H' G' t e,λS z=>z.elim,λS z=>z.elim⟩ q⟩
end
def eE(sub:List (Option Nat))(S:Env):Env:=sub.map λo=>match o with
 |some j=>(match S[j]? with|some (.val d)=>.val d|_=>.un)
 |none=>.un
def zpN(sub:List (Option Nat))(r:Rel c S Z H G):Rel c (eE sub S) (pF sub Z) H G:=by
 have noOwn:∀(i:Nat) xs,(eE sub S)[i]?≠some (.own xs):=λi xs e=>by
  unfold eE at e;rw[jG]at e;cases h:sub[i]? with
  |none=>rw[h]at e;cases e
  |some o=>
   rw[h]at e;cases o with
   |none=>cases e
   |some j=>
    simp only[YC8,YCT]at e;split at e<;>cases e
 refine⟨by unfold eE pF;simp,r.stp,λi s e=>?_,λi j a xs ys e1=>absurd e1 (noOwn i xs),r.kn⟩;unfold eE at e;rw[jG]at e;cases h:sub[i]? with
 |none=>rw[h]at e;cases e
 |some o=>
  rw[h]at e;cases o with
  |none=>cases e;trivial
  |some j=>
   simp only[YC8,YCT]at e;split at e
   .rename_i d hd
    subst e;obtain⟨v,h1,h2⟩:=r.slot j _ hd;refine⟨v,?_,h2⟩;unfold pF;rw[jG,h];show some ((Z[j]?).join)=_;rw[h1];rfl
   .subst e;trivial
mutual
def wW(sub:List (Option Nat)):Tg->Bool
 |.nm i=>decide (sub[i]?=some none)
 |.tp _ ts=>vK sub ts
def vK(sub:List (Option Nat)):xO->Bool
 |.nil=>true
 |.cons t ts=>wW sub t&&vK sub ts
end
mutual
theorem De(K:qo):∀t:Tg,xP (lE K t)
 |.nm i=>by unfold lE;exact zsG
 |.tp n ts=>by unfold lE;exact ztv (zpc K ts)
theorem zpc(K:qo):∀t:xO,DK (lw K t)
 |.nil=>by unfold lw;exact zsK
 |.cons t ts=>by unfold lw;exact zp6 (De K t) (zpc K ts)
end
mutual
theorem JK(K:qo)(sub:List (Option Nat)):∀t:Tg,wW sub t=true->yQ sub (lE K t)
 |.nm i,h=>by unfold lE;unfold wW at h;exact zsS (YAD h)
 |.tp n ts,h=>by unfold lE;unfold wW at h;exact zuH (zqZ K sub ts h)
theorem zqZ(K:qo)(sub:List (Option Nat)):∀t:xO,vK sub t=true->Fb sub (lw K t)
 |.nil,_=>by unfold lw;exact zs4
 |.cons t ts,h=>by
  unfold lw;unfold vK at h;have h':=(YAB _ _▸h:wW sub t=true/\vK sub ts=true);exact zpS (JK K sub t h'.1) (De K t) (zqZ K sub ts h'.2) (zpc K ts)
end
def lD(t:Tg)(C:WT)(E:WE)(Sc:Env)(Q:List D->Prop):List D->List D->Prop
 |[],acc=>Q acc
 |x::xs,acc=>gD t x Sc λS2=>C S2 λb=>if b=true then E S2 λd=>lD t C E Sc Q xs (acc++[d])else lD t C E Sc Q xs acc
theorem zfH(mC:wF C)(mE:jm E)(k:∀xs,Q xs->Q' xs):∀xs acc,lD t C E Sc Q xs acc->lD t C E Sc Q' xs acc
 |[],acc,q=>k _ q
 |x::xs,acc,q=>tK t x Sc (λS2 z=>mC S2 _ _ (λb z=>by
  cases b
  .exact zfH mC mE k xs acc z
  .exact mE S2 _ _ (λd z=>zfH mC mE k xs _ z) z) z) q
abbrev eY(sub:List (Option Nat))(I:WL)(t:Tg)(C:WT)(E:WE):WL:=λS Q=>I S λxs=>xs.length<=100000/\lD t C E (eE sub S) Q xs []
def zeu(mI:rN I)(mC:wF C)(mE:jm E):rN (eY sub I t C E):=λS Q Q' k q=>mI S _ _ (λxs z=>⟨z.1,zfH mC mE k xs [] z.2⟩) q
def aX.wr(s:aX β H G H' G')(h0:H l=none)(hg:G' l=none)(hb:l≠β):aX β H G (upd H' l o) G':=
 ⟨s.gg,λa u e=>by rw[au (λz=>by rw[z,hg]at e;cases e)];exact s.gh a u e,λa u n e=>by rw[au (λz=>by rw[z,h0]at e;cases e)];exact s.fr a u n e,s.nw,
 ⟨by obtain⟨cc,p,r,d,ns,h,q⟩:=s.bx.ex;exact⟨cc,p,r,d,ns,by rw[au (YAM hb)];exact h,q⟩,s.bx.still⟩,s.b0,λcc p r d h=>by
  obtain⟨p',r',d',e⟩:=s.bc cc p r d h;exact⟨p',r',d',by rw[au (YAM hb)];exact e⟩⟩
def aX.still_none(s:aX β H G H' G')(h:H l=some o)(hg:G l=none)(hs:¬ wJ o:=by exact id):G' l=none:=by
 cases e:G' l with
 |none=>rfl
 |some u=>
  rcases s.nw l (by rw[e];simp)with z|z|⟨o',z,st⟩
  .exact absurd hg z
  .rw[h]at z;cases z
  .rw[h]at z;cases z;exact absurd st hs
def zfk(mI:rN I)(mC:wF C)(mE:jm E)(Z:St)(H:Hp)(Q:VK)(h:tDf c (eY sub I t C E) Z H Q) :
  zlK sub (tDI c I) (lE c.K t) (Dw c C) (tD c E) Z H Q:=by
 obtain⟨S,G,r,q⟩:=h;refine⟨S,G,r,mI S _ _ (λxs ⟨hz,z⟩ J H1 G1 t1 it l hl=>?_) q⟩;have hb:l≠c.β:=(r.step t1).neβ hl;have hg1:G1 l=none:=lQ t1.gh hl;refine⟨λi m ys H2=>m=xs.length-i/\i<=xs.length/\ys.length<=i/\H2 l=some (.lst ys)/\∃G2 acc,aX c.β H1 G1 H2 G2/\G2 l=none/\aG c G2 acc ys /\
  lD t C E (eE sub S) (λds=>∀l vs H' G',aX c.β H G H' G'->H' l=some (.lst vs)->G' l=none->H l=none->aG c G' ds vs->Q (.ref l) H') (xs.drop i) acc,
  ⟨xs.length,rfl,vX _,dJ _,cH,G1,[],aX.own t1.gh t1.bx hl,hg1,rfl,z⟩,?_⟩
 rintro i m ys H2 ⟨rfl,hi,hyl,h2,G2,acc,t2,hg2,hv,q2⟩;refine⟨h2,?_⟩;have r2:=(r.step t1).step t2;have ok:=it i H2 G2 t2.gg t2.gh t2.bx (λa z=>r2.new0 z);by_cases hlt:i<xs.length
 .refine .inr ?_;rw[YBE hlt]at q2;obtain⟨go,yl⟩:=ok.2 xs[i] (jr hlt);refine⟨go,λys' H3=>ys'.length<=i+1/\H3 l=some (.lst ys')/\∃G3 acc',aX c.β H1 G1 H3 G3/\G3 l=none/\aG c G3 acc' ys'/\lD t C E (eE sub S) (λds=>∀l vs H' G',aX c.β H G H' G'->H' l=some (.lst vs)->G' l=none->H l=none->aG c G' ds vs->Q (.ref l) H') (xs.drop (i+1)) acc',
   λys' H3 ⟨a1,a2,a3⟩=>⟨xs.length-(i+1),by omega,rfl,by omega,a1,a2,a3⟩,λx H3 y=>?_⟩
  obtain⟨G3,t3,e3⟩:=yl x H3 y;have h3:H3 l=some (.lst ys):=t3.fr l _ hb h2;have hg3:G3 l=none:=t3.still_none h2 hg2;have t13:=t2.trans t3;refine CN t xs[i] x (eE sub S) (pF sub Z) (zpN sub ((r.step t1).step t13)) e3 (tK t xs[i] _ (λS2 z2 Z2 rr=>?_) q2);refine⟨S2,G3,rr,mC S2 _ _ (λb z3 H4 G4 t4=>?_) z2⟩;have h4:H4 l=some (.lst ys):=t4.fr l _ hb h3;have hg4:G4 l=none:=t4.still_none h3 hg3;have t14:=t13.trans t4;cases b
  .exact⟨YCU hyl,h4,G4,acc,t14,hg4,(hv.mono t3.gg).mono t4.gg,z3⟩
  .refine⟨S2,G4,rr.step t4,mE S2 _ _ (λd z4 y H5 G5 t5 e5=>?_) z3⟩;have h5:H5 l=some (.lst ys):=t5.fr l _ hb h4;have hg5:G5 l=none:=t5.still_none h4 hg4;refine⟨h5,?_,by rw[iU];exact Nat.add_le_add_right hyl 1,cH,G5,acc++[d],(t14.trans t5).wr hl hg5 hb,hg5,(((hv.mono t3.gg).mono t4.gg).mono t5.gg).append (.one e5),z4⟩
   have:=fM (dJ 100000)
   omega
 .have e:i=xs.length:=by omega
  subst e;rw[YC1]at q2;exact .inl ⟨ok.1 rfl,q2 l ys H2 G2 (t1.trans t2) h2 hg2 (t1.free hl) hv⟩
structure Ex(X:Cx)(c:Bk)(ifs:List Expr)(C:WT):Prop where
 mono:wF C
 pf:qQ X ifs (Dw c C)
abbrev cW:WT:=λ_ Q=>Q true
section
variable{X:Cx}{c:Bk}{tg iter elt e:Expr}{ifs:List Expr}{scope:Scope}{pos p spos:Pos}{Nc:List Str}{sub:List (Option Nat)}{I:WL}{C:WT}{E:WE}
def qR:Ex X c [] cW:=⟨λS Q Q' k q=>k _ q,λaa s Z H Q I ⟨S,G,r,q⟩=>pif0 aa s Z H Q I (q H G r.refl)⟩
def vm(h:DT X c e C):Ex X c [e] C:=⟨h.mono,pif1 h.pt⟩
def nR(t:Tg)(hI:DI X c tg iter I)(hg:∀{cl L s0 H0 ex},PG (gQ X Nc scope cl L s0 H0 ex) tg (lE c.K t))(hC:∀{cl L s0 H0 ex},Ex (gQ X Nc scope cl L s0 H0 ex) c ifs C)(hE:∀{cl L s0 H0 ex},DE (gQ X Nc scope cl L s0 H0 ex) c elt E)
  (hS:Eh X.N X.env.scope scope Nc sub=true:=by kernel_rfl) (hok:wW sub t=true:=by decide +kernel) (hc:X.calm=true:=by rfl) (hs:∀x,foldedSetIterable iter X.env x=pure x:=by intro _;rfl) :
  DF X c (.ListComp elt [⟨tg,iter,ifs,0⟩] scope pos) (eY sub I t C E):=
 have mC:=(@hC [] 0 X.s₀ (λ_=>none) []).mono;have mE:=(@hE [] 0 X.s₀ (λ_=>none) []).mono
 ⟨zeu hI.mono mC mE,dM (zpv hc (bR.of hS) hI.pi (λcl L s0 H0 ex=>@hg cl L s0 H0 ex) (JK c.K sub t hok) (De c.K t) (λcl L s0 H0 ex=>(@hC cl L s0 H0 ex).pf) (λcl L s0 H0 ex=>(@hE cl L s0 H0 ex).pe) hs) (zfk hI.mono mC mE)⟩
def zmg(i:Nat)(t:Tg)(hI:DI X c tg iter I)(hg:∀{cl L s0 H0 ex},PG (gQ X Nc scope cl L s0 H0 ex) tg (lE c.K t))(hC:∀{cl L s0 H0 ex},Ex (gQ X Nc scope cl L s0 H0 ex) c ifs C)(hE:∀{cl L s0 H0 ex},DE (gQ X Nc scope cl L s0 H0 ex) c elt E)(hi:X.N[i]?=some x:=by rfl)(hy:X.env.scope.names.lookup x=some .local:=by rfl)(hS:Eh X.N X.env.scope scope Nc sub=true:=by kernel_rfl)(hok:wW sub t=true:=by decide +kernel)(hc:X.calm=true:=by rfl)(hsw:swapsWith (.ListComp elt [⟨tg,iter,ifs,0⟩] scope pos) (some (.Name x p)) spos.line X.env=pure true:=by rfl)(hs:∀x,foldedSetIterable iter X.env x=pure x:=by intro _;rfl)(hN:X.N.Nodup:=by decreasing_trivial) :
  DS X c (.Assign [.Name x p] (.ListComp elt [⟨tg,iter,ifs,0⟩] scope pos) spos) (aP (.nm i) (aN (eY sub I t C E))):=by
 have mC:=(@hC [] 0 X.s₀ (λ_=>none) []).mono;have mE:=(@hE [] 0 X.s₀ (λ_=>none) []).mono;have mL:=zeu (sub:=sub) (t:=t) hI.mono mC mE;have mV:jm (aN (eY sub I t C E)):=λS Q Q' k q=>mL S _ _ (λxs z=>k _ z) q;refine⟨zhW mV,kY (zou hc hN hi hy (bR.of hS) hI.pi (λcl L s0 H0 ex=>@hg cl L s0 H0 ex) (JK c.K sub t hok) (De c.K t) (λcl L s0 H0 ex=>(@hC cl L s0 H0 ex).pf) (λcl L s0 H0 ex=>(@hE cl L s0 H0 ex).pe) hsw hs) λD Z H ⟨S,G,r,q⟩=>?_⟩;refine zfk hI.mono mC mE Z H _ ⟨S,G,r,mL S _ _ (λxs z l vs H' G' t hl hg h0 hv=>?_) q⟩;have hb:=r.neβ h0;exact z (Z.set i (some (.ref l))) H' (upd G' l (.lst vs)) ((r.step (t.still hl h0 hb hg)).put ⟨l,vs,rfl,cH,λ_=>r.new0 h0,hv.mono (pB hg)⟩) (t.gg.trans (pB hg))
def zrq(i:Nat)(t:Tg)(hI:DI X c tg iter I)(hg:∀{cl L s0 H0 ex},PG (gQ X Nc scope cl L s0 H0 ex) tg (lE c.K t))(hC:∀{cl L s0 H0 ex},Ex (gQ X Nc scope cl L s0 H0 ex) c ifs C)(hE:∀{cl L s0 H0 ex},DE (gQ X Nc scope cl L s0 H0 ex) c elt E)(hi:X.N[i]?=some x:=by rfl)(hy:X.env.scope.names.lookup x=some .local:=by rfl)(hS:Eh X.N X.env.scope scope Nc sub=true:=by kernel_rfl)(hok:wW sub t=true:=by decide +kernel)(hc:X.calm=true:=by rfl)(hsw:swapsWith (.ListComp elt [⟨tg,iter,ifs,0⟩] scope pos) (some (.Name x p)) spos.line X.env=pure true:=by rfl)(hs:∀x,foldedSetIterable iter X.env x=pure x:=by intro _;rfl)(hN:X.N.Nodup:=by decreasing_trivial) :
  DS X c (.Assign [.Name x p] (.ListComp elt [⟨tg,iter,ifs,0⟩] scope pos) spos) (lq i (eY sub I t C E)):=by
 have mC:=(@hC [] 0 X.s₀ (λ_=>none) []).mono;have mE:=(@hE [] 0 X.s₀ (λ_=>none) []).mono;have mL:=zeu (sub:=sub) (t:=t) hI.mono mC mE;refine⟨zmj mL,kY (zou hc hN hi hy (bR.of hS) hI.pi (λcl L s0 H0 ex=>@hg cl L s0 H0 ex) (JK c.K sub t hok) (De c.K t) (λcl L s0 H0 ex=>(@hC cl L s0 H0 ex).pf) (λcl L s0 H0 ex=>(@hE cl L s0 H0 ex).pe) hsw hs) λD Z H h=>?_⟩;exact zfk hI.mono mC mE Z H _ (zlT mL D Z H h)
end
structure Bt(mg:Str->Option Value):Prop where
 list:mg "list"=none
 len:mg "len"=none
 range:mg "range"=none
 all:mg "all"=none
 any:mg "any"=none
 isinstance:mg "isinstance"=none
 tuple:mg "tuple"=none
 bool:mg "bool"=none
 int:mg "int"=none
 str:mg "str"=none
 sorted:mg "sorted"=none
 set:mg "set"=none
 zip:mg "zip"=none
 enumerate:mg "enumerate"=none
 min:mg "min"=none
 max:mg "max"=none
def dg:Fn
 |[.box,.int m],Q=>(0<m/\m<2^64)/\∀x:Int,0<=x->x<m->Q (.int x)
 |_,_=>False
end Fd
namespace Fen
open PySem L2
def nY(b:Addr)(H H':Hp):Prop:=∀a o,a≠b->H a=some o->H' a=some o
def nY.refl(b:Addr)(H:Hp):nY b H H:=λ_ _ _ h=>h
def nY.trans(x:nY b H H1)(y:nY b H1 H2):nY b H H2:=λa o n h=>y a o n (x a o n h)
theorem nY.upd:nY b H (upd H b o):=λa _ n h=>by rw[au n];exact h
def vz(c:Addr)(p r d:Int):HO:=.lst [.ref c,.int p,.int r,.int d]
structure yE(H:Hp)(b c:Addr)(ns:List Int):Prop where
 ex:∃p r d:Int,H b=some (vz c p r d)/\0<=p/\0<=r/\0<=d/\d<2147483629
 cells:H c=some (.lst (ns.map V.int))
 few:ns.length<=63
def yE.ne(x:yE H b c ns):b≠c:=λz=>by
 obtain⟨p,r,d,e,_⟩:=x.ex;have q:=x.cells;rw[<-z,e]at q;have q':([V.ref c,.int p,.int r,.int d]:List V)=ns.map V.int:=by injection q with q;injection q
 cases ns with
 |nil=>cases q'
 |cons n r=>simp at q'
def yE.put(x:yE H b c ns)(hp:0<=p)(hr:0<=r)(h0:0<=d)(h1:d<2147483629):yE (upd H b (vz c p r d)) b c ns:=
 ⟨⟨p,r,d,cH,hp,hr,h0,h1⟩,by rw[au x.ne.symm];exact x.cells,x.few⟩
def zsh(K:qo):Sp:=λvs H Q _=>∃(a:Addr)(ns:List Int),vs=[.ref a]/\cA K H a (ns.map V.int)/\ns.length<=63/\∀b c H',H b=none->yE H' b c ns->Same H H'->Q (.ref b) H'
def ztC:Sp:=λvs H Q _=>∃(b c:Addr)(ns:List Int)(m:Int),vs=[.ref b,.int m]/\yE H b c ns/\0<m/\m<2^64/\∀(x:Int) H',0<=x->x<m->yE H' b c ns->nY b H H'->Q (.int x) H'
structure Txt(K:qo)(mg:Str->Option Value):Prop where
 list:mg "list"=none
 len:mg "len"=none
 range:mg "range"=none
def zvF{ns:List Int}(h:ns.length<=63):jO (ns.map V.int) none (some 63)=ns.map V.int:=by
 unfold jO;have e:HT.bY (ns.map V.int).length (ns.map V.int).length (some 63)=ns.length:=by
  rw[show(63:Int)=((63:Nat):Int)from rfl,HT.jx,bW];omega
 rw[e,HT.uP,List.drop_zero,Nat.sub_zero];exact YCd (by simp)
end Fen
namespace L2
open PySem PySem.Spec PyProof.Rows
section
variable{X:Cx}
theorem zi2:∀l:List (Str×Tok),Vals ((l.map (·.1)).map V.str) (strValues l)
 |[]=>.nil
 |p::l=>.cons ⟨p.2,rfl⟩ (zi2 l)
theorem zjt:∀{ts:List Str}{us:List Value},Vals (ts.map V.str) us->∃l:List (Str×Tok),l.map (·.1)=ts/\us=strValues l
 |[],_,.nil=>⟨[],rfl,rfl⟩
 |t::ts,_,.cons ⟨k,e⟩ r=>by
  subst e;obtain⟨l,h1,h2⟩:=zjt r;exact⟨(t,k)::l,by simp[h1],by subst h2;rfl⟩
def zqX:V->List V->Hp->VK->Prop:=λx xs H Q=>∃a b,x=.str a/\xs=[.str b]/\b.length≠0/\a.length<=100000/\∀p,H p=none->Q (.ref p) (upd H p (.lst ((Txt.split a b).map V.str)))
def zqr:Jt X "str.split" zqX:=by
 intro aa s Z H x xs v us Q I rx rv h;obtain⟨a,b,rfl,rfl,hb,ha,q⟩:=h;obtain⟨t,rfl⟩:=rx;obtain⟨u,rfl,t2,rfl⟩:=qK rv;have hz:(Txt.split a b).length<=sizeLine:=by
  have:=split_le a b
  rw[mG];omega
 have ha':a.length<=sizeLine:=by rw[mG];omega
 have hy:(b.length==0)=false:=by simp[hb]
 have fin:∀(l:List (Str×Tok))(k:Nat),l.map (·.1)=Txt.split a b->EP X aa Z Q (.ref s.heap.objs.size) {s with heap:=s.heap.push {cls:=.type "list",data:=.seq (strValues l).toArray},toks:=k}:=λl k e=>
  ⟨.ref _,_,I.lnew (its:=strValues l) (t':=k) (zi2 l) (by rw[e,bW];exact hz),rfl,by rw[e];exact q _ I.fresh⟩
 cases h1:(decide (a.length<b.length) || decide (Builtin.Str.strKind a<Builtin.Str.strKind b))
 .cases hf:(Builtin.Str.occurrences a b 0 a.length (a.length+1)).isEmpty
  .have e:Txt.split a b=Builtin.Str.partsBetween a (Builtin.Str.occurrences a b 0 a.length (a.length+1)) b.length:=(if_neg (YCF h1)).trans (if_neg (YCF hf));refine Bs YC2 (Cy _ _ _) YCV (YCJ _ _) (meets_str_split_sep a b t t2 h1 hy hf ha' (by rw[<-e];exact hz)) ?_;rw[strsFrom_eq];exact fin _ _ ((numbered_texts _ _).trans e.symm)
  .exact Bs YC2 (Cy _ _ _) YCV (YCJ _ _) (meets_str_split_not_found a b t t2 h1 hy hf)
    (fin [(a,t)] s.toks ((if_neg (YCF h1)).trans (if_pos hf)).symm)
 .exact Bs YC2 (Cy _ _ _) YCV (YCJ _ _) (meets_str_split_cannot_occur a b t t2 h1)
   (fin [(a,t)] s.toks (if_pos h1).symm)
def zu1(K:qo):V->List V->Hp->VK->Prop:=λx xs H Q=>∃a p ts,x=.str a/\xs=[.ref p]/\cA K H p (ts.map V.str)/\(∀t∈ts,t.length<=2000)/\ts.length<=2000/\a.length<=1000/\Q (.str (Str.join a ts)) H
def zrB:Jt X "str.join" (zu1 X.K):=by
 intro aa s Z H x xs v us Q I rx rv h;obtain⟨a,p,ts,rfl,rfl,hl,h1,h2,h3,q⟩:=h;obtain⟨t,rfl⟩:=rx;obtain⟨u,rfl,ru⟩:=qK rv;cases ru;obtain⟨its,rv,pl,_⟩:=I.list hl;obtain⟨l,e1,e2⟩:=zjt rv;subst e2;refine SC.join pl.isList e1 ?_ λt' k=>?_
 .have:=YCM h2 (dJ 2000)
  have:=YCM h2 h3
  unfold JoinOk;rw[StrLaws.joinFits (B:=2000) h1 (by omega)];rfl
 .rw[show Txt.join a ts=Str.join a ts from StrLaws.glued_eq_join a ts];exact⟨.str _,H,I.tok k,⟨t',rfl⟩,q⟩
def zju:cU X (.type "int") (λxs H Q=>∃x n,xs=[.str x]/\x.length<=640/\PySem.intText? x=some n/\Q (.int n) H):=by
 intro aa s Z H xs us Q I r h;obtain⟨x,n,rfl,hz,hn,q⟩:=h;obtain⟨u,rfl,t,rfl⟩:=qK r;exact PySem.W.KIN.call_text hn hz ⟨.int n,H,I.tok _,⟨_,rfl⟩,q⟩
def Its(x:Str):It:=⟨λi _=>i<x.length,λi H v H'=>H'=H/\∃c,x.cps[i]?=some c/\v=.str ⟨#[c]⟩,λi _=>x.length<=i⟩
def zpE{P:Program}{w:World}{K:qo}{tg:Expr}(x:Str)(t:Tok)(ty:String)(hty:ty="str_ascii_iterator" \/ ty="str_iterator")(it:Addr):Turn P w K tg (Its x) [it] it (λi h=>h.IsStrIter it ty x t i)where
 mem:=by simp
 obj:=λi h st b hb=>by
  have e:b=it:=by simpa using hb
  subst e;obtain⟨o,e,c,d⟩:=st;exact⟨o,e,λv z=>by rw[d]at z;cases z⟩
 keep:=λi h h' ⟨o,e,r⟩ k=>⟨o,k it (by simp) o e,r⟩
 item:=by
  intro X hP hw hK hc i aa s Z H E I hf st hg;subst hP hw hK;have hg:i<x.length:=hg;obtain⟨f0,f1,f2,f3,f4,f5⟩:=hf it (by simp);have hx:x.cps[i]?=some x.cps[i]:=HR hg;have fin:∀h',h'.IsStrIter it ty x t (i+1)->Heap.SameBut it s.heap h'->∃u,some (Value.str ⟨#[x.cps[i]]⟩ s.toks)=some u /\
   wpAny (model X.prog X.w) X.A (letOwnedTupleGo tg (.ref it) u) (λ_ s2=>∃x' H',Inv X aa Z H' s2/\RelV x' u/\(Its x).yld i H x' H'/\s2.heap.IsStrIter it ty x t (i+1)/\∀b∈[it],H' b=none) E {s with heap:=h',toks:=s.toks+1}:=λh' st' sb=>by
   have I1:Inv X aa Z H {s with heap:=h',toks:=s.toks+1}:=I.turned (t':=s.toks+1) (λb o hb e=>(sb.2 b hb).trans e) f0 f1 f3 f4 f5;obtain⟨o,e,c,d⟩:=id st';exact⟨_,rfl,Ei (s:={s with heap:=h',toks:=s.toks+1}) e c d (by rcases hty with rfl|rfl<;>decide) ⟨.str _,H,I1,⟨_,rfl⟩,⟨rfl,_,hx,rfl⟩,st',λb hb=>(hf b hb).1⟩⟩
  rcases hty with rfl|rfl
  .exact wpAny_pyNext_ascii_item st hx fin
  .exact wpAny_pyNext_wide_item st hx fin
 done:=by
  intro X hP hw hK hc i aa s Z H E I hf st hg;subst hP hw hK;have hg:x.length<=i:=hg;obtain⟨f0,f1,f2,f3,f4,f5⟩:=hf it (by simp);have hx:x.cps[i]?=none:=Array.getElem?_eq_none hg;rcases hty with rfl|rfl
  .exact wpAny_pyNext_ascii_end (I.ok.hd hc) st hx λh' eb=>⟨rfl,I.turned (t':=s.toks) (λb o hb e=>eb b o hb e) f0 f1 f3 f4 f5⟩
  .exact wpAny_pyNext_wide_end (I.ok.hd hc) st hx λh' eb=>⟨rfl,I.turned (t':=s.toks) (λb o hb e=>eb b o hb e) f0 f1 f3 f4 f5⟩
 self:=λ_ _ _ _ _ st h=>by
  rcases hty with rfl|rfl
  .exact wpAny_pyIter_striter_ascii st h
  .exact wpAny_pyIter_striter_wide st h
def iI(z:Str)(lo hi:Option Int):Str:=⟨((z.cps.toList.drop (HT.bY z.length 0 lo)).take (HT.bY z.length z.length hi-HT.bY z.length 0 lo)).toArray⟩
def zly(n:Nat):∀(o:Option Int)(d:Nat),d<=n->(∀v,o=some v->v<=n\/0<=v)->HT.bY n d o<=n
 |none,_,h,_=>h
 |some v,_,_,_=>by
  show(if v<0 then(v+(n:Int)).toNat else min v.toNat n)<=n;split<;>omega
def zn5(n d:Nat)(o:Option Int)(hd:d<=n):(match o with|none=>(d:Int)|some i=>max 0 (min (if i<0 then i+(n:Int)else i) (n:Int)))=(HT.bY n d o:Int):=by
 cases o with
 |none=>rfl
 |some v=>
  show max 0 (min (if v<0 then v+(n:Int)else v) (n:Int))=((if v<0 then(v+(n:Int)).toNat else min v.toNat n:Nat):Int);split<;>omega
def znX(n:Nat)(lo hi:Option Int):Builtin.Str.strSliceIndices lo hi 1 n=sliceRange (HT.bY n 0 lo:Int) (HT.bY n n hi:Int) 1:=by
 have a:=zn5 n 0 lo (vX _);have b:=zn5 n n hi (dJ _);unfold Builtin.Str.strSliceIndices;simp only[show(1:Int)>0 from by decide,uB];rw[<-a,<-b];rfl
def znO(z:Str)(lo hi:Option Int):Txt.slice z lo hi=iI z lo hi:=by
 have ha:HT.bY z.length 0 lo<=z.length:=zly _ _ _ (vX _) λv _=>by omega
 have hb:HT.bY z.length z.length hi<=z.length:=zly _ _ _ (dJ _) λv _=>by omega
 unfold iI;by_cases h:HT.bY z.length 0 lo<=HT.bY z.length z.length hi
 .have q:=StrLaws.sliceText_nat z h hb;rw[<-q];have e:Builtin.Str.strSliceIndices lo hi 1 z.length=Builtin.Str.strSliceIndices (some (HT.bY z.length 0 lo:Int)) (some (HT.bY z.length z.length hi:Int)) 1 z.length:=by
   rw[znX,znX,HT.jx,HT.jx,YCG ha,YCG hb]
  show StrLaws.sliceText z lo hi=_;unfold StrLaws.sliceText;rw[e]
 .have e:Builtin.Str.strSliceIndices lo hi 1 z.length=[]:=by
   rw[znX];unfold sliceRange;simp only[show(1:Int)>0 from by decide,uB];rw[if_neg (by omega)];rfl
  have t:(HT.bY z.length z.length hi-HT.bY z.length 0 lo)=0:=by omega
  rw[t,List.take_zero];show StrLaws.sliceText z lo hi=_;unfold StrLaws.sliceText;rw[e];have nz:z.length≠0:=by omega
  simp[YAM nz]
def rSlS:V->Option Int->Option Int->Hp->VK->Prop:=λx lo hi H Q=>∃z,x=.str z/\z.length<=100000/\Q (.str (iI z lo hi)) H
def znt(h:IsPart v o):∃l:Option (Int×Tok),v=partValue l/\l.map (·.1)=o:=by
 cases h with
 |none=>exact⟨none,rfl,rfl⟩
 |int i t=>exact⟨some (i,t),rfl,rfl⟩
def zvd:yf X rSlS:=by
 intro aa s Z H x v vl vu lo hi sl Q I rx hs pl pu h;obtain⟨z,rfl,hz,q⟩:=h;obtain⟨t,rfl⟩:=rx;obtain⟨l,rfl,rfl⟩:=znt pl;obtain⟨u,rfl,rfl⟩:=znt pu;refine⟨"str",_,F.slot_str_getitem.lookup,Cy _ _ _,wpAny_getItem_str_slice (l:=l) (u:=u) (st:=none) hs rfl (post_val_or_str ⟨?_,λt' k=>?_⟩)⟩
 .exact iu (Txt.slice_le z _ _) (by rw[mG];omega)
 .exact⟨.str _,H,I.tok k,⟨t',rfl⟩,by rw[<-znO]at q;exact q⟩
end
noncomputable def Itx(tp tq:Bool)(K:qo)(a b:Addr):It:=
 ⟨λi H=>∃xs ys x y,SQ tp K H a xs/\SQ tq K H b ys/\xs[i]?=some x/\ys[i]?=some y,
 λi H v H'=>∃t x y,H t=none/\v=.ref t/\H'=upd H t (.tup [x,y])/\(∀xs,SQ tp K H a xs->xs[i]?=some x)/\∀ys,SQ tq K H b ys->ys[i]?=some y,
 λi H=>∃xs ys,SQ tp K H a xs/\SQ tq K H b ys/\i=min xs.length ys.length⟩
def ZTx(tp tq:Bool)(z c d i j a b:Addr)(k:Nat)(h:Heap):Prop:=IsZip h z c d .none/\IsPair h c (.ref i) (.ref j)/\(∃u v,IsPair h d u v)/\yX tp h i a k/\yX tq h j b k
def znD{P:Program}{w:World}{K:qo}{es:List Expr}{x1:_}{pos:Pos}{tp tq:Bool}{z c d i j a b:Addr}(qg:yN z c d i j [i,a] [j,b])(na:a≠i)(nb:b≠j) :
  Turn P w K (.Tuple es x1 pos) (Itx tp tq K a b) [z,c,d,i,j] z (ZTx tp tq z c d i j a b)where
 mem:=by simp
 obj:=λk h st e he=>by
  obtain⟨h1,h2,⟨u,v,h3⟩,h4,h5⟩:=st;simp only[ir,lB,rK]at he;rcases he with rfl|rfl|rfl|rfl|rfl
  .exact⟨_,h1,λv q=>by cases q⟩
  .exact⟨_,h2,λv q=>by cases q⟩
  .exact⟨_,h3,λv q=>by cases q⟩
  .exact h4.obj
  .exact h5.obj
 keep:=λk h h' st q=>by
  obtain⟨h1,h2,⟨u,v,h3⟩,h4,h5⟩:=st;exact⟨q z (by simp) _ h1,q c (by simp) _ h2,⟨u,v,q d (by simp) _ h3⟩,h4.keep λo e=>q i (by simp) o e,h5.keep λo e=>q j (by simp) o e⟩
 item:=by
  intro X hP hw hK hc k aa s Z H E I hf st hg;subst hP hw hK;obtain⟨xs,ys,x,y,qa,qb,ex,ey⟩:=hg;obtain⟨ia,ra,ca,za⟩:=I.sq qa;obtain⟨ib,rb,cb,zb⟩:=I.sq qb;obtain⟨h1,h2,⟨u,v,h3⟩,h4,h5⟩:=st;have hh:X.A.in1.handled=none:=I.ok.hd hc;obtain⟨ux,eux,rux⟩:=ra.get ex;obtain⟨uy,euy,ruy⟩:=rb.get ey;have k1:k<ia.toArray.size:=by simpa using(jB.mp eux).1
  have k2:k<ib.toArray.size:=by simpa using(jB.mp euy).1
  refine zhj qg (HH tp hh i a na ia.toArray) (HH tq hh j b nb ib.toArray) h1 h2 h3 ⟨h4,ca⟩ ⟨h5,cb⟩ k1 k2 λvx vy h' tk t px py ht g1 g2 g3 g4 g5 kk=>⟨_,rfl,?_⟩;have ev:vx=ux:=by rw[List.getElem?_toArray,eux]at px;exact(Option.some.inj px).symm
  have ew:vy=uy:=by rw[List.getElem?_toArray,euy]at py;exact(Option.some.inj py).symm
  subst ev ew;refine wpAny_letOwnedTupleGo_zip g1 λh'' z' sb=>?_;have tz:t≠z:=λq=>by rw[q]at ht;exact absurd (dw h1) (by rw[ht];exact ud _)
  have hn:H t=none:=I.hok.fresh (by rw[ht];exact dJ _);have kp:∀b u,b∉[z,c,d,i,j]->s.heap.get? b=some u->h''.get? b=some u:=λb u hb e=>by
   simp only[ir,lB,rK,not_or]at hb;exact sb.extBut b u hb.1 (kk b u hb.1 hb.2.2.1 hb.2.2.2.1 hb.2.2.2.2 e)
  have I1:Inv X aa Z (upd H t (.tup [x,y])) {s with heap:=h'',toks:=tk}:=I.turnedLaid (ch:=[z,c,d,i,j]) kp hf (by rw[ht];exact dJ _)
   ⟨by show 2<=sizeLine;decide,[vx,vy],.cons rux (.cons ruy .nil),⟨_,sb.extBut _ _ tz g5,rfl,_,rfl⟩⟩
  refine⟨.ref t,_,I1,rfl,⟨t,x,y,hn,rfl,rfl,λxs' q=>by rw[I.sq_inj q qa];exact ex,λys' q=>by rw[I.sq_inj q qb];exact ey⟩,?_,λe he=>?_⟩
  .exact⟨z',sb.extBut _ _ qg.az (kk _ _ qg.az qg.ab qg.ai qg.aj h2),⟨_,_,sb.extBut _ _ qg.bz g2⟩,g3.1.keep λo e=>sb.extBut _ _ qg.iz e,g4.1.keep λo e=>sb.extBut _ _ qg.jz e⟩
  .have hlt:e<s.heap.objs.size:=by
    simp only[ir,lB,rK]at he;rcases he with rfl|rfl|rfl|rfl|rfl
    .exact dw h1
    .exact dw h2
    .exact dw h3
    .obtain⟨o,q,_⟩:=h4.obj;exact dw q
    .obtain⟨o,q,_⟩:=h5.obj;exact dw q
   rw[au (fK (by rw[ht];exact hlt))];exact(hf e he).1
 done:=by
  intro X hP hw hK hc k aa s Z H E I hf st hg;obtain⟨xs,ys,qa,qb,hx⟩:=hg;subst hP hw hK;obtain⟨ia,ra,ca,za⟩:=I.sq qa;obtain⟨ib,rb,cb,zb⟩:=I.sq qb;obtain⟨h1,h2,⟨u,v,h3⟩,h4,h5⟩:=st;have hh:X.A.in1.handled=none:=I.ok.hd hc;have l1:=ra.length;have l2:=rb.length;by_cases hle:xs.length<=ys.length
  .have hk:k=ia.toArray.size:=by simp;omega
   subst hk;refine zgH qg (HH tp hh i a na ia.toArray) h1 h2 ⟨h4,ca⟩ λh' kk=>⟨rfl,?_⟩;exact I.turnedAll (t':=s.toks) (ch:=[z,c,d,i,j]) (λb u hb e=>by
    simp only[ir,lB,rK,not_or]at hb;exact kk b u hb.1 hb.2.2.1 hb.2.2.2.1 hb.2.2.2.2 e) hf
  .have hk:k=ib.toArray.size:=by simp;omega
   subst hk;refine zf7 qg (HH tp hh i a na ia.toArray) (HH tq hh j b nb ib.toArray) h1 h2 h3 ⟨h4,ca⟩ ⟨h5,cb⟩ (by simp;omega) λh' tk kk=>⟨rfl,?_⟩;exact I.turnedAll (t':=tk) (ch:=[z,c,d,i,j]) (λb u hb e=>by
    simp only[ir,lB,rK,not_or]at hb;exact kk b u hb.1 hb.2.2.1 hb.2.2.2.1 hb.2.2.2.2 e) hf
 self:=λ_ _ _ _ _ st h=>wpAny_pyIter_zip st.1 h
def itN(tp:Bool):String:=match tp with|true => "tuple_iterator"|false => "list_iterator"
abbrev Ab(tp:Bool)(h:Heap)(l:Addr):Heap:=h.push {cls:=.type (itN tp),data:=.fields #[.ref l,.int 0 0]}
abbrev xzb(tp tq:Bool)(h:Heap)(l m:Addr):Heap:=Ab tq (Ab tp h l) m
abbrev xzc(tp tq:Bool)(h:Heap)(l m:Addr):Heap:=(xzb tp tq h l m).push {cls:=.type "tuple",data:=.seq #[.ref h.objs.size,.ref (Ab tp h l).objs.size]}
abbrev xzd(tp tq:Bool)(h:Heap)(l m:Addr):Heap:=(xzc tp tq h l m).push {cls:=.type "tuple",data:=.seq #[.none,.none]}
abbrev Do(tp tq:Bool)(h:Heap)(l m:Addr):Heap:=(xzd tp tq h l m).push {cls:=.type "zip",data:=.fields #[.none,.bool false,.bool false,.ref (xzb tp tq h l m).objs.size,.ref (xzc tp tq h l m).objs.size]}
def zvm(h:qF tp s.heap l xs)(q:Q (.ref s.heap.objs.size) {s with heap:=Ab tp s.heap l}):wpAny (model P w) A (pyIter (.ref l)) Q E s:=by
 cases tp
 .exact Jx h q
 .exact wpAny_pyIter_tuple h q
theorem qF.push(x:qF tp h l xs)(o:Obj):qF tp (h.push o) l xs:=by
 cases tp
 .exact Heap.IsList.push x o
 .exact Heap.IsTuple.push x o
def zmz(tp tq:Bool)(l m:Addr)(xs ys:Array Value) :
  Meets (Builtin.«zip.__new__» ⟨[.type "zip",.ref l,.ref m],[]⟩) (λ_ R s=>qF tp s.heap l xs/\qF tq s.heap m ys/\R (.ok (.ret (.ref (xzd tp tq s.heap l m).objs.size))) {s with heap:=Do tp tq s.heap l m}):=
 .of_wp λprog w A R s h=>by
  obtain⟨hp,g,d,tk,os⟩:=s;obtain⟨hl,hm,h⟩:=h;have hsub:=sub_zip;have h1:qF tp (Shared.heap ⟨hp,g,d,tk,os⟩) l xs:=hl;have h2:qF tq (Shared.heap ⟨Ab tp hp l,g,d,tk,os⟩) m ys:=qF.push hm _
  wp_walk using zvm h1,zvm h2
  exact⟨_,rfl,h⟩
def zoH(hl:qF tp s.heap l xs)(hm:qF tq s.heap m ys)
  (q:∀h',ZTx tp tq (s.heap.objs.size+4) (s.heap.objs.size+2) (s.heap.objs.size+3) s.heap.objs.size (s.heap.objs.size+1) l m 0 h'->(∀c o,s.heap.get? c=some o->h'.get? c=some o)->Q (.ref (s.heap.objs.size+4)) {s with heap:=h'}) :
  wpAny (model P w) A (call (.type "zip") [.ref l,.ref m]) Q E s:=by
 refine callType_new F.called_zip (by decide) (F.typeCall_zip_2 _ _) (F.newCall_zip_2 _ _) (λobj=>F.args_object_init_3 obj _ _) F.entry_zip_new (zmz tp tq l m xs ys) ⟨hl,hm,?_⟩;have y1:(Ab tp s.heap l).objs.size=s.heap.objs.size+1:=xJ ..;have y2:(xzb tp tq s.heap l m).objs.size=s.heap.objs.size+2:=by rw[xJ,y1]
 have y3:(xzc tp tq s.heap l m).objs.size=s.heap.objs.size+3:=by rw[xJ,y2]
 have y4:(xzd tp tq s.heap l m).objs.size=s.heap.objs.size+4:=by rw[xJ,y3]
 have g5:(Do tp tq s.heap l m).get? (xzd tp tq s.heap l m).objs.size=some _:=jF _ rfl;have g4:(Do tp tq s.heap l m).get? (xzc tp tq s.heap l m).objs.size=some _:=dO _ (jF _ rfl);have g3:(Do tp tq s.heap l m).get? (xzb tp tq s.heap l m).objs.size=some _:=dO _ (dO _ (jF _ rfl));have g2:(Do tp tq s.heap l m).get? (Ab tp s.heap l).objs.size=some _:=dO _ (dO _ (dO _ (jF _ rfl)));have g1:(Do tp tq s.heap l m).get? s.heap.objs.size=some _:=dO _ (dO _ (dO _ (dO _ (jF _ rfl))));show _/\_;rw[y2,y3,y4]at g5;rw[y1,y2]at g3;rw[y3]at g4;rw[y1]at g2;rw[y4];exact⟨⟨_,g5,rfl⟩,q _ ⟨g5,g3,⟨_,_,g4⟩,(by cases tp<;>exact⟨_,g1,rfl,rfl⟩),(by cases tq<;>exact⟨_,g2,rfl,rfl⟩)⟩ λc o x=>dO _ (dO _ (dO _ (dO _ (dO _ x))))⟩
def zvY(K:qo)(ta:TA):TI:=λZ H R=>ta Z H λvs H1=>∃(tp tq:Bool)(a b:Addr)(xs ys:List V),vs=[.ref a,.ref b]/\SQ tp K H1 a xs/\SQ tq K H1 b ys/\R (Itx tp tq K a b) H1
def zsf(hg:Gl X "zip")(hm:X.mg "zip"=none)(ha:PA X [a,b] ta)(hs:starEach [a,b] X.env=[(false,eval a X.env),(false,eval b X.env)]:=by rfl)(hs2:starEach [b] X.env=[(false,eval b X.env)]:=by rfl) :
  PI X (.Tuple es x1 tpos) (.Call (.Name "zip" p) [a,b] [] pos) (zvY X.K ta):=by
 intro aa s Z H R I h;refine Call_ (Eo I hg hm boot_zip (YBt (bF (ha pos aa s Z H _ I h) λus s1 ⟨vs,H1,I1,r1,q1⟩=>?_) (by rw[hs,hs2]) (by rw[hs2];rfl)));obtain⟨tp,tq,l,m,xs,ys,e,q1,q2,q⟩:=q1;subst e;obtain⟨u,v,rfl,ru,rv⟩:=zrD r1;cases ru;cases rv;obtain⟨ia,ra,ca,za⟩:=I1.sq q1;obtain⟨ib,rb,cb,zb⟩:=I1.sq q2;have lt1:=ca.lt;have lt2:=cb.lt;refine zoH ca cb λh' zt kk=>?_;refine wpAny_pyIter_zip zt.1 ?_;have I2:Inv X aa Z H1 {s1 with heap:=h'}:=I1.kept (t':=s1.toks) kk;refine⟨_,[s1.heap.objs.size+4,s1.heap.objs.size+2,s1.heap.objs.size+3,s1.heap.objs.size,s1.heap.objs.size+1],_,_,H1,rfl,I2,znD (zuf _ _ _ lt1 lt2) (fK lt1) (fK (YCj lt2)),zt,λc hc=>?_,q⟩;have hle:s1.heap.objs.size<=c:=by
  simp only[ir,lB,rK]at hc;rcases hc with rfl|rfl|rfl|rfl|rfl
  .exact Js _ _
  .exact Js _ _
  .exact Js _ _
  .exact dJ _
  .exact Js _ _
 exact I1.fpOk hle (I1.hok.fresh hle)
end L2
namespace Fd
open PySem L2
section
variable{X:Cx}{c:Bk}{a b:Expr}{A B:WE}{pos p tpos:Pos}{es:List Expr}
def ztL(A B:WE):WL:=λS Q=>A S λx=>B S λy=>qx x λxs=>qx y λys=>Q (iH xs ys)
def ziC(e:Same G H2)(h:SQ tp K G l vs):SQ tp K H2 l vs:=by
 cases tp
 .exact e.seq h
 .exact qp e h
def zsv(hl:SQ tp c.K G l vs)(hm:SQ tq c.K G m ws)(hv:aG c G xs vs)(hw:aG c G ys ws):qC c (Itx tp tq c.K l m) (iH xs ys) G:=by
 intro i H2 G2 s1 s2 bx h0;have ql:=ziC (s1.trans s2) hl;have qm:=ziC (s1.trans s2) hm;refine⟨λe=>⟨vs,ws,ql,qm,by rw[e,zlz,hv.length,hw.length]⟩,λd e=>?_⟩;obtain⟨x,y,ex,ey,rfl⟩:=zma e;obtain⟨v,e1,r1⟩:=hv.get ex;obtain⟨w,e2,r2⟩:=hw.get ey;refine⟨⟨vs,ws,v,w,ql,qm,e1,e2⟩,λz H3 yl=>?_⟩;obtain⟨t,x',y',ht,rfl,rfl,f1,f2⟩:=yl;have g1:=f1 vs ql;have g2:=f2 ws qm;rw[e1]at g1;cases g1;rw[e2]at g2;cases g2;have sg:Same G2 (upd G2 t (.tup [v,w])):=pB (lQ s2 ht);exact⟨_,aX.new s2 bx ht,t,[v,w],rfl,fX.of cH,⟨v,[w],rfl,(r1.mono s1).mono sg,w,[],rfl,(r2.mono s1).mono sg,rfl⟩⟩
def zlf(h:Rep c G d v)(q:qx d Q):∃tp l vs xs,v=.ref l/\SQ tp c.K G l vs/\aG c G xs vs/\Q xs:=by
 cases d with
 |lst n xs=>obtain⟨l,vs,e,hl,_,hv⟩:=h;exact⟨false,l,vs,xs,e,cA.of hl,hv,q⟩
 |tup xs=>obtain⟨l,vs,e,hl,hv⟩:=h;exact⟨true,l,vs,xs,e,hl,hv,q⟩
 |_=>exact q.elim
def zui(hA:DE X c a A)(hB:DE X c b B)(hg:Gl X "zip":=by rfl)(hs:starEach [a,b] X.env=[(false,eval a X.env),(false,eval b X.env)]:=by rfl)(hs2:starEach [b] X.env=[(false,eval b X.env)]:=by rfl)(hK:c.K=X.K:=by rfl)(hm:X.mg "zip"=none:=by decreasing_trivial) :
  DI X c (.Tuple es x1 tpos) (.Call (.Name "zip" p) [a,b] [] pos) (ztL A B)where
 mono:=λS Q Q' k q=>hA.mono S _ _ (λx z=>hB.mono S _ _ (λy z'=>zgU (λxs=>zgU λys z=>k _ z) z') z) q
 pi:=zlk (zsf hg hm (iM hA.pe (iM hB.pe km hs2) (by rw[hs,hs2])) hs hs2) λZ H R ⟨S,G,r,q⟩=>⟨S,G,r,hA.mono S _ _ (λx z v H1 G1 t1 e1=>⟨S,G1,r.step t1,hB.mono S _ _ (λy z' w H2 G2 t2 e2=>by
  obtain⟨tp,l,vs,xs,rfl,hl,hv,z'⟩:=zlf (e1.mono t2.gg) z';obtain⟨tq,m,ws,ys,rfl,hm,hw,z'⟩:=zlf e2 z';exact⟨tp,tq,l,m,vs,ws,rfl,hK▸ziC t2.gh hl,hK▸ziC t2.gh hm,z' _ H2 G2 (t1.trans t2) (hK▸zsv hl hm hv hw)⟩) z⟩) q⟩
end
section
variable{X:Cx}{c:Bk}{a b e o:Expr}{A B:WE}{es:List Expr}{pos p p2 apos cpos px py ps:Pos}
def ztz(hm:X.mg x=some (.str z t))(hg:Gl X x:=by rfl)(hd:(x==("__debug__":Str))=false:=by decide):DE X c (.Name x pos) (kW (.str z)):=⟨Di _,dM (zkU (v:=.str z) hg hm ⟨t,rfl⟩ hd) λZ H Q ⟨S,G,r,q⟩=>q _ H G r.refl rfl⟩
def Cv(hm:X.mg x=some (.int z t))(hg:Gl X x:=by rfl)(hd:(x==("__debug__":Str))=false:=by decide):DE X c (.Name x pos) (kW (.int z)):=⟨Di _,dM (zkU (v:=.int z) hg hm ⟨t,rfl⟩ hd) λZ H Q ⟨S,G,r,q⟩=>q _ H G r.refl rfl⟩
def fY:FL:=λds Q=>match ds with
 |[.str x]=>x.length<=100000/\Q (.int x.length)
 |ds=>vM ds Q
def zvi:uv fY:=λds Q Q' k q=>by
 unfold fY at q ⊢;split at q
 .exact⟨q.1,k _ q.2⟩
 .exact zvN _ _ _ k q
def zs2:vf c fY (λxs H Q=>(∃p ys,xs=[.ref p]/\(cA c.K H p ys\/fX c.K H p ys)/\Q (.int ys.length) H)\/∃z,xs=[.str z]/\z.length<=sizeLine/\Q (.int z.length) H):=by
 intro H G ds vs Q gh bx h0 rv q;unfold fY at q;split at q
 .obtain⟨v,rfl,rfl⟩:=vI rv;exact .inr ⟨_,rfl,fM q.1,q.2 _ H G (aX.refl gh bx) rfl⟩
 .exact .inl (zvs H G _ vs Q gh bx h0 rv q)
def kh(hR:DA X c [e] R)(hg:Gl X "len":=by rfl)(he:starEach [e] X.env=(false,eval e X.env)::starEach [] X.env:=by rfl)(hK:c.K=X.K:=by rfl)(hm:X.mg "len"=none:=by decreasing_trivial):DE X c (.Call (.Name "len" p) [e] [] pos) (cbW fY R):=
 zhX zvi (jl.or zjf) (hK▸zs2) hm YDe hR hg (by decide) (by decide) he rfl
def mJ(b a:Str):Bool:=!(Builtin.Str.occurrences b a 0 b.length 1).isEmpty
def eU(neg:Bool):F2:=λx y Q=>match x,y with
 |.str a,.str b=>Q (.bl (if neg then !mJ b a else mJ b a))
 |x,y=>inD neg x y Q
def zsY(neg:Bool):lg (eU neg):=λx y Q Q' k q=>by
 unfold eU at q ⊢;split at q
 .exact k _ q
 .exact m_in neg _ _ _ _ k q
def BR(c:Bk)(neg:Bool):R2:=λu v H Q=>wK c neg u v H Q\/∃i j,u=.str i/\v=.str j/\Q (.bl (if neg then !mJ j i else mJ j i)) H
def zm4(neg:Bool):m8 c (eU neg) (BR c neg):=λH G x y u v Q gh bx h0 rx ry q=>by
 unfold eU at q;split at q
 .cases rx;cases ry;exact .inr ⟨_,_,rfl,rfl,q _ H G (aX.refl gh bx) rfl⟩
 .exact .inl (zvS neg H G _ _ u v Q gh bx h0 rx ry q)
def zqN(hK:c.K=X.K)(hu:X.A.units+64<cLine):fL X (compareOp .In) (BR c false):=(zuM hK hu).or zn3
def znc(hK:c.K=X.K)(hu:X.A.units+64<cLine):fL X (compareOp .NotIn) (BR c true):=(znL hK hu).or zi6
def ztq(hA:DE X c a A)(hB:DE X c b B)(hm:behindInMarks .In b=false:=by with_unfolding_all rfl)(hK:c.K=X.K:=by rfl)(hu:X.A.units+64<cLine:=by decreasing_trivial):DE X c (.Compare a [.In] [b] pos) (ak (eU false) A B):=zsI (zsY _) (zqN hK hu) (zm4 _) hA hB hm
def IV(hA:DE X c a A)(hB:DE X c b B)(hm:behindInMarks .In b=false:=by with_unfolding_all rfl)(hK:c.K=X.K:=by rfl)(hu:X.A.units+64<cLine:=by decreasing_trivial):DT X c (.Compare a [.In] [b] pos) (bA (ak (eU false) A B)):=BP (zsY _) (zqN hK hu) (zm4 _) hA hB hm
def ziI(hA:DE X c a A)(hB:DE X c b B)(hm:behindInMarks .NotIn b=false:=by with_unfolding_all rfl)(hK:c.K=X.K:=by rfl)(hu:X.A.units+64<cLine:=by decreasing_trivial):DT X c (.Compare a [.NotIn] [b] pos) (bA (ak (eU true) A B)):=BP (zsY _) (znc hK hu) (zm4 _) hA hB hm
def aC:F2:=λx y Q=>match x,y with
 |.str z,.int i=>z.length<=100000/\(match gR z.cps.toList i with|some ch=>Q (.str ⟨#[ch]⟩)|none=>False)
 |x,y=>ixD x y Q
def zvg:lg aC:=λx y Q Q' k q=>by
 unfold aC at q ⊢;split at q
 .refine⟨q.1,?_⟩;have q:=q.2;split at q
  .exact k _ q
  .exact q.elim
 .exact m_ix _ _ _ _ k q
def ztB:m8 c aC (rIx c.K):=λH G x y u v Q gh bx h0 rx ry q=>by
 unfold aC at q;split at q
 .cases rx;cases ry;have q2:=q.2;split at q2
  .rename_i ch e
   exact .inr (.inr ⟨_,_,ch,rfl,rfl,fM q.1,e,q2 _ H G (aX.refl gh bx) rfl⟩)
  .exact q2.elim
 .exact zvu H G _ _ u v Q gh bx h0 rx ry q
def b7(hA:DE X c a A)(hB:DE X c b B)(hs:zkv b:=by intro _ _;rfl)(hK:c.K=X.K:=by rfl):DE X c (.Subscript a b pos) (ak aC A B):=
 ⟨Cm zvg hA.mono hB.mono,dM (vL (hK▸zrc) hA.pe hB.pe hs) λZ H Q h=>zgn zvg hA.mono hB.mono ztB Z H Q h⟩
def Cd(x:D)(lo hi:Option Int)(Q:D->Prop):Prop:=match x with
 |.str z=>z.length<=100000/\Q (.str (iI z lo hi))
 |x=>slD x lo hi Q
def zoE(k:∀d,Q d->Q' d)(q:Cd x lo hi Q):Cd x lo hi Q':=by
 cases x with
 |str z=>exact⟨q.1,k _ q.2⟩
 |lst n xs=>exact k _ q
 |tup xs=>exact k _ q
 |_=>exact q.elim
abbrev fu(A:WE)(L U:WO):WE:=λS Q=>A S λx=>L S λl=>U S λu=>Cd x l u Q
def wC(hA:DE X c a A)(hL:DO X c lo L)(hU:DO X c hi U)(hK:c.K=X.K:=by rfl):DE X c (.Subscript a (.Slice lo hi none p2) pos) (fu A L U)where
 mono:=λS Q Q' k q=>hA.mono S _ _ (λd z=>hL.mono S _ _ (λl y=>hU.mono S _ _ (λu x=>zoE k x) y) z) q
 pe:=dM (zl0 ((qT.or zrw).or zvd) hA.pe hL.po hU.po) λZ H Q ⟨S,G,r,q⟩=>⟨S,G,r,hA.mono S _ _ (λd z v H1 G1 t1 e1=>⟨S,G1,r.step t1,hL.mono S _ _ (λl y H2 G2 t2=>⟨S,G2,(r.step t1).step t2,hU.mono S _ _ (λu x H3 G3 t3=>by
  have t:=(t1.trans t2).trans t3;have e3:=(e1.mono t2.gg).mono t3.gg;cases d with
  |lst n xs=>
   obtain⟨p,vs,rfl,hp,_,rv⟩:=e3;exact .inl (.inl ⟨p,vs,rfl,cA.of (t3.gh _ _ hp),λl hl=>x (.ref l) _ _ (t.trans (aX.new t3.gh t3.bx hl)) ⟨l,_,rfl,cH,λ_=>r.new0 (t.free hl),(rv.cut _ _).mono (pB (lQ t3.gh hl))⟩⟩)
  |tup xs=>
   obtain⟨p,vs,rfl,hp,rv⟩:=e3;exact .inl (.inr ⟨p,vs,rfl,hK▸qp t3.gh hp,λe=>x (.ref p) H3 G3 t ⟨p,vs,rfl,hp,by have:=rv.cut l u;rw[e]at this;exact this⟩,λl hl=>x (.ref l) _ _ (t.trans (aX.new t3.gh t3.bx hl)) ⟨l,_,rfl,fX.of cH,(rv.cut _ _).mono (pB (lQ t3.gh hl))⟩⟩)
  |str zz=>cases e3;exact .inr ⟨zz,rfl,x.1,x.2 _ H3 G3 t rfl⟩
  |_=>exact x.elim) y⟩) z⟩) q⟩
def zl9(hA:DE X c a A)(hB:DE X c b B)(hC:DE X c ce C)(hm:lastMarks [.LtE,.LtE] [b,ce]=false:=by with_unfolding_all rfl):DE X c (.Compare a [.LtE,.LtE] [b,ce] pos) (uV mz mz A B C):=
 ⟨zfG (sV _) (sV _) hA.mono hB.mono hC.mono,dM (zpt zqI zqI hA.pe hB.pe hC.pe hm) λZ H Q h=>zhD (sV _) (sV _) hA.mono hB.mono hC.mono (Am _) (Am _) Z H Q h⟩
def zuT(hA:DE X c a A)(hB:DE X c b B)(hC:DE X c ce C)(hm:lastMarks [.LtE,.LtE] [b,ce]=false:=by with_unfolding_all rfl):DT X c (.Compare a [.LtE,.LtE] [b,ce] pos) (bA (uV mz mz A B C)):=
 ⟨ziQ (zfG (sV _) (sV _) hA.mono hB.mono hC.mono),yR (zqn zqI zqI hA.pe hB.pe hC.pe hm) λZ H Q h=>by
  obtain⟨S,G,R,q⟩:=znl (zfG (sV _) (sV _) hA.mono hB.mono hC.mono) Z H Q h;exact zhD (sV _) (sV _) hA.mono hB.mono hC.mono (Am _) (Am _) Z H _ ⟨S,G,R,q⟩⟩
def Ac(d:D)(Q:Str->Prop):Prop:=match d with|.str z=>Q z|_=>False
def zoG(k:∀z,Q z->Q' z)(q:Ac d Q):Ac d Q':=by
 cases d<;>first|exact k _ q|exact q
abbrev FS:=Str->D->(D->Prop)->Prop
def znA(f:FS):Prop:=∀x y Q Q',(∀d,Q d->Q' d)->f x y Q->f x y Q'
abbrev uT(f:FS)(A B:WE):WE:=λS Q=>A S λx=>Ac x λz=>B S λy=>f z y Q
def SmD(c:Bk)(f:FS)(r:V->List V->Hp->VK->Prop):Prop:=∀(H G:Hp)(z:Str)(y:D)(v:V)(Q:VK),Same G H->d7 c.β H G->(∀a,H a=none->c.H0 a=none)->Rep c G y v->f z y (λd=>∀v H' G',aX c.β H G H' G'->Rep c G' d v->Q v H')->r (.str z) [v] H Q
def Jp{f:FS}{r:V->List V->Hp->VK->Prop}{name:Str}{id:String}(fm:znA f)(slot:Slot "str" name id)(hty:typeOf (.builtin id)=pure (.type "method_descriptor"))(hm:Jt X id r)(hr:SmD c f r)(hA:DE X c o A)(hB:DE X c e B)
  (hbase:attributeBase o name X.env (eval o X.env)=eval o X.env:=by rfl)
  (hfew:((backTo cpos (starEach [e] X.env)).all (λx=>!x.1)&&(backToKw cpos (keywordEach [] X.env)).all (λx=>x.1.isSome)
   && decide ([e].length+([]:List Keyword).length+(if ([]:List Keyword).isEmpty then 0 else 1)<30))=true:=by rfl)
  (hline:(apos.endLine==cpos.line)=true:=by rfl) (hs:starEach [e] X.env=(false,eval e X.env)::starEach [] X.env:=by rfl) :
  DE X c (.Call (.Attribute o name apos) [e] [] cpos) (uT f A B)where
 mono:=λS Q Q' k q=>hA.mono S _ _ (λx z=>zoG (λt y=>hB.mono S _ _ (λy w=>fm _ _ _ _ k w) y) z) q
 pe:=dM (zpQ PySem.F.plainAttrs_str slot hty hm hA.pe (iM hB.pe km hs) hbase hfew hline hs rfl) λZ H Q ⟨S,G,R,q⟩=>⟨S,G,R,hA.mono S _ _ (λx z v H1 G1 t1 e1=>by
  cases x with
  |str z'=>
   cases e1;exact⟨rfl,S,G1,R.step t1,hB.mono S _ _ (λy w v H2 G2 t2 e2=>hr H2 G2 z' y v Q t2.gh t2.bx (λa z=>R.new0 (t1.free (t2.free z))) e2 (fm _ _ _ _ (λd u v' H3 G3 t3 e3=>u v' H3 G3 ((t1.trans t2).trans t3) e3) w)) z⟩
  |_=>exact z.elim) q⟩
def Jy:FS:=λz y Q=>match y with|.str b=>(b.length≠0/\z.length<=100000)/\Q (.lst true ((Txt.split z b).map D.str))|_=>False
def m_sp:znA Jy:=λx y Q Q' k q=>by cases y<;>first|exact⟨q.1,k _ q.2⟩|exact q
theorem fZ:∀{ns:List Str}{vs:List V},aG c G (ns.map D.str) vs↔vs=ns.map V.str
 |[],_=>Iff.rfl
 |n::ns,vs=>by
  constructor
  .rintro⟨v,ws,h1,h2,h3⟩;rw[h1,fZ.mp h3]
   have:v=V.str n:=h2
   rw[this];rfl
  .rintro rfl;exact⟨V.str n,ns.map V.str,rfl,rfl,fZ.mpr rfl⟩
def zvD:SmD c Jy zqX:=λH G z y v Q gh bx h0 ry q=>by
 cases y with
 |str b=>cases ry;exact⟨z,b,rfl,rfl,q.1.1,q.1.2,λp hp=>q.2 (.ref p) _ _ (aX.new gh bx hp) ⟨p,_,rfl,cH,λ_=>h0 p hp,fZ.mpr rfl⟩⟩
 |_=>exact q.elim
def vP:FS:=λz y Q=>match y with|.lst _ xs=>∃ts:List Str,xs=ts.map D.str/\(∀t∈ts,t.length<=2000)/\ts.length<=2000/\z.length<=1000/\Q (.str (Str.join z ts))|_=>False
def m_jo:znA vP:=λx y Q Q' k q=>by
 cases y with
 |lst n xs=>obtain⟨ts,h1,h2,h3,h4,q⟩:=q;exact⟨ts,h1,h2,h3,h4,k _ q⟩
 |_=>exact q.elim
def zvz:SmD c vP (zu1 c.K):=λH G z y v Q gh bx h0 ry q=>by
 cases y with
 |lst n xs=>
  obtain⟨ts,rfl,h2,h3,h4,q⟩:=q;obtain⟨a,vs,rfl,ha,_,hv⟩:=ry;rw[fZ.mp hv]at ha;exact⟨z,a,ts,rfl,rfl,cA.of (gh _ _ ha),h2,h3,h4,q _ H G (aX.refl gh bx) rfl⟩
 |_=>exact q.elim
def mQ:FL:=λds Q=>match ds with
 |[.str x]=>x.length<=640/\(match PySem.intText? x with|some n=>Q (.int n)|none=>False)
 |ds=>uF ds Q
def zuR:uv mQ:=λds Q Q' k q=>by
 unfold mQ at q ⊢;split at q
 .refine⟨q.1,?_⟩;have q:=q.2;split at q
  .exact k _ q
  .exact q.elim
 .exact zvy _ _ _ k q
def zrK:vf c mQ (λxs H Q=>((∃i,xs=[.int i]/\Q (.int i) H)\/∃k,xs=[.bl k]/\Q (.int (if k then 1 else 0)) H)\/∃x n,xs=[.str x]/\x.length<=640/\PySem.intText? x=some n/\Q (.int n) H):=by
 intro H G ds vs Q gh bx h0 rv q;unfold mQ at q;split at q
 .obtain⟨v,rfl,rfl⟩:=vI rv;have q2:=q.2;split at q2
  .rename_i n e
   exact .inr ⟨_,n,rfl,q.1,e,q2 _ H G (aX.refl gh bx) rfl⟩
  .exact q2.elim
 .exact .inl (ztW H G _ vs Q gh bx h0 rv q)
def v5(hR:DA X c [e] R)(hg:Gl X "int":=by rfl)(he:starEach [e] X.env=(false,eval e X.env)::starEach [] X.env:=by rfl)(hm:X.mg "int"=none:=by decreasing_trivial):DE X c (.Call (.Name "int" p) [e] [] pos) (cbW mQ R):=
 zlp zuR (tZ.or zju) zrK hm PyProof.Rows.boot_int hR hg (by decide) (by decide) he rfl
def zrA(hA:DE X c o A)(hB:DE X c e B)(hbase:attributeBase o "split" X.env (eval o X.env)=eval o X.env:=by rfl)
  (hfew:((backTo cpos (starEach [e] X.env)).all (λx=>!x.1)&&(backToKw cpos (keywordEach [] X.env)).all (λx=>x.1.isSome)
   && decide ([e].length+([]:List Keyword).length+(if ([]:List Keyword).isEmpty then 0 else 1)<30))=true:=by rfl)
  (hline:(apos.endLine==cpos.line)=true:=by rfl) (hs:starEach [e] X.env=(false,eval e X.env)::starEach [] X.env:=by rfl) :
  DE X c (.Call (.Attribute o "split" apos) [e] [] cpos) (uT Jy A B):=Jp m_sp PySem.F.slot_str_split PySem.F.type_str_split zqr zvD hA hB hbase hfew hline hs
def ztS(hA:DE X c o A)(hB:DE X c e B)(hbase:attributeBase o "join" X.env (eval o X.env)=eval o X.env:=by rfl)
  (hfew:((backTo cpos (starEach [e] X.env)).all (λx=>!x.1)&&(backToKw cpos (keywordEach [] X.env)).all (λx=>x.1.isSome)
   && decide ([e].length+([]:List Keyword).length+(if ([]:List Keyword).isEmpty then 0 else 1)<30))=true:=by rfl)
  (hline:(apos.endLine==cpos.line)=true:=by rfl) (hs:starEach [e] X.env=(false,eval e X.env)::starEach [] X.env:=by rfl) (hK:c.K=X.K:=by rfl) :
  DE X c (.Call (.Attribute o "join" apos) [e] [] cpos) (uT vP A B):=Jp m_jo PySem.F.slot_str_join PySem.F.type_str_join (hK▸zrB) zvz hA hB hbase hfew hline hs
def vY(z:Str):List D:=z.cps.toList.map λch=>D.str ⟨#[ch]⟩
def zsN(d:D)(Q:List D->Prop):Prop:=match d with|.str z=>Q (vY z)|d=>qx d Q
def zmy(k:∀xs,Q xs->Q' xs)(q:zsN d Q):zsN d Q':=by
 cases d<;>first|exact k _ q|exact q.elim
abbrev gq(A:WE):WL:=λS Q=>A S λd=>zsN d Q
def z9(z:Str):qC c (Its z) (vY z) G:=by
 intro i H2 G2 s1 s2 bx h0;refine⟨λe=>?_,λd e=>?_⟩
 .show z.length<=i;subst e;unfold vY Str.length
  simp
 .unfold vY at e;rw[jG]at e;cases e1:z.cps.toList[i]? with
  |none=>rw[e1]at e;cases e
  |some ch=>
   rw[e1]at e;cases e;have lt:i<z.cps.size:=by simpa using(jB.mp e1).1
   refine⟨lt,λv H3 y=>?_⟩;obtain⟨rfl,c',h1,rfl⟩:=y;rw[<-YCo,e1]at h1;cases h1;exact⟨G2,aX.refl s2 bx,rfl⟩
def iX(K:qo)(tl:TE):TI:=λZ H R=>tl Z H λx H1=>(∃z,x=.str z/\R (Its z) H1)\/∃a,x=.ref a/\(((∃xs,cA K H1 a xs)/\R (Itl K a) H1)\/((∃xs,fX K H1 a xs)/\R (Itt K a) H1))
def pi_X(hl:PE X l tl):PI X tg l (iX X.K tl):=by
 intro aa s Z H R I h;refine bF (hl aa s Z H _ I h) λv s1 ⟨x,H1,I1,r1,q1⟩=>?_;have fp:∀b∈[s1.heap.objs.size],il X aa H1 b:=λb hb=>by
  have e:b=s1.heap.objs.size:=by simpa using hb
  subst e;exact I1.fpOk (dJ _) (I1.hok.fresh (dJ _))
 rcases q1 with⟨z,rfl,q⟩|⟨a,rfl,⟨⟨xs,hq⟩,q⟩|⟨⟨xs,hq⟩,q⟩⟩
 .obtain⟨t,rfl⟩:=r1;have fin:∀ty,(ty="str_ascii_iterator" \/ ty="str_iterator")->PIE X aa Z tg R (.ref s1.heap.objs.size) {s1 with heap:=s1.heap.push {cls:=.type ty,data:=.fields #[.str z t,.int 0 0]}}:=λty hty=>
   ⟨s1.heap.objs.size,[s1.heap.objs.size],_,_,H1,rfl,I1.kept (t':=s1.toks) λb o e=>dO _ e,zpE z t ty hty _,⟨_,jF _ rfl,rfl,rfl⟩,fp,q⟩
  cases ha:z.cps.all (·<128)
  .exact wpAny_pyIter_wide ha (fin _ (.inr rfl))
  .exact wpAny_pyIter_ascii ha (fin _ (.inl rfl))
 .cases r1;obtain⟨its,rv,p,hz⟩:=I1.list hq;exact Jx p.isList ⟨s1.heap.objs.size,[s1.heap.objs.size],_,_,H1,rfl,I1.kept (t':=s1.toks) λb o e=>dO _ e,zon a _,⟨_,jF _ rfl,rfl,rfl⟩,fp,q⟩
 .cases r1;obtain⟨its,rv,p,hz⟩:=I1.tuple hq;exact wpAny_pyIter_tuple (show s1.heap.IsTuple a its.toArray from p) ⟨s1.heap.objs.size,[s1.heap.objs.size],_,_,H1,rfl,I1.kept (t':=s1.toks) λb o e=>dO _ e,zmq a _,⟨_,jF _ rfl,rfl,rfl⟩,fp,q⟩
def mj(hA:DE X c e A)(hK:c.K=X.K:=by rfl):DI X c tg e (gq A)where
 mono:=λS Q Q' k q=>hA.mono S _ _ (λd z=>zmy k z) q
 pi:=zlk (pi_X hA.pe) λZ H R ⟨S,G,r,q⟩=>⟨S,G,r,hA.mono S _ _ (λd z v H' G' t e=>by
  cases d with
  |str x=>cases e;exact .inl ⟨x,rfl,z _ H' G' t (z9 x)⟩
  |lst n xs=>
   obtain⟨l,vs,rfl,hl,_,hv⟩:=e;exact .inr ⟨l,rfl,.inl ⟨⟨vs,cA.of (t.gh _ _ hl)⟩,z _ H' G' t (hK▸zsX hl hv)⟩⟩
  |tup xs=>
   obtain⟨l,vs,rfl,hl,hv⟩:=e;exact .inr ⟨l,rfl,.inr ⟨⟨vs,hK▸qp t.gh hl⟩,z _ H' G' t (hK▸zuD hl hv)⟩⟩
  |_=>exact z.elim) q⟩
structure rm(P:Program)(w:PySem.World)(K:qo)(mg:Str->Option Value)(x:Str)(kvs:List (Str×D)):Prop where
 ex:∃(a:Addr)(vvs:List (Key×V)),mg x=some (.ref a)/\(∀h:Heap,K.In h->(a==sysModules)=false/\∃vs,KV vvs vs/\h.DictOf (lC P w) a vs) /\
  ∀z:Str,(eX vvs (.inr z)=none/\kvs.lookup z=none)\/∃v d,eX vvs (.inr z)=some v/\kvs.lookup z=some d/\∀(c:Bk)(G:Hp),c.K=K->Rep c G d v
def lkD(kvs:List (Str×D))(d:D)(Q:Option D->Prop):Prop:=match d with|.str z=>Q (kvs.lookup z)|_=>False
def zqo(k:∀z,Q z->Q' z)(q:lkD kvs d Q):lkD kvs d Q':=by
 cases d<;>first|exact k _ q|exact q
def zrk{kvs:List (Str×D)}{zz:Str}{o:Option D}{Q:Option D->Prop}(q:lkD kvs (.str zz) Q)(e:kvs.lookup zz=o):Q o:=e▸q
def opD(o:Option D)(Q:D->Prop):Prop:=match o with|some d=>Q d|none=>False
def zp4{o:Option D}{Q Q':D->Prop}(k:∀z,Q z->Q' z)(q:opD o Q):opD o Q':=by
 cases o<;>first|exact k _ q|exact q
abbrev BX(kvs:List (Str×D))(A:WE):WE:=λS Q=>A S λd=>lkD kvs d λo=>opD o Q
section
variable{x:Str}{ax:Addr}{vvs:List (Key×V)}{ty:TE}
def tIxG(vvs:List (Key×V))(ty:TE):TE:=λZ H Q=>ty Z H λy H1=>∃z v,y=.str z/\eX vvs (.inr z)=some v/\Q v H1
def ztk(hm:X.mg x=some (.ref ax))(hk:∀h:Heap,X.K.In h->(ax==sysModules)=false/\∃vs,KV vvs vs/\h.DictOf (lC X.prog X.w) ax vs)(hg:Gl X x)(hdb:(x==("__debug__":Str))=false)(hi:PE X b ty)(hs:t6 b):PE X (.Subscript (.Name x p) b pos) (tIxG vvs ty):=by
 intro aa s Z H Q I h;refine zox PySem.F.slot_dict_getitem.lookup hs (yM I hg hm (bF (hi aa s Z H _ I h) λiv s2 ⟨y,H2,I2,ry,z,v,ey,l,q2⟩=>?_) hdb);subst ey;obtain⟨hd,vs,rel,dd⟩:=hk s2.heap I2.kIn;obtain⟨w',hw,rw'⟩:=g8.some_of (v:=v) (o:=valueAt vs (.inr z)) (by rw[<-l];exact rel.val (.inr z));exact⟨dd.typeIs,wpAny_getItem_of (zW (k:=.inr z) ry) dd.mapOf hw ⟨v,H2,I2.tok _,rw',q2⟩⟩
end
def zwv(g:rm X.prog X.w X.K X.mg x kvs)(hB:DE X c b B)(hK:c.K=X.K:=by rfl)(hg:Gl X x:=by rfl)(hdb:(x==("__debug__":Str))=false:=by decide)(hs:t6 b:=by intro _ _;rfl):DE X c (.Subscript (.Name x p) b pos) (BX kvs B)where
 mono:=λS Q Q' k q=>hB.mono S _ _ (λd z=>zqo (λo y=>zp4 k y) z) q
 pe:=by
  obtain⟨ax,vvs,hm,hk,hv⟩:=g.ex;exact dM (ztk hm hk hg hdb hB.pe hs) λZ H Q ⟨S,G,r,q⟩=>⟨S,G,r,hB.mono S _ _ (λd z v H' G' t e=>by
   cases d with
   |str zz=>
    cases e;rcases hv zz with⟨e1,e2⟩|⟨v,d,e1,e2,e3⟩
    .have z:=zrk z e2;exact z.elim
    .have z:=zrk z e2;exact⟨zz,v,rfl,e1,z v H' G' t (e3 c G' hK)⟩
   |_=>exact z.elim) q⟩
end
def Hr:Fn:=eG 3 ((aO (pC (uV mz mz (kW (.int 1)) (cbW fY (aq (vW 0) ao)) (vW 2)) (cbW mZ (aq (aN (eY [none,some 1] (gq (vW 0)) (.nm 0) cW (ak (eU false) (vW 0) (vW 1)))) ao)))))
def BJ:Fn:=eG 1 ((aO (aZ 3 Hr (aq (vW 0) (aq (kW (.str "abcdefghijklmnopqrstuvwxyz")) (aq (kW (.int 8)) ao))))))
noncomputable def xf:Nat->Fn
 |0=>λ_ _=>False
 |n+1=>eG 2 ((aH (cX (rB (gJ (jk "list" (vW 1))) (gJ (jk "tuple" (vW 1)))) (aH (cX (rB (bA (ak lW (jk "list" (vW 0)) (jk "list" (vW 1)))) (bA (ak lW (jk "tuple" (vW 0)) (jk "tuple" (vW 1))))) (aO (kW (.bl false))) bU)
  (aO (pC (ak cD (cbW fY (aq (vW 0) ao)) (cbW fY (aq (vW 1) ao))) (cbW mZ (aq (aN (eY [none,none] (ztL (vW 0) (vW 1)) (.tp 2 (.cons (.nm 0) (.cons (.nm 1) .nil))) cW (aZ 2 (xf n) (aq (vW 0) (aq (vW 1) ao))))) ao))))) bU)
  (aH (cX (rB (bA (j6 (vW 0))) (bA (j6 (vW 1)))) (aO (pC (j6 (vW 0)) (j6 (vW 1)))) bU)
  (aH (cX (rB (bA (ak lW (jk "bool" (vW 0)) (jk "bool" (vW 1)))) (bA (ak lW (jk "int" (vW 0)) (jk "int" (vW 1))))) (aO (kW (.bl false))) bU)
  (aO (pC (ak cD (jk "str" (vW 0)) (jk "str" (vW 1))) (ak cD (vW 0) (vW 1))))))))
noncomputable def Km:Fn:=eG 10 ((aH (aP (.nm 2) (kW (.str "abcdefghijklmnopqrstuvwxyz")))
  (aH (aP (.nm 3) (ak aU (kW (.int 1)) (aZ 2 dg (aq (vW 0) (aq (kW (.int 8)) ao)))))
  (aH (aP (.nm 4) (aZ 2 dg (aq (vW 0) (aq (vW 3) ao))))
  (aH (aP (.nm 5) (ak cD (aZ 2 dg (aq (vW 0) (aq (kW (.int 2)) ao))) (kW (.int 0))))
  (aH (aP (.nm 6) (aN (eY [none,some 0] (qM (vW 3)) (.nm 0) cW (aZ 2 dg (aq (vW 1) (aq (kW (.int 26)) ao))))))
  (aH (lq 7 (bh ao))
  (aH (rP (qM (vW 1)) (.nm 8) (aH (lq 9 (CJ (vW 6)))
  (aH (cX (jH (gJ (vW 5))) (lq 9 (eY [none,some 0] (qM (ak aU (ak aU (vW 4) (kW (.int 1))) (aZ 2 dg (aq (vW 0) (aq (ak ik (vW 3) (vW 4)) ao))))) (.nm 0) cW (aZ 2 dg (aq (vW 1) (aq (kW (.int 26)) ao))))) bU)
  (aH (sS 9 (vW 4) (ak kO (ak aU (ak aC (vW 6) (vW 4)) (ak jb (kW (.int 11)) (vW 8))) (kW (.int 26))))
  (nG 9 (jZ 7 (uT vP (kW (.str "")) (aN (eY [none,some 2] (gq (vW 9)) (.nm 0) cW (ak aC (vW 1) (vW 0)))))))))))
  (nG 7 (aO (vW 7)))))))))))
def dEn(P:Params)(p:Str×Tok×Value):DictEntry:=⟨PyData.keyHash P p.1,.str p.1 p.2.1,p.2.2⟩
theorem zln :∀ps:List (Str×Tok×Value),Pairs (lC P w) (ps.map (dEn w.params)) (ps.map λp=>((Sum.inr p.1:Key),p.2.2))
 |[]=>.nil
 |p::ps=>.cons (zgW p.1 p.2.1) rfl (zln ps)
def zsP{P:Program}{w:PySem.World}{K:qo}{a:Addr}{n:Nat}{ps:List (Str×Tok×Value)}(hl:K.lookup a=some ⟨.type "dict",none,.dict (ps.map (dEn w.params)).toArray n,#[]⟩)(hn:(ps.map λp=>(Sum.inr p.1:Key)).Nodup)(h:Heap)(hk:K.In h) :
  h.DictOf (lC P w) a (ps.map λp=>((Sum.inr p.1:Key),p.2.2)):=by
 refine⟨_,_,_,hk a _ hl,⟨rfl,rfl,rfl⟩,rfl,λe he=>?_,by simpa using zln ps,by rw[YAL];exact hn⟩;have he:e∈ps.map (dEn w.params):=by simpa using he
 obtain⟨p,hp,rfl⟩:=YAK.mp he;exact⟨.inr p.1,zgW p.1 p.2.1,rfl⟩
structure Hz(K:qo)(p:Str×Tok×Value)(q:Str×D):Prop where
 key:p.1=q.1
 val:∃v:V,RelV v p.2.2/\∀(c:Bk)(G:Hp),c.K=K->Rep c G q.2 v
inductive lz(K:qo):List (Str×Tok×Value)->List (Str×D)->Prop
 |nil:lz K [] []
 |cons {p:Str×Tok×Value} {q:Str×D} {ps:List (Str×Tok×Value)} {qs:List (Str×D)} (h:Hz K p q) (r:lz K ps qs):lz K (p::ps) (q::qs)
theorem zl3:∀{ps:List (Str×Tok×Value)}{kvs:List (Str×D)},lz K ps kvs->∃vvs:List (Key×V),KV vvs (ps.map λp=>((Sum.inr p.1:Key),p.2.2)) /\
  ∀z:Str,(eX vvs (.inr z)=none/\kvs.lookup z=none)\/∃v d,eX vvs (.inr z)=some v/\kvs.lookup z=some d/\∀(c:Bk)(G:Hp),c.K=K->Rep c G d v
 |_,_,.nil=>⟨[],.nil,λz=>.inl ⟨rfl,rfl⟩⟩
 |_,_,@lz.cons _ p q ps kvs h r=>by
  obtain⟨vvs,h1,h2⟩:=zl3 r;obtain⟨v,rv,hv⟩:=h.val;refine⟨(Sum.inr p.1,v)::vvs,.cons ⟨rfl,rv⟩ h1,λz=>?_⟩;by_cases e:z=p.1
  .subst e;refine .inr ⟨v,q.2,Je rfl,?_,hv⟩;rw[show q=(q.1,q.2)from rfl,<-h.key,List.lookup_cons_self]
  .have n1:¬ (Sum.inr p.1:Key)=Sum.inr z:=λk=>e (Sum.inr.inj k).symm;have n2:kvs.lookup z=(q::kvs).lookup z:=by
    rw[show q=(q.1,q.2)from rfl,<-h.key,rO,show(z==p.1)=false from by simp[e]]
   rw[GJ n1,<-n2];exact h2 z
def zv1{P:Program}{w:PySem.World}{K:qo}{mg:Str->Option Value}{h:Heap}(X:K.In h)(G:h.Ns mainGlobals mg){x:Str}{a:Addr}{n:Nat}{ps:List (Str×Tok×Value)}{kvs:List (Str×D)}(hn:PySem.W.nsIn K mainGlobals x=some (some (.ref a)))
  (hl:K.lookup a=some ⟨.type "dict",none,.dict (ps.map (dEn w.params)).toArray n,#[]⟩) (hr:lz K ps kvs) (ha:(a==sysModules)=false) (hd:(ps.map λp=>(Sum.inr p.1:Key)).Nodup):rm P w K mg x kvs:=by
 obtain⟨vvs,h1,h2⟩:=zl3 hr;exact⟨a,vvs,YAY X G hn,λh hk=>⟨ha,_,h1,zsP hl hd h hk⟩,h2⟩
end Fd
namespace L2
open PySem PySem.Spec PySem.Calls PyProof.Rows PySem.W Builtin Builtin.ObjectAttr Builtin.Getset_descriptor
section
variable{prog:Program}{w:World}{A:Around}{E:Value->Shared->Prop}{s:Shared}{K:qo}{x D:Addr}{ox:Obj}
structure qX(K:qo)(D:Addr):Prop where
 cls:(clsIn K D).isSome=true
 ga:findIn K (.ref D) "__getattribute__"=some (some (.builtin "BaseException.__getattribute__"))
 noga:findIn K (.ref D) "__getattr__"=some none
 fc:findIn K (.ref D) "__class__"=some (some (.builtin "object.__class__"))
 sp:specialIn K (.builtin "object.__class__") "__get__"=some (some (.builtin "getset_descriptor.__get__"))
 tk:takesIn K (.builtin "object.__class__")=some true
 ob:mroIn K D (.type "object")=some true
 be:subIn K (.ref D) (.type "BaseException")=some true
def pH(h:Heap)(x:Addr)(D:Addr):Prop:=∃o,h.get? x=some o/\o.cls=.ref D
def pH.type(I:pH h x D):Looks M h (typeOf (.ref x)) (.ref D):=by
 obtain⟨o,h1,h2⟩:=I;exact h2▸(Looks.ld h1).andThen .now
theorem qX.find(k:qX K D)(X:K.In h):Looks M h (Builtin.ObjectAttr.find (.ref x) (.ref D) "__class__") (.bind (.builtin "getset_descriptor.__get__") (.builtin "object.__class__")):=by
 refine(looks_findIn (M:=M) X k.fc).andThen ((looks_specialIn (M:=M) X k.sp).andThen ?_);exact(show Looks M h (Builtin.ObjectAttr.dataDescriptor? (some (.builtin "object.__class__")) (some (.builtin "getset_descriptor.__get__"))) (some (.builtin "getset_descriptor.__get__",.builtin "object.__class__"))from(looks_takesIn (M:=M) X k.tk).andThen .now).andThen (Looks.tag .now)
def zsw(k:qX K D)(X:K.In s.heap)(I:pH s.heap x D)
  (h:R (.ok (.ret (.ref D))) s):codeAny (model prog w) A (.call (.builtin "getset_descriptor.__get__") ⟨[.builtin "object.__class__",.ref x,tp],[]⟩) R s:=by
 obtain⟨hh,g,dr,t,os⟩:=s;have L0:=I.type (M:=model prog w);have L1:=looks_mroIn (M:=model prog w) X k.ob;refine codeAny_call_builtin KF.slot_gs.plain KF.entry_gs (KF.slot_gs.check _ _ _ _ _ _ _ _ KF.type_class (KF.args_gs _ _ _) ?_);unfold Builtin.«getset_descriptor.__get__» descrGet;rw[dga_obj];refine aJ (bV ?_);unfold descrGetter descrCheckInstance descrNameAndClass isInstance;simp only[KF.owner_class]
 repeat lk
 refine⟨Code.quiet_builtin _ (by decide +kernel),codeAny_builtin KF.entry_class ?_⟩;unfold Builtin.«object.__class__» shownTypeOf
 repeat lk
 exact h
def znP{tk:Tok}{P:Value->Shared->Prop}(k:qX K D)(X:K.In s.heap)(I:pH s.heap x D)(h:P (.ref D) s) :
  wpAny (model prog w) A (Builtin.«object.__getattribute__» ⟨[.ref x,.str "__class__" tk],[]⟩) (λfin s'=>match fin with|.done (.ret v)=>P v s'|_=>False) E s:=by
 obtain⟨hh,g,d,t,os⟩:=s;have L0:=I.type (M:=model prog w);have L1:=k.find (x:=x) (M:=model prog w) X;refine aJ (bV ?_);refine aJ (bV ?_);refine aJ (L0.at ?_);refine aJ (L1.at ?_);show wpAny _ _ (holding [Value.builtin "object.__class__"] (call (Value.builtin "getset_descriptor.__get__") [Value.builtin "object.__class__",.ref x,.ref D]) >>= ret) _ _ _;refine aJ (YAW (CK (zsw k X I ?_)));exact bV h
def zoK(k:qX K D)(X:K.In s.heap)(I:pH s.heap x D)(hq:Q () s):wpAny M A (checkBuiltinCall "BaseException.__getattribute__" ⟨[.ref x,nv],[]⟩) Q E s:=by
 obtain⟨hh,g,d,t,os⟩:=s;have LI:Looks M hh (isInstance (.ref x) (.type "BaseException")) true:=(I.type (M:=M)).andThen (looks_subIn (M:=M) X k.be);have hk:builtinKind "BaseException.__getattribute__"=some .slot:=by decide +kernel
 have hsplit:splitId "BaseException.__getattribute__"=some ("BaseException","__getattribute__"):=by decide +kernel
 have ha:=F.args_bexc_ga (.ref x) nv;simp only[checkBuiltinCall,hk,hsplit];refine aJ (LI.at ?_)
 repeat (first|exact hq|wp_step)
def zoP{Q:Option Value->Shared->Prop}(k:qX K D)(X:K.In s.heap)(I:pH s.heap x D)(h:Q (some (.ref D)) {s with toks:=s.toks+1}):wpAny (model prog w) A (getAttr? (.ref x) "__class__") Q E s:=by
 obtain⟨hh,g,d,t,os⟩:=s;have L0:=I.type (M:=model prog w);have L1:=looks_findIn (M:=model prog w) X k.ga;have L2:=looks_findIn (M:=model prog w) X k.noga;unfold getAttr? getAttrBy? getAttrBy;refine aJ (wpAny_mkText (aJ (yW (YAW (aJ (L0.at (aJ (L1.at ?_))))))));show wpAny _ _ (getAttrByItsOwn _ _ _ _ _ _) _ _ _;unfold getAttrByItsOwn hookBefore callGetattribute;refine aJ (L2.at ?_);refine aJ (yW (YAW ?_));show wpAny _ _ (boundAndCalled _ _ _) _ _ _;unfold boundAndCalled;rw[F.excAttr_ValueError.ga.bind];refine aJ (bV ?_);refine CK (codeAny_call_builtin F.excAttr_ValueError.ga.plain F.entry_bexc_ga ?_);refine zoK k X I ?_;refine YAT (znP (E:=λ_ _=>False) (P:=λv s'=>v=.ref D/\s'=⟨hh,g,d,t+1,os⟩) k X I ⟨rfl,rfl⟩) (λfin s' z=>?_) λ_ _ z=>z.elim;rcases fin with(_|_|_|v)|_
 .exact z.elim
 .exact z.elim
 .exact z.elim
 .obtain⟨rfl,rfl⟩:=z;exact handed_on rfl (bV h)
 .exact z.elim
def qX.it(k:qX K D)(X:K.In h):Looks M h (isType (.ref D)) true:=by
 obtain⟨cdD,hcD⟩:=YB0.mp k.cls;unfold clsIn at hcD;split at hcD
 .rename_i c' d' cd' sl' ho
  intro A' Q' E' s' k q;unfold isType loadHead;exact aJ (wpAny_loadPart (k _ _ (X _ _ ho)) (bV q))
 .cases hcD
def zpm(k:qX K D):KitX K (.ref x) (.ref D) (λh=>pH h x D)where
 ty:=λ_ _ _ I=>I.type
 it:=λ_ _ X _=>k.it X
 ne:=λh tp dd its n sl X htp=>by
  obtain⟨cdD,hcD⟩:=YB0.mp k.cls;refine Bool.eq_false_iff.mpr λq=>?_;have e:D=tp:=Value.ref.inj (yz.mp q);subst e;unfold clsIn at hcD;split at hcD
  .rename_i c' d' cd' sl' ho
   have z:=(X _ _ ho).symm.trans htp;cases z
  .cases hcD
 ca:=λX I q=>zoP k X I q
def zrP(k:qX K D)(X:K.In s.heap)(I:pH s.heap x D)(e:kitOne K (.ref D) c=some b)(h:∀tk,Q (.bool b) {s with toks:=tk}) :
  wpAny (model prog w) A (call (.builtin "isinstance") [.ref x,c]) Q E s:=
 kia_one (zpm k) X I e (by intro z;cases z) h
end
end L2
namespace L2
open PySem PySem.Spec PyProof.Rows PySem.W
def TrC(h base:Heap)(e:Addr)(cls fl:Value):Prop:=∃oe vs T oT ts,h.get? e=some oe/\oe.cls=cls/\oe.data=.fields vs/\vs[1]?=some (.ref T)/\vs[2]?=some .none/\base.get? T=none/\T≠e/\h.get? T=some oT/\oT.data=.fields ts/\ts[3]?=some fl
def iK(base:Heap)(l:List Env)(e:Addr)(cls fl:Value)(h:Heap):Prop:=base.StaysIn h/\base.get? e=none/\h.FunFrames base l/\TrC h base e cls fl
abbrev qy(base:Heap)(l:List Env)(e:Addr)(cls:Value)(h:Heap):Prop:=iK base l e cls .none h
def iK.first(x:iK base l e cls fl h):∃oe vs,h.get? e=some oe/\oe.cls=cls/\oe.data=.fields vs/\vs[2]?=some .none:=
 let⟨_,_,_,oe,vs,_,_,_,he,hc,hd,_,h2,_⟩:=x;⟨oe,vs,he,hc,hd,h2⟩
section
variable{M:Model}{A:Around}{E:Value->Shared->Prop}{s:Shared}{base:Heap}{env:Env}{l outer:List Env}{e L:Addr}{cls fl:Value}{Q:Unit->Shared->Prop}
def zq1(hfr:A.frames=some (env::outer))(hl:s.heap.FunFrames base (env::outer))(hf:env.frame=some L)(he:s.heap.get? e=some oe)(hkb:base.StaysIn s.heap)(hen:base.get? e=none)(hd:oe.data=.fields vs)(hsz:1<vs.size)(h2:vs[2]?=some .none)
  (h:∀h',iK base (env::outer) e oe.cls (rawInt L) h'->s.heap.UpToSlots h'->Q () {s with heap:=h'}):wpAny M A (do let a <-frameOf env;let pl <-entryPlaceOf L had;let b <-EntryCells.newEntry head a .none (rawInt L) .none pl;setField (.ref e) 1 b) Q E s:=by
 have nfr:e∉(env::outer).filterMap (·.frame):=λhm=>by
  obtain⟨_,o,ho,hnf⟩:=hl.mem hm;rw[he]at ho;cases ho;exact hnf vs hd
 refine aJ (wpAny_frameOf_fun hfr hl hf λh1 s1=>aJ (wpAny_entryPlaceOf λpl hpl=>?_));unfold EntryCells.newEntry newFields;refine aJ (YAI ?_ (hpl.sizeOk5 _ _ _ _ _));have e1:h1.get? e=some oe:=(s1.2.1 e nfr).trans he;have b1:base.StaysIn h1:=λb o q=>(s1.2.1 b λhm=>by rw[(hl.mem hm).1]at q;cases q).trans (hkb b o q);have hT:h1.objs.size≠e:=wu (dw e1);generalize hob:({cls:=.type "traceback",dict:=none,data:=.fields ([head,.ref L,.none,rawInt L,.none]++(if pl.isEmpty then List.replicate 6 Value.none else pl)).toArray}:Obj)=ob;have e2:=dO (h:=h1) ob e1;refine yw e2 hd hsz ?_;have d3:=Dz hd (·.setIfInBounds 1 (Value.ref h1.objs.size));have keep:∀b o,b≠e->h1.get? b=some o->((h1.push ob).update e (Obj.mapFields (·.setIfInBounds 1 (Value.ref h1.objs.size)))).get? b=some o:=λb o n q=>by
  rw[YAJ _ _ (YAM n)];exact dO _ q
 have rec':∀b o,s.heap.get? b=some o->(∀vs,o.data≠.fields vs)->b≠e:=λb o q n z=>by
  rw[z,he]at q;cases q;exact n vs hd
 have slots:s.heap.UpToSlots ((h1.push ob).update e (Obj.mapFields (·.setIfInBounds 1 (Value.ref h1.objs.size)))):=λb o q n=>by
  obtain⟨sl,z⟩:=s1.2.2 b o q;exact⟨sl,keep b _ (rec' b o q n) z⟩
 refine h _ ⟨λb o q=>keep b o (λz=>by rw[z,hen]at q;cases q) (b1 b o q),hen,hl.of_keeps λb o q n=>?_,?_⟩ slots
 .obtain⟨sl,z⟩:=slots b o q n;exact⟨_,z,rfl⟩
 .refine⟨_,_,h1.objs.size,ob,_,YAR _ e2 (YBQ d3),YCi _ _,d3,by simp[hsz],by rw[Array.getElem?_setIfInBounds_ne (by decide)];exact h2,b1.fresh,hT,?_,by rw[<-hob],?_⟩
  .rw[YAJ _ _ (YAM hT)];exact jF h1 (by rw[<-hob];rfl)
  .rcases hpl with rfl|⟨_,_,_,_,_,_,_,rfl⟩<;>simp
def zpL(hfr:A.frames=some (env::outer))(hl:s.heap.FunFrames base (env::outer))(hf:env.frame=some L)(he:s.heap.get? e=some oe)(hkb:base.StaysIn s.heap)(hen:base.get? e=none)(hd:oe.data=.fields vs)(h1:vs[1]?=some .none)(h2:vs[2]?=some .none)
  (h:∀h',iK base (env::outer) e oe.cls (rawInt L) h'->s.heap.UpToSlots h'->Q () {s with heap:=h'}):wpAny M A (noteFrame (.ref e) env) Q E s:=by
 unfold noteFrame;simp only[hf];refine aJ (YAF he hd h1 ?_);rw[if_neg (by decide)];exact zq1 hfr hl hf he hkb hen hd (YBx.mp h1).1 h2 h
def zoC(hfr:A.frames=some (env::outer))(hf:env.frame=some L)(x:qy base (env::outer) e cls s.heap)(h:∀h',iK base (env::outer) e cls (rawInt L) h'->s.heap.UpToSlots h'->Q () {s with heap:=h'}):wpAny M A (noteFrame (.ref e) env) Q E s:=by
 obtain⟨kb,en,fl,oe,vs,T,oT,ts,he,hc,hd,v1,v2,nT,Te,hT,dT,t3⟩:=x;subst hc;unfold noteFrame;simp only[hf];refine aJ (YAF he hd v1 ?_);rw[if_pos (show(Value.ref T != Value.none)=true from by simp)];refine aJ (YAF hT dT t3 ?_);rw[if_neg (show ¬ ((Value.none==rawInt L)=true)from by simp[rawInt])];refine aJ (yw hT dT (YBx.mp t3).1 ?_);have oth:∀b,b≠T->(s.heap.update T (Obj.mapFields (·.setIfInBounds 3 Value.none))).get? b=s.heap.get? b:=λb n=>YAJ _ _ (YAM n);have rec':∀b o,s.heap.get? b=some o->(∀vs,o.data≠.fields vs)->b≠T:=λb o q n z=>by
  rw[z,hT]at q;cases q;exact n ts dT
 refine zq1 hfr (fl.of_keeps λb o q n=>⟨o,(oth b (rec' b o q n)).trans q,rfl⟩) hf ((oth e (YAM Te)).trans he) (λb o q=>(oth b λz=>by rw[z,nT]at q;cases q).trans (kb b o q)) en hd (YBx.mp v1).1 v2 λh' z u=>h h' z λb o q n=>u b o ((oth b (rec' b o q n)).trans q) n
def ziy(x:iK base l e cls fl s.heap)(h:∀h',qy base l e cls h'->s.heap.UpToSlots h'->Q () {s with heap:=h'}):wpAny M A (setFlight (.ref e) none) Q E s:=by
 obtain⟨kb,en,ff,oe,vs,T,oT,ts,he,hc,hd,v1,v2,nT,Te,hT,dT,t3⟩:=x;have oth:∀b,b≠T->(s.heap.update T (Obj.mapFields (·.setIfInBounds 3 ((none:Option Addr).elim Value.none λf=>rawInt f)))).get? b=s.heap.get? b:=λb n=>YAJ _ _ (YAM n);have rec':∀b o,s.heap.get? b=some o->(∀vs,o.data≠.fields vs)->b≠T:=λb o q n z=>by
  rw[z,hT]at q;cases q;exact n ts dT
 have z3:=(YBx.mp t3).1;unfold setFlight;refine aJ (YAF he hd v1 ?_);rw[if_pos (show(Value.ref T != Value.none)=true from by simp)];have dT':=Dz dT (·.setIfInBounds 3 ((none:Option Addr).elim Value.none λf=>rawInt f));refine yw hT dT z3 (h _ ⟨λb o q=>(oth b λz=>by rw[z,nT]at q;cases q).trans (kb b o q),en,ff.of_keeps λb o q n=>⟨o,(oth b (rec' b o q n)).trans q,rfl⟩,oe,vs,T,_,_,(oth e (YAM Te)).trans he,hc,hd,v1,v2,nT,Te,YAR _ hT (YBQ dT'),dT',by simp[z3]⟩ λb o q n=>⟨o.slots,(oth b (rec' b o q n)).trans q⟩)
def iK.out(x:iK base (env::outer) e cls fl h):iK base outer e cls fl h:=⟨x.1,x.2.1,x.2.2.1.2.2,x.2.2.2⟩
def zpp(hfr:A.frames=some (env::outer))(hf:env.frame=some L)(x:qy base (env::outer) e cls s.heap)(h:∀h',qy base outer e cls h'->s.heap.UpToSlots h'->Q () {s with heap:=h'}):wpAny M A (leaving env (.ref e)) Q E s:=by
 unfold leaving;exact aJ (zoC hfr hf x λh1 y u=>ziy y λh2 z v=>h h2 z.out (u.trans v))
def znV(hfr:A.frames=some (env::outer))(hf:env.frame=some L)(hkb:base.StaysIn h0)(hl:h0.FunFrames base (env::outer))(hx:Heap.MadeExcOf h0 s.heap e cls args)(h:∀h',qy base outer e cls h'->s.heap.UpToSlots h'->Q () {s with heap:=h'}):wpAny M A (leaving env (.ref e)) Q E s:=by
 obtain⟨t,he,_,_⟩:=hx.there;have en:base.get? e=none:=by
  cases q:base.get? e with
  |none=>rfl
  |some o=>have:=hkb e o q;rw[hx.new]at this;cases this
 unfold leaving;exact aJ (zpL hfr (hl.of_keeps λb o q _=>⟨o,hx.keeps b o q,rfl⟩) hf he (λb o q=>hx.keeps b o (hkb b o q)) en rfl rfl rfl λh1 y u=>ziy y λh2 z v=>h h2 z.out (u.trans v))
end
section
variable{X:Cx}{aa:List (Addr×Obj)}{Z:St}{H:Hp}{s:Shared}
def zsO(I:Inv X aa Z H s)(hN:X.N.Nodup)(hi:X.N[i]?=some x)(hk:X.env.scope.names.lookup x=some .local)(h:∀s',Inv X aa (Z.set i none) H s'->Q () s') :
  wpAny M A (do bindName X.env x .none;unbindBehindTheSuite X.env x pos) Q E s:=by
 obtain⟨m,hn,hl⟩:=id I.loc;have hcls:(X.env.scope.kind==.class || (X.env.scope.kind==.module&&X.env.locals != X.env.globals))=false:=by rw[I.ok.kind];rfl
 have hiσ:i<Z.length:=by rw[I.len];exact(jB.mp hi).1
 refine wpAny_nameGoes_keeps hk hn hcls λh' v hn' hs=>?_;obtain⟨oL,_,_,hoL,_⟩:=id hn;have neL:∀{b o},X.s₀.heap.get? b=some o->b≠X.env.locals:=λe=>fK (jN (dw e) I.ok.above);refine h _ ⟨I.ok,I.os,I.bare,⟨λb o e n hb hx=>(hs.2 b (neL e)).trans (I.base.keep b o e n hb hx),λb o e n hb hx=>?_,I.base.free,λb o e hx=>?_,I.base.tups,I.base.frzs,I.base.tbls⟩,⟨_,hn',λj y v' e1 e2 e3=>?_⟩,λy c e=>?_,I.free,I.freeC,λp hp=>?_,λb ob e=>(I.hok b ob e).stay (λc w' hc q=>(hs.2 c ?_).trans q) (λ_ q=>q) λ_ _ q=>q,by simpa using I.len⟩
 .obtain⟨sl,e1⟩:=I.base.slot b o e n hb hx;exact⟨sl,(hs.2 b (neL e)).trans e1⟩
 .obtain⟨o',e1⟩:=I.base.there b o e hx;exact⟨o',(hs.2 b (neL e)).trans e1⟩
 .by_cases hj:j=i
  .subst hj;rw[jK hiσ]at e2;cases e2
  .rw[jE (YAM hj)]at e2;obtain⟨u',r',q⟩:=hl j y v' e1 e2 e3;refine⟨u',r',?_⟩;rcases q with⟨k,e⟩|⟨k,c,e,z⟩
   .refine .inl ⟨k,?_⟩
    have:y≠x:=λe=>hj (zim hN e1 (e▸hi))
    simp[this,e]
   .exact .inr ⟨k,c,e,z.sameBut hs (I.cne y c e)⟩
 .obtain⟨w',z⟩:=I.cell y c e;exact⟨w',z.sameBut hs (I.cne y c e)⟩
 .obtain⟨e,n,ne,nf,d⟩:=I.pin p hp;exact⟨(hs.2 p.1 ne).trans e,n,ne,nf,d⟩
 .rintro rfl;rcases hc with z|z
  .rw[<-z,I.free]at e;cases e
  .rw[I.free]at z;cases z
end
def cg.ex(x:cg P w H h a o):∃u,h.get? a=some u:=by
 cases o with
 |lst xs=>obtain⟨_,_,_,_,e⟩:=x;exact⟨_,e⟩
 |tup xs=>obtain⟨_,_,_,_,e,_⟩:=x;exact⟨_,e⟩
 |dK kvs=>obtain⟨_,_,_,_,o,_,_,e,_⟩:=x;exact⟨_,e⟩
 |dT kvs=>obtain⟨_,_,_,_,o,_,_,e,_⟩:=x;exact⟨_,e⟩
 |set qj n=>obtain⟨o,_,_,_,e,_⟩:=x;exact⟨_,e⟩
 |ins C dx fs=>obtain⟨_,_,_,e,_⟩:=x;exact⟨_,e⟩
 |own y=>obtain⟨_,e⟩:=x;exact⟨_,e⟩
 |xd fs=>obtain⟨_,⟨_,_,_,e,_⟩,_⟩:=x;exact⟨_,e⟩
 |rng lo hi=>obtain⟨_,_,_,e⟩:=x;exact⟨_,e⟩
 |iV ob u=>obtain⟨e,_⟩:=x;exact⟨_,e⟩
 |tbl ps=>exact⟨_,show h.get? a=some _ from x⟩
 |met f y=>exact⟨_,show h.get? a=some _ from x⟩
 |ext φ=>obtain⟨_,⟨_,e⟩,_⟩:=x;exact⟨_,e⟩
structure ExN(P:Program)(w:World)(outer:List Env)(H:Hp)(s:Shared)(ea C:Addr)(H':Hp)(s':Shared):Prop where
 os:s'.os=s.os
 bare:AllBare s'.gens
 un:Un (frs outer) [] H H' s.heap s'.heap
 hok:iT P w H' s'.heap
 fly:∃B,qy B outer ea (.ref C) s'.heap/\∀b o,s'.heap.get? b=some o->((∃u,H' b=some u)\/∃u,s.heap.get? b=some u)->b∉frs outer->B.get? b=some o
def dj(P:Program)(w:World):mO:=λouter H s E e s'=>∃ea C H',e=.ref ea/\ExN P w outer H s ea C H' s'/\E (.ref C) none H'
section
variable{P:Program}{w:World}{K:qo}{mg:Str->Option Value}{base:Heap}{N:List Str}{qual:Str}{scope:Scope}{f:Addr}{cd:Value}{A:Around}{outer:List Env}{s0 s:Shared}{H0 H:Hp}{E:XK}{aa:List (Addr×Obj)}{Z:St}{e C:Addr}{args:List Value}{h':Heap}
def sZ(I:Inv (di (dj P w) P w K mg base N qual scope f cd A outer s0 H0 E) aa Z H s)(hx:Heap.MadeExcOf s.heap h' e (.ref C) args)(hE:E (.ref C) none H):(di (dj P w) P w K mg base N qual scope f cd A outer s0 H0 E).xe (.ref e) {s with heap:=h'}:=by
 have fr:=I.stack;have nex:∀{b:Addr},b∉([]:List Addr):=λz=>nomatch z;have neL:∀{b o},s0.heap.get? b=some o->b≠s0.heap.objs.size:=λe=>fK (dw e);have hin:∀env∈(di (dj P w) P w K mg base N qual scope f cd A outer s0 H0 E).stack,∀b,env.frame=some b->b∈frs (di (dj P w) P w K mg base N qual scope f cd A outer s0 H0 E).stack:=λenv he b hb=>Be.mpr ⟨env,he,hb⟩;refine znV (h0:=s.heap) (base:=hideAll s.heap (frs (di (dj P w) P w K mg base N qual scope f cd A outer s0 H0 E).stack)) I.ok.frames rfl (λb o q=>of_hideAll _ q) (funFrames_hide fr hin) hx λh2 x1 x4=>?_;have sub:∀{b},b∉frs outer->b≠s0.heap.objs.size->b∉frs (di (dj P w) P w K mg base N qual scope f cd A outer s0 H0 E).stack:=λh1 h2 h3=>(ir.mp (I.stkSub _ h3)).elim h2 h1;have keepB:∀{b o},s.heap.get? b=some o->b∉frs (di (dj P w) P w K mg base N qual scope f cd A outer s0 H0 E).stack->h2.get? b=some o:=λq n=>x1.1 _ _ (hideAll_get _ q n);have vq:∀{b u},H b=some u->b∉frs (di (dj P w) P w K mg base N qual scope f cd A outer s0 H0 E).stack:=λq z=>by rw[I.stkFree _ z]at q;cases q
 have slt:∀{b o},s.heap.get? b=some o->b∈frs outer->∃sl,h2.get? b=some {o with slots:=sl}:=λ{b o} q z=>by
  obtain⟨_,o',ho,hd⟩:=I.funs.mem z;rw[q]at ho;cases ho;exact x4 b o (hx.keeps b o q) hd
 refine⟨e,C,H,rfl,⟨I.os,I.bare,⟨λb o q n nf _=>keepB (I.base.keep b o q n nf nex) (sub nf (neL q)),λb o q n nf _=>?_,λb o q n _=>I.base.free b o q n nex,λb o q _=>?_,I.base.tups,I.base.frzs,I.base.tbls⟩,λa o q=>(I.hok a o q).stay (λb u hb q2=>keepB q2 ?_) (λ_ z=>z) λ_ _ z=>z,_,x1,λb o q hb nf=>?_⟩,hE⟩
 .obtain⟨sl,e1⟩:=I.base.slot b o q n nf nex;obtain⟨sl',e2⟩:=slt e1 nf;exact⟨sl',e2⟩
 .obtain⟨o',e1⟩:=I.base.there b o q nex;by_cases z:b∈frs outer
  .obtain⟨sl',e2⟩:=slt e1 z;exact⟨_,e2⟩
  .exact⟨_,keepB e1 (sub z (neL q))⟩
 .rcases hb with rfl|hb
  .exact vq q
  .exact vq hb
 .rcases hb with⟨u,hu⟩|⟨u,hu⟩
  .obtain⟨v,hv⟩:=(I.hok b u hu).ex
   have:=keepB hv (vq hu)
   rw[this]at q;cases q;exact hideAll_get _ hv (vq hu)
  .obtain⟨o',e1⟩:=I.base.there b u hu nex
   have:=keepB e1 (sub nf (neL hu))
   rw[this]at q;cases q;exact hideAll_get _ e1 (sub nf (neL hu))
end
abbrev Cx.sup(X:Cx)(ea:Addr)(oe:Obj)(E:Value->Shared->Prop):Cx:={X with A:=X.A.mark (some (.ref ea)),calm:=false,xe:=E,pn:=(ea,oe)::X.pn}
section
variable{X:Cx}{aa:List (Addr×Obj)}{Z:St}{H H':Hp}{s s':Shared}{ea C:Addr}{oe:Obj}{E:Value->Shared->Prop}
theorem Cx.Ok.sup(ok:X.Ok):(X.sup ea oe E).Ok:=
 ⟨ok.mod,ok.kind,ok.glob,ok.blt,ok.above,ok.inj,ok.has,ok.cab,(λz=>by cases z),ok.frames,ok.stk,ok.exf,ok.bs,ok.bsz,ok.noex,ok.exfs,ok.funs,ok.frf⟩
theorem Inv.sup(I:Inv X aa Z H s)(h1:s.heap.get? ea=some oe)(h2:H ea=none)(h3:ea≠X.env.locals)(h4:ea∉X.fs)(h5:∀v,oe.data≠.cell v):Inv (X.sup ea oe E) aa Z H s:=
 ⟨I.ok.sup,I.os,I.bare,I.base,I.loc,I.cell,I.free,I.freeC,λp hp=>by
  rcases ir.mp hp with rfl|hp
  .exact⟨h1,h2,h3,h4,h5⟩
  .exact I.pin p hp,I.hok,I.len⟩
def Inv.unsup(I:Inv (X.sup ea oe E) aa Z H s)(ok:X.Ok):Inv X aa Z H s:=⟨ok,I.os,I.bare,I.base,I.loc,I.cell,I.free,I.freeC,λp hp=>I.pin p (je _ hp),I.hok,I.len⟩
def ExN.on(N:ExN P w outer H s ea C H' s')(hB:∀b o,s'.heap.get? b=some o->((∃u,H' b=some u)\/∃u,s.heap.get? b=some u)->b∉frs outer->B.get? b=some o)(ff:s'.heap.FunFrames B outer)(hf:∀b∈frs outer,H b=none)(st:B.StaysIn h')(sm:s'.heap.UpToSlots h')(fr:∀b∈frs outer,∃o,s.heap.get? b=some o) :
  Un (frs outer) [] H H' s.heap h'/\iT P w H' h':=by
 have nex:∀{b:Addr},b∉([]:List Addr):=λz=>nomatch z;have slt:∀{b o},s'.heap.get? b=some o->b∈frs outer->∃sl,h'.get? b=some {o with slots:=sl}:=λ{b o} q z=>by
  obtain⟨_,o',ho,hd⟩:=ff.mem z;rw[q]at ho;cases ho;exact sm b o q hd
 have vq:∀{b u},H' b=some u->b∉frs outer:=λ{b u} q z=>by
  obtain⟨o,ho⟩:=fr b z;rw[N.un.free b o ho (hf b z) nex]at q;cases q
 refine⟨⟨λb o q n nf _=>st _ _ (hB b o (N.un.keep b o q n nf nex) (.inr ⟨_,q⟩) nf),λb o q n nf _=>?_,λb o q n _=>N.un.free b o q n nex,λb o q _=>?_,N.un.tups,N.un.frzs,N.un.tbls⟩,λa o q=>(N.hok a o q).stay (λb u hb q2=>?_) (λ_ z=>z) λ_ _ z=>z⟩
 .obtain⟨sl,e1⟩:=N.un.slot b o q n nf nex;obtain⟨sl',e2⟩:=slt e1 nf;exact⟨sl',e2⟩
 .obtain⟨o',e1⟩:=N.un.there b o q nex;by_cases z:b∈frs outer
  .obtain⟨sl',e2⟩:=slt e1 z;exact⟨_,e2⟩
  .exact⟨_,st _ _ (hB b o' e1 (.inr ⟨_,q⟩) z)⟩
 .have hu:∃v,H' b=some v:=by
   rcases hb with rfl|hb
   .exact⟨_,q⟩
   .exact⟨_,hb⟩
  obtain⟨v,hv⟩:=hu;exact st _ _ (hB b u q2 (.inl ⟨v,hv⟩) (vq hv))
def zvc{Q:Flow->Shared->Prop}{x n:Str}{D:Addr}{i:Nat}{b₀:Stmt}{suite:List Stmt}{pos np:Pos}{rest:List ExceptHandler}(I:Inv X aa Z H s)(hs:X.stack=X.env::X.outer)(hf:X.env.frame=some X.env.locals)(N:ExN X.prog X.w X.stack H s ea C H' s')(hg:Gl X x)(hm:X.mg x=some (.ref D))
  (he:exmOne X.K (.ref C) (.ref D)=some true) (hN:X.N.Nodup) (hi:X.N[i]?=some n) (hk:X.env.scope.names.lookup n=some .local)
  (k:∀oe s2,oe.cls=.ref C->(∃vs,oe.data=.fields vs/\vs[2]?=some Value.none)->Inv (X.sup ea oe λ_ _=>False) aa (Z.set i (some (.ref ea))) H' s2->wpAny (model X.prog X.w) (X.A.mark (some (.ref ea))) (execs (b₀::suite) X.env) (λf s₄=>wpAny (model X.prog X.w) X.A (do bindName X.env n .none;unbindBehindTheSuite X.env n pos) (λ_ s₅=>Q f s₅) E s₄) (λ_ _=>False) s2)
  (hd:(x==("__debug__":Str))=false:=by decide) :
  wpAny (model X.prog X.w) X.A (noteFrame (.ref ea) X.env) (λ_ s₂=>wpAny (model X.prog X.w) X.A (setFlight (.ref ea) none) (λ_ s₃=>wpAny (model X.prog X.w) X.A (handleBy (.ref ea) X.env (.ExceptHandler (some (.Name x np)) (some n) (b₀::suite) pos::rest)) Q E s₃) E s₂) E s':=by
 obtain⟨B,fl,hB⟩:=id N.fly;have fl':=fl;rw[hs]at fl';have hA:X.A.frames=some (X.env::X.outer):=by rw[<-hs];exact I.ok.frames
 have frx:∀b∈frs X.stack,∃o,s.heap.get? b=some o:=λb hb=>by
  obtain⟨_,o,ho,_⟩:=I.stack.mem hb;exact⟨o,ho⟩
 refine zoC hA hf fl' λh4 held sm4=>?_;refine ziy held λh5 fl5 sm5=>?_;have on5:=N.on hB fl.2.2.1 I.stkFree fl5.1 (sm4.trans sm5) frx;have I5:Inv X aa Z H' {s' with heap:=h5}:=I.call' (s':={s' with heap:=h5}) N.os on5.1 on5.2 N.bare λb z=>nomatch z;have sub:∀{b},b=X.env.locals\/b∈X.fs->b∈frs (X.env::X.outer):=λ{b} z=>by
  show b∈(X.env::X.outer).filterMap (·.frame);rw[YAV,hf];exact ir.mpr z
 have apart:∀{h:Heap}{oe:Obj}{vs:Array Value},h.FunFrames B (X.env::X.outer)->h.get? ea=some oe->oe.data=.fields vs->∀{b},b=X.env.locals\/b∈X.fs->ea≠b:=λ{h oe vs} ff e1 e2 {b} z e3=>by
  obtain⟨_,o,ho,hd⟩:=ff.mem (sub z);rw[<-e3,e1]at ho;cases ho;exact hd _ e2
 have hea:H' ea=none:=by
  cases q:H' ea with
  |none=>rfl
  |some u=>
   obtain⟨v,hv⟩:=(N.hok ea u q).ex;obtain⟨oe,vs,e1,_,e3,_⟩:=fl'.first
   have nf:ea∉frs X.stack:=λz=>by
    rw[hs]at z;obtain⟨_,o,ho,hd⟩:=fl'.2.2.1.mem z;rw[e1]at ho;cases ho;exact hd _ e3
   have:=hB ea v hv (.inl ⟨u,q⟩) nf
   rw[fl.2.1]at this;cases this
 have sup:∀{h:Heap}{Z:St}{t:Nat},qy B (X.env::X.outer) ea (.ref C) h->Inv X aa Z H' {s' with heap:=h,toks:=t}->∃oe,(oe.cls=.ref C/\∃vs,oe.data=.fields vs/\vs[2]?=some Value.none)/\h.get? ea=some oe/\Inv (X.sup ea oe λ_ _=>False) aa Z H' {s' with heap:=h,toks:=t}:=λfl I=>by
  obtain⟨oe,vs,e1,e2,e3,e4⟩:=fl.first
  exact⟨oe,⟨e2,vs,e3,e4⟩,e1,I.sup e1 hea (apart fl.2.2.1 e1 e3 (.inl rfl)) (λz=>apart fl.2.2.1 e1 e3 (.inr z) rfl) λv q=>by rw[e3]at q;cases q⟩
 obtain⟨oe5,c5,g5,S5⟩:=sup fl5 I5;refine wpAny_handleBy_cons (codeAny_handlers_test (yM S5 hg hm ?_ hd)) (by intro q;cases q);refine(exm_one (M:=model X.prog X.w) I5.kIn (c5.1▸(Looks.ld g5).andThen .now) he).here (codeAny_handlers_suite_as ?_);refine ziy fl5 λh6 fl6 sm6=>?_;have on6:=N.on hB fl.2.2.1 I.stkFree fl6.1 ((sm4.trans sm5).trans sm6) frx;have I6:Inv X aa Z H' {s' with heap:=h6}:=I.call' (s':={s' with heap:=h6}) N.os on6.1 on6.2 N.bare λb z=>nomatch z;obtain⟨oe,c6,g6,S6⟩:=sup fl6 I6;refine Bm (X:=X.sup ea oe λ_ _=>False) S6 hN hi (.inl hk) (v:=.ref ea) rfl (λs7 I7=>?_) (.inr hk);exact YAT (k oe s7 c6.1 c6.2 I7) (λ_ _ z=>z) λ_ _ z=>z.elim
end
abbrev vh:List Value:=[.type "ValueError",.type "Exception",.type "BaseException",.type "object"]
def zue{K:qo}{h:Heap}{C:Addr}{bmB:List Value}{newId:String}(X:K.In h)(q:excIn K C bmB newId=true):∃bm N nm q bs hdct sn sub ab col dd k0 k1 k2 k3 k5 mN,h.get? C=some (excClassObj nm q C N bs bm hdct sn sub ab col dd k0 k1 k2 k3 k5 newId)/\h.Ns N mN/\mN "__init__"=none/\OwnTail h bmB bm:=by
 unfold excIn at q;split at q
 .rename_i dd cd sl ho
  split at q
  .rename_i C' bm k0 k1 k2 k3 n k5 hm hs
   simp only[YAB,yz,Bool.not_eq_true']at q;obtain⟨⟨⟨⟨⟨rfl,rfl⟩,hdel⟩,ht⟩,hok⟩,hni⟩:=q;obtain⟨nm,bs,mro,ns,qn,hd,sn,sub,ab,col,del⟩:=cd;dsimp only at hm hdel hok hni;subst hm hdel;have hsl:sl=#[k0,k1,k2,k3,some (.builtin n),k5]:=by
    obtain⟨l⟩:=sl;simp only at hs;rw[hs]
   subst hsl;exact⟨bm,ns,nm,qn,bs,hd,sn,sub,ab,col,dd,k0,k1,k2,k3,k5,_,X _ _ ho,.of_isNs (isNs_of_in X hok),nsMap_none_of_in X hok hni,tail_of_in X ht⟩
  .cases q
 .cases q
section
variable{X:Cx}{aa:List (Addr×Obj)}{Z:St}{H:Hp}{s:Shared}
def zqc{x:Str}{C:Addr}{e:Expr}{es:List Expr}{t:TA}{np cpos pos:Pos}{Y:Ends->St->Hp->Prop}(hc:X.calm=true)(ho:excIn X.K C vh "ValueError.__new__"=true)(hg:Gl X x)(hm:X.mg x=some (.ref C))(ha:PA X (e::es) t)
  (hx:∀aa s Z H h' ea us,Inv X aa Z H s->Heap.MadeExcOf s.heap h' ea (.ref C) us->∀D,Y D Z H->X.xe (.ref ea) {s with heap:=h'})
  (hd:(x==("__debug__":Str))=false:=by decide) (he:starEach (e::es) X.env=(false,eval e X.env)::starEach es X.env:=by rfl) (hpl:(backTo cpos (starEach es X.env)).any (·.1)=false:=by rfl) :
  PS X (.Raise (some (.Call (.Name x np) (e::es) [] cpos)) none pos) (λD Z H=>t Z H λvs H'=>vs.length<=sizeLine/\Y D Z H'):=by
 intro aa s Z H D I h;have hh:=I.ok.hd hc;obtain⟨bm,N,nm,q,bs,hdct,sn,sub,ab,col,dd,k0,k1,k2,k3,k5,mN,hC,hN,hni,T⟩:=zue I.ok.mod.kin ho;refine wpAny_Raise_call_subT (C:=C) (nm:=nm) (q:=q) (N:=N) (bs:=bs) (bm:=bm) (hdct:=hdct) (sn:=sn) (sub:=sub) (ab:=ab) (col:=col) (dd:=dd) (k0:=k0) (k1:=k1) (k2:=k2) (k3:=k3) (k5:=k5) (mN:=mN) F.excBase_ValueError (T.hasType F.excBase_ValueError.hasBase) hh (by rw[he];show(false || (backTo cpos (starEach es X.env)).any (·.1))=false;rw[hpl];rfl) hni (yM I hg hm ⟨rfl,?_⟩ hd);have ha':=ha cpos aa s Z H _ I h;rw[he]at ha' ⊢;refine Calls.evalArgs_plain (YAT ha' (λus s2 ⟨vs,H2,I2,r2,z,q2⟩=>?_) λ_ _ y=>y);exact⟨rfl,by rw[<-r2.length];exact z,I2.bk _ _ hC,hN.keeps I2.bk,T.keeps I2.bk,λh' e hm'=>hx aa s2 Z H2 h' e us I2 hm' D q2⟩
theorem PA.nox(h:PA X.nox es t):PA X es t:=λpos aa s Z H Q I hw=>
 YAT (h pos aa s Z H Q (I.wish _) hw) (λ_ _ ⟨v,H',I',r,q⟩=>⟨v,H',I'.unwish,r,q⟩) λ_ _ z=>False.elim z
theorem PS.nox{st:Stmt}{t:TS}(h:PS X.nox st t):PS X st t:=λaa s Z H D I hw=>
 YAT (h aa s Z H D (I.wish _) hw) (λ_ _ q=>q.unwish) λ_ _ z=>False.elim z
end
end L2
namespace Fd
open PySem L2
abbrev jU:=List D->(D->Prop)->(Str->Prop)->Prop
def BV(F:jU):jU:=λds Q Y=>∃(P:D->Prop)(qg:Str->Prop),F ds P qg/\(∀d,P d->Q d)/\∀n,qg n->Y n
def Ep(F:jU)(k:∀d,Q d->Q' d)(l:∀n,Y n->Y' n):BV F ds Q Y->BV F ds Q' Y':=λ⟨P,qg,h1,h2,h3⟩=>⟨P,qg,h1,λd z=>k d (h2 d z),λn z=>l n (h3 n z)⟩
noncomputable def dC(K:qo)(mg:Str->Option Value)(n:Nat)(F:jU):Sp:=λvs H Q E=>∃ β G ds,Same G H/\d7 β H G/\aG ⟨K,β,λ_=>none,G,True⟩ G ds vs/\vs.length=n/\BV F ds (λd=>∀v H' G',aX β H G H' G'->Rep ⟨K,β,H,G,True⟩ G' d v->Q v H') λnm=>∀C H' G',mg nm=some (.ref C)->aX β H G H' G'->E (.ref C) none H'
def iC(n:Nat)(B:(Str->Prop)->WS):jU:=λds Q Y=>B Y {nx:=λ_=>Q .non,rt:=Q,bk:=λ_=>False,ct:=λ_=>False} (fH n ds)
def tM(F:bZ K x qual st f fd)
  (hB:∀{cdv:Value}{A:Around}{outer:List PySem.Env}{s:Shared}{H:Hp}{E:XK}{β:Addr}{G:Hp}(Y:Str->Prop),(∀nm C H' G',Y nm->mg nm=some (.ref C)->aX β H G H' G'->E (.ref C) none H')->N.Nodup->bD k (A.deeper (PyProof.Rows.envOfC qual (gC st) s.heap.objs.size f cdv)) ->
   rG (di (dj P w) P w K mg base N qual (gC st) f cdv A outer s H E) ⟨K,β,H,G,True⟩ (nW st) (B Y)) (qj:cZ N ps (gC st):=by exact⟨rfl,rfl,rfl,by decide +kernel,rfl,by decide +kernel,by decide +kernel⟩):aM P w K mg base (dj P w) (k+1) f fd ps (dC K mg ps.length (iC N.length B)):=by
 obtain⟨oc,od,kV,doc,pm,an,cdv,ct,osl,rfl,lk,hcd⟩:=F.ex;refine zsD lk hcd qj (λvs H Q E ⟨β,G,ds,_,_,_,h,_⟩=>h) λA outer s H vs Q E hr ⟨β,G,ds,gh,bx,hv,hl,P',qg,q,hP,hZ⟩=>?_;have h:=@hB cdv A outer s H E β G qg (λnm C H' G' z hm t=>hZ nm z C H' G' hm t) qj.nd hr;refine⟨_,h.pss,fH N.length ds,G,Jr gh bx hv,h.mono {nx:=λ_=>P' .non,rt:=P',bk:=λ_=>False,ct:=λ_=>False} _ _ ⟨λS z Z H' G' r s'=>hP _ z .non H' G' r.stp rfl,λd z v H' G' t e=>hP _ z v H' G' t e,λS z=>z.elim,λS z=>z.elim⟩ q⟩
structure gZ(P:Program)(w:World)(K:qo)(mg:Str->Option Value)(base:Heap)(x:Str)(k:Nat)(ps:List Str)(sp:Sp):Prop where
 ex:∃f fd,aM P w K mg base (dj P w) k f fd ps sp/\mg x=some (.ref f)/\PySem.W.keepIn K (.ref f)=true/\Binds K fd ps []
def gZ.of(F:bZ K x qual st f fd)(G:aM P w K mg base (dj P w) k f fd ps sp)(hm:mg x=some (.ref f))(hb:Binds K fd ps []):gZ P w K mg base x k ps sp:=
 ⟨f,fd,G,hm,F.kp,hb⟩
section
variable{X:Cx}{c:Bk}{st:Stmt}{e:Expr}{es:List Expr}{pos cpos p np:Pos}
theorem DS.nox(h:DS X.nox c st W):DS X c st W:=⟨h.mono,h.ps.nox⟩
theorem DE.nox(h:DE X.nox c e W):DE X c e W:=⟨h.mono,h.pe.nox⟩
theorem DT.nox(h:DT X.nox c e W):DT X c e W:=⟨h.mono,h.pt.nox⟩
abbrev rH(R:WL)(y:Prop):WS:=λ_ S=>R S λds=>ds.length<=1000/\y
def tV(hR:DA X.nox c (e::es) R)(hx:∀aa s Z H G h' ea us,Inv X aa Z H s->aX c.β c.H0 c.G0 H G->Heap.MadeExcOf s.heap h' ea (.ref C) us->y->X.xe (.ref ea) {s with heap:=h'})(ho:PySem.W.excIn X.K C vh "ValueError.__new__"=true)(hm:X.mg x=some (.ref C))(hc:X.calm=true:=by rfl)(hg:Gl X x:=by rfl)
  (hd:(x==("__debug__":Str))=false:=by decide) (sk:Sk X e es cpos:=by exact⟨rfl,rfl⟩):DS X c (.Raise (some (.Call (.Name x np) (e::es) [] cpos)) none pos) (rH R y)where
 mono:=λE E' S l q=>q
 ps:=kY (zqc (Y:=λ_ Z H=>y/\∃G,aX c.β c.H0 c.G0 H G) hc ho hg hm (PA.nox hR.pa) (λaa s Z H h' ea us I m _ ⟨z,G,t⟩=>hx aa s Z H G h' ea us I t m z) hd sk.1 sk.2) λD Z H ⟨S,G,r,q⟩=>⟨S,G,r,hR.mono S _ _ (λds z vs H' G' t v=>⟨by rw[<-v.length,mG];have:=z.1;omega,z.2,G',r.stp.trans t⟩) q⟩
def Rel.unput(r:Rel c S Z H G):Rel c (S.set i .un) (Z.set i o) H G:=by
 refine⟨by simp[r.len],r.stp,λj s e=>?_,λj k a xs ys e1 e2 e3 e4=>?_,r.kn⟩
 .by_cases z:i=j
  .subst z;have hi:i<S.length:=by have:=(jB.mp e).1;simpa using this
   rw[jK hi]at e;cases e
   trivial
  .rw[jE z]at e ⊢;exact r.slot j s e
 .have nn:∀{j:Nat}{xs},(S.set i .un)[j]?=some (.own xs)->i≠j:=λe z=>by
   subst z;have hi:i<S.length:=by have:=(jB.mp e).1;simpa using this
   rw[jK hi]at e;cases e
  have nj:=nn e1;have nk:=nn e2;rw[jE nj]at e1 e3;rw[jE nk]at e2 e4;exact r.dis j k a xs ys e1 e2 e3 e4
end
end Fd
namespace L2
open PySem PySem.Spec PyProof.Rows
section
variable{X:Cx}
def zu0:R2:=λx y H Q=>∃(z:Str)(k:Int),x=.str z/\y=.int k/\2<=k/\k<=100/\z.length<=1000/\∀u:Str,u.length<=k.toNat*z.length->(∀ch∈u.cps.toList,ch∈z.cps.toList)->Q (.str u) H
theorem zl6(its:Array Nat):∀(k:Nat)(acc:Array Nat),(List.foldl (λx1 x2=>x1++x2) acc (List.replicate k its)).size=acc.size+k*its.size/\∀ch∈(List.foldl (λx1 x2=>x1++x2) acc (List.replicate k its)).toList,ch∈acc.toList\/ch∈its.toList
 |0,acc=>⟨by simp,λch h=>.inl h⟩
 |k+1,acc=>by
  rw[yK,List.foldl_cons];obtain⟨h1,h2⟩:=zl6 its k (acc++its);refine⟨by rw[h1,Array.size_append,Nat.succ_mul];omega,λch hc=>?_⟩;rcases h2 ch hc with z|z
  .rw[Array.toList_append]at z;exact YAG.mp z
  .exact .inr z
def zry:fL X (binaryOp .Mult) zu0:=by
 intro aa s Z H x y v u Q I rx ry h;obtain⟨z,k,rfl,rfl,h2,h3,hz,q⟩:=h;obtain⟨t,rfl⟩:=rx;obtain⟨t',rfl⟩:=ry;have hkl:z.length*k.toNat<=100000:=YCM hz (show k.toNat<=100 by omega);obtain⟨f1,f2⟩:=zl6 z.cps k.toNat #[];refine PySem.P.mul_str (by rw[gV (by omega),gV (by omega)];rfl) (λ_ _=>?_) (λ_ _=>?_) ?_
 .have:(1000:Int)<=(2^63-1) / k:=Int.le_ediv_of_mul_le (by omega) (by omega)
  omega
 .exact gV (by rw[mG];omega)
 .rw[if_neg (by omega)];split
  .exact⟨.str z,H,I,⟨t,rfl⟩,q z (Nat.le_mul_of_pos_left _ (show 0<k.toNat by omega)) λ_ h=>h⟩
  .have hl:(⟨(List.replicate k.toNat z.cps).foldl (·++·) #[]⟩:Str).length=k.toNat*z.length:=by
    show Array.size _=_;rw[f1];simp;rfl
   refine⟨by rw[hl,Nat.mul_comm,mG];omega,.str _,H,I.tok _,⟨_,rfl⟩,q _ (Nat.le_of_eq hl) λch hc=>(f2 ch hc).elim (λz=>by simp at z) id⟩
end
end L2
namespace Fd
open PySem L2
section
variable{X:Cx}{c:Bk}
def Dn:F2:=λx y Q=>match x,y with
 |.str z,.int k=>(2<=k/\k<=100/\z.length<=1000)/\∀u:Str,u.length<=k.toNat*z.length->(∀ch∈u.cps.toList,ch∈z.cps.toList)->Q (.str u)
 |x,y=>jb x y Q
def zu3:lg Dn:=λx y Q Q' k q=>by
 unfold Dn at q ⊢;split at q
 .exact⟨q.1,λu h1 h2=>k _ (q.2 u h1 h2)⟩
 .exact ztJ _ _ _ _ k q
def zsV:m8 c Dn (λx y H Q=>ztn x y H Q\/zu0 x y H Q):=λH G x y u v Q gh bx h0 rx ry q=>by
 unfold Dn at q;split at q
 .cases rx;cases ry;exact .inr ⟨_,_,rfl,rfl,q.1.1,q.1.2.1,q.1.2.2,λu h1 h2=>q.2 u h1 h2 _ H G (aX.refl gh bx) rfl⟩
 .exact .inl (zqQ H G _ _ u v Q gh bx h0 rx ry q)
def zuC(hA:DE X c a A)(hB:DE X c b B):DE X c (.BinOp a .Mult b pos) (ak Dn A B):=Ec zu3 ((mK.or zq7).or zry) zsV hA hB
end
def HX:Fn:=eG 1 ((aO (pC (uV mz mz (kW (.int 1)) (cbW fY (aq (vW 0) ao)) (kW (.int 8))) (cbW mZ (aq (aN (eY [none] (gq (vW 0)) (.nm 0) cW (ak (eU false) (vW 0) (kW (.str "abcdefghijklmnopqrstuvwxyz"))))) ao)))))
structure Ob where
 C:Addr
 fs:List (Str×List D)
abbrev bN:=Addr->Option Ob
def iY(qj:bN)(p:Addr)(o:Ob):bN:=λa=>if a=p then some o else qj a
def qW:iY qj p o p=some o:=by unfold iY;rw[if_pos rfl]
def rR(h:q≠p):iY qj p o q=qj q:=by unfold iY;rw[if_neg h]
abbrev lr(K:qo)(β:Addr)(G:Hp):Bk:=⟨K,β,λ_=>none,G,True⟩
def j4(fs:List (Str×List D))(as:List Addr):List (Str×V):=(fs.zip as).map λp=>(p.1.1,V.ref p.2)
structure Kn(K:qo)(β:Addr)(G:Hp)(qj:bN)(M:Hp)(ad:Addr->List Addr):Prop where
 obj:∀p o,qj p=some o->∃dx,M p=some (.ins o.C dx (j4 o.fs (ad p)))/\(ad p).length=o.fs.length
 lst:∀p o (i:Nat) a x,qj p=some o->(ad p)[i]?=some a->o.fs[i]?=some x->∃vs,M a=some (.lst vs)/\aG (lr K β G) G x.2 vs
 dis:∀p q (i j:Nat) a,qj p≠none->qj q≠none->(ad p)[i]?=some a->(ad q)[j]?=some a->p=q/\i=j
 kin:∀a o,M a=some o->¬ wJ o
 ap:∀a,M a≠none->G a=none/\a≠β
theorem Kn.mono(k:Kn K β G qj M ad)(s:Same G G')(h:∀a,M a≠none->G' a=none):Kn K β G' qj M ad:=
 ⟨k.obj,λp o i a x h1 h2 h3=>(k.lst p o i a x h1 h2 h3).imp λvs z=>⟨z.1,aG.back (c':=lr K β G) (c:=lr K β G') rfl rfl (λ_ e=>e) (z.2.mono s)⟩,k.dis,k.kin,λa z=>⟨h a z,(k.ap a z).2⟩⟩
def ov(B M:Hp):Hp:=λa=>match M a with|some o=>some o|none=>B a
def uz(h:M a=some o):ov B M a=some o:=by unfold ov;rw[h]
def rC(h:M a=none):ov B M a=B a:=by unfold ov;rw[h]
def bJ:ov B M a=none↔M a=none/\B a=none:=by
 unfold ov;cases M a with
 |none=>simp
 |some o=>simp
def Dm(M M':Hp):Prop:=∀a,M a≠none->M' a≠none
def Dm.refl(M:Hp):Dm M M:=λ_ h=>h
def Dm.trans(h:Dm A B)(k:Dm B C):Dm A C:=λa z=>k a (h a z)
structure Bo where
 K:qo
 β:Addr
 H0:Hp
 G0:Hp
 M0:Hp
def dz(b:Bo)(qj:bN)(M G:Hp):Bk:=⟨b.K,b.β,ov b.H0 M,G,∃ad,Kn b.K b.β G qj M ad⟩
mutual
theorem Rep.reb(hk:c'.K=c.K)(hb:c'.β=c.β)(hn:∀a,G a≠none->c'.H0 a=none->c.H0 a=none):∀{d:D}{v:V},Rep c' G d v->Rep c G d v
 |.non,_,h=>h
 |.bl _,_,h=>h
 |.int _,_,h=>h
 |.str _,_,h=>h
 |.box,_,h=>by show _=V.ref c.β;rw[<-hb];exact h
 |.obj _,_,h=>h
 |.dct n ks xs,_,⟨a,vs,h1,h2,h4,h5,h3⟩=>⟨a,vs,h1,h2,λz=>hn a (by rw[h2];simp) (h4 z),h5,aG.reb hk hb hn h3⟩
 |.fdc ks xs,_,⟨a,vs,o,h1,h2,h5,h3⟩=>⟨a,vs,o,h1,h2,h5,aG.reb hk hb hn h3⟩
 |.tup xs,_,⟨a,vs,h1,h2,h3⟩=>⟨a,vs,h1,hk▸h2,aG.reb hk hb hn h3⟩
 |.lst n xs,_,⟨a,vs,h1,h2,h4,h3⟩=>⟨a,vs,h1,h2,λz=>hn a (by rw[h2];simp) (h4 z),aG.reb hk hb hn h3⟩
theorem aG.reb(hk:c'.K=c.K)(hb:c'.β=c.β)(hn:∀a,G a≠none->c'.H0 a=none->c.H0 a=none):∀{ds:List D}{vs:List V},aG c' G ds vs->aG c G ds vs
 |[],_,h=>h
 |_::_,_,⟨v,ws,h1,h2,h3⟩=>⟨v,ws,h1,Rep.reb hk hb hn h2,aG.reb hk hb hn h3⟩
end
structure xK(β:Addr)(M M' H G H' G':Hp):Prop where
 gg:Same G G'
 gh:Same G' H'
 fr:∀a o,a≠β->M a=none->H a=some o->H' a=some o
 mh:∀a o,M' a=some o->H' a=some o
 mn:∀a,M' a≠none->M a≠none\/H a=none
 mg:∀a,M' a≠none->G' a=none/\a≠β
 nw:∀a,G' a≠none->G a≠none\/H a=none\/∃o,H a=some o/\wJ o
 bx:d7 β H' G'
 bc:∀cc p r d,H β=some (sG cc p r d)->∃p r d,H' β=some (sG cc p r d)
 dm:Dm M M'
structure Out(b:Bo)(M G1:Hp):Prop where
 mb:∀a,M a≠none->b.H0 a=none/\b.G0 a=none/\a≠b.β
 gg:Same b.G0 G1
 nw:∀a,G1 a≠none->b.G0 a≠none\/b.H0 a=none\/∃o,b.H0 a=some o/\wJ o
 g0:Same b.G0 b.H0
 dm:Dm b.M0 M
def Rel.eff(r:Rel (dz b qj M G1) S Z H G)(hM:∀a,M a≠none->b.H0 a=none/\a≠b.β)(e:xK b.β M M' H G H' G')(kn:∃ad,Kn b.K b.β G' qh M' ad):Rel (dz b qh M' G') S Z H' G':=by
 have base:∀a o,b.H0 a=some o->M a=none:=λa o h=>by
  cases z:M a with
  |none=>rfl
  |some u=>have:=(hM a (by rw[z];simp)).1;rw[h]at this;cases this
 have mβ:M' b.β=none:=by
  cases z:M' b.β with
  |none=>rfl
  |some u=>exact absurd rfl (e.mg _ (by rw[z];simp)).2
 have m0:M b.β=none:=by
  cases z:M b.β with
  |none=>rfl
  |some u=>exact absurd rfl (hM _ (by rw[z];simp)).2
 refine⟨r.len,⟨Same.refl _,e.gh,λa o n h=>?_,λa z=>.inl z,e.bx,?_,?_⟩,λi s h=>?_,r.dis,kn⟩
 .cases z:M' a with
  |some u=>rw[show(dz b qh M' G').H0 a=some u from uz z]at h;cases h;exact e.mh a _ z
  |none=>
   rw[show(dz b qh M' G').H0 a=b.H0 a from rC z]at h;have z':=base a o h;exact e.fr a o n z' (r.stp.fr a o n ((rC z').trans h))
 .intro z;exact r.stp.b0 ((rC m0).trans ((rC mβ).symm.trans z))
 .intro cc p q d h;obtain⟨p1,q1,d1,h1⟩:=r.stp.bc cc p q d ((rC m0).trans ((rC mβ).symm.trans h));exact e.bc cc p1 q1 d1 h1
 .have q:=r.slot i s h;cases s with
  |un=>trivial
  |val d=>
   obtain⟨v,h1,h2⟩:=q;refine⟨v,h1,(Rep.reb (c:=dz b qh M' G') (c':=dz b qj M G1) rfl rfl (λa ga z=>?_) h2).mono e.gg⟩;obtain⟨z1,z2⟩:=bJ.mp z;refine bJ.mpr ⟨?_,z2⟩;cases y:M' a with
   |none=>rfl
   |some u=>
    have:=(e.mg a (by rw[y];simp)).1
    cases w:G a with
    |none=>exact absurd w ga
    |some o=>rw[e.gg a o w]at this;cases this
  |own xs=>
   obtain⟨a,vs,h1,h2,h3,h4,h5,h6⟩:=q;obtain⟨z1,z2⟩:=bJ.mp h4;have m':M' a=none:=by
    cases y:M' a with
    |none=>rfl
    |some u=>
     rcases e.mn a (by rw[y];simp)with w|w
     .exact absurd z1 w
     .rw[h2]at w;cases w
   have h4':(dz b qh M' G').H0 a=none:=bJ.mpr ⟨m',z2⟩;refine⟨a,vs,h1,e.fr a _ h5 z1 h2,?_,h4',h5,(aG.reb (c:=dz b qh M' G') (c':=dz b qj M G1) rfl rfl (λa ga z=>?_) h6).mono e.gg⟩
   .cases y:G' a with
    |none=>rfl
    |some o=>
     rcases e.nw a (by rw[y];simp)with w|w|⟨u,w,st⟩
     .exact absurd h3 w
     .rw[h2]at w;cases w
     .rw[h2]at w;cases w;exact st.elim
   .obtain⟨z1,z2⟩:=bJ.mp z;refine bJ.mpr ⟨?_,z2⟩;cases y:M' a with
    |none=>rfl
    |some u=>
     have:=(e.mg a (by rw[y];simp)).1
     cases w:G a with
     |none=>exact absurd w ga
     |some o=>rw[e.gg a o w]at this;cases this
  |dic ks xs=>
   obtain⟨a,vs,h1,h2,h3,h4,h5,h6,h7⟩:=q;obtain⟨z1,z2⟩:=bJ.mp h4;have m':M' a=none:=by
    cases y:M' a with
    |none=>rfl
    |some u=>
     rcases e.mn a (by rw[y];simp)with w|w
     .exact absurd z1 w
     .rw[h2]at w;cases w
   have h4':(dz b qh M' G').H0 a=none:=bJ.mpr ⟨m',z2⟩;refine⟨a,vs,h1,e.fr a _ h5 z1 h2,?_,h4',h5,(aG.reb (c:=dz b qh M' G') (c':=dz b qj M G1) rfl rfl (λa ga z=>?_) h6).mono e.gg,h7⟩
   .cases y:G' a with
    |none=>rfl
    |some o=>
     rcases e.nw a (by rw[y];simp)with w|w|⟨u,w,st⟩
     .exact absurd h3 w
     .rw[h2]at w;cases w
     .rw[h2]at w;cases w;exact st.elim
   .obtain⟨z1,z2⟩:=bJ.mp z;refine bJ.mpr ⟨?_,z2⟩;cases y:M' a with
    |none=>rfl
    |some u=>
     have:=(e.mg a (by rw[y];simp)).1
     cases w:G a with
     |none=>exact absurd w ga
     |some o=>rw[e.gg a o w]at this;cases this
def Out.eff(o:Out b M G1)(r:Rel (dz b qj M G1) S Z H G)(e:xK b.β M M' H G H' G'):Out b M' G':=by
 have fresh:∀a,H a=none->b.H0 a=none:=λa h=>(bJ.mp (r.stp.free h)).2;have keep:∀a u,a≠b.β->b.H0 a=some u->H a=some u:=λa u n h=>r.stp.fr a u n ((rC (by
  cases z:M a with
  |none=>rfl
  |some w=>have:=(o.mb a (by rw[z];simp)).1;rw[h]at this;cases this)).trans h)
 have nwG:∀a,G a≠none->b.G0 a≠none\/b.H0 a=none\/∃u,b.H0 a=some u/\wJ u:=λa z=>by
  rcases r.stp.nw a z with w|w|⟨u,w,st⟩
  .exact o.nw a w
  .exact .inr (.inl (bJ.mp w).2)
  .cases y:M a with
   |none=>exact .inr (.inr ⟨u,(rC y).symm.trans w,st⟩)
   |some x=>exact .inr (.inl (o.mb a (by rw[y];simp)).1)
 refine⟨λa z=>?_,o.gg.trans (r.stp.gg.trans e.gg),λa z=>?_,o.g0,o.dm.trans e.dm⟩
 .have h0:b.H0 a=none:=by
   rcases e.mn a z with w|w
   .exact(o.mb a w).1
   .exact fresh a w
  exact⟨h0,o.g0.free h0,(e.mg a z).2⟩
 .rcases e.nw a z with w|w|⟨u,w,st⟩
  .exact nwG a w
  .exact .inr (.inl (fresh a w))
  .cases y:b.H0 a with
   |none=>exact .inr (.inl rfl)
   |some x=>
    by_cases n:a=b.β
    .subst n;obtain⟨cc,p,q,d,ns,hb,_⟩:=r.bx.ex;rw[show(dz b qj M G1).β=b.β from rfl]at hb;rw[hb]at w;cases w;exact st.elim
    .have:=keep a x n y
     rw[w]at this;cases this;exact .inr (.inr ⟨u,rfl,st⟩)
def Out.stp(o:Out b M G1)(kin:∀a u,M a=some u->¬ wJ u)(t:aX b.β (ov b.H0 M) G1 H G):aX b.β b.H0 b.G0 H G:=by
 have out:∀a u,b.H0 a=some u->M a=none:=λa u h=>by
  cases z:M a with
  |none=>rfl
  |some w=>have:=(o.mb a (by rw[z];simp)).1;rw[h]at this;cases this
 have m0:M b.β=none:=by
  cases z:M b.β with
  |none=>rfl
  |some u=>exact absurd rfl (o.mb _ (by rw[z];simp)).2.2
 refine⟨o.gg.trans t.gg,t.gh,λa u n h=>t.fr a u n ((rC (out a u h)).trans h),λa z=>?_,t.bx,λz=>t.b0 ((rC m0).trans z),λcc p q d h=>t.bc cc p q d ((rC m0).trans h)⟩;rcases t.nw a z with w|w|⟨u,w,st⟩
 .exact o.nw a w
 .exact .inr (.inl (bJ.mp w).2)
 .cases y:M a with
  |none=>exact .inr (.inr ⟨u,(rC y).symm.trans w,st⟩)
  |some x=>exact .inr (.inl (o.mb a (by rw[y];simp)).1)
def Out.apart{b:Bo}{M G1 H G:Hp}(kin:∀a u,M a=some u->¬ wJ u)(h1:∀a,M a≠none->G1 a=none)(t:aX b.β (ov b.H0 M) G1 H G)(a:Addr)(h:M a≠none):G a=none:=by
 cases z:G a with
 |none=>rfl
 |some u=>
  cases y:M a with
  |none=>exact absurd y h
  |some x=>
   rcases t.nw a (by rw[z];simp)with w|w|⟨v,w,st⟩
   .exact absurd (h1 a h) w
   .rw[show ov b.H0 M a=some x from uz y]at w;cases w
   .rw[show ov b.H0 M a=some x from uz y]at w;cases w;exact absurd st (kin a _ y)
structure qN where
 nx:bN->Env->Prop
 rt:bN->D->Prop
 bk:bN->Env->Prop
 ct:bN->Env->Prop
abbrev WF:=qN->bN->Env->Prop
structure qN.Le(E E':qN):Prop where
 nx:∀qj S,E.nx qj S->E'.nx qj S
 rt:∀qj d,E.rt qj d->E'.rt qj d
 bk:∀qj S,E.bk qj S->E'.bk qj S
 ct:∀qj S,E.ct qj S->E'.ct qj S
def zqq(W:WF):Prop:=∀E E' qj S,qN.Le E E'->W E qj S->W E' qj S
def dq(b:Bo)(qj:bN)(M:Hp)(S:Env)(Z:St)(H G:Hp):Prop:=∃G1,Out b M G1/\Rel (dz b qj M G1) S Z H G
noncomputable def sH(b:Bo)(G M:Hp)(Ds:Ends):qN where
 nx:=λqj S=>∀ Z H' G' M',dq b qj M' S Z H' G'->Same G G'->Dm M M'->Ds.nx Z H'
 rt:=λqj d=>∀v H' G' M' G1,(∃ad,Kn b.K b.β G1 qj M' ad)->Out b M' G1->aX b.β (ov b.H0 M') G1 H' G'->Dm M M'->Rep (dz b qj M' G1) G' d v->Ds.rt v H'
 bk:=λqj S=>∀ Z H' G' M',dq b qj M' S Z H' G'->Same G G'->Dm M M'->Ds.bk Z H'
 ct:=λqj S=>∀ Z H' G' M',dq b qj M' S Z H' G'->Same G G'->Dm M M'->Ds.ct Z H'
def DR{b:Bo}{G G1 M M1:Hp}{Ds:Ends}(s:Same G G1)(m:Dm M M1):qN.Le (sH b G M Ds) (sH b G1 M1 Ds):=
 ⟨λqj S h Z H' G' M' r s' m'=>h Z H' G' M' r (s.trans s') (m.trans m'),λqj d h v H' G' M' G2 k o t m' e=>h v H' G' M' G2 k o t (m.trans m') e,λqj S h Z H' G' M' r s' m'=>h Z H' G' M' r (s.trans s') (m.trans m'),λqj S h Z H' G' M' r s' m'=>h Z H' G' M' r (s.trans s') (m.trans m')⟩
def tOS(b:Bo)(W:WF):TS:=λDs Z H=>∃ S G qj M,dq b qj M S Z H G/\W (sH b G M Ds) qj S
structure OS(X:Cx)(b:Bo)(st:Stmt)(W:WF):Prop where
 mono:zqq W
 ps:PS X st (tOS b W)
structure pq(X:Cx)(b:Bo)(sts:List Stmt)(W:WF):Prop where
 mono:zqq W
 pss:lJ X sts (tOS b W)
section
variable{X:Cx}{b:Bo}{st:Stmt}{rest:List Stmt}{pos p p':Pos}{e:Expr}
abbrev atS(E:qN)(qj:bN):En:=⟨E.nx qj,E.rt qj,E.bk qj,E.ct qj⟩
abbrev iQ(W:bN->WS):WF:=λE qj S=>W qj (atS E qj) S
def zsQ{G M G1:Hp}{qj:bN}{D:Ends}(k:∃ad,Kn b.K b.β G1 qj M ad)(o:Out b M G1):En.Le (atS (sH b G M D) qj) (ends (dz b qj M G1) G D):=
 ⟨λS z Z H' G' r s=>z Z H' G' M ⟨G1,o,r⟩ s (Dm.refl M),λd z v H' G' t e=>z v H' G' M G1 k o t (Dm.refl M) e,λS z Z H' G' r s=>z Z H' G' M ⟨G1,o,r⟩ s (Dm.refl M),λS z Z H' G' r s=>z Z H' G' M ⟨G1,o,r⟩ s (Dm.refl M)⟩
def jD(h:∀qj M G1,DS X (dz b qj M G1) st (W qj)):OS X b st (iQ W)where
 mono:=λE E' qj S l q=>(h qj (λ_=>none) (λ_=>none)).mono (atS E qj) (atS E' qj) S ⟨l.nx qj,l.rt qj,l.bk qj,l.ct qj⟩ q
 ps:=λaa s Z H D I ⟨S,G,qj,M,⟨G1,o,r⟩,q⟩=>(h qj M G1).ps aa s Z H D I ⟨S,G,r,(h qj M G1).mono _ _ S (zsQ r.kn o) q⟩
abbrev nilF:WF:=λE qj S=>E.nx qj S
abbrev bQ(A B:WF):WF:=λE qj S=>A {E with nx:=B E} qj S
def DN:pq X b [] nilF:=⟨λE E' qj S l q=>l.nx qj S q,Er IW λD Z H ⟨S,G,qj,M,r,q⟩=>q Z H G M r (Same.refl _) (Dm.refl M)⟩
def gW(h1:OS X b st A)(h2:pq X b rest B):pq X b (st::rest) (bQ A B)where
 mono:=λE E' qj S l q=>h1.mono {E with nx:=B E} _ qj S ⟨λqh S' z=>h2.mono _ _ qh S' l z,l.rt,l.bk,l.ct⟩ q
 pss:=Er (nQ h1.ps h2.pss) λD Z H ⟨S,G,qj,M,r,q⟩=>⟨S,G,qj,M,r,h1.mono {sH b G M D with nx:=B (sH b G M D)} _ qj S ⟨λqh S' z Z' H' G' M' r' s' m'=>⟨S',G',qh,M',r',h2.mono _ _ qh S' (DR s' m') z⟩,λqh d z=>z,λqh S' z=>z,λqh S' z=>z⟩ q⟩
def pL(h1:OS X b st A):pq X b [st] A:=⟨h1.mono,zJ h1.ps⟩
abbrev v9(C:bN->WT)(A B:WF):WF:=λE qj S=>C qj S λt=>if t=true then A E qj S else B E qj S
def zpj(hC:∀qj M G1,DT X (dz b qj M G1) e (C qj))(hA:pq X b x A)(hB:pq X b y B):OS X b (.If e x y pos) (v9 C A B)where
 mono:=λE E' qj S l q=>(hC qj (λ_=>none) (λ_=>none)).mono S _ _ (λt z=>by
  cases t
  .exact hB.mono _ _ qj S l z
  .exact hA.mono _ _ qj S l z) q
 ps:=λaa s Z H D I ⟨S,G,qj,M,⟨G1,o,r⟩,q⟩=>Dq (hC qj M G1).pt hA.pss hB.pss aa s Z H D I ⟨S,G,r,(hC qj M G1).mono S _ _ (λt z H' G' t1=>by
  cases t
  .exact⟨S,G',qj,M,⟨G1,o,r.step t1⟩,hB.mono _ _ qj S (DR t1.gg (Dm.refl M)) z⟩
  .exact⟨S,G',qj,M,⟨G1,o,r.step t1⟩,hA.mono _ _ qj S (DR t1.gg (Dm.refl M)) z⟩) q⟩
end
def qu(t:Tg)(B:WF)(E:qN):List D->bN->Env->Prop
 |[],qj,S=>E.nx qj S
 |x::xs,qj,S=>gD t x S λS'=>B {nx:=qu t B E xs,ct:=qu t B E xs,bk:=E.nx,rt:=E.rt} qj S'
abbrev yg(I:bN->WL)(t:Tg)(B:WF):WF:=λE qj S=>I qj S λxs=>qu t B E xs qj S
theorem zfA(mB:zqq B)(l:qN.Le E E'):∀(xs:List D)(qj:bN)(S:Env),qu t B E xs qj S->qu t B E' xs qj S
 |[],qj,S,q=>l.nx qj S q
 |x::xs,qj,S,q=>tK t x S (λS' z=>mB {nx:=qu t B E xs,ct:=qu t B E xs,bk:=E.nx,rt:=E.rt} _ qj S' ⟨λqj S z=>zfA mB l xs qj S z,l.rt,l.nx,λqj S z=>zfA mB l xs qj S z⟩ z) q
def Rep.carry(e:Rep (dz b qj M Ga) G d v)(s:Same G G')(h:∀a,M' a≠none->G' a=none):Rep (dz b qh M' Gb) G' d v:=
 (Rep.reb (c:=dz b qh M' Gb) (c':=dz b qj M Ga) rfl rfl (λa ga z=>by
  obtain⟨z1,z2⟩:=bJ.mp z;refine bJ.mpr ⟨?_,z2⟩;cases y:M' a with
  |none=>rfl
  |some u=>
   have:=h a (by rw[y];simp)
   cases w:G a with
   |none=>exact absurd w ga
   |some o=>rw[s a o w]at this;cases this) e).mono s
theorem Rel.apart(r:Rel (dz b qj M G1) S Z H G)(a:Addr)(h:M a≠none):G a=none:=by
 obtain⟨ad,k⟩:=r.kn;exact Out.apart (b:=b) k.kin (λa z=>(k.ap a z).1) r.stp a h
section
variable{X:Cx}{b:Bo}{tg iter e:Expr}{body:List Stmt}{pos p:Pos}
def znZ(t:Tg)(hI:∀qj M G1,DI X (dz b qj M G1) tg iter (I qj))(hg:PG X tg (lE b.K t))(hB:pq X b body B)(hp:PassesOwn (model X.prog X.w) X.A X.env X.xe:=by exact PassesOwn.never)(hc:X.calm=true:=by rfl)(hs:∀x,foldedSetIterable iter X.env x=pure x:=by intro _;rfl) :
  OS X b (.For tg iter body [] pos) (yg I t B)where
 mono:=λE E' qj S l q=>(hI qj (λ_=>none) (λ_=>none)).mono S _ _ (λxs z=>zfA hB.mono l xs qj S z) q
 ps:=λaa s Z H D Iv ⟨S,G,qj,M,⟨Gb,o,r⟩,q⟩=>zqJ hp hc (hI qj M Gb).pi hg hB.pss hs aa s Z H D Iv ⟨S,G,r,(hI qj M Gb).mono S _ _ (λxs z J H1 G1 t1 it=>by
  refine⟨λi m Z H=>m=xs.length-i/\i<=xs.length/\∃ S' G' qh M',dq b qh M' S' Z H G'/\Same G1 G'/\Dm M M'/\qu t B (sH b G M D) (xs.drop i) qh S',⟨xs.length,rfl,vX _,S,G1,qj,M,⟨Gb,o,r.step t1⟩,Same.refl _,Dm.refl M,z⟩,?_⟩;rintro i m Z' H' ⟨rfl,hi,S',G',qh,M',⟨Gc,o',r'⟩,s',m',q'⟩;have free:∀a,H' a=none->(dz b qj M Gb).H0 a=none:=λa z=>by
   obtain⟨z1,z2⟩:=bJ.mp (show ov b.H0 M' a=none from r'.new0 z);refine bJ.mpr ⟨?_,z2⟩;cases y:M a with
   |none=>rfl
   |some u=>exact absurd z1 (m' a (by rw[y];simp))
  have ok:=it i H' G' s' r'.gh r'.bx free;by_cases hlt:i<xs.length
  .refine .inr ?_;have ed:xs.drop i=xs[i]::xs.drop (i+1):=YBE hlt;rw[ed]at q';obtain⟨go,yl⟩:=ok.2 xs[i] (jr hlt);refine⟨go,λZ H=>∃ S' G' qh M',dq b qh M' S' Z H G'/\Same G1 G'/\Dm M M'/\qu t B (sH b G M D) (xs.drop (i+1)) qh S',λZ2 H2 h=>⟨xs.length-(i+1),by omega,rfl,by omega,h⟩,λx H3 y=>?_⟩;obtain⟨G3,t3,e3⟩:=yl x H3 y;have r3:=r'.step t3;have e4:Rep (dz b qh M' Gc) G3 xs[i] x:=e3.carry (Same.refl _) r3.apart;refine CN (c:=dz b qh M' Gc) t xs[i] x S' Z' r3 e4 (tK t xs[i] S' (λS2 z2 Z2 r2=>?_) q');refine⟨S2,G3,qh,M',⟨Gc,o',r2⟩,hB.mono {nx:=qu t B (sH b G M D) (xs.drop (i+1)),ct:=qu t B (sH b G M D) (xs.drop (i+1)),bk:=(sH b G M D).nx,rt:=(sH b G M D).rt} _ qh S2 ⟨λqi S3 z3 Z3 H4 G4 M4 r4 s4 m4=>⟨S3,G4,qi,M4,r4,(s'.trans t3.gg).trans s4,m'.trans m4,z3⟩,λqi d z v H4 G4 M4 G5 k5 o5 t5 m5 e5=>z v H4 G4 M4 G5 k5 o5 t5 (m'.trans m5) e5,λqi S3 z3 Z3 H4 G4 M4 r4 s4 m4=>z3 Z3 H4 G4 M4 r4 (((t1.gg.trans s').trans t3.gg).trans s4) (m'.trans m4),λqi S3 z3 Z3 H4 G4 M4 r4 s4 m4=>⟨S3,G4,qi,M4,r4,(s'.trans t3.gg).trans s4,m'.trans m4,z3⟩⟩ z2⟩
  .have e:i=xs.length:=by omega
   subst e;rw[YC1]at q';exact .inl ⟨ok.1 rfl,q' Z' H' G' M' ⟨Gc,o',r'⟩ (t1.gg.trans s') m'⟩) q⟩
end
abbrev m7:=List D->bN->(D->bN->Prop)->(Str->bN->Prop)->Prop
def yV(F:m7):m7:=λds qj Q Y=>∃(P:D->bN->Prop)(qg:Str->bN->Prop),F ds qj P qg/\(∀d qh,P d qh->Q d qh)/\∀n qh,qg n qh->Y n qh
def Bw(F:m7)(k:∀d qj,Q d qj->Q' d qj)(l:∀n qj,Y n qj->Y' n qj):yV F ds qj Q Y->yV F ds qj Q' Y':=λ⟨P,qg,h1,h2,h3⟩=>⟨P,qg,h1,λd qj z=>k d qj (h2 d qj z),λn qj z=>l n qj (h3 n qj z)⟩
noncomputable def kZ(K:qo)(mg:Str->Option Value)(n:Nat)(F:m7):Sp:=λvs H Q E=>∃ β G qj M ad ds,Same G H/\d7 β H G/\(∀a o,M a=some o->H a=some o)/\Kn K β G qj M ad/\aG (lr K β G) G ds vs/\vs.length=n /\
 yV F ds qj (λd qh=>∀v H' G' M' ad',xK β M M' H G H' G'->Kn K β G' qh M' ad'->Rep ⟨K,β,H,G,True⟩ G' d v->Q v H') λnm qh=>∀C H' G' M' ad',mg nm=some (.ref C)->xK β M M' H G H' G'->Kn K β G' qh M' ad'->E (.ref C) none H'
def mi(H M:Hp):Hp:=λa=>match M a with|some _=>none|none=>H a
def zvj(h:M a≠none):mi H M a=none:=by
 unfold mi;cases e:M a with
 |none=>exact absurd e h
 |some o=>rfl
def xm(h:M a=none):mi H M a=H a:=by unfold mi;rw[h]
def zwb(h:∀a o,M a=some o->H a=some o):ov (mi H M) M=H:=by
 funext a
 cases e:M a with
 |none=>rw[rC e,xm e]
 |some o=>rw[uz e,h a o e]
def nu(n:Nat)(B:(Str->bN->Prop)->WF):m7:=λds qj Q Y=>B Y {nx:=λqh _=>Q .non qh,rt:=λqh d=>Q d qh,bk:=λ_ _=>False,ct:=λ_ _=>False} qj (fH n ds)
def Out.whole(mb:M β=none)(k:Kn K β G1 qj M' ad)(o:Out ⟨K,β,mi H M,G,M⟩ M' G1)(t:aX β (ov (mi H M) M') G1 H' G'):xK β M M' H G H' G'/\Kn K β G' qj M' ad/\∀d v,Rep (dz ⟨K,β,mi H M,G,M⟩ qj M' G1) G' d v->Rep ⟨K,β,H,G,True⟩ G' d v:=by
 have m:Dm M M':=o.dm;have ap:∀a,M' a≠none->G' a=none:=Out.apart (b:=⟨K,β,mi H M,G,M⟩) k.kin (λa z=>(k.ap a z).1) t;have w:=o.stp k.kin t;have no:∀a u,M a=none->H a=some u->M' a=none:=λa u h1 h2=>by
  cases y:M' a with
  |none=>rfl
  |some x=>
   have:=(o.mb a (by rw[y];simp)).1
   rw[show(⟨K,β,mi H M,G,M⟩:Bo).H0 a=H a from xm h1,h2]at this;cases this
 refine⟨⟨o.gg.trans t.gg,t.gh,λa u n h1 h2=>t.fr a u n ?_,λa u h=>t.fr a u (o.mb a (by rw[h];simp)).2.2 (uz h),λa h=>?_,λa h=>⟨ap a h,(o.mb a h).2.2⟩,λa h=>?_,t.bx,λcc p q d h=>w.bc cc p q d ((xm mb).trans h),m⟩,k.mono t.gg ap,λd v e=>Rep.reb (c:=⟨K,β,H,G,True⟩) (c':=dz ⟨K,β,mi H M,G,M⟩ qj M' G1) rfl rfl (λa ga z=>?_) e⟩
 .rw[rC (no a u h1 h2),xm h1];exact h2
 .have:=(o.mb a h).1
  cases e:M a with
  |some u=>exact .inl (by simp)
  |none=>exact .inr ((xm e).symm.trans this)
 .rcases w.nw a h with z|z|⟨u,z,st⟩
  .exact .inl z
  .cases e:M a with
   |none=>exact .inr (.inl ((xm e).symm.trans z))
   |some u=>exact absurd (ap a (m a (by rw[e];simp))) h
  .cases e:M a with
   |none=>exact .inr (.inr ⟨u,(xm e).symm.trans z,st⟩)
   |some x=>rw[show(⟨K,β,mi H M,G,M⟩:Bo).H0 a=none from zvj (by rw[e];simp)]at z;cases z
 .obtain⟨z1,z2⟩:=bJ.mp z;cases e:M a with
  |none=>exact(xm e).symm.trans z2
  |some u=>exact absurd z1 (m a (by rw[e];simp))
def Rel.hyp(r:Rel c S Z H G)(q:Q):Rel {c with P:=Q} S Z H G:=
 ⟨r.len,r.stp,λi s e=>by
  have z:=r.slot i s e;cases s with
  |un=>trivial
  |val d=>obtain⟨v,h1,h2⟩:=z;exact⟨v,h1,Rep.reb (c:={c with P:=Q}) (c':=c) rfl rfl (λ_ _ z=>z) h2⟩
  |own xs=>obtain⟨a,vs,h1,h2,h3,h4,h5,h6⟩:=z;exact⟨a,vs,h1,h2,h3,h4,h5,aG.reb (c:={c with P:=Q}) (c':=c) rfl rfl (λ_ _ z=>z) h6⟩
  |dic ks xs=>obtain⟨a,vs,h1,h2,h3,h4,h5,h6,h7⟩:=z;exact⟨a,vs,h1,h2,h3,h4,h5,aG.reb (c:={c with P:=Q}) (c':=c) rfl rfl (λ_ _ z=>z) h6,h7⟩,r.dis,q⟩
def Cr(F:bZ K x qual st f fd)
  (hB:∀{cdv:Value}{A:Around}{outer:List PySem.Env}{s:Shared}{H:Hp}{E:XK}{β:Addr}{G M:Hp}(Y:Str->bN->Prop),(∀nm C H' G' qj M' G1,Y nm qj->mg nm=some (.ref C)->(∃ad,Kn K β G1 qj M' ad)->Out ⟨K,β,mi H M,G,M⟩ M' G1->aX β (ov (mi H M) M') G1 H' G'->E (.ref C) none H')->N.Nodup->bD k (A.deeper (PyProof.Rows.envOfC qual (gC st) s.heap.objs.size f cdv)) ->
   pq (di (dj P w) P w K mg base N qual (gC st) f cdv A outer s H E) ⟨K,β,mi H M,G,M⟩ (nW st) (B Y)) (qj:cZ N ps (gC st):=by exact⟨rfl,rfl,rfl,by decide +kernel,rfl,by decide +kernel,by decide +kernel⟩):aM P w K mg base (dj P w) (k+1) f fd ps (kZ K mg ps.length (nu N.length B)):=by
 obtain⟨oc,od,kV,doc,pm,an,cdv,ct,osl,rfl,lk,hcd⟩:=F.ex;refine zsD lk hcd qj (λvs H Q E ⟨β,G,qj,M,ad,ds,_,_,_,_,_,h,_⟩=>h) λA outer s H vs Q E hr ⟨β,G,So,M,ad,ds,gh,bx,mh,kn,hv,hl,P',qg,q,hP,hZ⟩=>?_;have mb:M β=none:=by
  cases e:M β with
  |none=>rfl
  |some u=>exact absurd rfl (kn.ap β (by rw[e];simp)).2
 have h:=@hB cdv A outer s H E β G M qg (λnm C H' G' qj M' G1 z hm ⟨ad',k'⟩ o' t=>by
  obtain⟨e1,e2,_⟩:=Out.whole mb k' o' t;exact hZ nm qj z C H' G' M' ad' hm e1 e2) qj.nd hr
 have r0:dq ⟨K,β,mi H M,G,M⟩ So M (fH N.length ds) (L2.nC N vs) H G:=by
  refine⟨G,⟨λa z=>⟨zvj z,(kn.ap a z).1,(kn.ap a z).2⟩,Same.refl _,λa z=>.inl z,λa o z=>(xm (by
   cases y:M a with
   |none=>rfl
   |some u=>exact absurd ((kn.ap a (by rw[y];simp)).1.symm.trans z) (by simp))).trans (gh a o z),Dm.refl M⟩,?_⟩
  have h0:=Jr (N:=N) gh bx hv;unfold dz;rw[show ov (Bo.H0 ⟨K,β,mi H M,G,M⟩) M=H from zwb mh];exact h0.hyp ⟨ad,kn⟩
 refine⟨_,h.pss,fH N.length ds,G,So,M,r0,h.mono {nx:=λqh _=>P' .non qh,rt:=λqh d=>P' d qh,bk:=λ_ _=>False,ct:=λ_ _=>False} _ So _ ⟨λqh S z Z H' G' M' ⟨G1,o',r'⟩ s' m=>?_,λqh d z v H' G' M' G1 ⟨ad',k'⟩ o' t m e=>?_,λqj S z=>z.elim,λqj S z=>z.elim⟩ q⟩
 .obtain⟨ad',k'⟩:=r'.kn;obtain⟨e1,e2,_⟩:=Out.whole mb k' o' r'.stp;exact hP _ _ z .non H' G' M' ad' e1 e2 rfl
 .obtain⟨e1,e2,e3⟩:=Out.whole mb k' o' t;exact hP _ _ z v H' G' M' ad' e1 e2 (e3 d v e)
end Fd
namespace L2
open PySem PySem.Spec PyProof.Rows PySem.W
section
variable{P:Program}{w:World}{K:qo}{mg:Str->Option Value}{base:Heap}{N:List Str}{qual:Str}{scope:Scope}{f:Addr}{cd:Value}{A:Around}{outer:List Env}{s0:Shared}{H0:Hp}{E E1:XK}
def zuz(hE:∀C H',E1 (.ref C) none H'->E (.ref C) none H'):nH (dj P w) (di (dj P w) P w K mg base N qual scope f cd A outer s0 H0 E) E1:=by
 rintro aa Z H s _ s' I ⟨ea,C,H',rfl,N',e1⟩;have nex:∀{b:Addr},b∉([]:List Addr):=λz=>nomatch z;have neL:∀{b o},s0.heap.get? b=some o->b≠s0.heap.objs.size:=λe=>fK (dw e);have sub:∀{b},b∉frs outer->b≠s0.heap.objs.size->b∉frs (di (dj P w) P w K mg base N qual scope f cd A outer s0 H0 E).stack:=λh1 h2 h3=>(ir.mp (I.stkSub _ h3)).elim h2 h1;obtain⟨B,fl,hB⟩:=id N'.fly;have frx:∀b∈frs (di (dj P w) P w K mg base N qual scope f cd A outer s0 H0 E).stack,∃o,s.heap.get? b=some o:=λb hb=>by
  obtain⟨_,o,ho,_⟩:=I.stack.mem hb;exact⟨o,ho⟩
 refine zpp I.ok.frames rfl fl λh' fl' sm=>?_;have on:=N'.on hB fl.2.2.1 I.stkFree fl'.1 sm frx;have I':Inv (di (dj P w) P w K mg base N qual scope f cd A outer s0 H0 E) aa Z H' {s' with heap:=h'}:=I.call' (s':={s' with heap:=h'}) N'.os on.1 on.2 N'.bare λb z=>nomatch z;refine⟨ea,C,H',rfl,⟨I'.os,I'.bare,I'.base,I'.hok,B,fl',λb o q hb nf=>?_⟩,hE C H' e1⟩;rcases hb with⟨u,hu⟩|⟨u,hu⟩
 .obtain⟨v,hv⟩:=(N'.hok b u hu).ex;have nb:b∉frs (di (dj P w) P w K mg base N qual scope f cd A outer s0 H0 E).stack:=λz=>by rw[I'.stkFree b z]at hu;cases hu
  have z:=hB b v hv (.inl ⟨u,hu⟩) nb
  have:=fl'.1 b v z
  rw[this]at q;cases q;exact z
 .obtain⟨o1,q1⟩:=I.base.there b u hu nex;obtain⟨o2,q2⟩:=N'.un.there b o1 q1 nex;have z:=hB b o2 q2 (.inr ⟨o1,q1⟩) (sub nf (neL hu))
  have:=fl'.1 b o2 z
  rw[this]at q;cases q;exact z
end
end L2
namespace Fd
open PySem L2
def qH(b:Bo)(qj:bN)(M:Hp)(S:Env)(Z:St)(H G:Hp)(d:D)(v:V):Prop:=∃G1,Out b M G1/\Rel (dz b qj M G1) S Z H G/\Rep (dz b qj M G1) G d v
def mq(b:Bo)(qj:bN)(M:Hp)(S:Env)(Z:St)(H G:Hp)(ds:List D)(vs:List V):Prop:=∃G1,Out b M G1/\Rel (dz b qj M G1) S Z H G/\aG (dz b qj M G1) G ds vs
abbrev WOE:=Env->bN->(D->bN->Prop)->Prop
abbrev WOA:=Env->bN->(List D->bN->Prop)->Prop
def vV{α:Type}(W:Env->bN->(α->bN->Prop)->Prop):Prop:=∀ S qj Q Q',(∀d qh,Q d qh->Q' d qh)->W S qj Q->W S qj Q'
def GQ(b:Bo)(W:WOE):TE:=λZ H Q=>∃ S G qj M,dq b qj M S Z H G/\W S qj λd qh=>∀v H' G' M',qH b qh M' S Z H' G' d v->Same G G'->Dm M M'->Q v H'
def tOA(b:Bo)(W:WOA):TA:=λZ H Q=>∃ S G qj M,dq b qj M S Z H G/\W S qj λds qh=>∀vs H' G' M',mq b qh M' S Z H' G' ds vs->Same G G'->Dm M M'->Q vs H'
structure OE(X:Cx)(b:Bo)(e:Expr)(W:WOE):Prop where
 mono:vV W
 pe:PE X e (GQ b W)
structure OA(X:Cx)(b:Bo)(es:List Expr)(W:WOA):Prop where
 mono:vV W
 pa:PA X es (tOA b W)
def qH.rel(r:qH b qj M S Z H G d v):dq b qj M S Z H G:=let⟨G1,o,r1,_⟩:=r;⟨G1,o,r1⟩
def mq.rel(r:mq b qj M S Z H G ds vs):dq b qj M S Z H G:=let⟨G1,o,r1,_⟩:=r;⟨G1,o,r1⟩
section
variable{X:Cx}{b:Bo}{e e1:Expr}{es:List Expr}{pos p:Pos}
def zkh{A:bN->WE}(h:∀qj M G1,DE X (dz b qj M G1) e (A qj)):OE X b e (λS qj Q=>A qj S λd=>Q d qj)where
 mono:=λS qj Q Q' l q=>(h qj (λ_=>none) (λ_=>none)).mono S _ _ (λd z=>l d qj z) q
 pe:=λaa s Z H Q I ⟨S,G,qj,M,⟨G1,o,r⟩,q⟩=>(h qj M G1).pe aa s Z H Q I ⟨S,G,r,(h qj M G1).mono S _ _ (λd z v H' G' t e=>z v H' G' M ⟨G1,o,r.step t,e⟩ t.gg (Dm.refl M)) q⟩
abbrev fU:WOA:=λS qj Q=>Q [] qj
abbrev eQ(A:WOE)(B:WOA):WOA:=λS qj Q=>A S qj λd S1=>B S S1 λds qk=>Q (d::ds) qk
def zoV(h:PA X es t)(k:∀ Z H Q,t' Z H Q->t Z H Q):PA X es t':=λpos aa s Z H Q I q=>h pos aa s Z H Q I (k Z H Q q)
def vC:OA X b [] fU:=⟨λS qj Q Q' l q=>l _ qj q,zoV km λZ H Q ⟨S,G,qj,M,⟨G1,o,r⟩,q⟩=>q [] H G M ⟨G1,o,r,rfl⟩ (Same.refl _) (Dm.refl M)⟩
def jR(hA:OE X b e A)(hB:OA X b es B)(hs:starEach (e::es) X.env=(false,eval e X.env)::starEach es X.env:=by rfl):OA X b (e::es) (eQ A B)where
 mono:=λS qj Q Q' l q=>hA.mono S qj _ _ (λd S1 z=>hB.mono S S1 _ _ (λds qk y=>l _ qk y) z) q
 pa:=zoV (iM hA.pe hB.pa hs) λZ H Q ⟨S,G,qj,M,r,q⟩=>⟨S,G,qj,M,r,hA.mono S qj _ _ (λd S1 z v H1 G1 M1 r1 s1 m1=>⟨S,G1,S1,M1,r1.rel,hB.mono S S1 _ _ (λds qk y vs H2 G2 M2 r2 s2 m2=>by
   obtain⟨Ga,o,ra,ea⟩:=r1;obtain⟨Gb,o',rb,eb⟩:=r2;exact y (v::vs) H2 G2 M2 ⟨Gb,o',rb,v,vs,rfl,ea.carry s2 rb.apart,eb⟩ (s1.trans s2) (m1.trans m2)) z⟩) q⟩
def dq.called(r:dq b qj M S Z H G)(e:xK b.β M M' H G H' G')(k:Kn b.K b.β G' qh M' ad')(z:Rep ⟨b.K,b.β,H,G,True⟩ G' d v):qH b qh M' S Z H' G' d v:=by
 obtain⟨G1,o,r1⟩:=r;refine⟨G',o.eff r1 e,r1.eff (λa z=>⟨(o.mb a z).1,(o.mb a z).2.2⟩) e ⟨ad',k⟩,Rep.reb (c:=dz b qh M' G') (c':=⟨b.K,b.β,H,G,True⟩) rfl rfl (λa ga h=>?_) z⟩
 have:=bJ.mp (show ov b.H0 M a=none from r1.new0 h)
 refine bJ.mpr ⟨?_,this.2⟩;cases y:M' a with
 |none=>rfl
 |some u=>exact absurd (e.mg a (by rw[y];simp)).1 ga
def dq.give(hK:b.K=K)(r:mq b qj M S Z H G ds vs)(hn:ds.length=n)
  (q:yV F ds qj (λd qh=>∀v H' G' M',qH b qh M' S Z H' G' d v->Same G G'->Dm M M'->Q v H') λnm qh=>∀C H' G' M',mg nm=some (.ref C)->dq b qh M' S Z H' G'->Same G G'->Dm M M'->E1 (.ref C) none H'):kZ K mg n F vs H Q E1:=by
 subst hK;have rl:=r.rel;obtain⟨G1,o,r1,e⟩:=r;obtain⟨ad,k⟩:=r1.kn;refine⟨b.β,G,qj,M,ad,ds,r1.gh,r1.bx,λa u h=>r1.stp.fr a u (o.mb a (by rw[h];simp)).2.2 (uz h),k.mono r1.stp.gg r1.apart,aG.back (c':=dz b qj M G1) (c:=lr b.K b.β G) rfl rfl (λ_ _=>rfl) e,by rw[<-e.length];exact hn,Bw F (λd qh z v H' G' M' ad' ef k' e'=>z v H' G' M' (rl.called ef k' e') ef.gg ef.dm) (λnm qh z C H' G' M' ad' hm ef k'=>z C H' G' M' hm (rl.called (d:=.non) (v:=.non) ef k' rfl).rel ef.gg ef.dm) q⟩
end
structure Met(P:Program)(w:World)(K:qo)(mg:Str->Option Value)(base:Heap)(CX:mO)(C:Addr)(m:Str)(k:Nat)(ps:List Str)(sp:Sp):Prop where
 ex:∃f fd,aM P w K mg base CX k f fd ps sp/\nP K C/\Meth K C m f/\Binds K fd ps []
def XO(b:Bo)(mg:Str->Option Value)(y:Str->bN->Prop):XK:=λv _ H'=>∃nm C qh M' S Z G',v=.ref C/\y nm qh/\mg nm=some (.ref C)/\dq b qh M' S Z H' G'
theorem zfD{m:Str}:∀{fs:List (Str×List D)}{as:List Addr},(∀x∈fs,x.1≠m)->(j4 fs as).lookup m=none
 |[],_,_=>rfl
 |_::_,[],_=>rfl
 |x::fs,a::as,h=>by
  show((x.1,V.ref a)::j4 fs as).lookup m=none;rw[rO]
  have:(m==x.1)=false:=by
   rw[YAU];exact YAM (h x (by simp))
  rw[this];exact zfD λy hy=>h y (by simp[hy])
section
variable{X:Cx}{b:Bo}{e:Expr}{es:List Expr}{pos p apos:Pos}{y:Str->bN->Prop}
abbrev qP(n:Nat)(F:m7)(y:Str->bN->Prop)(R:WOA):WOE:=λS qj Q=>R S qj λds S1=>ds.length=n/\yV F ds S1 Q y
def zmx(h:vV R):vV (qP n F y R):=λS qj Q Q' l q=>h S qj _ _ (λds S1 z=>⟨z.1,Bw F l (λ_ _ w=>w) z.2⟩) q
def Dd(C:gZ X.prog X.w X.K X.mg X.base x k ps (kZ X.K X.mg n F))(hR:OA X b (e::es) R)(hx:nH (dj X.prog X.w) X (XO b X.mg y))(hg:Gl X x:=by rfl)
  (hdb:(x==("__debug__":Str))=false:=by decide) (sk:Sk X e es pos:=by exact⟨rfl,rfl⟩) (hK:b.K=X.K:=by rfl) (hr:bD k X.A:=by decreasing_trivial) :
  OE X b (.Call (.Name x p) (e::es) [] pos) (qP n F y R)where
 mono:=zmx hR.mono
 pe:=by
  obtain⟨f,fd,FO,hm,hk,hb⟩:=C.ex;refine dM (yG FO hr hg hm hk hb .nil hx hR.pa hdb sk.1 sk.2) λZ H Q ⟨S,G,qj,M,r,q⟩=>⟨S,G,qj,M,r,hR.mono S qj _ _ (λds S1 z vs H' G' M' r' s' m'=>?_) q⟩;show kZ X.K X.mg n F (vs++[]) H' Q _;rw[rQ];exact dq.give hK r' z.1 (Bw F (λd qh w v H2 G2 M2 r2 s2 m2=>w v H2 G2 M2 r2 (s'.trans s2) (m'.trans m2)) (λnm qh w C H2 G2 M2 hc r2 s2 m2=>⟨nm,C,qh,M2,S,Z,G2,rfl,w,hc,r2⟩) z.2)
abbrev qZ(i:Nat)(C:Addr)(m:Str)(n:Nat)(F:m7)(y:Str->bN->Prop)(R:WOA):WOE:=λS qj Q=>match S[i]? with
 |some (.val (.obj a))=>(∃o,qj a=some o/\o.C=C/\∀x∈o.fs,x.1≠m)/\R S qj λds S1=>ds.length+1=n/\yV F (.obj a::ds) S1 Q y
 |_=>False
def zfu(h:vV R):vV (qZ i C m n F y R):=λS qj Q Q' l q=>by
 unfold qZ at q ⊢;split at q
 .exact⟨q.1,h S qj _ _ (λds S1 z=>⟨z.1,Bw F l (λ_ _ w=>w) z.2⟩) q.2⟩
 .exact q.elim
def dq.at{qj:bN}{M H G:Hp}{S:Env}{Z:St}{a:Addr}{o:Ob}(r:dq b qj M S Z H G)(h:qj a=some o):∃dx as,H a=some (.ins o.C dx (j4 o.fs as)):=by
 obtain⟨G1,u,r1⟩:=r;obtain⟨ad,k⟩:=r1.kn;obtain⟨dx,h1,_⟩:=k.obj a o h;exact⟨dx,ad a,r1.stp.fr a _ (u.mb a (by rw[h1];simp)).2.2 (uz h1)⟩
def zhE{qj:bN}{M G:Hp}{S:Env}{Z:St}{H:Hp}{Q:VK}{i:Nat}{C:Addr}{m:Str}{n:Nat}{F:m7}{R:WOA}{E:XK}{t:TA}{x:Str}(hK:b.K=X.K)(hR:vV R)(r:dq b qj M S Z H G)(q:qZ i C m n F y R S qj λd qh=>∀v H' G' M',qH b qh M' S Z H' G' d v->Same G G'->Dm M M'->Q v H')(hE:∀nm C qh M' H' G',y nm qh->X.mg nm=some (.ref C)->dq b qh M' S Z H' G'->Same G G'->Dm M M'->E (.ref C) none H')(ht:∀ Z H Q,tOA b R Z H Q->t Z H Q) :
  CW C m (kZ X.K X.mg n F) [] E (GQ b (λS qj Q=>vW i S λd=>Q d qj)) t Z H Q:=by
 unfold qZ at q;split at q
 .rename_i a ea
  obtain⟨⟨o,h1,h2,h3⟩,q⟩:=q;refine⟨S,G,qj,M,r,?_⟩;show vW i S _;unfold vW;rw[ea];intro v H1 G1 M1 r1 s1 m1;obtain⟨dx,as,h4⟩:=r1.rel.at h1;obtain⟨Ga,oa,ra,e⟩:=r1;have ev:v=V.ref a:=e;subst ev;rw[h2]at h4;refine⟨a,dx,j4 o.fs as,rfl,h4,zfD h3,ht _ _ _ ⟨S,G1,qj,M1,⟨Ga,oa,ra⟩,hR S qj _ _ (λds S1 z vs H' G' M' r' s' m'=>?_) q⟩⟩;show kZ X.K X.mg n F (V.ref a::(vs++[])) H' Q _;rw[rQ];have r2:mq b S1 M' S Z H' G' (.obj a::ds) (V.ref a::vs):=by
   obtain⟨Gb,ob,rb,eb⟩:=r';exact⟨Gb,ob,rb,V.ref a,vs,rfl,rfl,eb⟩
  exact dq.give hK r2 z.1 (Bw F (λd qh w v H2 G2 M2 r2 s2 m2=>w v H2 G2 M2 r2 ((s1.trans s').trans s2) ((m1.trans m').trans m2)) (λnm qh w C H2 G2 M2 hc r2 s2 m2=>hE nm C qh M2 H2 G2 w hc r2 ((s1.trans s').trans s2) ((m1.trans m').trans m2)) z.2)
 .exact q.elim
def znf{Z:St}{H:Hp}{Q:VK}{i:Nat}{C:Addr}{m:Str}{n:Nat}{F:m7}{R:WOA}{sp:Sp}{E:XK}{t:TA}{x:Str}(hK:b.K=X.K)(hsp:sp=kZ X.K X.mg n F)(hE:E=XO b X.mg y)(hR:vV R)(hv:∀qj M G1,DE X (dz b qj M G1) (.Name x p) (vW i))(q:GQ b (qZ i C m n F y R) Z H Q)(ht:∀ Z H Q,tOA b R Z H Q->t Z H Q) :
  CW C m sp [] E (GQ b (λS qj Q=>vW i S λd=>Q d qj)) t Z H Q:=by
 subst hsp hE;obtain⟨S,G,qj,M,r,q⟩:=q;exact zhE (X:=X) (x:=x) hK hR r q (λnm C qh M' H' G' w hc r2 _ _=>⟨nm,C,qh,M',S,Z,G',rfl,w,hc,r2⟩) ht
def zuj(T:Met X.prog X.w X.K X.mg X.base (dj X.prog X.w) C m k ps (kZ X.K X.mg n F))(hv:∀qj M G1,DE X (dz b qj M G1) (.Name x p) (vW i))(hR:OA X b (e::es) R)(hx:nH (dj X.prog X.w) X (XO b X.mg y))
  (sk:Sk X e es pos:=by exact⟨rfl,rfl⟩)
  (ht:eval (.Call (.Attribute (.Name x p) m apos) (e::es) [] pos) X.env=(do
   let ov <-eval (.Name x p) X.env
   standAt apos.atName
   let(f,first) <-holding [ov] (getMethod ov m pl)
   callWith pos f first (backTo pos (starEach (e::es) X.env)) (backToKw pos (keywordEach [] X.env))):=by rfl) (hK:b.K=X.K:=by rfl) (hr:bD k X.A:=by decreasing_trivial) :
  OE X b (.Call (.Attribute (.Name x p) m apos) (e::es) [] pos) (qZ i C m n F y R)where
 mono:=zfu hR.mono
 pe:=by
  obtain⟨f,fd,FO,hc,hm,hb⟩:=T.ex;exact dM (zsi (zkh (A:=λ_=>vW i) hv).pe hc hm FO hr hb .nil hx hR.pa sk.1 sk.2 ht) λZ H Q q=>znf hK rfl rfl hR.mono hv q λ_ _ _ z=>z
abbrev Fi(A:WOE):WF:=λE qj S=>A S qj λd qh=>E.rt qh d
def zu5(hA:OE X b e A):OS X b (.Return (some e) pos) (Fi A)where
 mono:=λE E' qj S l q=>hA.mono S qj _ _ (λd qh z=>l.rt qh d z) q
 ps:=kY (zE hA.pe) λD Z H ⟨S,G,qj,M,r,q⟩=>⟨S,G,qj,M,r,hA.mono S qj _ _ (λd qh z v H' G' M' ⟨G1,o,r',e⟩ s' m'=>z v H' G' M' G1 r'.kn o r'.stp m' e) q⟩
abbrev j5(t:Tg)(A:WOE):WF:=λE qj S=>A S qj λd qh=>gD t d S (E.nx qh)
def zjC(h:vV A):zqq (j5 t A):=λE E' qj S l q=>h S qj _ _ (λd qh z=>tK t d S (λS' z=>l.nx qh S' z) z) q
def zjY(mA:vV A)(D:Ends)(Z:St)(H:Hp)(h:tOS b (j5 t A) D Z H):tG (GQ b A) (lE b.K t) D Z H:=by
 obtain⟨S,G,qj,M,r,q⟩:=h;refine⟨S,G,qj,M,r,mA S qj _ _ (λd qh z v H' G' M' ⟨G1,o,r',e⟩ s' m'=>?_) q⟩;exact CN (c:=dz b qh M' G1) t d v S Z r' e (tK t d S (λS' w Z' r2=>w Z' H' G' M' ⟨G1,o,r2⟩ s' m') z)
def JP(i:Nat)(hA:OE X b e A)(hi:X.N[i]?=some x:=by rfl)(hx:Loc X.env.scope x:=by first|exact Or.inl rfl|exact Or.inr rfl)(hs:swapsWith e (some (.Name x p)) pos.line X.env=pure false:=by rfl)(hf:X.fn x=true\/X.env.scope.names.lookup x=some .local:=by first|exact .inl rfl|exact .inr rfl|assumption)(hN:X.N.Nodup:=by decreasing_trivial):OS X b (.Assign [.Name x p] e pos) (j5 (.nm i) A):=
 ⟨zjC hA.mono,kY (uA hN hi hx hA.pe hs hf) λD Z H h=>zjY (t:=.nm i) hA.mono D Z H h⟩
def zvn(t:Tg)(hA:OE X b e A)(hg:PG X tg (lE b.K t))(hs:swapsWithSole [tg] e pos.line X.env=pure false:=by rfl)(hw:swappedStores [tg] e X.env=pure none:=by rfl)
  (h1:(assignEach [tg] X.env).map (·.2)=[assign tg X.env]:=by rfl):OS X b (.Assign [tg] e pos) (j5 t A):=
 ⟨zjC hA.mono,kY (DY hA.pe hg hs hw h1) λD Z H h=>zjY hA.mono D Z H h⟩
end
theorem zm5 :∀{fs:List (Str×List D)}{as:List Addr}{j:Nat}{xs:List D},fs[j]?=some (f,xs)->j4 (fs.set j (f,ys)) as=j4 fs as
 |[],_,_,_,h=>by simp at h
 |_::_,[],0,_,_=>rfl
 |_::_,[],_+1,_,_=>rfl
 |x::fs,a::as,0,xs,h=>by
  have:x=(f,xs):=by simpa using h
  subst this;rfl
 |x::fs,a::as,j+1,xs,h=>by
  show(x.1,V.ref a)::j4 (fs.set j (f,ys)) as=(x.1,V.ref a)::j4 fs as;rw[zm5 (by simpa using h)]
theorem zlS:∀{fs:List (Str×List D)}{as:List Addr}{j:Nat}{xs:List D},(∀i y,i<j->fs[i]?=some y->y.1≠f)->fs[j]?=some (f,xs)->as.length=fs.length->∃a,as[j]?=some a/\(j4 fs as).lookup f=some (.ref a)
 |[],_,_,_,_,h,_=>by simp at h
 |_::_,[],_,_,_,_,h=>by simp at h
 |x::fs,a::as,0,xs,_,h,_=>by
  have:x=(f,xs):=by simpa using h
  subst this;exact⟨a,rfl,by show((f,V.ref a)::j4 fs as).lookup f=_;simp⟩
 |x::fs,a::as,j+1,xs,hn,h,hl=>by
  obtain⟨b,h1,h2⟩:=zlS (fs:=fs) (as:=as) (j:=j) (λi y hi e=>hn (i+1) y (by omega) (by simpa using e)) (by simpa using h) (by simpa using hl);refine⟨b,by simpa using h1,?_⟩;show((x.1,V.ref a)::j4 fs as).lookup f=_;rw[rO]
  have:(f==x.1)=false:=by rw[YAU];exact YAM (hn 0 x (by omega) rfl)
  rw[this];exact h2
def tX(o:Ob)(j:Nat)(f:Str)(ys:List D):Ob:=⟨o.C,o.fs.set j (f,ys)⟩
section
variable{b:Bo}
def vU(o:Ob)(f:Str)(j:Nat)(xs:List D):Prop:=o.fs[j]?=some (f,xs)/\∀i y,i<j->o.fs[i]?=some y->y.1≠f
def Kn.at(k:Kn K β G qj M ad)(h:qj p=some o)(hf:vU o f j xs):∃dx a vs,M p=some (.ins o.C dx (j4 o.fs (ad p)))/\(j4 o.fs (ad p)).lookup f=some (.ref a)/\(ad p)[j]?=some a/\M a=some (.lst vs)/\aG (lr K β G) G xs vs:=by
 obtain⟨dx,h1,h2⟩:=k.obj p o h;obtain⟨a,h3,h4⟩:=zlS hf.2 hf.1 h2;obtain⟨vs,h5,h6⟩:=k.lst p o j a _ h h3 hf.1;exact⟨dx,a,vs,h1,h4,h3,h5,h6⟩
def Kn.put(k:Kn K β G qj M ad)(h:qj p=some o)(hf:vU o f j xs)(ha:(ad p)[j]?=some a)(hm:M a=some (.lst vs))(hy:aG (lr K β G) G ys ws):Kn K β G (iY qj p (tX o j f ys)) (upd M a (.lst ws)) ad:=by
 have ins:∀q u,qj q=some u->q≠a:=λq u hq z=>by
  obtain⟨dx,h1,_⟩:=k.obj q u hq;rw[z,hm]at h1;cases h1
 have some':∀q,iY qj p (tX o j f ys) q≠none->qj q≠none:=λq hq z=>by
  by_cases e:q=p
  .subst e;rw[h]at z;cases z
  .rw[rR e]at hq;exact hq z
 refine⟨λq u hq=>?_,λq u i c x hq hc hx=>?_,λq r i l c hq hr=>k.dis q r i l c (some' q hq) (some' r hr),λc u hc=>?_,λc hc=>?_⟩
 .by_cases e:q=p
  .subst e;rw[qW]at hq;cases hq;obtain⟨dx,h1,h2⟩:=k.obj q o h;exact⟨dx,by rw[au (ins q o h)];show M q=some (.ins o.C dx (j4 (o.fs.set j (f,ys)) (ad q)));rw[zm5 hf.1];exact h1,by show(ad q).length=(o.fs.set j (f,ys)).length;rw[Hx];exact h2⟩
  .rw[rR e]at hq;obtain⟨dx,h1,h2⟩:=k.obj q u hq;exact⟨dx,by rw[au (ins q u hq)];exact h1,h2⟩
 .by_cases e:q=p
  .subst e;rw[qW]at hq;cases hq;by_cases ij:i=j
   .subst ij;rw[ha]at hc;cases hc;have hx':(o.fs.set i (f,ys))[i]?=some x:=hx;rw[jK (jB.mp hf.1).1]at hx';cases hx';exact⟨ws,cH,hy⟩
   .have hx':(o.fs.set j (f,ys))[i]?=some x:=hx;rw[jE (YAM ij)]at hx';obtain⟨us,h1,h2⟩:=k.lst q o i c x h hc hx'
    have:c≠a:=λz=>ij (k.dis q q i j c (by rw[h];simp) (by rw[h];simp) hc (z▸ha)).2
    exact⟨us,by rw[au this];exact h1,h2⟩
  .rw[rR e]at hq;obtain⟨us,h1,h2⟩:=k.lst q u i c x hq hc hx
   have:c≠a:=λz=>e (k.dis q p i j c (by rw[hq];simp) (by rw[h];simp) hc (z▸ha)).1
   exact⟨us,by rw[au this];exact h1,h2⟩
 .by_cases e:c=a
  .subst e;rw[cH]at hc;cases hc;exact λz=>z
  .rw[au e]at hc;exact k.kin c u hc
 .by_cases e:c=a
  .subst e;exact k.ap c (by rw[hm];simp)
  .rw[au e]at hc;exact k.ap c hc
def dq.put'(u:Out b M G1)(r:Rel (dz b qj M G1) S Z H G)(k:Kn b.K b.β G1 qj M ad)(h:qj p=some o)(hf:vU o f j xs)(ha:(ad p)[j]?=some a)(hm:M a=some (.lst vs))(hy:aG (lr b.K b.β G) G ys ws):Out b (upd M a (.lst ws)) G/\Rel (dz b (iY qj p (tX o j f ys)) (upd M a (.lst ws)) G) S Z (upd H a (.lst ws)) G/\Kn b.K b.β G (iY qj p (tX o j f ys)) (upd M a (.lst ws)) ad/\Dm M (upd M a (.lst ws)):=by
 have ma:M a≠none:=by rw[hm];simp
 have ab:=(u.mb a ma).2.2;have hH:∀c w,M c=some w->H c=some w:=λc w hc=>r.stp.fr c w (u.mb c (by rw[hc];simp)).2.2 (uz hc);have dom:∀c,upd M a (.lst ws) c≠none->M c≠none:=λc hc=>by
  by_cases e:c=a
  .subst e;exact ma
  .rw[au e]at hc;exact hc
 have dm:Dm M (upd M a (.lst ws)):=λc hc=>by
  by_cases e:c=a
  .subst e;rw[cH];simp
  .rw[au e];exact hc
 have ef:xK b.β M (upd M a (.lst ws)) H G (upd H a (.lst ws)) G:=by
  refine⟨Same.refl _,λc w hc=>?_,λc w n hc hw=>?_,λc w hc=>?_,λc hc=>.inl (dom c hc),λc hc=>⟨r.apart c (dom c hc),(u.mb c (dom c hc)).2.2⟩,λc hc=>.inl hc,?_,λcc q s d hb=>⟨q,s,d,by rw[au (YAM ab)];exact hb⟩,dm⟩
  .rw[au (λz=>by rw[z,r.apart a ma]at hc;cases hc)];exact r.gh c w hc
  .rw[au (λz=>by rw[z]at hc;exact ma hc)];exact hw
  .by_cases e:c=a
   .subst e;rw[cH]at hc ⊢;exact hc
   .rw[au e]at hc ⊢;exact hH c w hc
  .obtain⟨cc,q,s,d,ns,hb,z⟩:=r.bx.ex;exact⟨⟨cc,q,s,d,ns,by rw[au (YAM ab)];exact hb,z⟩,r.bx.still⟩
 have k':=(k.mono r.stp.gg r.apart).put h hf ha hm hy;exact⟨u.eff r ef,r.eff (λc hc=>⟨(u.mb c hc).1,(u.mb c hc).2.2⟩) ef ⟨ad,k'⟩,k',dm⟩
def dq.put(u:Out b M G1)(r:Rel (dz b qj M G1) S Z H G)(k:Kn b.K b.β G1 qj M ad)(h:qj p=some o)(hf:vU o f j xs)(ha:(ad p)[j]?=some a)(hm:M a=some (.lst vs))(hy:aG (lr b.K b.β G) G ys ws):dq b (iY qj p (tX o j f ys)) (upd M a (.lst ws)) S Z (upd H a (.lst ws)) G/\Dm M (upd M a (.lst ws)):=
 let⟨h1,h2,_,h4⟩:=dq.put' u r k h hf ha hm hy
 ⟨⟨G,h1,h2⟩,h4⟩
end
section
variable{X:Cx}{b:Bo}{c:Bk}{e:Expr}{pos p fpos apos cpos:Pos}
def zrb(h:aG (lr K β G) G ds vs)(s:Same G G'):aG (lr K β G') G' ds vs:=aG.back (c':=lr K β G) (c:=lr K β G') rfl rfl (λ_ e=>e) (h.mono s)
def j7(i:Nat)(f:Str)(C:Addr)(A:bN->WE):WF:=λE qj S=>match S[i]? with
 |some (.val (.obj q))=>∃o j xs,qj q=some o/\o.C=C/\vU o f j xs/\A qj S λd=>xs.length<100000/\E.nx (iY qj q (tX o j f (xs++[d.old]))) S
 |_=>False
def zrm(i:Nat)(hA:∀qj M G1,DE X (dz b qj M G1) e (A qj))(hc:nP X.K C)(hn:dF X.K C f)(nk:Nk X i x:=by decreasing_trivial)
  (hb0:attributeBase (.Name x p) f X.env (eval (.Name x p) X.env)=eval (.Name x p) X.env:=by rfl)
  (hbase:attributeBase (.Attribute (.Name x p) f fpos) "append" X.env (eval (.Attribute (.Name x p) f fpos) X.env)=eval (.Attribute (.Name x p) f fpos) X.env:=by rfl)
  (hfew:((backTo cpos (starEach [e] X.env)).all (λx=>!x.1)&&(backToKw cpos (keywordEach [] X.env)).all (λx=>x.1.isSome)
   && decide (([e]:List Expr).length+([]:List Keyword).length+(if ([]:List Keyword).isEmpty then 0 else 1)<30))=true:=by rfl)
  (hline:(apos.endLine==cpos.line)=true:=by rfl) (hs:starEach [e] X.env=(false,eval e X.env)::starEach [] X.env:=by rfl)
  (hsw:swapsWith (.Call (.Attribute (.Attribute (.Name x p) f fpos) "append" apos) [e] [] cpos) none pos.line X.env=pure false:=by rfl) (hK:b.K=X.K:=by rfl):OS X b (.Expr (.Call (.Attribute (.Attribute (.Name x p) f fpos) "append" apos) [e] [] cpos) pos) (j7 i f C A)where
 mono:=λE E' qj S l q=>by
  unfold j7 at q ⊢;split at q
  .obtain⟨o,j,xs,h1,h2,h3,q⟩:=q;exact⟨o,j,xs,h1,h2,h3,(hA qj (λ_=>none) (λ_=>none)).mono S _ _ (λd z=>⟨z.1,l.nx _ _ z.2⟩) q⟩
  .exact q.elim
 ps:=λaa s Z H D I ⟨S,G,qj,M,⟨G1,u,r⟩,q⟩=>zk7 (zpQ YB9 PySem.F.slot_list_append PySem.F.type_list_append zgK (znw (lU nk.N nk.v nk.d nk.c) hb0) (iM (hA qj M G1).pe km hs) hbase hfew hline hs rfl) hsw aa s Z H D I (by
  unfold j7 at q;split at q
  .rename_i a0 ei
   obtain⟨o,j,xs,h1,h2,h3,q⟩:=q;obtain⟨ad,k⟩:=r.kn;obtain⟨dx,a,vs,k1,k2,k3,k4,k5⟩:=k.at h1 h3;obtain⟨v,ev,rv⟩:=r.slot i _ ei;have rv':v=V.ref a0:=rv;subst rv';have hM:∀c w,M c=some w->H c=some w:=λc w hc=>r.stp.fr c w (u.mb c (by rw[hc];simp)).2.2 (uz hc);refine⟨.ref a0,ev,a0,o.C,dx,_,.ref a,rfl,hM _ _ k1,h2▸hc,h2▸hn,k2,.inl ⟨rfl,vs,cA.of (hM _ _ k4)⟩,S,G,r,(hA qj M G1).mono S _ _ (λd z w H' G' t e=>?_) q⟩;have r':=r.step t;have ab:=(u.mb a (by rw[k4];simp)).2.2;have hy:aG (lr b.K b.β G') G' (xs++[d.old]) (vs++[w]):=(zrb k5 r'.stp.gg).append (.one (Rep.hand (c:=dz b qj M G1) (c':=lr b.K b.β G') rfl rfl e));obtain⟨r2,dm⟩:=dq.put u r' k h1 h3 k3 k4 hy;exact⟨a,vs,w,rfl,rfl,t.fr a _ ab (hM _ _ k4),by rw[<-k5.length,mG];have:=z.1;omega,z.2 Z _ G' _ r2 t.gg dm⟩
  .exact q.elim)
def yd(qj:bN)(i:Nat)(f:Str)(C:Addr)(B:WE):WE:=λS Q=>match S[i]? with
 |some (.val (.obj q))=>∃o j xs,qj q=some o/\o.C=C/\vU o f j xs/\B S λy=>EY xs y λd=>Q d.old
 |_=>False
def vZ(c:Bk)(qj:bN):Prop:=∃M ad,Kn c.K c.β c.G0 qj M ad/\∀a o,M a=some o->c.H0 a=some o
def zqY(h:(dz b qj M G1).P):vZ (dz b qj M G1) qj:=let⟨ad,k⟩:=h;⟨M,ad,k,λ_ _ e=>uz e⟩
def Rel.obj(r:Rel c S Z H G)(kw:vZ c qj)(h:qj q=some o)(hf:vU o f j xs):∃dx fs a vs,H q=some (.ins o.C dx fs)/\fs.lookup f=some (.ref a)/\H a=some (.lst vs)/\aG (lr c.K c.β G) G xs vs/\a≠c.β/\G a=none:=by
 obtain⟨M,ad,k,sub⟩:=kw;obtain⟨dx,a,vs,k1,k2,k3,k4,k5⟩:=k.at h hf;have ma:M a≠none:=by rw[k4];simp
 refine⟨dx,_,a,vs,r.stp.fr q _ (k.ap q (by rw[k1];simp)).2 (sub _ _ k1),k2,r.stp.fr a _ (k.ap a ma).2 (sub _ _ k4),zrb k5 r.stp.gg,(k.ap a ma).2,?_⟩;cases e:G a with
 |none=>rfl
 |some w=>
  rcases r.stp.nw a (by rw[e];simp)with z|z|⟨w',z,st⟩
  .exact absurd (k.ap a ma).1 z
  .rw[sub _ _ k4]at z;cases z
  .rw[sub _ _ k4]at z;cases z;exact st.elim
end
section
variable{X:Cx}{b:Bo}{c:Bk}{e:Expr}{qj:bN}{C:Addr}{f:Str}{pos p fpos lp:Pos}
def zwp(i:Nat)(hB:DE X c e B)(hk:c.P->vZ c qj)(hc:nP X.K C)(hn:dF X.K C f)(hs:zkv e:=by intro _ _;rfl)(nk:Nk X i x:=by decreasing_trivial)(hb0:attributeBase (.Name x p) f X.env (eval (.Name x p) X.env)=eval (.Name x p) X.env:=by rfl)(hK:c.K=X.K:=by rfl):DE X c (.Subscript (.Attribute (.Name x p) f fpos) e pos) (yd qj i f C B)where
 mono:=λS Q Q' k q=>by
  unfold yd at q ⊢;split at q
  .obtain⟨o,j,xs,h1,h2,h3,q⟩:=q;exact⟨o,j,xs,h1,h2,h3,hB.mono S _ _ (λy z=>zlu (λd w=>k _ w) z) q⟩
  .exact q.elim
 pe:=dM (vL (hK▸zrc (X:=X)) (znw (lU nk.N nk.v nk.d nk.c) hb0) hB.pe hs) λZ H Q ⟨S,G,r,q⟩=>by
  unfold yd at q;split at q
  .rename_i a0 ei
   obtain⟨o,j,xs,h1,h2,h3,q⟩:=q;obtain⟨dx,fs,a,vs,g1,g2,g3,g4,g5,g6⟩:=r.obj (hk r.kn) h1 h3;obtain⟨v,ev,rv⟩:=r.slot i _ ei;have rv':v=V.ref a0:=rv;subst rv';refine⟨.ref a0,ev,a0,o.C,dx,fs,.ref a,rfl,g1,h2▸hc,h2▸hn,g2,S,G,r,hB.mono S _ _ (λy z w H1 G1 t1 e1=>?_) q⟩;cases y with
   |int k=>
    cases e1;have z:(match gR xs k with|some d=>_|none=>False):=z;split at z
    .rename_i d' e'
     obtain⟨w',f',rw'⟩:=zkV g4 e';exact .inl ⟨a,vs,k,w',rfl,rfl,cA.of (t1.fr a _ g5 g3),f',z w' H1 G1 t1 ((Rep.hand (c:=lr c.K c.β G) (c':=c) rfl rfl rw').mono t1.gg)⟩
    .exact z.elim
   |_=>exact z.elim
  .exact q.elim
def wO(qj:bN)(i:Nat)(f:Str)(C:Addr):WL:=λS Q=>match S[i]? with
 |some (.val (.obj q))=>∃o j xs,qj q=some o/\o.C=C/\vU o f j xs/\Q (xs.map D.old)
 |_=>False
def zvw(i:Nat)(hk:c.P->vZ c qj)(hc:nP X.K C)(hn:dF X.K C f)(nk:Nk X i x:=by decreasing_trivial)(hb0:attributeBase (.Name x p) f X.env (eval (.Name x p) X.env)=eval (.Name x p) X.env:=by rfl)(hg:Gl X "list":=by rfl)(he:starEach [.Attribute (.Name x p) f fpos] X.env=(false,eval (.Attribute (.Name x p) f fpos) X.env)::starEach [] X.env:=by rfl)(hK:c.K=X.K:=by rfl)(hm:X.mg "list"=none:=by decreasing_trivial):DF X c (.Call (.Name "list" lp) [.Attribute (.Name x p) f fpos] [] pos) (wO qj i f C)where
 mono:=λS Q Q' k q=>by
  unfold wO at q ⊢;split at q
  .obtain⟨o,j,xs,h1,h2,h3,q⟩:=q;exact⟨o,j,xs,h1,h2,h3,k _ q⟩
  .exact q.elim
 pe:=dM (yH zea hg hm Gz (iM (znw (lU nk.N nk.v nk.d nk.c) hb0) km he) (by decide) (by decide) he rfl) λZ H Q ⟨S,G,r,q⟩=>by
  unfold wO at q;split at q
  .rename_i a0 ei
   obtain⟨o,j,xs,h1,h2,h3,q⟩:=q;obtain⟨dx,fs,a,vs,g1,g2,g3,g4,g5,g6⟩:=r.obj (hk r.kn) h1 h3;obtain⟨v,ev,rv⟩:=r.slot i _ ei;have rv':v=V.ref a0:=rv;subst rv';refine⟨.ref a0,ev,a0,o.C,dx,fs,.ref a,rfl,g1,h2▸hc,h2▸hn,g2,a,vs,rfl,.inl (cA.of g3),λl hl=>q l vs _ _ (aX.own r.gh r.bx hl) cH (lQ r.gh hl) hl (aG.hand (c:=lr c.K c.β G) (c':=c) rfl rfl g4)⟩
  .exact q.elim
end
def jo(K:qo)(n:Nat)(F:bN->Fn):Sp:=λvs H Q _=>∃ β G qj ds,Same G H/\d7 β H G/\(∃M ad,Kn K β G qj M ad/\∀a o,M a=some o->H a=some o)/\aG (lr K β G) G ds vs/\vs.length=n /\
 up (F qj) ds λd=>∀v H' G',aX β H G H' G'->Rep ⟨K,β,H,G,True⟩ G' d v->Q v H'
abbrev JG(K:qo)(β:Addr)(H G:Hp)(qj:bN):Bk:=⟨K,β,H,G,∃M ad,Kn K β G qj M ad/\∀a o,M a=some o->H a=some o⟩
def nZ(h:(JG K β H G qj).P):vZ (JG K β H G qj) qj:=h
def vo{P:Program}{w:World}{K:qo}{mg:Str->Option Value}{base:Heap}{x qual:Str}{st:Stmt}{f:Addr}{fd:FuncData}{N ps:List Str}{k:Nat}{B:bN->WS}(F:bZ K x qual st f fd)
  (hB:∀{cdv:Value}{A:Around}{outer:List PySem.Env}{s:Shared}{H:Hp}{E:XK}{β:Addr}{G:Hp}(qj:bN),N.Nodup->bD k (A.deeper (PyProof.Rows.envOfC qual (gC st) s.heap.objs.size f cdv)) ->
   rG (di cR P w K mg base N qual (gC st) f cdv A outer s H E).nox (JG K β H G qj) (nW st) (B qj)) (qj:cZ N ps (gC st):=by exact⟨rfl,rfl,rfl,by decide +kernel,rfl,by decide +kernel,by decide +kernel⟩):aM P w K mg base cR (k+1) f fd ps (jo K ps.length λSo=>eG N.length (B So)):=by
 refine F.ok qj (λvs H Q E ⟨β,G,So,ds,_,_,_,_,h,_⟩=>h) (λcdv A outer s H vs Q E hr ⟨β,G,So,ds,gh,bx,kn,hv,hl,P',q,hP⟩=>?_);have h:=@hB cdv A outer s H E β G So qj.nd hr;have r0:Rel (JG K β H G So) (fH N.length ds) (L2.nC N vs) H G:=(Jr (N:=N) gh bx hv).hyp kn;refine⟨_,h.pss,fH N.length ds,G,r0,h.mono {nx:=λ_=>P' .non,rt:=P',bk:=λ_=>False,ct:=λ_=>False} _ _ ⟨λS z Z H' G' r s'=>hP _ z .non H' G' r.stp rfl,λd z v H' G' t e=>hP _ z v H' G' t (Rep.reb (c:=⟨K,β,H,G,True⟩) (c':=JG K β H G So) rfl rfl (λ_ _ w=>w) e),λS z=>z.elim,λS z=>z.elim⟩ q⟩
section
variable{X:Cx}{c:Bk}{e:Expr}{es:List Expr}{qj:bN}{pos p apos:Pos}
def Rel.know(r:Rel c S Z H G)(kw:vZ c qj):∃M ad,Kn c.K c.β G qj M ad/\∀a o,M a=some o->H a=some o:=by
 obtain⟨M,ad,k,sub⟩:=kw;refine⟨M,ad,k.mono r.stp.gg λa ma=>?_,λa o h=>r.stp.fr a o (k.ap a (by rw[h];simp)).2 (sub a o h)⟩;cases e:G a with
 |none=>rfl
 |some w=>
  cases y:M a with
  |none=>exact absurd y ma
  |some u=>
   rcases r.stp.nw a (by rw[e];simp)with z|z|⟨w',z,st⟩
   .exact absurd (k.ap a ma).1 z
   .rw[sub _ _ y]at z;cases z
   .rw[sub _ _ y]at z;cases z;exact absurd st (k.kin a _ y)
def Rel.read(r:Rel c S Z H G)(kw:vZ c qj)(hK:c.K=X.K)(e:aG c G ds vs)(hn:ds.length=n)(q:up (F qj) ds λd=>∀v H' G',aX c.β H G H' G'->Rep c G' d v->Q v H'):jo X.K n F vs H Q E:=by
 obtain⟨M,ad,k,sub⟩:=r.know kw;exact⟨c.β,G,qj,ds,r.gh,r.bx,⟨M,ad,hK▸k,sub⟩,aG.back (c':=c) (c:=lr X.K c.β G) hK rfl (λ_ _=>rfl) e,by rw[<-e.length];exact hn,
  rM (F qj) ds _ _ (λd z v H2 G2 t2 e2=>z v H2 G2 t2 (Rep.back (c':=⟨X.K,c.β,H,G,True⟩) (c:=c) hK.symm rfl (λa h=>r.new0 h) e2)) q⟩
abbrev Gd(qj:bN)(n:Nat)(F:bN->Fn)(R:WL):WE:=λS Q=>R S λds=>ds.length=n/\up (F qj) ds Q
def znK(C:fG X.prog X.w X.K X.mg X.base x k ps (jo X.K n F))(hR:DA X c (e::es) R)(hk:c.P->vZ c qj)(hg:Gl X x:=by rfl)
  (hdb:(x==("__debug__":Str))=false:=by decide) (sk:Sk X e es pos:=by exact⟨rfl,rfl⟩) (hK:c.K=X.K:=by rfl) (hr:bD k X.A:=by decreasing_trivial) :
  DE X c (.Call (.Name x p) (e::es) [] pos) (Gd qj n F R)where
 mono:=λS Q Q' k q=>hR.mono S _ _ (λds z=>⟨z.1,rM (F qj) ds _ _ k z.2⟩) q
 pe:=by
  obtain⟨f,fd,FO,hm,hkp,hb⟩:=C.ex;refine dM (yG FO hr hg hm hkp hb .nil Ah hR.pa hdb sk.1 sk.2) λZ H Q ⟨S,G,r,q⟩=>⟨S,G,r,hR.mono S _ _ (λds z vs H' G' t e=>?_) q⟩;show jo X.K n F (vs++[]) H' Q E0;rw[rQ];exact(r.step t).read (hk r.kn) hK e z.1 (rM (F qj) ds _ _ (λd w v H2 G2 t2 e2=>w v H2 G2 (t.trans t2) e2) z.2)
def jT(qj:bN)(i:Nat)(C:Addr)(m:Str)(n:Nat)(F:bN->Fn)(R:WL):WE:=λS Q=>match S[i]? with
 |some (.val (.obj a))=>(∃o,qj a=some o/\o.C=C/\∀x∈o.fs,x.1≠m)/\R S λds=>ds.length+1=n/\up (F qj) (.obj a::ds) Q
 |_=>False
def zms(h:rN R):jm (jT qj i C m n F R):=λS Q Q' k q=>by
 unfold jT at q ⊢;split at q
 .exact⟨q.1,h S _ _ (λds z=>⟨z.1,rM (F qj) _ _ _ k z.2⟩) q.2⟩
 .exact q.elim
def zmC(hk:c.P->vZ c qj)(hK:c.K=X.K)(hR:rN R)(ht:∀ Z H Q,tDs c R Z H Q->t Z H Q)(q:tD c (jT qj i C m n F R) Z H Q) :
  CW C m (jo X.K n F) [] E0 (λZ H Q=>∃v,Z[i]?=some (some v)/\Q v H) t Z H Q:=by
 obtain⟨S,G,r,q⟩:=q;unfold jT at q;split at q
 .rename_i a ei
  obtain⟨⟨o,h1,h2,h3⟩,q⟩:=q;obtain⟨v,ev,rv⟩:=r.slot i _ ei;have rv':v=V.ref a:=rv;subst rv';obtain⟨M,ad,k,sub⟩:=r.know (hk r.kn);obtain⟨dx,g1,_⟩:=k.obj a o h1;refine⟨.ref a,ev,a,dx,_,rfl,h2▸sub _ _ g1,zfD h3,ht _ _ _ ⟨S,G,r,hR S _ _ (λds z vs H' G' t e=>?_) q⟩⟩;show jo X.K n F (V.ref a::(vs++[])) H' Q E0;rw[rQ];exact(r.step t).read (hk r.kn) hK (ds:=.obj a::ds) ⟨V.ref a,vs,rfl,rfl,e⟩ z.1 (rM (F qj) _ _ _ (λd w v H2 G2 t2 e2=>w v H2 G2 (t.trans t2) e2) z.2)
 .exact q.elim
def pU(T:Met X.prog X.w X.K X.mg X.base cR C m k ps (jo X.K n F))(hk:c.P->vZ c qj)(nk:Nk X i x:=by decreasing_trivial)
  (ht:eval (.Call (.Attribute (.Name x p) m apos) [] [] pos) X.env=(do
   let ov <-eval (.Name x p) X.env
   standAt apos.atName
   let(f,first) <-holding [ov] (getMethod ov m pl)
   callWith pos f first (backTo pos (starEach [] X.env)) (backToKw pos (keywordEach [] X.env))):=by rfl) (hK:c.K=X.K:=by rfl) (hr:bD k X.A:=by decreasing_trivial) :
  DE X c (.Call (.Attribute (.Name x p) m apos) [] [] pos) (jT qj i C m n F (λ_ Q=>Q []))where
 mono:=zms (λ_ Q Q' k q=>k _ q)
 pe:=by
  obtain⟨f,fd,FO,hc,hm,hb⟩:=T.ex;exact dM (zp1 (lU nk.N nk.v nk.d nk.c) hc hm FO hr hb .nil Ah ht) λZ H Q q=>zmC hk hK (λ_ Q Q' k q=>k _ q) (λZ H Q ⟨S,G,r,q⟩=>q [] H G r.refl rfl) q
end
def dY{α:Type}:List Str->List α->Str->Option α
 |k::ks,x::xs,z=>if k=z then some x else dY ks xs z
 |_,_,_=>none
theorem Eu:∀{ks:List Str}{vs:List V}{z:Str},eX (dB ks vs) (Sum.inr z)=dY ks vs z
 |[],_,_=>rfl
 |_::_,[],_=>rfl
 |k::ks,v::vs,z=>by
  show eX (((Sum.inr k:Key),v)::dB ks vs) (Sum.inr z)=if k=z then some v else dY ks vs z;by_cases e:k=z
  .rw[if_pos e,Je (p:=((Sum.inr k:Key),v)) (by rw[e])]
  .rw[if_neg e,GJ (p:=((Sum.inr k:Key),v)) (λy=>e (Sum.inr.inj y)),Eu]
theorem Iw :∀{ks:List Str}{xs:List D}{vs:List V}{z:Str}{d:D},aG c G xs vs->dY ks xs z=some d->∃v,dY ks vs z=some v/\Rep c G d v
 |[],_,_,_,_,_,h=>by simp[dY]at h
 |_::_,[],_,_,_,_,h=>by simp[dY]at h
 |k::ks,x::xs,vs,z,d,⟨v,ws,h1,h2,h3⟩,h=>by
  subst h1;unfold dY at h ⊢;by_cases e:k=z
  .rw[if_pos e]at h ⊢;cases h;exact⟨v,rfl,h2⟩
  .rw[if_neg e]at h ⊢;exact Iw h3 h
def nJ(o:Option D)(Q:D->Prop):Prop:=match o with|some d=>Q d|none=>False
def zgu(k:∀d,Q d->Q' d)(q:nJ o Q):nJ o Q':=by
 cases o with
 |none=>exact q
 |some d=>exact k _ q
def cz:F2
 |.dct _ ks xs,.str z,Q=>nJ (dY ks xs z) Q
 |.fdc ks xs,.str z,Q=>nJ (dY ks xs z) Q
 |_,_,_=>False
def znN:lg cz:=λx y Q Q' k q=>by
 unfold cz at q ⊢;split at q
 .exact zgu k q
 .exact zgu k q
 .exact q.elim
section
variable{X:Cx}{c:Bk}{a i:Expr}{pos p:Pos}
def dD(hA:DE X c a A)(hB:DE X c i B)(hs:t6 i:=by intro _ _;rfl)(hu:X.A.units+1<cLine:=by decreasing_trivial):DE X c (.Subscript a i pos) (ak cz A B)where
 mono:=Cm znN hA.mono hB.mono
 pe:=dM (znR hu hA.pe hB.pe hs) λZ H Q ⟨S,G,r,q⟩=>⟨S,G,r,hA.mono S _ _ (λx zx vx H1 G1 t1 e1=>⟨S,G1,r.step t1,hB.mono S _ _ (λy zy vy H2 G2 t2 e2=>by
  unfold cz at zy;split at zy
  .rename_i n ks xs z
   obtain⟨d0,vs,h1,h2,_,h4,h5⟩:=e1;subst h1;have ey:vy=V.str z:=e2;subst ey;cases e:dY ks xs z with
   |none=>rw[e]at zy;exact zy.elim
   |some d=>
    rw[e]at zy;obtain⟨v,f1,f2⟩:=Iw h5 e;refine⟨d0,v,rfl,?_,zy v H2 G2 (t1.trans t2) (f2.mono t2.gg)⟩
    have:=iZ.k (k:=Sum.inr z) (t2.gh _ _ (t2.gg _ _ h2))
    rw[Eu,f1]at this;exact this
  .rename_i ks xs z
   obtain⟨d0,vs,o,h1,h2,h4,h5⟩:=e1;subst h1;have ey:vy=V.str z:=e2;subst ey;cases e:dY ks xs z with
   |none=>rw[e]at zy;exact zy.elim
   |some d=>
    rw[e]at zy;obtain⟨v,f1,f2⟩:=Iw h5 e;refine⟨d0,v,rfl,?_,zy v H2 G2 (t1.trans t2) (f2.mono t2.gg)⟩
    have:iZ H2 d0 (V.str z) (eX (dB ks vs) (Sum.inr z)):=.inl ⟨_,.inr z,.inr ⟨o,t2.gh _ _ (t2.gg _ _ h2)⟩,rfl,rfl⟩
    rw[Eu,f1]at this;exact this
  .exact zy.elim) zx⟩) q⟩
def zeb:cU X (.type "dict") (λxs H Q=>∃a kvs,xs=[.ref a]/\Rd H a (.dK kvs)/\∀l,H l=none->Q (.ref l) (upd H l (.dK kvs))):=by
 intro aa s Z H xs us Q I r h;obtain⟨a,kvs,rfl,ha,q⟩:=h;obtain⟨u,rfl,rx⟩:=qK r;cases rx;exact zpA I ha λp s' hp I'=>⟨.ref p,_,I',rfl,q p hp⟩
end
def bH(ks:List Str)(z:Str):List Str:=if ks.contains z then ks else ks++[z]
def aW{α:Type}(ks:List Str)(vs:List α)(z:Str)(w:α):List α:=if ks.contains z then List.zipWith (λk x=>if k=z then w else x) ks vs else vs++[w]
theorem zom:∀{ks:List Str}{vs:List V},ks.length=vs.length->(dB ks vs).any (λkv=>decide (kv.1=(Sum.inr z:Key)))=ks.contains z
 |[],[],_=>rfl
 |k::ks,v::vs,h=>by
  show(decide ((Sum.inr k:Key)=Sum.inr z) || (dB ks vs).any _)=_;rw[zom (by simpa using h),List.contains_cons];congr 1;by_cases e:k=z
  .subst e;simp
  .rw[gV (λy=>e (Sum.inr.inj y))];symm;rw[YAU];exact λy=>e y.symm
theorem zoU :∀{ks:List Str}{vs:List V},ks.length=vs.length->(dB ks vs).map (λkv=>if kv.1=(Sum.inr z:Key)then(kv.1,w)else kv)=dB ks (List.zipWith (λk x=>if k=z then w else x) ks vs)
 |[],[],_=>rfl
 |k::ks,v::vs,h=>by
  show(if (Sum.inr k:Key)=Sum.inr z then((Sum.inr k:Key),w)else(Sum.inr k,v))::(dB ks vs).map _=(Sum.inr k,if k=z then w else v)::dB ks _;rw[zoU (by simpa using h)];congr 1;by_cases e:k=z
  .subst e;simp
  .rw[if_neg (λy=>e (Sum.inr.inj y)),if_neg e]
def zix(h:ks.length=vs.length):putK (dB ks vs) (Sum.inr z) w=dB (bH ks z) (aW ks vs z w):=by
 unfold putK bH aW;rw[zom h];by_cases e:ks.contains z=true
 .rw[if_pos e,if_pos e,if_pos e,zoU h]
 .rw[if_neg e,if_neg e,if_neg e];unfold dB;rw[List.zip_append h,lL];rfl
theorem zlg(hd:Rep c G d w):∀{ks:List Str}{xs:List D}{vs:List V},aG c G xs vs->aG c G (List.zipWith (λk x=>if k=z then d else x) ks xs) (List.zipWith (λk x=>if k=z then w else x) ks vs)
 |[],_,_,_=>rfl
 |_::_,[],_,h=>by cases h;rfl
 |k::ks,x::xs,_,⟨v,ws,h1,h2,h3⟩=>by
  subst h1;refine⟨if k=z then w else v,_,rfl,?_,zlg hd h3⟩;show Rep c G (if k=z then d else x) (if k=z then w else v);by_cases e:k=z
  .rw[if_pos e,if_pos e];exact hd
  .rw[if_neg e,if_neg e];exact h2
def zfm(hd:Rep c G d w)(h:aG c G xs vs):aG c G (aW ks xs z d) (aW ks vs z w):=by
 unfold aW;by_cases e:ks.contains z=true
 .rw[if_pos e,if_pos e];exact zlg hd h
 .rw[if_neg e,if_neg e];exact h.append (.one hd)
def ziN(h:ks.length=vs.length):(bH ks z).length=(aW ks vs z w).length:=by
 unfold bH aW;by_cases e:ks.contains z=true
 .rw[if_pos e,if_pos e,List.length_zipWith,<-h];simp
 .rw[if_neg e,if_neg e,iU,iU,h];rfl
section
variable{X:Cx}{c:Bk}{p1 p2 p3 p4 p5 p6 p7 p8 p9 p10 p11 p12:Pos}
def zpq(ib iw iv i:Nat):WS:=λE S=>match S[ib]?,S[iw]?,S[iv]? with
 |some (.val (.dct _ ks xs)),some (.val (.str z)),some (.val d)=>i<S.length/\ks.length<1000/\E.rt (.dct true (bH ks z) (aW ks xs z d))
 |_,_,_=>False
def zut(ib iw iv i:Nat)(hi:X.N[i]?=some x:=by rfl)(hx:X.env.scope.names.lookup x=some .local:=by rfl)(hdx:(x==("__debug__":Str))=false:=by decide)(hcx:(x==("__classdict__":Str))=false:=by decide)
  (hb:PE X (.Name nb p3) (tW ib)) (hw:PE X (.Name nw p6) (tW iw)) (hv:PE X (.Name nv p7) (tW iv)) (nb':i≠ib:=by decide) (nw':i≠iw:=by decide) (nv':i≠iv:=by decide)
  (hg:Gl X "dict":=by rfl) (he:starEach [.Name nb p3] X.env=(false,eval (.Name nb p3) X.env)::starEach [] X.env:=by rfl) (hm:X.mg "dict"=none:=by decreasing_trivial)
  (hs1:swapsWith (.Call (.Name "dict" p2) [.Name nb p3] [] p4) (some (.Name x p1)) p5.line X.env=pure false:=by rfl) (hs2:swapsWith (.Name nv p7) (some (.Subscript (.Name x p8) (.Name nw p6) p9)) p10.line X.env=pure false:=by rfl)
  (hu:X.A.units+1<cLine:=by decreasing_trivial) (hN:X.N.Nodup:=by decreasing_trivial) :
  rG X c [.Assign [.Name x p1] (.Call (.Name "dict" p2) [.Name nb p3] [] p4) p5,.Assign [.Subscript (.Name x p8) (.Name nw p6) p9] (.Name nv p7) p10,.Return (some (.Name x p11)) p12] (zpq ib iw iv i)where
 mono:=λE E' S l q=>by
  unfold zpq at q ⊢;split at q
  .exact⟨q.1,q.2.1,l.rt _ q.2.2⟩
  .exact q.elim
 pss:=by
  have pvx:∀{p:Pos},PE X (.Name x p) (tW i):=λ{p}=>lU hi (.inl hx) hdx hcx;refine Er (nQ (uA hN hi (.inl hx) (yH zeb hg hm YCe (iM hb km he) (by decide) (by decide) he rfl) hs1 (.inr hx)) (nQ (zki hu pvx hw hv hs2) (zJ (zE pvx)))) λD Z H ⟨S,G,r,q⟩=>?_;unfold zpq at q;split at q
  .rename_i n ks xs z d e1 e2 e3
   obtain⟨hl,q⟩:=q;rw[r.len]at hl;obtain⟨v1,s1,a,vs,h1,h2,_,h4,h5⟩:=r.slot ib _ e1;obtain⟨v2,s2,r2⟩:=r.slot iw _ e2;obtain⟨v3,s3,r3⟩:=r.slot iv _ e3;subst h1;have e:v2=V.str z:=r2;subst e;have qf:∀{j:Nat}{l:Addr},i≠j->(Z.set i (some (.ref l)))[j]?=Z[j]?:=λh=>jE h;refine⟨.ref a,s1,a,_,rfl,.inl (r.gh _ _ h2),λl hl0=>?_⟩;have at_:(Z.set i (some (.ref l)))[i]?=some (some (.ref l)):=jK hl;have len:(dB ks vs).length<sizeLine:=by
    unfold dB;rw[bW,xF,<-h4,xX,mG];have:=q.1;omega
   refine⟨v3,(qf nv').trans s3,.ref l,at_,.str z,(qf nw').trans s2,l,_,rfl,nM.k (k:=.inr z) cH len,?_⟩;rw[zkk,zix h4];refine⟨.ref l,at_,?_⟩;have gl:=lQ r.gh hl0;have sg:Same G (upd G l (.dK (dB (bH ks z) (aW ks vs z v3)))):=pB gl;exact q.2 (.ref l) _ _ (r.stp.trans (aX.new r.gh r.bx hl0)) ⟨l,_,rfl,cH,λ_=>r.new0 hl0,ziN h4,(zfm r3 h5).mono sg⟩
  .exact q.elim
end
def aX.wrS(s:aX β H G H2 G2)(h0:H p=none)(hb:p≠β)(g2:G2 p=none):aX β H G (upd H2 p o) (upd G2 p o):=
 ⟨s.gg.trans (pB g2),λa u e=>by
  by_cases z:a=p
  .subst z;rw[cH]at e ⊢;exact e
  .rw[au z]at e ⊢;exact s.gh a u e,
 λa u n e=>by
  have z:a≠p:=λz=>by rw[z,h0]at e;cases e
  rw[au z];exact s.fr a u n e,
 λa e=>by
  by_cases z:a=p
  .subst z;exact .inr (.inl h0)
  .rw[au z]at e;exact s.nw a e,
 ⟨by
   obtain⟨cc,q,r,d,ns,h,p1,p2,p3,p4,hc,w⟩:=s.bx.ex;exact⟨cc,q,r,d,ns,by rw[au (YAM hb)];exact h,p1,p2,p3,p4,by rw[au (lO hc g2)];exact hc,w⟩,by rw[au (YAM hb)];exact s.bx.still⟩,
 s.b0,λcc q r d h=>by
  obtain⟨q1,r1,d1,h1⟩:=s.bc cc q r d h;exact⟨q1,r1,d1,by rw[au (YAM hb)];exact h1⟩⟩
structure DP(X:Cx)(c:Bk)(pos:Pos)(keys:List (Option Expr))(values:List Expr)(ks:List Str)(R:WL):Prop where
 mono:rN R
 ex:∃trs,JQ X pos keys values trs/\∀ Z H (Q:List (V×V)->Hp->Prop),(∃ S G,Rel c S Z H G/\R S λds=>∀vs H' G',aX c.β H G H' G'->aG c G' ds vs->Q ((ks.zip vs).map λp=>(V.str p.1,p.2)) H')->zme trs Z H Q
section
variable{X:Cx}{c:Bk}{pos kpos:Pos}{keys:List (Option Expr)}{values:List Expr}{e:Expr}{ks:List Str}{R:WL}
def zrg:DP X c pos [] [] [] (λ_ Q=>Q []):=⟨λS Q Q' k q=>k _ q,[],zsj,λZ H Q ⟨S,G,r,q⟩=>q [] H G r.refl rfl⟩
def uf(hA:DE X c e A)(hR:DP X c pos keys values ks R):DP X c pos (some (.Constant (.str k) n kpos)::keys) (e::values) (k::ks) (λS Q=>A S λd=>R S λds=>Q (d::ds)):=by
 obtain⟨m,trs,h1,h2⟩:=hR;refine⟨λS Q Q' k q=>hA.mono S _ _ (λd z=>m S _ _ (λds y=>k _ y) z) q,_,zqB zrj hA.pe h1,λZ H Q ⟨S,G,r,q⟩=>?_⟩;exact⟨S,G,r,hA.mono S _ _ (λd z v H1 G1 t1 e1=>h2 Z H1 _ ⟨S,G1,r.step t1,m S _ _ (λds y vs H2 G2 t2 e2=>y (v::vs) H2 G2 (t1.trans t2) ⟨v,vs,rfl,e1.mono t2.gg,e2⟩) z⟩) q⟩
theorem zlJ:∀{ks:List Str}{vs:List V},ks.length=vs.length->(dB ks vs).map (·.1)=ks.map (Sum.inr:Str->Key)
 |[],[],_=>rfl
 |k::ks,v::vs,h=>by
  show(Sum.inr k:Key)::(dB ks vs).map (·.1)=_;rw[zlJ (by simpa using h)];rfl
theorem ziX:∀{ks:List Str},ks.Nodup->(ks.map (Sum.inr:Str->Key)).Nodup
 |[],_=>YDd
 |k::ks,h=>by
  rw[YAP]at h;rw[dZ,YAP];refine⟨λm=>?_,ziX h.2⟩;obtain⟨x,hx,e⟩:=YAK.mp m;exact h.1 (Sum.inr.inj e▸hx)
abbrev zrO(ks:List Str)(R:WL):WE:=λS Q=>R S λxs=>xs.length=ks.length/\Q (.dct true ks xs)
def zqT(hR:DP X c pos keys values ks R)(hn:ks.Nodup:=by decide +kernel)(hl:ks.length<=15:=by decide)(ha:keys.all (·.isSome)=true:=by rfl)(hkl:keys.length=values.length:=by rfl)(h0:keys≠[]:=by intro z;cases z)(h15:keys.length<=15:=by decide):DE X c (.Dict keys values pos) (zrO ks R)where
 mono:=λS Q Q' k q=>hR.mono S _ _ (λds z=>⟨z.1,k _ z.2⟩) q
 pe:=by
  obtain⟨m,trs,h1,h2⟩:=hR;refine dM (zsa h1 ha hkl h0 h15) λZ H Q ⟨S,G,r,q⟩=>λp hp=>?_;have st:=aX.own (o:=.dK []) r.gh r.bx hp;have pb:=r.neβ hp;refine h2 Z _ _ ⟨S,G,r.step st,m S _ _ (λxs z vs H2 G2 t2 e2=>?_) q⟩;have hlen:ks.length=vs.length:=z.1.symm.trans e2.length;have g2:G2 p=none:=by
   cases w:G2 p with
   |none=>rfl
   |some o=>
    rcases t2.nw p (by rw[w];simp)with y|y|⟨u,y,su⟩
    .exact absurd (lQ r.gh hp) y
    .rw[cH]at y;cases y
    .rw[cH]at y;cases y;exact su.elim
  refine⟨t2.fr p _ pb cH,dB ks vs,by unfold dB;rw[YAL];rfl,by unfold dB;rw[bW,xF,<-hlen,xX];exact hl,?_⟩;rw[ze9 (dB ks vs) [] (λk _=>by simp) (by rw[zlJ hlen];exact ziX hn),YC5];exact z.2 (.ref p) _ _ ((st.trans t2).wrS hp pb g2) ⟨p,vs,rfl,cH,λ_=>r.new0 hp,hlen,e2.mono (pB g2)⟩
end
def yO(ad:Addr->List Addr)(p:Addr)(as:List Addr):Addr->List Addr:=λq=>if q=p then as else ad q
def zL:yO ad p as p=as:=by unfold yO;rw[if_pos rfl]
def Al(h:q≠p):yO ad p as q=ad q:=by unfold yO;rw[if_neg h]
structure Fj(fs fs':List (Str×List D))(as as':List Addr)(j:Nat)(f:Str)(xs:List D)(l:Addr):Prop where
 len:as'.length=fs'.length
 new:fs'[j]?=some (f,xs)
 at_:∀(i:Nat) a,as'[i]?=some a->(i=j/\a=l)\/(i≠j/\as[i]?=some a/\fs'[i]?=fs[i]?)
def Kn.newL(k:Kn K β G qj M ad)(h:qj p=some o)(hl:M l=none)(gl:G l=none)(lb:l≠β)(g:Fj o.fs fs' (ad p) as' j f xs l)(hw:aG (lr K β G) G xs ws) :
  Kn K β G (iY qj p ⟨o.C,fs'⟩) (upd (upd M l (.lst ws)) p (.ins o.C dx (j4 fs' as'))) (yO ad p as'):=by
 have mp:∀q u,qj q=some u->M q≠none:=λq u hq=>by obtain⟨_,h1,_⟩:=k.obj q u hq;rw[h1];simp
 have pl:p≠l:=λz=>mp p o h (z▸hl);have mlst:∀q u (i:Nat) a x,qj q=some u->(ad q)[i]?=some a->u.fs[i]?=some x->a≠p/\a≠l:=λq u i a x hq ha hx=>by
  obtain⟨vs,h1,_⟩:=k.lst q u i a x hq ha hx;refine⟨λz=>?_,λz=>?_⟩
  .obtain⟨_,h2,_⟩:=k.obj p o h;rw[z,h2]at h1;cases h1
  .rw[z,hl]at h1;cases h1
 have inFs:∀q u (i:Nat) a,qj q=some u->(ad q)[i]?=some a->∃x,u.fs[i]?=some x:=λq u i a hq ha=>by
  obtain⟨_,_,h2⟩:=k.obj q u hq
  have:=(jB.mp ha).1
  exact⟨_,jr (by rw[<-h2];exact this)⟩
 have some':∀q,iY qj p ⟨o.C,fs'⟩ q≠none->∃u,qj q=some u:=λq hq=>by
  by_cases e:q=p
  .exact⟨o,e▸h⟩
  .rw[rR e]at hq;cases z:qj q with
   |none=>exact absurd z hq
   |some u=>exact⟨u,rfl⟩
 refine⟨λq u hq=>?_,λq u i a x hq ha hx=>?_,λq r i n a hq hr ha hb=>?_,λa u ha=>?_,λa ha=>?_⟩
 .by_cases e:q=p
  .subst e;rw[qW]at hq;cases hq;exact⟨dx,by rw[cH,zL],by rw[zL];exact g.len⟩
  .rw[rR e]at hq;obtain⟨d,h1,h2⟩:=k.obj q u hq;have ql:q≠l:=λz=>mp q u hq (z▸hl);exact⟨d,by rw[au e,au ql,Al e];exact h1,by rw[Al e];exact h2⟩
 .by_cases e:q=p
  .subst e;rw[qW]at hq;cases hq;rw[zL]at ha;rcases g.at_ i a ha with⟨z1,z2⟩|⟨z1,z2,z3⟩
   .subst z1 z2;have hx':fs'[i]?=some x:=hx;rw[g.new]at hx';cases hx';exact⟨ws,by rw[au (YAM pl),cH],hw⟩
   .have hx':fs'[i]?=some x:=hx;rw[z3]at hx';obtain⟨vs,h1,h2⟩:=k.lst q o i a x h z2 hx';obtain⟨n1,n2⟩:=mlst q o i a x h z2 hx';exact⟨vs,by rw[au n1,au n2];exact h1,h2⟩
  .rw[rR e]at hq;rw[Al e]at ha;obtain⟨vs,h1,h2⟩:=k.lst q u i a x hq ha hx;obtain⟨n1,n2⟩:=mlst q u i a x hq ha hx;exact⟨vs,by rw[au n1,au n2];exact h1,h2⟩
 .have old:∀q (i:Nat),iY qj p ⟨o.C,fs'⟩ q≠none->(yO ad p as' q)[i]?=some a->(q=p/\i=j/\a=l)\/((q=p->i≠j)/\(ad q)[i]?=some a/\a≠l):=λq i hq ha=>by
   obtain⟨u,hu⟩:=some' q hq;by_cases e:q=p
   .subst e;rw[zL]at ha;rcases g.at_ i a ha with⟨z1,z2⟩|⟨z1,z2,z3⟩
    .exact .inl ⟨rfl,z1,z2⟩
    .obtain⟨x,hx⟩:=inFs q u i a hu z2;exact .inr ⟨λ_=>z1,z2,(mlst q u i a x hu z2 hx).2⟩
   .rw[Al e]at ha;obtain⟨x,hx⟩:=inFs q u i a hu ha;exact .inr ⟨λz=>absurd z e,ha,(mlst q u i a x hu ha hx).2⟩
  rcases old q i hq ha with⟨a1,a2,a3⟩|⟨a1,a2,a3⟩
  .rcases old r n hr hb with⟨b1,b2,b3⟩|⟨b1,b2,b3⟩
   .exact⟨a1.trans b1.symm,a2.trans b2.symm⟩
   .exact absurd a3 b3
  .rcases old r n hr hb with⟨b1,b2,b3⟩|⟨b1,b2,b3⟩
   .exact absurd b3 a3
   .obtain⟨u,hu⟩:=some' q hq;obtain⟨w,hw'⟩:=some' r hr;exact k.dis q r i n a (by rw[hu];simp) (by rw[hw'];simp) a2 b2
 .by_cases e:a=p
  .subst e;rw[cH]at ha;cases ha;exact λz=>z
  .rw[au e]at ha;by_cases e':a=l
   .subst e';rw[cH]at ha;cases ha;exact λz=>z
   .rw[au e']at ha;exact k.kin a u ha
 .by_cases e:a=p
  .subst e;exact k.ap a (mp a o h)
  .rw[au e]at ha;by_cases e':a=l
   .subst e';exact⟨gl,lb⟩
   .rw[au e']at ha;exact k.ap a ha
def jd(f:Str)(xs:List D):List (Str×List D)->List (Str×List D)
 |[]=>[(f,xs)]
 | (g,y)::r=>if g=f then(g,xs)::r else(g,y)::jd f xs r
def lM(f:Str)(l:Addr):List (Str×List D)->List Addr->List Addr
 |[],_=>[l]
 | (g,_)::r,a::as=>if g=f then l::as else a::lM f l r as
 |_::_,[]=>[]
theorem zoA :∀{fs:List (Str×List D)}{as:List Addr},as.length=fs.length->gP f (.ref l) (j4 fs as)=j4 (jd f xs fs) (lM f l fs as)
 |[],[],_=>rfl
 | (g,y)::fs,a::as,h=>by
  show(if g=f then(g,V.ref l)::j4 fs as else(g,V.ref a)::gP f (.ref l) (j4 fs as))=j4 (if g=f then(g,xs)::fs else(g,y)::jd f xs fs) (if g=f then l::as else a::lM f l fs as);by_cases e:g=f
  .rw[if_pos e,if_pos e,if_pos e];rfl
  .rw[if_neg e,if_neg e,if_neg e,zoA (xs:=xs) (by simpa using h)];rfl
theorem Jh :∀{fs:List (Str×List D)}{as:List Addr},as.length=fs.length->∃j,Fj fs (jd f xs fs) as (lM f l fs as) j f xs l
 |[],[],_=>⟨0,rfl,rfl,λi a h=>by
  cases i with
  |zero=>exact .inl ⟨rfl,by simpa[lM]using h.symm⟩
  |succ i=>simp[lM]at h⟩
 | (g,y)::fs,a::as,h=>by
  unfold jd lM;by_cases e:g=f
  .rw[if_pos e,if_pos e];subst e;refine⟨0,by simpa using h,rfl,λi c hc=>?_⟩;cases i with
   |zero=>exact .inl ⟨rfl,by simpa using hc.symm⟩
   |succ i=>exact .inr ⟨by omega,by simpa using hc,rfl⟩
  .rw[if_neg e,if_neg e];obtain⟨j,g1,g2,g3⟩:=Jh (f:=f) (xs:=xs) (l:=l) (fs:=fs) (as:=as) (by simpa using h);refine⟨j+1,by simpa using g1,by simpa using g2,λi c hc=>?_⟩;cases i with
   |zero=>exact .inr ⟨by omega,by simpa using hc,rfl⟩
   |succ i=>
    rcases g3 i c (by simpa using hc)with⟨z1,z2⟩|⟨z1,z2,z3⟩
    .exact .inl ⟨by omega,z2⟩
    .exact .inr ⟨by omega,by simpa using z2,by simpa using z3⟩
section
variable{X:Cx}{b:Bo}{e:Expr}{pos p fpos:Pos}
def jw(i:Nat)(f:Str)(C:Addr)(F:bN->WL):WF:=λE qj S=>match S[i]? with
 |some (.val (.obj q))=>F qj S λxs=>∃o,qj q=some o/\o.C=C/\o.fs.length<100/\E.nx (iY qj q ⟨o.C,jd f (xs.map D.old) o.fs⟩) S
 |_=>False
def zh1(i:Nat)(hF:∀qj M G1,DF X (dz b qj M G1) e (F qj))(hc:nP X.K C)(hn:dF X.K C f)(nk:Nk X i x:=by decreasing_trivial)(hs:swapsWith e (some (.Attribute (.Name x p) f fpos)) pos.line X.env=pure false:=by rfl):OS X b (.Assign [.Attribute (.Name x p) f fpos] e pos) (jw i f C F)where
 mono:=λE E' qj S l q=>by
  unfold jw at q ⊢;split at q
  .exact(hF qj (λ_=>none) (λ_=>none)).mono S _ _ (λxs ⟨o,h1,h2,h3,h4⟩=>⟨o,h1,h2,h3,l.nx _ _ h4⟩) q
  .exact q.elim
 ps:=λaa s Z H Ds I ⟨S,G,qj,M,⟨G1,u,r⟩,q⟩=>zuX (lU nk.N nk.v nk.d nk.c) (hF qj M G1).pe hs aa s Z H Ds I (by
  unfold jw at q;split at q
  .rename_i a0 ei
   refine⟨S,G,r,(hF qj M G1).mono S _ _ (λxs ⟨o,h1,h2,h3,h4⟩ l vs H1 G' t hl gl hl0 hv0=>?_) q⟩;obtain⟨v,ev,rv⟩:=r.slot i _ ei;have rv':v=V.ref a0:=rv;subst rv';have r1:=r.step t;obtain⟨ad,k⟩:=r.kn;have k1:Kn b.K b.β G' qj M ad:=k.mono r1.stp.gg r1.apart;obtain⟨dx,g1,g2⟩:=k1.obj a0 o h1;have qm:M a0≠none:=by rw[g1];simp
   have qb:=(u.mb a0 qm).2.2;have lb:l≠b.β:=r.neβ hl0;have hM:∀c w,M c=some w->H c=some w:=λc w hc=>r.stp.fr c w (u.mb c (by rw[hc];simp)).2.2 (uz hc);have hM1:∀c w,M c=some w->H1 c=some w:=λc w hc=>t.fr c w (u.mb c (by rw[hc];simp)).2.2 (hM c w hc);have ml:M l=none:=by
    cases z:M l with
    |none=>rfl
    |some w=>rw[hM l w z]at hl0;cases hl0
   have ql:a0≠l:=λz=>qm (z▸ml);obtain⟨j,g⟩:=Jh (f:=f) (xs:=xs.map D.old) (l:=l) g2;have hw:aG (lr b.K b.β G') G' (xs.map D.old) vs:=aG.hand (c:=dz b qj M G1) (c':=lr b.K b.β G') rfl rfl hv0;have k2:=k1.newL (dx:=dx) h1 ml gl lb g hw;refine⟨.ref a0,ev,a0,o.C,dx,_,rfl,hM1 _ _ g1,h2▸hc,h2▸hn,by unfold j4;rw[bW,xF,g2,xX];omega,?_⟩;rw[zoA (xs:=xs.map D.old) g2];have dm:Dm M (upd (upd M l (.lst vs)) a0 (.ins o.C dx (j4 (jd f (xs.map D.old) o.fs) (lM f l o.fs (ad a0))))):=λc hc=>by
    by_cases e:c=a0
    .subst e;rw[cH];simp
    .rw[au e];by_cases e':c=l
     .subst e';rw[cH];simp
     .rw[au e'];exact hc
   have ef:xK b.β M (upd (upd M l (.lst vs)) a0 (.ins o.C dx (j4 (jd f (xs.map D.old) o.fs) (lM f l o.fs (ad a0))))) H G (upd H1 a0 (.ins o.C dx (j4 (jd f (xs.map D.old) o.fs) (lM f l o.fs (ad a0))))) G':=by
    refine⟨t.gg,λc w hc=>?_,λc w n hc hw=>?_,λc w hc=>?_,λc hc=>?_,λc hc=>k2.ap c hc,t.nw,?_,λcc q1 r1 d1 hb=>?_,dm⟩
    .rw[au (λz=>by rw[z,r1.apart a0 qm]at hc;cases hc)];exact t.gh c w hc
    .rw[au (λz=>by rw[z]at hc;exact qm hc)];exact t.fr c w n hw
    .by_cases e:c=a0
     .subst e;rw[cH]at hc ⊢;exact hc
     .rw[au e]at hc ⊢;by_cases e':c=l
      .subst e';rw[cH]at hc;cases hc;exact hl
      .rw[au e']at hc;exact hM1 c w hc
    .by_cases e:c=a0
     .subst e;exact .inl qm
     .rw[au e]at hc;by_cases e':c=l
      .subst e';exact .inr hl0
      .rw[au e']at hc;exact .inl hc
    .obtain⟨cc,q1,r2,d1,ns,hb,z⟩:=t.bx.ex;exact⟨⟨cc,q1,r2,d1,ns,by rw[au (YAM qb)];exact hb,z⟩,t.bx.still⟩
    .obtain⟨q2,r2,d2,hb'⟩:=t.bc cc q1 r1 d1 hb;exact⟨q2,r2,d2,by rw[au (YAM qb)];exact hb'⟩
   exact h4 Z _ G' _ ⟨G',u.eff r ef,r.eff (λc hc=>⟨(u.mb c hc).1,(u.mb c hc).2.2⟩) ef ⟨_,k2⟩⟩ t.gg dm
  .exact q.elim)
end
section
variable{X:Cx}{b:Bo}{pos p:Pos}{y:Str->bN->Prop}
abbrev ztr(C:Addr)(F:m7)(y:Str->bN->Prop):WOE:=λ_ qj Q=>∀a,qj a=none->yV F [.obj a] (iY qj a ⟨C,[]⟩) (λd qk=>d=.non/\Q (.obj a) qk) y
def Kn.new(k:Kn K β G qj M ad)(hm:M a=none)(ga:G a=none)(ab:a≠β):Kn K β G (iY qj a ⟨C,[]⟩) (upd M a (.ins C dx [])) (yO ad a []):=by
 have mp:∀q u,qj q=some u->M q≠none:=λq u hq=>by obtain⟨_,h1,_⟩:=k.obj q u hq;rw[h1];simp
 have nl:∀{q:Addr}{i:Nat}{c:Addr},(yO ad a [] q)[i]?=some c->q≠a/\(ad q)[i]?=some c:=λ{q i c} h=>by
  by_cases e:q=a
  .subst e;rw[zL]at h;simp at h
  .rw[Al e]at h;exact⟨e,h⟩
 refine⟨λq u hq=>?_,λq u i c x hq hc hx=>?_,λq r i n c hq hr hc hd=>?_,λc u hc=>?_,λc hc=>?_⟩
 .by_cases e:q=a
  .subst e;rw[qW]at hq;cases hq;exact⟨dx,by rw[cH,zL];rfl,by rw[zL];rfl⟩
  .rw[rR e]at hq;obtain⟨d,h1,h2⟩:=k.obj q u hq;exact⟨d,by rw[au e,Al e];exact h1,by rw[Al e];exact h2⟩
 .obtain⟨e,hc'⟩:=nl hc;rw[rR e]at hq;obtain⟨vs,h1,h2⟩:=k.lst q u i c x hq hc' hx;exact⟨vs,by rw[au (λz=>by rw[z,hm]at h1;cases h1)];exact h1,h2⟩
 .obtain⟨e1,c1⟩:=nl hc;obtain⟨e2,c2⟩:=nl hd;rw[rR e1]at hq;rw[rR e2]at hr;exact k.dis q r i n c hq hr c1 c2
 .by_cases e:c=a
  .subst e;rw[cH]at hc;cases hc;exact λz=>z
  .rw[au e]at hc;exact k.kin c u hc
 .by_cases e:c=a
  .subst e;exact⟨ga,ab⟩
  .rw[au e]at hc;exact k.ap c hc
def zt5(T:Mk X.K C f)(FO:aM X.prog X.w X.K X.mg X.base (dj X.prog X.w) k f fd ps (kZ X.K X.mg 1 F))(hm:X.mg x=some (.ref C))(hb:Binds X.K fd ps [])(hx:nH (dj X.prog X.w) X (XO b X.mg y))(hg:Gl X x:=by rfl)
  (hdb:(x==("__debug__":Str))=false:=by decide) (hK:b.K=X.K:=by rfl) (hr:bD (k+1) X.A:=by decreasing_trivial):OE X b (.Call (.Name x p) [] [] pos) (ztr C F y)where
 mono:=λS qj Q Q' l q a ha=>Bw F (λd qk z=>⟨z.1,l _ _ z.2⟩) (λ_ _ z=>z) (q a ha)
 pe:=dM (zql T FO hr hg hm hb .nil hx hdb) λZ H Q ⟨S,G,qj,M,⟨G1,u,r⟩,q⟩=>by
  intro a dx ha hdx ne;obtain⟨ad,kn⟩:=r.kn;have k1:Kn b.K b.β G qj M ad:=kn.mono r.stp.gg r.apart;have hM:∀c w,M c=some w->H c=some w:=λc w hc=>r.stp.fr c w (u.mb c (by rw[hc];simp)).2.2 (uz hc);have free:∀{c},H c=none->M c=none:=λ{c} h=>by
   cases z:M c with
   |none=>rfl
   |some w=>rw[hM c w z]at h;cases h
  have ma:=free ha;have sa:qj a=none:=by
   cases z:qj a with
   |none=>rfl
   |some o=>obtain⟨_,h1,_⟩:=k1.obj a o z;rw[ma]at h1;cases h1
  have ab:a≠b.β:=r.neβ ha;have db:dx≠b.β:=r.neβ hdx;have k2:=k1.new (a:=a) (dx:=dx) (C:=C) ma (lQ r.gh ha) ab;have ha':upd H dx (.own a) a=none:=by rw[au (YAM ne)];exact ha
  have dm:Dm M (upd M a (.ins C dx [])):=λc hc=>by
   by_cases e:c=a
   .subst e;rw[cH];simp
   .rw[au e];exact hc
  have keep:∀c w,H c=some w->upd (upd H dx (.own a)) a (.ins C dx []) c=some w:=λc w hc=>by
   rw[au (λz=>by rw[z,ha]at hc;cases hc),au (λz=>by rw[z,hdx]at hc;cases hc)];exact hc
  have ef:xK b.β M (upd M a (.ins C dx [])) H G (upd (upd H dx (.own a)) a (.ins C dx [])) G:=by
   refine⟨Same.refl _,λc w hc=>keep c w (r.gh c w hc),λc w _ _ hc=>keep c w hc,λc w hc=>?_,λc hc=>?_,λc hc=>k2.ap c hc,λc hc=>.inl hc,(r.bx.new hdx).new ha',λcc q1 r1 d1 hb=>⟨q1,r1,d1,keep _ _ hb⟩,dm⟩
   .by_cases e:c=a
    .subst e;rw[cH]at hc ⊢;exact hc
    .rw[au e]at hc;exact keep c w (hM c w hc)
   .by_cases e:c=a
    .subst e;exact .inr ha
    .rw[au e]at hc;exact .inl hc
  have rs:mq b (iY qj a ⟨C,[]⟩) (upd M a (.ins C dx [])) S Z (upd (upd H dx (.own a)) a (.ins C dx [])) G [.obj a] [.ref a]:=
   ⟨G,u.eff r ef,r.eff (λc hc=>⟨(u.mb c hc).1,(u.mb c hc).2.2⟩) ef ⟨_,k2⟩,.ref a,[],rfl,rfl,rfl⟩
  refine dq.give hK rs rfl (Bw F (λd qk z v H2 G2 M2 r2 s2 m2=>?_) (λnm qk z C2 H2 G2 M2 hc r2 s2 m2=>⟨nm,C2,qk,M2,S,Z,G2,rfl,z,hc,r2⟩) (q a sa));obtain⟨z1,z2⟩:=z;subst z1;obtain⟨Ga,oa,ra,ea⟩:=r2;have ev:v=V.non:=ea;exact⟨ev,z2 (.ref a) H2 G2 M2 ⟨Ga,oa,ra,rfl⟩ s2 (dm.trans m2)⟩
end
section
variable{X:Cx}{b:Bo}{e:Expr}{es:List Expr}{pos p npos:Pos}
abbrev zs0(n:Nat)(F:Fn)(R:WOA):WOE:=λS qj Q=>R S qj λds S1=>ds.length=n/\up F ds λd=>Q d S1
def zq0(C:fG X.prog X.w X.K X.mg X.base x k ps (dh X.K n F))(hR:OA X b (e::es) R)(hg:Gl X x:=by rfl)
  (hdb:(x==("__debug__":Str))=false:=by decide) (sk:Sk X e es pos:=by exact⟨rfl,rfl⟩) (hK:b.K=X.K:=by rfl) (hr:bD k X.A:=by decreasing_trivial) :
  OE X b (.Call (.Name x p) (e::es) [] pos) (zs0 n F R)where
 mono:=λS qj Q Q' l q=>hR.mono S qj _ _ (λds S1 z=>⟨z.1,rM F ds _ _ (λd w=>l d S1 w) z.2⟩) q
 pe:=by
  obtain⟨f,fd,FO,hm,hk,hb⟩:=C.ex;refine dM (yG FO hr hg hm hk hb .nil Ah hR.pa hdb sk.1 sk.2) λZ H Q ⟨S,G,qj,M,r,q⟩=>⟨S,G,qj,M,r,hR.mono S qj _ _ (λds S1 z vs H' G' M' r' s' m'=>?_) q⟩;show dh X.K n F (vs++[]) H' Q E0;rw[rQ];obtain⟨Ga,oa,ra,ea⟩:=r';exact⟨b.β,G',ds,ra.gh,ra.bx,aG.back (c':=dz b S1 M' Ga) (c:=⟨X.K,b.β,λ_=>none,G',True⟩) hK rfl (λ_ _=>rfl) ea,by rw[<-ea.length];exact z.1,
   rM F ds _ _ (λd w v H2 G2 t2 e2=>w v H2 G2 M' ⟨Ga,oa,ra.step t2,Rep.back (c':=⟨X.K,b.β,H',G',True⟩) (c:=dz b S1 M' Ga) hK.symm rfl (λa h=>ra.new0 h) e2⟩ (s'.trans t2.gg) m') z.2⟩
abbrev Bl(A:WOE)(U V:WF):WF:=λE qj S=>A S qj λd S1=>mW d λt=>if t=true then V E S1 S else U E S1 S
def zqM{A:WOE}{U V:WF}{x y:List Stmt}(hA:OE X b e A)(hU:pq X b x U)(hV:pq X b y V)(he:∀whole,isTrue e X.env whole=(do let v <-whole;standAt e.pos;holding [v] (truthy v)):=by intro _;rfl)(hK:b.K=X.K:=by rfl):OS X b (.If (.UnaryOp .Not e npos) x y pos) (Bl A U V)where
 mono:=λE E' qj S l q=>hA.mono S qj _ _ (λd S1 z=>zgZ d (λt z=>by
  cases t
  .exact hU.mono _ _ S1 S l z
  .exact hV.mono _ _ S1 S l z) z) q
 ps:=kY (Dq (zq9 (zl2 hA.pe he)) hU.pss hV.pss) λD Z H ⟨S,G,qj,M,r,q⟩=>⟨S,G,qj,M,r,hA.mono S qj _ _ (λd S1 z v H' G' M' r' s' m'=>by
  obtain⟨Ga,oa,ra,ea⟩:=r';unfold mW at z;split at z
  .rename_i k hk
   refine⟨k,hK▸zkr ra.gh ea hk,?_⟩;cases k
   .exact⟨S,G',S1,M',⟨Ga,oa,ra⟩,hU.mono _ _ S1 S (DR s' m') z⟩
   .exact⟨S,G',S1,M',⟨Ga,oa,ra⟩,hV.mono _ _ S1 S (DR s' m') z⟩
  .exact z.elim) q⟩
end
section
variable{X:Cx}{b:Bo}{c:Bk}{e:Expr}{es:List Expr}{pos cpos p np:Pos}
abbrev zra(n:Nat)(F:jU)(y:Str->bN->Prop)(R:WOA):WOE:=λS qj Q=>R S qj λds S1=>ds.length=n/\BV F ds (λd=>Q d S1) λnm=>y nm S1
def zrE(C:gZ X.prog X.w X.K X.mg X.base x k ps (dC X.K X.mg n F))(hR:OA X b (e::es) R)(hx:nH (dj X.prog X.w) X (XO b X.mg y))(hg:Gl X x:=by rfl)
  (hdb:(x==("__debug__":Str))=false:=by decide) (sk:Sk X e es pos:=by exact⟨rfl,rfl⟩) (hK:b.K=X.K:=by rfl) (hr:bD k X.A:=by decreasing_trivial) :
  OE X b (.Call (.Name x p) (e::es) [] pos) (zra n F y R)where
 mono:=λS qj Q Q' l q=>hR.mono S qj _ _ (λds S1 z=>⟨z.1,Ep F (λd w=>l d S1 w) (λ_ w=>w) z.2⟩) q
 pe:=by
  obtain⟨f,fd,FO,hm,hk,hb⟩:=C.ex;refine dM (yG FO hr hg hm hk hb .nil hx hR.pa hdb sk.1 sk.2) λZ H Q ⟨S,G,qj,M,r,q⟩=>⟨S,G,qj,M,r,hR.mono S qj _ _ (λds S1 z vs H' G' M' r' s' m'=>?_) q⟩;show dC X.K X.mg n F (vs++[]) H' Q _;rw[rQ];obtain⟨Ga,oa,ra,ea⟩:=r';exact⟨b.β,G',ds,ra.gh,ra.bx,aG.back (c':=dz b S1 M' Ga) (c:=⟨X.K,b.β,λ_=>none,G',True⟩) hK rfl (λ_ _=>rfl) ea,by rw[<-ea.length];exact z.1,
   Ep F (λd w v H2 G2 t2 e2=>w v H2 G2 M' ⟨Ga,oa,ra.step t2,Rep.back (c':=⟨X.K,b.β,H',G',True⟩) (c:=dz b S1 M' Ga) hK.symm rfl (λa h=>ra.new0 h) e2⟩ (s'.trans t2.gg) m') (λnm w C H2 G2 hc t2=>⟨nm,C,S1,M',S,Z,G2,rfl,w,hc,Ga,oa,ra.step t2⟩) z.2⟩
def XD(c:Bk)(mg:Str->Option Value)(y:Str->Prop):XK:=λv _ H'=>∃nm C G',v=.ref C/\y nm/\mg nm=some (.ref C)/\aX c.β c.H0 c.G0 H' G'
abbrev qY(n:Nat)(F:jU)(y:Str->Prop)(R:WL):WE:=λS Q=>R S λds=>ds.length=n/\BV F ds Q y
def v7(C:gZ X.prog X.w X.K X.mg X.base x k ps (dC X.K X.mg n F))(hR:DA X c (e::es) R)(hx:nH (dj X.prog X.w) X (XD c X.mg y))(hg:Gl X x:=by rfl)
  (hdb:(x==("__debug__":Str))=false:=by decide) (sk:Sk X e es pos:=by exact⟨rfl,rfl⟩) (hK:c.K=X.K:=by rfl) (hr:bD k X.A:=by decreasing_trivial) :
  DE X c (.Call (.Name x p) (e::es) [] pos) (qY n F y R)where
 mono:=λS Q Q' l q=>hR.mono S _ _ (λds z=>⟨z.1,Ep F l (λ_ w=>w) z.2⟩) q
 pe:=by
  obtain⟨f,fd,FO,hm,hk,hb⟩:=C.ex;refine dM (yG FO hr hg hm hk hb .nil hx hR.pa hdb sk.1 sk.2) λZ H Q ⟨S,G,r,q⟩=>⟨S,G,r,hR.mono S _ _ (λds z vs H' G' t ea=>?_) q⟩;show dC X.K X.mg n F (vs++[]) H' Q _;rw[rQ];have ra:=r.step t;exact⟨c.β,G',ds,t.gh,t.bx,aG.back (c':=c) (c:=⟨X.K,c.β,λ_=>none,G',True⟩) hK rfl (λ_ _=>rfl) ea,by rw[<-ea.length];exact z.1,
   Ep F (λd w v H2 G2 t2 e2=>w v H2 G2 (t.trans t2) (Rep.back (c':=⟨X.K,c.β,H',G',True⟩) (c:=c) hK.symm rfl (λa h=>ra.new0 h) e2)) (λnm w C H2 G2 hc t2=>⟨nm,C,G2,rfl,w,hc,ra.stp.trans t2⟩) z.2⟩
end
end Fd
namespace L2
open PySem PySem.Spec PyProof.Rows PySem.W
section
variable{X:Cx}{CX:mO}{E:XK}{x:Str}{i:Nat}{p pos:Pos}{e:Expr}{es:List Expr}{t:TA}
def ztI(X:Cx)(CX:mO)(i:Nat)(E:XK)(t:TA):TE:=λZ H Q=>∃f fd k ps sp,Z[i]?=some (some (V.ref f))/\aM X.prog X.w X.K X.mg X.base CX k f fd ps sp/\bD k X.A/\PySem.W.keepIn X.K (.ref f)=true/\Binds X.K fd ps []/\t Z H λvs H1=>sp (vs++[]) H1 Q E
def zp5(hN:X.N[i]?=some x)(hv:Cu X.env.scope x)(hx:nH CX X E)(ha:PA X (e::es) t)(hd:(x==("__debug__":Str))=false:=by decide)(hcd:(x==("__classdict__":Str))=false:=by decide)
  (he:starEach (e::es) X.env=(false,eval e X.env)::starEach es X.env:=by rfl) (hpl:(backTo pos (starEach es X.env)).any (·.1)=false:=by rfl):PE X (.Call (.Name x p) (e::es) [] pos) (ztI X CX i E t):=by
 intro aa s Z H Q I ⟨f,fd,k,ps,sp,ev,F,hr,hk,hb,h⟩;obtain⟨m,hn,hl⟩:=id I.loc;obtain⟨u,r,l⟩:=hl i x _ hN ev hv;obtain rfl:u=Value.ref f:=r;have go:wpAny (model X.prog X.w) X.A (callWith pos (.ref f) [] (backTo pos (starEach (e::es) X.env)) (backToKw pos (keywordEach [] X.env))) (EP X aa Z Q) X.xe s:=
  KJ (h₀:=X.base) I.ok.mod.kin hk (bF (ha pos aa s Z H _ I h) λus s1 ⟨vs,H1,I1,r,q⟩=>⟨I1.kIn,KH F hr hb .nil hx I1 r q⟩) he hpl
 rcases l with⟨hk,hm⟩|⟨hk,c,hc,hcell⟩
 .exact xR (Cp (wpAny_loadName_local I.ok.kind hk hn hm go) hd)
 .rcases hk with hk|hk
  .exact xR (Cp (wpAny_loadName_cell I.ok.kind hk hc hcell go) hd)
  .exact xR (Cp (wpAny_loadName_free I.ok.kind hk hc hcell go hcd) hd)
end
end L2
namespace Fd
open PySem L2
structure Tab(X:Cx)(n:Nat)(T:List (Addr×jU)):Prop where
 ex:∀q∈T,∃fd k ps,aM X.prog X.w X.K X.mg X.base (dj X.prog X.w) k q.1 fd ps (dC X.K X.mg n q.2)/\bD k X.A/\PySem.W.keepIn X.K (.ref q.1)=true/\Binds X.K fd ps []
section
variable{X:Cx}{c:Bk}{e:Expr}{es:List Expr}{pos p:Pos}{y:Str->Prop}
def zlG(i n:Nat)(T:List (Addr×jU))(y:Str->Prop)(R:WL):WE:=λS Q=>match S[i]? with
 |some (.val (.obj f))=>∃F,(f,F)∈T/\R S λds=>ds.length=n/\BV F ds Q y
 |_=>False
def zse(hT:Tab X n T)(hR:DA X c (e::es) R)(hx:nH (dj X.prog X.w) X (XD c X.mg y))(nk:Nk X i x:=by decreasing_trivial)(sk:Sk X e es pos:=by exact⟨rfl,rfl⟩)(hK:c.K=X.K:=by rfl) :
  DE X c (.Call (.Name x p) (e::es) [] pos) (zlG i n T y R)where
 mono:=λS Q Q' l q=>by
  unfold zlG at q ⊢;split at q
  .obtain⟨F,h1,q⟩:=q;exact⟨F,h1,hR.mono S _ _ (λds z=>⟨z.1,Ep F l (λ_ w=>w) z.2⟩) q⟩
  .exact q.elim
 pe:=dM (zp5 nk.N nk.v hx hR.pa nk.d nk.c sk.1 sk.2) λZ H Q ⟨S,G,r,q⟩=>by
  unfold zlG at q;split at q
  .rename_i f ei
   obtain⟨F,h1,q⟩:=q;obtain⟨fd,k,ps,FO,hr,hk,hb⟩:=hT.ex _ h1;obtain⟨v,ev,rv⟩:=r.slot i _ ei;have rv':v=V.ref f:=rv;subst rv';refine⟨f,fd,k,ps,_,ev,FO,hr,hk,hb,S,G,r,hR.mono S _ _ (λds z vs H' G' t ea=>?_) q⟩;show dC X.K X.mg n F (vs++[]) H' Q _;rw[rQ];have ra:=r.step t;exact⟨c.β,G',ds,t.gh,t.bx,aG.back (c':=c) (c:=⟨X.K,c.β,λ_=>none,G',True⟩) hK rfl (λ_ _=>rfl) ea,by rw[<-ea.length];exact z.1,
    Ep F (λd w v H2 G2 t2 e2=>w v H2 G2 (t.trans t2) (Rep.back (c':=⟨X.K,c.β,H',G',True⟩) (c:=c) hK.symm rfl (λa h=>ra.new0 h) e2)) (λnm w C H2 G2 hc t2=>⟨nm,C,G2,rfl,w,hc,ra.stp.trans t2⟩) z.2⟩
  .exact q.elim
end
end Fd
namespace L2
open PySem PySem.Spec PyProof.Rows
def ni(d:Addr)(es:Array DictEntry)(ep:Nat)(h:Heap):Prop:=∃o,h.get? d=some o/\o.data=.dict es ep
def ni.keep(x:ni d es ep h)(k:∀o,h.get? d=some o->h'.get? d=some o):ni d es ep h':=let⟨o,e,z⟩:=x;⟨o,k _ e,z⟩
section
variable{prog:Program}{w:World}{A:Around}{E:Value->Shared->Prop}{s:Shared}{it d v:Addr}{i ep:Nat}{es:Array DictEntry}
def znm:Builtin.Dict_items.ownsTuple "dict_keyiterator"=false:=by decide
def zlZ(hit:s.heap.IsKeyIter it d i es.size ep)(hm:ni d es ep s.heap)(hi:i<es.size)
  (q:∀h',h'.IsKeyIter it d (i+1) es.size ep->Heap.SameBut it s.heap h'->Q (some es[i].key) {s with heap:=h'}):wpAny (model prog w) A (pyNext (.ref it)) Q E s:=by
 obtain⟨o,ho,hc,hd⟩:=id hit;obtain⟨od,h1,h2⟩:=hm;unfold pyNext;refine aJ (yW (YAH (name:=Str.ofString "__next__") hit.typeIs JZ (uL JZ hit.typeIs F.entry_dict_keyiterator_next ?_ (F.args_dict_keyiterator_next_1 _))));refine aJ (bV (aJ (aJ (aJ (YBo hit.typeIs (bV (aJ (wpAny_fieldsOf ho hd ?_))))))));simp only[znm,Ba,um];show wpAny _ _ (if (Value.ref d==Value.none)=true then _ else _) _ _ s;refine BZ yx (aJ (bV (aJ (YCW h1 h2 ?_))));refine BZ (by simp) (aJ (bV (aJ (YC9 h1 h2 ?_))));refine BZ (by simp) (bV ?_);simp only[show ¬ ((i:Int)<0)from by omega,um,Ed,HR hi];refine aJ (aJ (YBo hit.typeIs (bV (aJ (wpAny_isOneOf_keyiter hit.typeIs ?_)))));show wpAny _ _ (setField (.ref it) 1 (rawInt ((i:Int)+1)) >>= _) _ _ s;refine aJ (yw ho hd (by simp) ?_);have hit':(s.heap.update it (Obj.mapFields (·.setIfInBounds 1 (rawInt ((i:Int)+1))))).IsKeyIter it d (i+1) es.size ep:=
  ⟨_,YAR _ ho (YBQ (Dz hd _)),(YCi ..).trans hc,by rw[Dz hd];simp[rawInt]⟩
 generalize s.heap.update it (Obj.mapFields (·.setIfInBounds 1 (rawInt ((i:Int)+1))))=h3,(YBZ s.heap it (Obj.mapFields (·.setIfInBounds 1 (rawInt ((i:Int)+1)))):Heap.SameBut it s.heap _)=sb at hit' ⊢;refine aJ (YAW (aJ (wpAny_isOneOf_keyiter (s:={s with heap:=h3}) hit'.typeIs ?_)));show wpAny _ _ (pure es[i].key) _ _ _;exact bV (bV ⟨_,rfl,bV (q _ hit' sb)⟩)
def znb(hh:A.handled=none)(hit:s.heap.IsKeyIter it d es.size es.size ep)(hm:ni d es ep s.heap)
  (q:∀h',Heap.ExtBut it s.heap h'->Q none {s with heap:=h'}):wpAny (model prog w) A (pyNext (.ref it)) Q E s:=by
 obtain⟨o,ho,hc,hd⟩:=id hit;obtain⟨od,h1,h2⟩:=hm;unfold pyNext;refine aJ (yW (YAH (name:=Str.ofString "__next__") hit.typeIs JZ (uL JZ hit.typeIs F.entry_dict_keyiterator_next ?_ (F.args_dict_keyiterator_next_1 _))));refine aJ (bV (aJ (aJ (aJ (YBo hit.typeIs (bV (aJ (wpAny_fieldsOf ho hd ?_))))))));simp only[znm,Ba,um];show wpAny _ _ (if (Value.ref d==Value.none)=true then _ else _) _ _ s;refine BZ yx (aJ (bV (aJ (YCW h1 h2 ?_))));refine BZ (by simp) (aJ (bV (aJ (YC9 h1 h2 ?_))));refine BZ (by simp) (bV ?_);simp only[show ¬ ((es.size:Int)<0)from by omega,um,Ed,Array.getElem?_eq_none (dJ _)];refine aJ (aJ (YBo hit.typeIs (bV ?_)));show wpAny _ _ (setField (.ref it) 0 .none >>= _) _ _ s;refine aJ (yw ho hd (by simp) ?_);show wpAny _ _ (newExc (.type "StopIteration") [] >>= _) _ _ _;refine aJ ?_;simp only[newExc,newTuple];refine aJ (YAI ?_ (by size_fits));refine aJ (m:=firstArgMember _ _) (wpAny_of_eq (a:=Value.none) (by first|rfl|(simp only[firstArgMember];rfl)) ?_);refine YAI ?_ (by size_fits);simp only[raiseNew];refine aJ (wpAny_handled ?_);rw[show A.in1.handled=none from hh];refine aJ (bV (wpAny_throw ?_));refine aJ (Ft (T:="StopIteration") (b:=true) ⟨_,jF _ rfl,rfl⟩ YCL ?_);exact bV (q _ (((YBZ ..).extBut.push _).push _))
def zpa(hh:A.handled=none)(I d:Addr)(hne:d≠I)(es:Array DictEntry)(ep:Nat):Walks prog w A I [I,d] [I] es.size (λi v=>(es.map (·.key))[i]?=some v) (λi h=>h.IsKeyIter I d i es.size ep/\ni d es ep h)where
 sub:=λb hb=>by simp at hb;simp[hb]
 frame:=λ_ _ _ st hk=>⟨st.1.at λo e=>hk I (by simp) o e,st.2.keep λo e=>hk d (by simp) o e⟩
 item:=λi s Q E hi st q=>zlZ st.1 st.2 hi λh' a b=>q _ h' s.toks (by simp[hi]) ⟨a,st.2.keep λo e=>b.extBut d o hne e⟩ λb' o hb e=>b.extBut b' o (λh=>hb (by simp[h])) e
 done:=λs Q E st q=>znb hh st.1 st.2 λh' a=>q h' s.toks λb o hb e=>a b o (λh=>hb (by simp[h])) e
 self:=λ_ _ _ _ st q=>wpAny_pyIter_keyiter st.1 q
def zlm(hd:(d==sysModules)=false)(hT:s.TypeIs (.ref d) "dict")(hm:ni d es ep s.heap)
  (q:Q (.ref s.heap.objs.size) {s with heap:=s.heap.push {cls:=.type "dict_keyiterator",data:=.fields #[.ref d,.int 0 0,.int es.size 0,.int ep 0]}}):wpAny (model prog w) A (pyIter (.ref d)) Q E s:=by
 obtain⟨o,e1,e2⟩:=hm;refine wpAny_pyIter_slot hT F.slot_dict_iter (uL F.slot_dict_iter hT F.entry_dict_iter ?_ (F.args_dict_iter_1 _));unfold Builtin.«dict.__iter__»;refine aJ ?_;unfold Builtin.Dict.dictSlotNone;refine aJ (wpAny_notOrdered_dict hT ?_);show wpAny _ _ (pure (Value.ref d)) _ _ s;refine bV ?_;show wpAny _ _ (Builtin.Dict.showsAll d >>= _) _ _ s;unfold Builtin.Dict.showsAll;rw[if_neg (by rw[hd];exact yx)];refine aJ (bV (aJ (YCW e1 e2 (aJ (YC9 e1 e2 ?_)))));refine aJ (YAI (bV ⟨_,rfl,"dict_keyiterator",_,⟨_,jF _ rfl,rfl⟩,JZ.lookup,?_⟩))
 simpa[rawInt]using q
def zm6(hh:A.handled=none)(hd:(d==sysModules)=false)(hT:∀h,(∀o,s.heap.get? d=some o->h.get? d=some o)->Shared.TypeIs {s with heap:=h} (.ref d) "dict")(hm:ni d es ep s.heap)(hz:es.size<=1000)
  (q:∀h' tk c,(∀b o,s.heap.get? b=some o->h'.get? b=some o)->h'.get? s.heap.objs.size=some {cls:=.type "list",dict:=none,data:=.seq (es.map (·.key)) c,slots:=#[]}->Q (.ref s.heap.objs.size) {s with heap:=h',toks:=tk}) :
  wpAny (model prog w) A (call (.type "list") [.ref d]) Q E s:=by
 refine callType_codes (Q₁:=λobj s₁=>obj=.ref s.heap.objs.size/\s₁={s with heap:=s.heap.push {cls:=.type "list",data:=.seq #[]}}) F.called_list (F.typeCall_list_1 _) F.entry_list_init (code_list_new _ ⟨rfl,rfl⟩) λobj s₁ h₁=>?_;obtain⟨rfl,rfl⟩:=h₁;have hS:(s.heap.push {cls:=.type "list",data:=.seq #[]}).get? s.heap.objs.size=some {cls:=.type "list",data:=.seq #[]}:=jF _ rfl;have dlt:d<s.heap.objs.size:=let⟨o,e,_⟩:=hm;dw e
 have k1:∀b o,s.heap.get? b=some o->(s.heap.push {cls:=.type "list",data:=.seq #[]}).get? b=some o:=λb o e=>dO _ e;have z1:(s.heap.push {cls:=.type "list",data:=.seq #[]}).objs.size=s.heap.objs.size+1:=xJ ..;refine⟨⟨_,hS,rfl⟩,F.args_list_init_2 _ _,?_⟩;generalize s.heap.push {cls:=.type "list",data:=.seq #[]}=h1 at *;show wpAny _ _ (do let old <-Builtin.List.listItems (.ref s.heap.objs.size);Builtin.List.listUpdate (.ref s.heap.objs.size) (λ_=>#[]);letGo old.toList.reverse;Builtin.List.listExtendWith (.ref s.heap.objs.size) (.ref d) .none) _ _ {s with heap:=h1};refine aJ ?_;unfold Builtin.List.listItems;refine aJ (vO hS rfl (bV ?_));show wpAny _ _ (updateSeq s.heap.objs.size (λ_=>#[]) >>=λ_=>letGo (#[]:Array Value).toList.reverse >>=λ_=>Builtin.List.listExtendWith (.ref s.heap.objs.size) (.ref d) .none) _ _ {s with heap:=h1};refine aJ (YDa (s:={s with heap:=h1}) hS rfl ?_);have hS2:=YAR (Obj.mapSeq (λ_=>(#[]:Array Value))) hS rfl;have o2:∀b o,b≠s.heap.objs.size->h1.get? b=some o->(h1.update s.heap.objs.size (Obj.mapSeq (λ_=>(#[]:Array Value)))).get? b=some o:=λb o hb e=>(YAJ _ _ (YAM hb)).trans e;have z2:(h1.update s.heap.objs.size (Obj.mapSeq (λ_=>(#[]:Array Value)))).objs.size=s.heap.objs.size+1:=by rw[Heap.size_update];exact z1
 refine aJ (YDf ?_);generalize h1.update s.heap.objs.size (Obj.mapSeq (λ_=>(#[]:Array Value)))=h2 at *;have low:∀b o,s.heap.get? b=some o->h2.get? b=some o:=λb o e=>o2 b o (fK (dw e)) (k1 b o e);have hm2:ni d es ep h2:=hm.keep λo e=>low _ _ e;have ty:Shared.TypeIs {s with heap:=h2} (.ref d) "dict":=hT h2 λo e=>low _ _ e;unfold Builtin.List.listExtendWith;refine aJ (KD ty ?_);simp only[show Builtin.List.listSameRef (.ref s.heap.objs.size) (.ref d)=false by simp[Builtin.List.listSameRef,wu dlt],show(Value.type "dict"==Value.type "list")=false by decide,show(Value.type "dict"==Value.type "tuple")=false by decide,Bool.or_false,Ba,um];refine aJ (zlm (s:={s with heap:=h2}) hd ty hm2 ?_);rw[show({s with heap:=h2}:Shared).heap.objs.size=s.heap.objs.size+1 from z2];have hI:(h2.push {cls:=.type "dict_keyiterator",data:=.fields #[.ref d,.int 0 0,.int es.size 0,.int ep 0]}).IsKeyIter (s.heap.objs.size+1) d 0 es.size ep:=⟨_,by rw[<-z2];exact jF _ rfl,rfl,rfl⟩;have k3:∀b o,h2.get? b=some o->(h2.push {cls:=.type "dict_keyiterator",data:=.fields #[.ref d,.int 0 0,.int es.size 0,.int ep 0]}).get? b=some o:=λb o e=>dO _ e;generalize h2.push {cls:=.type "dict_keyiterator",data:=.fields #[.ref d,.int 0 0,.int es.size 0,.int ep 0]}=h3 at *;have ty3:Shared.TypeIs {s with heap:=h3} (.ref d) "dict":=hT h3 λo e=>k3 _ _ (low _ _ e);refine aJ (YAW ?_);unfold Builtin.List.listLengthHint;refine aJ (YC6 ty3 PySem.F.slot_dict_len.lookup ?_);dsimp only;rw[zh0];dsimp only;refine aJ (Ft ty3 isSubtype_dict_dict ?_);refine BZ (by decide) (zqO (by decide +kernel) (aJ (KD ty3 (bV ?_))));refine zqO (by decide +kernel) (aJ (yJ (aJ ?_)));show wpAny _ _ (updateSeq s.heap.objs.size (·.push .none) >>=λ_=>updateSeq s.heap.objs.size (·.pop)) _ _ _;have hS3:=k3 _ _ hS2;refine aJ (YDa (s:={s with heap:=h3}) hS3 rfl ?_);have hS4:=YAR (Obj.mapSeq (·.push Value.none)) hS3 rfl;refine YDa (hz:=by seq_fits) hS4 rfl ?_;have hS5:=YAR (Obj.mapSeq (·.pop)) hS4 rfl;have o4:∀b o,b≠s.heap.objs.size->h3.get? b=some o->((h3.update s.heap.objs.size (Obj.mapSeq (·.push Value.none))).update s.heap.objs.size (Obj.mapSeq (·.pop))).get? b=some o:=λb o hb e=>
  (YAJ _ _ (YAM hb)).trans ((YAJ _ _ (YAM hb)).trans e)
 have nS:s.heap.objs.size∉[s.heap.objs.size+1,d]:=by
  simp only[ir,lB,rK,not_or];exact⟨fK (YCr _),wu dlt⟩
 have W:=(zpa (prog:=prog) (w:=w) (A:=A.in1.in1) hh (s.heap.objs.size+1) d (fK (YCj dlt)) es ep).toS;refine bV ⟨plainId_quiet PySem.F.plain_extend_loop _,codeAny_extend_loopS W (by rw[mG];omega) _ nS _ es.size 0 _ _ _ rfl (vX _) ⟨hI.at λo e=>o4 _ _ (wu (YCr _)) e,(hm2.keep λo e=>k3 _ _ e).keep λo e=>o4 _ _ (fK dlt) e⟩ hS5 (ItemsOf.nil _) λs' acc' c' hm' hS' hacc=>?_⟩;have ev:acc'=es.map (·.key):=by
  apply Array.ext
  .rw[hacc.1,Array.size_map]
  .intro j j1 j2
   have:(es.map (·.key))[j]?=some acc'[j]:=hacc.2 j acc'[j] (by simp[j1])
   rw[HR j2]at this;exact(Option.some.inj this).symm
 subst ev;obtain⟨hh',g',d',tk',o'⟩:=s';have eg:g'=s.gens:=hm'.gens;have ed:d'=s.drawn:=hm'.drawn;have eo:o'=s.os:=hm'.os;subst eg ed eo;exact⟨rfl,q hh' tk' c' (λb o e=>hm'.heap b o (by
  have hb1:=dw e;simp only[ir,lB,rK,not_or];exact⟨fK hb1,fK (YCj hb1)⟩) (o4 b o (fK (dw e)) (k3 b o (low b o e)))) hS'⟩
end
section
variable{X:Cx}{e:Expr}{st:Stmt}
def zuS(h:PE X e t):PE X e (λZ H Q=>t Z H λv H1=>∃a kvs,v=.ref a/\H1 a=some (.dK kvs)/\∀o,Q v (upd H1 a (.iV o (.dK kvs)))):=λaa s Z H Q I q=>
 bF (h aa s Z H _ I q) λu s1 ⟨v,H1,I1,r,a,kvs,ev,ha,q1⟩=>by
  obtain⟨o,ho⟩:=(I1.hok a _ ha).ex;exact⟨v,_,I1.freeze ha ho,r,q1 o⟩
def zuo(h:PS X st t):PS X st (λD Z H=>t {D with nx:=λZ1 H1=>∃a kvs,H1 a=some (.dK kvs)/\∀o,D.nx Z1 (upd H1 a (.iV o (.dK kvs)))} Z H):=λaa s Z H D I q=>
 bF (h aa s Z H _ I q) λf s1 z=>by
  cases f with
  |next=>
   obtain⟨Z1,H1,I1,a,kvs,ha,q1⟩:=z;obtain⟨o,ho⟩:=(I1.hok a _ ha).ex;exact⟨Z1,_,I1.freeze ha ho,q1 o⟩
  |brk=>exact z
  |cont=>exact z
  |ret u=>exact z
end
theorem zgl :∀{es:List DictEntry}{vs:List (Key×Value)},Pairs (lC P w) es vs->es.length=vs.length/\∀(i:Nat) e,es[i]?=some e->∃p,vs[i]?=some p/\RelV (kV p.1) e.key
 |_,_,.nil=>⟨rfl,λi e h=>by simp at h⟩
 |_,_,.cons h1 _ h3=>by
  obtain⟨l,f⟩:=zgl h3;refine⟨by simp[l],λi e h=>?_⟩;cases i with
  |zero=>simp at h;subst h;exact⟨_,rfl,zuL h1⟩
  |succ i=>rw[YAA]at h ⊢;exact f i e h
def Itk(d:Addr)(o:Obj)(kvs:List (Key×V)):It:=
 ⟨λi H=>i<kvs.length/\H d=some (.iV o (.dK kvs)),λi H v H'=>H'=H/\∃p,kvs[i]?=some p/\v=kV p.1,λi H=>i=kvs.length/\H d=some (.iV o (.dK kvs))⟩
def zn2{P:Program}{w:World}{K:qo}{tg:Expr}{it d:Addr}{o:Obj}{kvs:List (Key×V)}{ents:Array DictEntry}{ep:Nat}(ho:o.data=.dict ents ep) :
  Turn P w K tg (Itk d o kvs) [it] it (λi h=>h.IsKeyIter it d i ents.size ep)where
 mem:=by simp
 obj:=λk h st c hc=>by
  rw[lX.mp hc];obtain⟨u,e,_,z⟩:=st;exact⟨u,e,λv q=>by rw[z]at q;cases q⟩
 keep:=λk h h' ⟨u,e,r⟩ q=>⟨u,q it (by simp) u e,r⟩
 item:=by
  intro X hP hw hK hc k aa s Z H E I hf st hg;subst hP hw hK;obtain⟨hk,hd⟩:=hg;obtain⟨eo,z,hS,vs,rel,o',es',ep',e',xd,dd,kk,pp,nn⟩:=I.hok d _ hd;rw[eo]at e';cases e';rw[ho]at dd;cases dd;have hlen:kvs.length=vs.length:=rel.length;obtain⟨l,f⟩:=zgl pp;have hke:k<ents.size:=by rw[<-Ay,l,<-hlen];exact hk
  refine zlZ st ⟨o,eo,ho⟩ hke λh' a b=>⟨_,rfl,?_⟩;obtain⟨f0,f1,f2,f3,f4,f5⟩:=hf it (by simp);have I1:Inv X aa Z H {s with heap:=h',toks:=s.toks}:=I.turned (t':=s.toks) (λc u hb e=>b.extBut c u hb e) f0 f1 f3 f4 f5;obtain⟨p,hp,rk⟩:=f k ents[k] (by rw[YCo,HR hke]);obtain⟨q,hq⟩:∃q,kvs[k]?=some q:=⟨_,jr hk⟩;have e1:q.1=p.1:=(zjG rel hq hp).1;obtain⟨u,g1,g2,g3⟩:=id a;exact Ei (s:={s with heap:=h'}) g1 g2 g3 (by decide) ⟨kV p.1,H,I1,rk,⟨rfl,q,hq,by rw[e1]⟩,a,λc hc=>(hf c hc).1⟩
 done:=by
  intro X hP hw hK hc k aa s Z H E I hf st hg;subst hP hw hK;obtain⟨hk,hd⟩:=hg;obtain⟨eo,z,hS,vs,rel,o',es',ep',e',xd,dd,kk,pp,nn⟩:=I.hok d _ hd;rw[eo]at e';cases e';rw[ho]at dd;cases dd;have hlen:kvs.length=vs.length:=rel.length;obtain⟨l,f⟩:=zgl pp;have hke:k=ents.size:=by rw[<-Ay,l,<-hlen];exact hk
  subst hke;refine znb (I.ok.hd hc) st ⟨o,eo,ho⟩ λh' eb=>⟨rfl,?_⟩;obtain⟨f0,f1,f2,f3,f4,f5⟩:=hf it (by simp);exact I.turned (t':=s.toks) (λb u hb e=>eb b u hb e) f0 f1 f3 f4 f5
 self:=λ_ _ _ _ _ st h=>wpAny_pyIter_keyiter st h
def zvL(td:TE):TI:=λZ H R=>td Z H λx H1=>∃d o kvs,x=.ref d/\H1 d=some (.iV o (.dK kvs))/\R (Itk d o kvs) H1
def zsy{X:Cx}{tg e:Expr}{td:TE}(ho:PE X e td):PI X tg e (zvL td):=by
 intro aa s Z H R I h;refine bF (ho aa s Z H _ I h) λu s1 ⟨x,H1,I1,rx,d,o,kvs,ex,hd,q⟩=>?_;subst ex;obtain rfl:u=Value.ref d:=rx;obtain⟨eo,z,hS,vs,rel,o',es',ep',e',xd,dd,kk,pp,nn⟩:=I1.hok d _ hd;rw[eo]at e';cases e';refine zlm hS ⟨o,eo,xd.1⟩ ⟨o,eo,dd⟩ ?_;refine⟨s1.heap.objs.size,[s1.heap.objs.size],_,_,H1,rfl,I1.kept (t':=s1.toks) λb u e=>dO _ e,zn2 dd,⟨_,jF _ rfl,rfl,rfl⟩,λb hb=>?_,q⟩;rw[lX.mp hb];exact I1.fpOk (dJ _) (I1.hok.fresh (dJ _))
def zi3(hc:X.calm=true):cU X (.type "list") (λvs H Q=>∃d kvs,vs=[.ref d]/\Rd H d (.dK kvs)/\kvs.length<=1000/\∀l,H l=none->Q (.ref l) (upd H l (.lst (kvs.map λp=>kV p.1)))):=by
 intro aa s Z H vs us Q I r h;obtain⟨d,kvs,rfl,hd,hz,q⟩:=h;obtain⟨u,rfl,rx⟩:=qK r;cases rx;obtain⟨z,sy,xs,rel,o,es,ep,h1,h2,h3,h4,h5,h6⟩:=zG I.hok hd;obtain⟨l,f⟩:=zgl h5;have lx:xs.length=kvs.length:=rel.length.symm;have hsz:es.size=kvs.length:=by rw[<-Ay,l,lx]
 refine zm6 (I.ok.hd hc) sy (λh' k=>⟨o,k _ h1,h2.1⟩) ⟨o,h1,h3⟩ (by omega) λh' tk c' k g=>?_;refine⟨.ref s.heap.objs.size,upd H s.heap.objs.size (.lst (kvs.map λp=>kV p.1)),I.laid (t':=tk) k (dJ _) ⟨by rw[bW,mG];omega,es.toList.map (·.key),c',?_,by rw[g,<-Array.toList_map,Array.toArray_toList]⟩,rfl,q _ (I.hok.fresh (dJ _))⟩;have go:∀{es:List DictEntry}{xs:List (Key×Value)}{kvs:List (Key×V)},Pairs (lC X.prog X.w) es xs->KV kvs xs->Vals (kvs.map λp=>kV p.1) (es.map (·.key)):=by
  intro es xs kvs hp
  induction hp generalizing kvs with
  |nil=>intro h;cases h;exact .nil
  |cons a _ _ ih=>intro h;cases h with|cons b t=>exact .cons (by show RelV (kV _) _;rw[b.1];exact zuL a) (ih t)
 exact go h5 rel
end L2
namespace Fd
open PySem L2
def noD:Env->Bool
 |[]=>true
 |.dic _ _::_=>false
 |_::r=>noD r
def Ag:Nat->Env->Bool
 |_,[]=>true
 |0,_::r=>noD r
 |_+1,.dic _ _::_=>false
 |i+1,_::r=>Ag i r
theorem zlI:∀{S:Env},noD S=true->∀(j:Nat) ks xs,S[j]?≠some (.dic ks xs)
 |[],_,j,ks,xs=>by simp
 |.dic _ _::_,h,_,_,_=>by cases h
 |.un::r,h,0,ks,xs=>by simp
 |.val _::r,h,0,ks,xs=>by simp
 |.own _::r,h,0,ks,xs=>by simp
 |.un::r,h,j+1,ks,xs=>by rw[YAA];exact zlI (S:=r) h j ks xs
 |.val _::r,h,j+1,ks,xs=>by rw[YAA];exact zlI (S:=r) h j ks xs
 |.own _::r,h,j+1,ks,xs=>by rw[YAA];exact zlI (S:=r) h j ks xs
theorem ziU:∀{i:Nat}{S:Env},Ag i S=true->∀(j:Nat) ks xs,S[j]?=some (.dic ks xs)->j=i
 |_,[],_,j,ks,xs,e=>by simp at e
 |0,s::r,h,0,ks,xs,e=>rfl
 |0,s::r,h,j+1,ks,xs,e=>absurd (by rw[YAA]at e;exact e) (zlI (S:=r) h j ks xs)
 |_+1,.dic _ _::_,h,_,_,_,_=>by cases h
 |i+1,.un::r,h,0,ks,xs,e=>by simp at e
 |i+1,.val _::r,h,0,ks,xs,e=>by simp at e
 |i+1,.own _::r,h,0,ks,xs,e=>by simp at e
 |i+1,.un::r,h,j+1,ks,xs,e=>by rw[ziU (i:=i) (S:=r) h j ks xs (by rw[YAA]at e;exact e)]
 |i+1,.val _::r,h,j+1,ks,xs,e=>by rw[ziU (i:=i) (S:=r) h j ks xs (by rw[YAA]at e;exact e)]
 |i+1,.own _::r,h,j+1,ks,xs,e=>by rw[ziU (i:=i) (S:=r) h j ks xs (by rw[YAA]at e;exact e)]
section
variable{c:Bk}{S:Env}{Z:St}{H G:Hp}{i:Nat}
def Rel.putDic(r:Rel c S Z H G)(hl:H l=some (.dK (dB ks vs)))(hg:G l=none)(h0:c.H0 l=none)(hb:l≠c.β)(h:aG c G xs vs)(hn:ks.length=vs.length):Rel c (S.set i (.dic ks xs)) (Z.set i (some (.ref l))) H G:=by
 refine⟨by simp[r.len],r.stp,λj s e=>?_,λj k a xs' ys e1 e2 e3 e4=>?_,r.kn⟩
 .by_cases z:i=j
  .subst z;have hi:i<S.length:=by have:=(jB.mp e).1;simpa using this
   rw[jK hi]at e;cases e;exact⟨l,vs,by rw[jK (by rw[<-r.len];exact hi)],hl,hg,h0,hb,h,hn⟩
  .rw[jE z]at e ⊢;exact r.slot j s e
 .have nn:∀{j:Nat}{xs},(S.set i (.dic ks xs'))[j]?=some (.own xs)->True:=λ_=>trivial;have nj:i≠j:=λz=>by
   subst z;have hi:i<S.length:=by have:=(jB.mp e1).1;simpa using this
   rw[jK hi]at e1;cases e1
  have nk:i≠k:=λz=>by
   subst z;have hi:i<S.length:=by have:=(jB.mp e2).1;simpa using this
   rw[jK hi]at e2;cases e2
  rw[jE nj]at e1 e3;rw[jE nk]at e2 e4;exact r.dis j k a xs' ys e1 e2 e3 e4
def Rel.writeD(r:Rel c S Z H G)(hi:S[i]?=some (.dic ks xs))(hs:Z[i]?=some (some (.ref l)))(h:aG c G ys ws)(hn:ks'.length=ws.length)(ho:Ag i S=true) :
  Rel c (S.set i (.dic ks' ys)) Z (upd H l (.dK (dB ks' ws))) G:=by
 obtain⟨a,vs,h1,h2,h3,h4,h5,h6,h7⟩:=r.slot i _ hi;rw[hs]at h1;cases h1;have hil:i<S.length:=(jB.mp hi).1;refine⟨by simp[r.len],⟨r.stp.gg,λb u e=>?_,λb u n e=>?_,r.stp.nw,?_,r.stp.b0,λcc p q d e=>by
  obtain⟨p',q',d',e'⟩:=r.stp.bc cc p q d e;exact⟨p',q',d',by rw[au (YAM h5)];exact e'⟩⟩,λj s e=>?_,λj k b xs' ys' e1 e2 e3 e4=>?_,r.kn⟩
 .rw[au (λz=>by rw[z,h3]at e;cases e)];exact r.gh b u e
 .rw[au (λz=>by rw[z,h4]at e;cases e)];exact r.stp.fr b u n e
 .obtain⟨cc,p,q,d,ns,e,z⟩:=r.bx.ex;exact⟨⟨cc,p,q,d,ns,by rw[au (YAM h5)];exact e,z⟩,r.bx.still⟩
 .by_cases z:i=j
  .subst z;rw[jK hil]at e;cases e;exact⟨l,ws,hs,cH,h3,h4,h5,h,hn⟩
  .rw[jE z]at e;have q:=r.slot j s e;cases s with
   |un=>trivial
   |val d=>exact q
   |own zs=>
    obtain⟨b,us,g1,g2,g3⟩:=q;have nb:b≠l:=λy=>by rw[y,h2]at g2;cases g2
    exact⟨b,us,g1,by rw[au nb];exact g2,g3⟩
   |dic k2 zs=>exact absurd (ziU ho j k2 zs e).symm z
 .have f:∀(m:Nat) zs,(S.set i (.dic ks' ys))[m]?=some (.own zs)->S[m]?=some (.own zs):=λm zs e=>by
   by_cases z:i=m
   .subst z;rw[jK hil]at e;cases e
   .rw[jE z]at e;exact e
  exact r.dis j k b _ _ (f j _ e1) (f k _ e2) e3 e4
end
def dcV:D->Option (List Str×List D)
 |.dct _ ks xs=>some (ks,xs)
 |.fdc ks xs=>some (ks,xs)
 |_=>none
def Ik(h:Rep c G d v)(e:dcV d=some (ks,xs)):∃a vs,v=.ref a/\Rd G a (.dK (dB ks vs))/\ks.length=vs.length/\aG c G xs vs:=by
 cases d with
 |dct n ks' xs'=>cases e;obtain⟨a,vs,h1,h2,_,h4,h5⟩:=h;exact⟨a,vs,h1,.inl h2,h4,h5⟩
 |fdc ks' xs'=>cases e;obtain⟨a,vs,o,h1,h2,h4,h5⟩:=h;exact⟨a,vs,h1,.inr ⟨o,h2⟩,h4,h5⟩
 |_=>cases e
def Jl(s:Same G H):Rd G a u->Rd H a u
 |.inl h=>.inl (s _ _ h)
 |.inr ⟨o,h⟩=>.inr ⟨o,s _ _ h⟩
def rE(d:D)(Q:List Str->List D->Prop):Prop:=match dcV d with|some p=>Q p.1 p.2|none=>False
def J8(k:∀a b,Q a b->Q' a b)(q:rE d Q):rE d Q':=by
 unfold rE at q ⊢;split at q
 .exact k _ _ q
 .exact q.elim
section
variable{X:Cx}{c:Bk}{e ie ve:Expr}{es:List Expr}{rest:List Stmt}{pos p p2 cp tp pos2:Pos}
abbrev Br(i:Nat)(A:WE):WS:=λE S=>A S λd=>rE d λks xs=>E.nx (S.set i (.dic ks xs))
def zvJ(i:Nat)(hA:DE X c e A)(hi:X.N[i]?=some x:=by rfl)(hx:Loc X.env.scope x:=by first|exact Or.inl rfl|exact Or.inr rfl)(hg:Gl X "dict":=by rfl)(he:starEach [e] X.env=(false,eval e X.env)::starEach [] X.env:=by rfl)
  (hs:swapsWith (.Call (.Name "dict" p2) [e] [] cp) (some (.Name x p)) pos.line X.env=pure false:=by rfl) (hf:X.fn x=true\/X.env.scope.names.lookup x=some .local:=by first|exact .inl rfl|exact .inr rfl|assumption) (hm:X.mg "dict"=none:=by decreasing_trivial) (hN:X.N.Nodup:=by decreasing_trivial):DS X c (.Assign [.Name x p] (.Call (.Name "dict" p2) [e] [] cp) pos) (Br i A)where
 mono:=λE E' S l q=>hA.mono S _ _ (λd z=>J8 (λa b y=>l.nx _ y) z) q
 ps:=kY (uA hN hi hx (yH zeb hg hm YCe (iM hA.pe km he) (by decide) (by decide) he rfl) hs hf) λD Z H ⟨S,G,r,q⟩=>⟨S,G,r,hA.mono S _ _ (λd z v H' G' t e=>by
  unfold rE at z;split at z
  .rename_i pr ed
   obtain⟨a,vs,h1,h2,h3,h4⟩:=Ik e ed;subst h1;refine⟨a,_,rfl,Jl t.gh h2,λl hl=>?_⟩;have r1:=r.step t;have r2:=r1.step (aX.own (o:=.dK (dB pr.1 vs)) r1.gh r1.bx hl);exact z _ _ G' (r2.putDic cH (lQ r1.gh hl) (r1.new0 hl) (r1.neβ hl) h4 h3) t.gg
  .exact z.elim) q⟩
def gO(i:Nat)(I A:WE):WS:=λE S=>match S[i]? with
 |some (.dic ks xs)=>Ag i S=true/\ks.length<1000/\A S λd=>I S λk=>(match k with|.str z=>E.nx (S.set i (.dic (bH ks z) (aW ks xs z d)))|_=>False)
 |_=>False
def zX(i:Nat)(hA:DE X c e A)(hI:DE X c ie I)(nk:Nk X i x:=by decreasing_trivial)(hs:swapsWith e (some (.Subscript (.Name x p) ie tp)) pos.line X.env=pure false:=by rfl)(hu:X.A.units+1<cLine:=by decreasing_trivial):DS X c (.Assign [.Subscript (.Name x p) ie tp] e pos) (gO i I A)where
 mono:=λE E' S l q=>by
  unfold gO at q ⊢;split at q
  .exact⟨q.1,q.2.1,hA.mono S _ _ (λd z=>hI.mono S _ _ (λk y=>by
    cases k<;>first|exact l.nx _ y|exact y) z) q.2.2⟩
  .exact q.elim
 ps:=kY (zki hu (lU nk.N nk.v nk.d nk.c) hI.pe hA.pe hs) λD Z H ⟨S,G,r,q⟩=>by
  unfold gO at q;split at q
  .rename_i ks xs ek
   obtain⟨ho,hk,q⟩:=q;refine⟨S,G,r,hA.mono S _ _ (λd z v H1 G1 t1 e1=>?_) q⟩;obtain⟨a,vs,h1,h2,h3,h4,h5,h6,h7⟩:=(r.step t1).slot i _ ek;refine⟨.ref a,h1,S,G1,r.step t1,hI.mono S _ _ (λk y w H2 G2 t2 e2=>?_) z⟩;cases k with
   |str z=>
    have ew:w=V.str z:=e2;subst ew;have len:(dB ks vs).length<sizeLine:=by
     unfold dB;rw[bW,xF,<-h7,xX,mG];omega
    refine⟨a,_,rfl,nM.k (k:=.inr z) (t2.fr a _ h5 h2) len,?_⟩;rw[zix h7];exact y Z _ G2 (((r.step t1).step t2).writeD ek h1 (zfm (e1.mono t2.gg) (h6.mono t2.gg)) (ziN h7) ho) (t1.gg.trans t2.gg)
   |_=>exact y.elim
  .exact q.elim
noncomputable def zM(i:Nat)(I A:WE):WS:=λE S=>match S[i]? with
 |some (.dic ks xs)=>Ag i S=true/\ks.length<1000/\I S λk=>(match k with
  |.str z=>(match dY ks xs z with
   |some (.int a)=>A S λd=>intD d λb=>E.nx (S.set i (.dic (bH ks z) (aW ks xs z (.int (a+b)))))
   |_=>False)
  |_=>False)
 |_=>False
def ztU(i:Nat)(hI:DE X c ie I)(hA:DE X c e A)(nk:Nk X i x:=by decreasing_trivial)
  (ha:∀ov iv new,augStore ie ov iv new=(do holding [new,ov,iv] (setItem ov iv new);release [new,ov,iv] [];pure .next):=by intros;rfl) (hu:X.A.units+1<cLine:=by decreasing_trivial):DS X c (.AugAssign (.Subscript (.Name x p) ie tp) .Add e pos) (zM i I A)where
 mono:=λE E' S l q=>by
  unfold zM at q ⊢;split at q
  .refine⟨q.1,q.2.1,hI.mono S _ _ (λk y=>?_) q.2.2⟩;split at y
   .split at y
    .exact hA.mono S _ _ (λd w=>znz (λb=>l.nx _) w) y
    .exact y.elim
   .exact y.elim
  .exact q.elim
 ps:=kY (zrL hu (lU nk.N nk.v nk.d nk.c) hI.pe hA.pe zt0 ha) λD Z H ⟨S,G,r,q⟩=>by
  unfold zM at q;split at q
  .rename_i ks xs ek
   obtain⟨ho,hk,q⟩:=q;obtain⟨a,vs,h1,h2,h3,h4,h5,h6,h7⟩:=r.slot i _ ek;refine⟨.ref a,h1,S,G,r,hI.mono S _ _ (λk y w H1 G1 t1 e1=>?_) q⟩;split at y
   .rename_i z
    have ew:w=V.str z:=e1;subst ew;split at y
    .rename_i n en
     obtain⟨v,f1,f2⟩:=Iw h6 en;have ev:v=V.int n:=f2;subst ev;have g0:=iZ.k (k:=Sum.inr z) (t1.fr a _ h5 h2);rw[Eu,f1]at g0;refine⟨a,_,rfl,g0,S,G1,r.step t1,hA.mono S _ _ (λd z2 u H2 G2 t2 e2=>?_) y⟩;cases d with
     |int b=>
      have eu:u=V.int b:=e2;subst eu;have len:(dB ks vs).length<sizeLine:=by
       unfold dB;rw[bW,xF,<-h7,xX,mG];omega
      refine⟨n,b,rfl,rfl,_,nM.k (k:=.inr z) (t2.fr a _ h5 (t1.fr a _ h5 h2)) len,?_⟩;rw[zix h7];exact z2 Z _ G2 (((r.step t1).step t2).writeD ek h1 (zfm (d:=.int (n+b)) rfl (h6.mono (t1.gg.trans t2.gg))) (ziN h7) ho) (t1.gg.trans t2.gg)
     |_=>exact z2.elim
    .exact y.elim
   .exact y.elim
  .exact q.elim
def mH(i:Nat)(B:WE):WE:=λS Q=>match S[i]? with
 |some (.dic ks xs)=>B S λy=>(match y with|.str z=>nJ (dY ks xs z) Q|_=>False)
 |_=>False
def pY(i:Nat)(hB:DE X c e B)(hs:t6 e:=by intro _ _;rfl)(nk:Nk X i x:=by decreasing_trivial)(hu:X.A.units+1<cLine:=by decreasing_trivial):DE X c (.Subscript (.Name x p) e pos) (mH i B)where
 mono:=λS Q Q' k q=>by
  unfold mH at q ⊢;split at q
  .exact hB.mono S _ _ (λy z=>by
    cases y<;>first|exact zgu k z|exact z) q
  .exact q.elim
 pe:=dM (znR hu (lU nk.N nk.v nk.d nk.c) hB.pe hs) λZ H Q ⟨S,G,r,q⟩=>by
  unfold mH at q;split at q
  .rename_i ks xs ek
   obtain⟨a,vs,h1,h2,h3,h4,h5,h6,h7⟩:=r.slot i _ ek;refine⟨.ref a,h1,S,G,r,hB.mono S _ _ (λy z w H1 G1 t1 e1=>?_) q⟩;cases y with
   |str z0=>
    have ew:w=V.str z0:=e1;subst ew;have z:nJ (dY ks xs z0) _:=z;cases e0:dY ks xs z0 with
    |none=>rw[e0]at z;exact z.elim
    |some d=>
     rw[e0]at z;obtain⟨v,f1,f2⟩:=Iw h6 e0;have g0:=iZ.k (k:=Sum.inr z0) (t1.fr a _ h5 h2);rw[Eu,f1]at g0;exact⟨a,v,rfl,g0,z v H1 G1 t1 (f2.mono t1.gg)⟩
   |_=>exact z.elim
  .exact q.elim
end
def del(G:Hp)(a:Addr):Hp:=λb=>if b=a then none else G b
def zlj(h:b≠a):del G a b=G b:=by unfold del;rw[if_neg h]
def zlt:del G a a=none:=by unfold del;rw[if_pos rfl]
def aX.lend(s:aX β H (upd G a o) H2 G3)(ga:G a=none)(bx:d7 β H G):aX β H G H2 (del G3 a):=by
 have na:∀b u,G b=some u->b≠a:=λb u e z=>by rw[z,ga]at e;cases e
 refine⟨λb u e=>?_,λb u e=>?_,s.fr,λb e=>?_,⟨?_,?_⟩,s.b0,s.bc⟩
 .rw[zlj (na b u e)];exact s.gg b u (by rw[au (na b u e)];exact e)
 .by_cases z:b=a
  .rw[z,zlt]at e;cases e
  .rw[zlj z]at e;exact s.gh b u e
 .have z:b≠a:=λz=>e (by rw[z,zlt]);rw[zlj z]at e;rcases s.nw b e with y|y
  .rw[au z]at y;exact .inl y
  .exact .inr y
 .obtain⟨cc,p,r,d,ns,h,p1,p2,p3,p4,hc,q⟩:=s.bx.ex;obtain⟨c0,p',r',d',ns',h',_,_,_,_,hc',_⟩:=bx.ex;obtain⟨x1,x2,x3,h2⟩:=s.bc c0 p' r' d' h';rw[h]at h2;have e:cc=c0:=by unfold sG at h2;injection h2 with h2;injection h2 with h2;injection h2 with h2;injection h2
  subst e;exact⟨cc,p,r,d,ns,h,p1,p2,p3,p4,by rw[zlj (na cc _ hc')];exact hc,q⟩
 .unfold del;split
  .rfl
  .exact s.bx.still
def zs6:D->Prop
 |.non=>True
 |.bl _=>True
 |.int _=>True
 |.str _=>True
 |_=>False
def zpg(f:zs6 d)(h:Rep c' G' d v):Rep c G d v:=by
 cases d<;>first|exact h|exact f.elim
section
variable{X:Cx}{c:Bk}{e ie ve:Expr}{es:List Expr}{rest:List Stmt}{pos p p1 p2 p3 cp tp pos2:Pos}
def vD(i n:Nat)(F:Fn)(R:WL):WE:=λS Q=>match S[i]? with
 |some (.dic ks xs)=>R S λds=>ds.length+1=n/\up F (.dct true ks xs::ds) λd=>zs6 d/\Q d
 |_=>False
def zoX(i:Nat)(C:fG X.prog X.w X.K X.mg X.base f k ps (dh X.K n F))(hR:DA X c (e::es) R)(nk:Nk X i x:=by decreasing_trivial)(hg:Gl X f:=by rfl)
  (hdb:(f==("__debug__":Str))=false:=by decide) (he:starEach (.Name x p2::e::es) X.env=(false,eval (.Name x p2) X.env)::starEach (e::es) X.env:=by rfl) (hpl:(backTo pos (starEach (e::es) X.env)).any (·.1)=false:=by rfl) (hK:c.K=X.K:=by rfl) (hr:bD k X.A:=by decreasing_trivial) :
  DE X c (.Call (.Name f p) (.Name x p2::e::es) [] pos) (vD i n F R)where
 mono:=λS Q Q' k q=>by
  unfold vD at q ⊢;split at q
  .exact hR.mono S _ _ (λds z=>⟨z.1,rM F _ _ _ (λd w=>⟨w.1,k d w.2⟩) z.2⟩) q
  .exact q.elim
 pe:=by
  obtain⟨fa,fd,FO,hm,hk,hb⟩:=C.ex;refine dM (yG FO hr hg hm hk hb .nil Ah (iM (lU nk.N nk.v nk.d nk.c) hR.pa he) hdb he hpl) λZ H Q ⟨S,G,r,q⟩=>?_;unfold vD at q;split at q
  .rename_i ks xs ek
   obtain⟨a,vs,h1,h2,h3,h4,h5,h6,h7⟩:=r.slot i _ ek;refine⟨.ref a,h1,S,G,r,hR.mono S _ _ (λds z us H' G' t ea=>?_) q⟩;show dh X.K n F (.ref a::us++[]) H' Q E0;rw[rQ];have r1:=r.step t;obtain⟨a',vs',g1,g2,g3,g4,g5,g6,g7⟩:=r1.slot i _ ek;rw[h1]at g1;cases g1;have sg:Same G' (upd G' a (.dK (dB ks vs'))):=pB g3;have bx':d7 c.β H' (upd G' a (.dK (dB ks vs'))):=by
    obtain⟨cc,p,r,d,ns,h,p1,p2,p3,p4,hc,q⟩:=t.bx.ex;exact⟨⟨cc,p,r,d,ns,h,p1,p2,p3,p4,sg _ _ hc,q⟩,by rw[au (YAM g5)];exact t.bx.still⟩
   refine⟨c.β,upd G' a (.dK (dB ks vs')),.dct true ks xs::ds,λb u e=>?_,bx',⟨.ref a,us,rfl,⟨a,vs',rfl,cH,λ_=>rfl,g7,?_⟩,?_⟩,by rw[lF,<-ea.length];exact z.1,rM F _ _ _ (λd w v H2 G2 t2 e2=>?_) z.2⟩
   .by_cases y:b=a
    .subst y;rw[cH]at e;cases e;exact g2
    .rw[au y]at e;exact t.gh b u e
   .exact(aG.back (c':=c) (c:=⟨X.K,c.β,λ_=>none,upd G' a (.dK (dB ks vs')),True⟩) hK rfl (λ_ _=>rfl) g6).mono sg
   .exact(aG.back (c':=c) (c:=⟨X.K,c.β,λ_=>none,upd G' a (.dK (dB ks vs')),True⟩) hK rfl (λ_ _=>rfl) ea).mono sg
   .exact w.2 v H2 _ (t.trans (t2.lend g3 t.bx)) (zpg w.1 e2)
  .exact q.elim
def xu(i:Nat):WS:=λE S=>match S[i]? with
 |some (.dic ks xs)=>E.rt (.dct true ks xs)
 |_=>False
def zve(i:Nat)(nk:Nk X i x:=by decreasing_trivial):DS X c (.Return (some (.Name x p)) pos) (xu i)where
 mono:=λE E' S l q=>by
  unfold xu at q ⊢;split at q
  .exact l.rt _ q
  .exact q.elim
 ps:=kY (zE (lU nk.N nk.v nk.d nk.c)) λD Z H ⟨S,G,r,q⟩=>by
  unfold xu at q;split at q
  .rename_i ks xs ek
   obtain⟨a,vs,h1,h2,h3,h4,h5,h6,h7⟩:=r.slot i _ ek;refine⟨.ref a,h1,q (.ref a) H (upd G a (.dK (dB ks vs))) (r.stp.still h2 h4 h5 h3) ⟨a,vs,rfl,cH,λ_=>h4,h7,h6.mono (pB h3)⟩⟩
  .exact q.elim
abbrev wV(i:Nat)(A V I:WE)(B:WS):WS:=λE S=>i<S.length/\A S λd=>rE d λks xs=>ks.length<1000/\V (S.set i .un) λv=>I (S.set i .un) λk=>(match k with|.str z=>B E (S.set i (.val (.fdc (bH ks z) (aW ks xs z v))))|_=>False)
def zws(i:Nat){x:Str}{A V I:WE}{B:WS}(hA:DE X c e A)(hV:DE X c ve V)(hI:DE X c ie I)(hB:rG X c rest B)(hi:X.N[i]?=some x:=by rfl)(hx:Loc X.env.scope x:=by first|exact Or.inl rfl|exact Or.inr rfl)(hv:Cu X.env.scope x:=by first|exact Or.inl rfl|exact Or.inr (Or.inl rfl)|exact Or.inr (Or.inr rfl))
  (hd:(x==("__debug__":Str))=false:=by decide) (hcd:(x==("__classdict__":Str))=false:=by decide) (hg:Gl X "dict":=by rfl) (he:starEach [e] X.env=(false,eval e X.env)::starEach [] X.env:=by rfl)
  (hs:swapsWith (.Call (.Name "dict" p2) [e] [] cp) (some (.Name x p)) pos.line X.env=pure false:=by rfl) (hs2:swapsWith ve (some (.Subscript (.Name x p3) ie tp)) pos2.line X.env=pure false:=by rfl) (hf:X.fn x=true\/X.env.scope.names.lookup x=some .local:=by first|exact .inl rfl|exact .inr rfl|assumption) (hm:X.mg "dict"=none:=by decreasing_trivial) (hu:X.A.units+1<cLine:=by decreasing_trivial) (hN:X.N.Nodup:=by decreasing_trivial) :
  rG X c (.Assign [.Name x p] (.Call (.Name "dict" p2) [e] [] cp) pos::.Assign [.Subscript (.Name x p3) ie tp] ve pos2::rest) (wV i A V I B)where
 mono:=λE E' S l q=>⟨q.1,hA.mono S _ _ (λd z=>J8 (λa b y=>⟨y.1,hV.mono _ _ _ (λv w=>hI.mono _ _ _ (λk u=>by
  cases k<;>first|exact hB.mono _ _ _ l u|exact u) w) y.2⟩) z) q.2⟩
 pss:=Er (nQ (uA hN hi hx (yH zeb hg hm YCe (iM hA.pe km he) (by decide) (by decide) he rfl) hs hf) (nQ (zuo (zki hu (lU hi hv hd hcd) hI.pe hV.pe hs2)) hB.pss)) λD Z H ⟨S,G,r,q⟩=>⟨S,G,r,hA.mono S _ _ (λd z v H' G' t e=>by
  have hil:i<Z.length:=by rw[<-r.len];exact q.1
  unfold rE at z;split at z
  .rename_i pr ed
   obtain⟨a,vs,h1,h2,h3,h4⟩:=Ik e ed;subst h1;refine⟨a,_,rfl,Jl t.gh h2,λl hl=>?_⟩;have r1:=r.step t;have t1:aX c.β H' G' (upd H' l (.dK (dB pr.1 vs))) G':=aX.own r1.gh r1.bx hl;have r2:Rel c (S.set i .un) (Z.set i (some (.ref l))) (upd H' l (.dK (dB pr.1 vs))) G':=(r1.step t1).unput;have lb:l≠c.β:=r1.neβ hl;refine⟨_,_,r2,hV.mono _ _ _ (λdv y w H2 G2 t2 e2=>?_) z.2⟩;have r3:=r2.step t2;have at_:(Z.set i (some (L2.V.ref l)))[i]?=some (some (.ref l)):=jK hil;refine⟨.ref l,at_,_,_,r3,hI.mono _ _ _ (λk u wk H3 G3 t3 e3=>?_) y⟩;cases k with
   |str zz=>
    have ek:wk=L2.V.str zz:=e3;subst ek;have hl3:H3 l=some (.dK (dB pr.1 vs)):=t3.fr l _ lb (t2.fr l _ lb cH);have len:(dB pr.1 vs).length<sizeLine:=by
     unfold dB;rw[bW,xF,<-h3,xX,mG];have:=z.1;omega
    refine⟨l,_,rfl,nM.k (k:=.inr zz) hl3 len,l,_,cH,λo=>?_⟩;rw[zkk,zix h3];have g3:G3 l=none:=by
     have nn:∀{Ga Gb Ha Hb:Hp}{o:HO},aX c.β Ha Ga Hb Gb->Ga l=none->Ha l=some o->¬ wJ o->Gb l=none:=λ{Ga Gb Ha Hb o} tt g h ns=>by
      cases zz:Gb l with
      |none=>rfl
      |some u=>
       rcases tt.nw l (by rw[zz];simp)with y|y|⟨u',y,su⟩
       .exact absurd g y
       .rw[h]at y;cases y
       .rw[h]at y;cases y;exact absurd su ns
     exact nn t3 (nn t2 (lQ r1.gh hl) cH (λz=>z)) (t2.fr l _ lb cH) (λz=>z)
    have tt:aX c.β H' G' H3 G3:=(t1.trans t2).trans t3;have tw:aX c.β H' G' (upd H3 l (.iV o (.dK (dB (bH pr.1 zz) (aW pr.1 vs zz w))))) (upd G3 l (.iV o (.dK (dB (bH pr.1 zz) (aW pr.1 vs zz w))))):=tt.wrS hl lb g3;have rp:Rep c (upd G3 l (.iV o (.dK (dB (bH pr.1 zz) (aW pr.1 vs zz w))))) (.fdc (bH pr.1 zz) (aW pr.1 pr.2 zz dv)) (.ref l):=⟨l,_,o,rfl,cH,ziN h3,(zfm (e2.mono t3.gg) (h4.mono tt.gg)).mono (pB g3)⟩;exact⟨_,_,(r1.step tw).put rp,hB.mono _ _ _ (Jz (t.gg.trans tw.gg)) u⟩
   |_=>exact u.elim
  .exact z.elim) q.2⟩
abbrev zvq:WE:=λ_ Q=>Q (.fdc [] [])
def zsJ:DE X c (.Dict [] [] pos) zvq where
 mono:=λS Q Q' k q=>k _ q
 pe:=dM (zuS zqe) λZ H Q ⟨S,G,r,q⟩=>λl hl=>⟨l,[],rfl,cH,λo=>by
  rw[zkk];exact q (.ref l) _ _ (aX.new r.gh r.bx hl) ⟨l,[],o,rfl,cH,rfl,rfl⟩⟩
abbrev J6(A:WE):WL:=λS Q=>A S λd=>rE d λks xs=>ks.length<=1000/\Q (ks.map D.str)
theorem zod:∀{ks:List Str}{vs:List V},ks.length=vs.length->(dB ks vs).map (λp=>kV p.1)=ks.map V.str
 |[],[],_=>rfl
 |k::ks,v::vs,h=>by
  show kV (Sum.inr k)::(dB ks vs).map (λp=>kV p.1)=_;rw[zod (by simpa using h)];rfl
def znd(hA:DE X c e A)(hg:Gl X "list":=by rfl)(he:starEach [e] X.env=(false,eval e X.env)::starEach [] X.env:=by rfl)(hc:X.calm=true:=by rfl)(hm:X.mg "list"=none:=by decreasing_trivial):DF X c (.Call (.Name "list" lp) [e] [] pos) (J6 A)where
 mono:=λS Q Q' k q=>hA.mono S _ _ (λd z=>J8 (λa b y=>⟨y.1,k _ y.2⟩) z) q
 pe:=dM (yH (zi3 hc) hg hm Gz (iM hA.pe km he) (by decide) (by decide) he rfl) λZ H Q ⟨S,G,r,q⟩=>⟨S,G,r,hA.mono S _ _ (λd z v H' G' t e=>by
  unfold rE at z;split at z
  .rename_i pr ed
   obtain⟨a,vs,h1,h2,h3,h4⟩:=Ik e ed;subst h1;refine⟨a,_,rfl,Jl t.gh h2,by unfold dB;rw[bW,xF,<-h3,xX];exact z.1,λl hl=>?_⟩;rw[zod h3];exact z.2 l _ _ _ (t.trans (aX.own t.gh t.bx hl)) cH (lQ t.gh hl) (t.free hl) (fZ.mpr rfl)
  .exact z.elim) q⟩
abbrev zsZ(A:WE):WL:=λS Q=>A S λd=>(match d with|.fdc ks _=>Q (ks.map D.str)|_=>False)
def zsU(ha:G a=some (.iV o (.dK (dB ks vs))))(hl:ks.length=vs.length):qC c (Itk a o (dB ks vs)) (ks.map D.str) G:=by
 intro i H2 G2 s1 s2 bx h0;have hh:H2 a=some (.iV o (.dK (dB ks vs))):=s2 _ _ (s1 _ _ ha);have hz:(dB ks vs).length=ks.length:=by unfold dB;rw[bW,xF,<-hl,xX]
 refine⟨λe=>⟨by rw[e,hz,bW],hh⟩,λd e=>?_⟩;have hi:i<ks.length:=by have:=(jB.mp e).1;simpa using this
 refine⟨⟨by rw[hz];exact hi,hh⟩,λx H3 y=>?_⟩;obtain⟨rfl,p,hp,rfl⟩:=y;have e1:((dB ks vs).map (λp=>kV p.1))[i]?=some (kV p.1):=by rw[jG,hp];rfl
 rw[zod hl,jG]at e1;rw[jG]at e;cases hk:ks[i]? with
 |none=>rw[hk]at e;cases e
 |some k=>
  rw[hk]at e e1;cases e;exact⟨G2,aX.refl s2 bx,(Option.some.inj e1).symm⟩
def zuK(hA:DE X c e A):DI X c tg e (zsZ A)where
 mono:=λS Q Q' k q=>hA.mono S _ _ (λd z=>by
  cases d<;>first|exact k _ z|exact z) q
 pi:=zlk (zsy hA.pe) λZ H R ⟨S,G,r,q⟩=>⟨S,G,r,hA.mono S _ _ (λd z v H' G' t e=>by
  cases d with
  |fdc ks xs=>
   obtain⟨a,vs,o,h1,h2,h4,h5⟩:=e;exact⟨a,o,_,h1,t.gh _ _ h2,z _ H' G' t (zsU h2 h4)⟩
  |_=>exact z.elim) q⟩
end
def Fg:iY (iY qj p o) p u=iY qj p u:=by
 funext a
 by_cases e:a=p
 .subst e;rw[qW,qW]
 .rw[rR e,rR e,rR e]
section
variable{X:Cx}{c:Bk}{o e:Expr}{A B:WE}{apos cpos:Pos}
def Ad(x:D)(Q:List D->Prop):Prop:=match x with|.lst _ xs=>Q xs|_=>False
def zwn(k:∀xs,Q xs->Q' xs)(q:Ad x Q):Ad x Q':=by
 cases x<;>first|exact k _ q|exact q
end
structure Bd(mg:Str->Option Value):Prop where
 dict:mg "dict"=none
 abs:mg "abs"=none
def xQ(n:Nat)(B:WF):Prop:=B {nx:=λ_ _=>False,rt:=λ_ d=>d=.bl true,bk:=λ_ _=>False,ct:=λ_ _=>False} (λ_=>none) (.un::.val .box::List.replicate n .un)
def qz:FL
 |[.int i],Q=>Q (.int (if i<0 then -i else i))
 |_,_=>False
def zvX:uv qz:=λds Q Q' k q=>by
 unfold qz at q ⊢;split at q<;>first|exact k _ q|exact q.elim
section
variable{X:Cx}{c:Bk}{b:Bo}{st:Stmt}{e a:Expr}{es:List Expr}{sts x y:List Stmt}{pos p npos bpos:Pos}
def zpP:cU X (.builtin "abs") (λxs H Q=>∃i,xs=[.int i]/\Q (.int (if i<0 then -i else i)) H):=by
 intro aa s Z H xs us Q I r h;obtain⟨i,rfl,q⟩:=h;obtain⟨u,rfl,t,rfl⟩:=qK r;exact PyProof.Rows.call_abs_int λu tk=>⟨.int _,H,I.tok _,⟨_,rfl⟩,q⟩
def zuy:vf c qz (λxs H Q=>∃i,xs=[.int i]/\Q (.int (if i<0 then -i else i)) H):=by
 intro H G ds vs Q gh bx h0 rv q;unfold qz at q;split at q
 .obtain⟨v,rfl,h⟩:=vI rv;cases h;exact⟨_,rfl,q _ H G (aX.refl gh bx) rfl⟩
 .exact q.elim
def zwc(hR:DA X c [e] R)(hg:Gl X "abs":=by rfl)(he:starEach [e] X.env=(false,eval e X.env)::starEach [] X.env:=by rfl)(hm:X.mg "abs"=none:=by decreasing_trivial):DE X c (.Call (.Name "abs" p) [e] [] pos) (cbW qz R):=
 zhX zvX zpP zuy hm PyProof.Rows.boot_abs hR hg (by decide) (by decide) he rfl
def zoY{x:Str}{k:Nat}{ps:List Str}{F:Fn}(C:fG X.prog X.w X.K X.mg X.base x k ps (dh X.K 0 F))(hg:Gl X x:=by rfl)(hdb:(x==("__debug__":Str))=false:=by decide)(hK:c.K=X.K:=by rfl)(hr:bD k X.A:=by decreasing_trivial):DE X c (.Call (.Name x p) [] [] pos) (aZ 0 F ao)where
 mono:=λS Q Q' k q=>⟨q.1,rM F _ _ _ k q.2⟩
 pe:=by
  obtain⟨f,fd,FO,hm,hk,hb⟩:=C.ex;refine dM (zpf FO hr hg hm hk hb .nil Ah hdb) λZ H Q ⟨S,G,r,q⟩=>?_;show dh X.K 0 F ([]++[]) H Q E0;exact⟨c.β,G,[],r.gh,r.bx,rfl,rfl,rM F _ _ _ (λd z v H2 G2 t2 e2=>z v H2 G2 t2 (Rep.back (c':=⟨X.K,c.β,H,G,True⟩) (c:=c) hK.symm rfl (λa h=>r.new0 h) e2)) q.2⟩
abbrev eZ(A:bN->WE):WOE:=λS qj Q=>A qj S λd=>Q d qj
def eF(h:∀qj M G1,DE X (dz b qj M G1) e (A qj)):OE X b e (eZ A):=zkh h
theorem DA.nox(h:DA X.nox c es W):DA X c es W:=⟨h.mono,PA.nox h.pa⟩
theorem lJ.nox(h:lJ X.nox sts t):lJ X sts t:=λaa s Z H D I hw=>YAT (h aa s Z H D (I.wish _) hw) (λf s1 z=>by
 cases f with
 |next=>obtain⟨Z1,H1,I1,z⟩:=z;exact⟨Z1,H1,I1.unwish,z⟩
 |brk=>obtain⟨Z1,H1,I1,z⟩:=z;exact⟨Z1,H1,I1.unwish,z⟩
 |cont=>obtain⟨Z1,H1,I1,z⟩:=z;exact⟨Z1,H1,I1.unwish,z⟩
 |ret u=>obtain⟨v,Z1,H1,I1,rv,z⟩:=z;exact⟨v,Z1,H1,I1.unwish,rv,z⟩) λ_ _ z=>z.elim
theorem pq.nox(h:pq X.nox b sts W):pq X b sts W:=⟨h.mono,lJ.nox h.pss⟩
abbrev J2(i:Nat)(A:WF):WF:=λE qj S=>A E qj (iV i S)
def zuk(i:Nat)(h:OS X b st A):OS X b st (J2 i A)where
 mono:=λE E' qj S l q=>h.mono E E' qj _ l q
 ps:=kY h.ps λD Z H ⟨S,G,qj,M,⟨G1,o,r⟩,q⟩=>by
  obtain⟨G',s',r'⟩:=zm7 r i;exact⟨iV i S,G',qj,M,⟨G1,o,r'⟩,h.mono _ _ qj _ (DR s' (Dm.refl M)) q⟩
end
def ztu(r:bD k A):A.units+1<cLine:=by have:=bD.units r;omega
def yZ:nH (dj X.prog X.w) X (XO b X.mg λ_ _=>False):=by
 rintro aa Z H s _ s' I ⟨ea,C,H',rfl,N,nm,C',qh,M',S,Z',G',ec,y,r⟩;exact y.elim
section
variable{P:Program}{w:World}{K:qo}{mg:Str->Option Value}{base:Heap}{N:List Str}{qual:Str}{scope:Scope}{f:Addr}{cd:Value}{A:Around}{outer:List PySem.Env}{s0:Shared}{H0 H G M:Hp}{E:XK}{β:Addr}
def uO(hY:∀nm C H' G',Y nm->mg nm=some (.ref C)->aX β H G H' G'->E (.ref C) none H'):nH (dj P w) (di (dj P w) P w K mg base N qual scope f cd A outer s0 H0 E) (XD ⟨K,β,H,G,True⟩ mg Y):=
 zuz λC H' ⟨nm,C',G',ec,y,hm,t⟩=>by cases ec;exact hY nm C H' G' y hm t
def zvI(hY:∀nm C H' G' qj M' G1,Y nm qj->mg nm=some (.ref C)->(∃ad,Kn K β G1 qj M' ad)->Out ⟨K,β,mi H M,G,M⟩ M' G1->aX β (ov (mi H M) M') G1 H' G'->E (.ref C) none H'):nH (dj P w) (di (dj P w) P w K mg base N qual scope f cd A outer s0 H0 E) (XO ⟨K,β,mi H M,G,M⟩ mg Y):=
 zuz λC H' ⟨nm,C',qh,M',S,Z,G',ec,y,hm,G1,o,r⟩=>by cases ec;exact hY nm C H' G' qh M' G1 y hm r.kn o r.stp
end
structure gU(P:Program)(w:World)(K:qo)(mg:Str->Option Value)(base:Heap)(lv n:Nat)(T:List (Addr×jU)):Prop where
 ex:∀q∈T,∃fd k ps,aM P w K mg base (dj P w) k q.1 fd ps (dC K mg n q.2)/\k<=lv/\PySem.W.keepIn K (.ref q.1)=true/\Binds K fd ps []
def gU.at(h:gU X.prog X.w X.K X.mg X.base lv n T)(hr:bD lv X.A):Tab X n T:=
 ⟨λq hq=>by
  obtain⟨fd,k,ps,h1,h2,h3,h4⟩:=h.ex q hq;exact⟨fd,k,ps,h1,hr.mono h2,h3,h4⟩⟩
def gU.nil:gU P w K mg base lv n []:=⟨λq h=>by cases h⟩
def gU.cons{P:Program}{w:World}{K:qo}{mg:Str->Option Value}{base:Heap}{lv n k:Nat}{T:List (Addr×jU)}{f:Addr}{fd:FuncData}{ps:List Str}{F:jU}{x qual:Str}{st:Stmt}(Fu:bZ K x qual st f fd)(h:aM P w K mg base (dj P w) k f fd ps (dC K mg n F))(hb:Binds K fd ps [])(r:gU P w K mg base lv n T)(hk:k<=lv:=by decide):gU P w K mg base lv n ((f,F)::T):=
 ⟨λq hq=>by
  rcases ir.mp hq with rfl|hq
  .exact⟨fd,k,ps,h,hk,Fu.kp,hb⟩
  .exact r.ex q hq⟩
def xx:Hz K (x,t,.ref f) (x,.obj f):=⟨rfl,.ref f,rfl,λc G hK=>rfl⟩
def zwq(K:qo):V->List V->Hp->VK->Prop:=λx vs H Q=>∃(c:Bk)(G:Hp)(n:Bool)(ds:List D)(d:D)(v:V)(j:Nat)(e:D),c.K=K/\Same G H/\Rep c G (.lst n ds) x/\vs=[v]/\Rep c G d v/\pZ d ds/\ds.length<=100000/\ds[j]?=some e/\eqB e d=true/\(∀m,m<j->∀y,ds[m]?=some y->eqB y d=false)/\Q (.int j) H
def zr2(hu:X.A.units+64<cLine):Jt X "list.index" (zwq X.K):=by
 intro aa s Z H x vs v us Q I rx rv ⟨c,G,n,ds,d,v1,j,e,hK,gh,hx,e1,hv,⟨lx,ly,ld⟩,hl,hj,he,hno,q⟩;subst e1;obtain⟨u,rfl,ru⟩:=rv.one;obtain⟨as,qa⟩:=hv.reads hK I gh d ru lx;obtain⟨bs,qb⟩:=hx.reads hK I gh (.lst n ds) rx (by unfold dR;exact ly);unfold toPy at qb;have hxs:=zu ds ly;have hd:=wy d lx;obtain⟨ra,_,er,_⟩:=id hx;subst er;obtain rfl:v=Value.ref ra:=rx;cases qb with
 |@list _ o items n2 _ as2 h1 h2 h3 h4=>
  have ho:s.heap.get? ra=some {cls:=.type "list",dict:=o.dict,data:=.seq items n2,slots:=o.slots}:=by rw[h1,<-h2,<-h3]
  have mp:=SeqAt.readsAll_map _ _ _ hxs h4;have hsz:items.size=ds.length:=by
   have:=congrArg List.length mp
   rw[zgv,bW,bW,Ay]at this;exact this
  have at_:∀(m:Nat)(hm:m<items.size)(y:D),ds[m]?=some y->SeqAt.readOf s.heap items[m]=toPy y:=λm hm y hy=>by
   have:=congrArg (λl=>l[m]?) mp
   simp only[zgv,jG,hy,YCo,HR hm,YC8,YCT]at this;exact this
  have hjl:j<ds.length:=(jB.mp hj).1;refine Bs F.slot_list_index ⟨_,ho,rfl⟩ F.entry_list_index (F.args_list_index_2 _ _) (SeqAt.list_indexAt ra items n2 o.dict o.slots u (λy=>PyData.eqv (SeqAt.readOf s.heap y) (toPy d)) j (by omega) (by omega) ?_ ?_) ⟨ho,?_,⟨.int j,H,I.tok _,⟨_,rfl⟩,q⟩⟩
  .show PyData.eqv (SeqAt.readOf s.heap items[j]) (toPy d)=true;rw[at_ j (by omega) e hj];exact he
  .intro m hm hmj;show PyData.eqv (SeqAt.readOf s.heap items[m]) (toPy d)=false;rw[at_ m hm _ (jr (by omega))];exact hno m hmj _ (jr (by omega))
  .exact SeqAt.items_eqAt h4 qa hxs hd (by omega)
def ztY(xs:List D)(y:D)(Q:D->Prop):Prop:=pZ y xs/\xs.length<=100000/\∃(j:Nat)(e:D),xs[j]?=some e/\eqB e y=true/\(∀m,m<j->∀z,xs[m]?=some z->eqB z y=false)/\Q (.int j)
abbrev zsq(A B:WE):WE:=λS Q=>A S λx=>Ad x λxs=>B S λy=>ztY xs y Q
def zuP(hA:DE X c o A)(hB:DE X c e B)(hbase:attributeBase o "index" X.env (eval o X.env)=eval o X.env:=by rfl)
  (hfew:((backTo cpos (starEach [e] X.env)).all (λx=>!x.1)&&(backToKw cpos (keywordEach [] X.env)).all (λx=>x.1.isSome)
   && decide (([e]:List Expr).length+([]:List Keyword).length+(if ([]:List Keyword).isEmpty then 0 else 1)<30))=true:=by rfl)
  (hline:(apos.endLine==cpos.line)=true:=by rfl) (hs:starEach [e] X.env=(false,eval e X.env)::starEach [] X.env:=by rfl) (hplain:(backTo cpos (starEach [] X.env)).any (·.1)=false:=by rfl) (hK:c.K=X.K:=by rfl) (hu:X.A.units+64<cLine:=by decreasing_trivial) :
  DE X c (.Call (.Attribute o "index" apos) [e] [] cpos) (zsq A B)where
 mono:=λS Q Q' k q=>hA.mono S _ _ (λx z=>zwn (λt y=>hB.mono S _ _ (λy ⟨h1,h2,j,e,h3,h4,h5,h6⟩=>⟨h1,h2,j,e,h3,h4,h5,k _ h6⟩) y) z) q
 pe:=dM (zpQ YB9 PySem.F.slot_list_index PySem.F.type_list_index (zr2 hu) hA.pe (iM hB.pe km hs) hbase hfew hline hs hplain) λZ H Q ⟨S,G,R,q⟩=>⟨S,G,R,hA.mono S _ _ (λx z v H1 G1 t1 e1=>by
  cases x with
  |lst n xs=>
   obtain⟨a,vs,ea,ha,hn,rv⟩:=id e1;subst ea;refine⟨.inl ⟨rfl,vs,cA.of (t1.gh _ _ ha)⟩,S,G1,R.step t1,hB.mono S _ _ (λy ⟨h1,h2,j,e,h3,h4,h5,h6⟩ v H2 G2 t2 e2=>?_) z⟩;exact⟨c,G2,n,xs,y,v,j,e,hK,t2.gh,e1.mono t2.gg,rfl,e2,h1,h2,h3,h4,h5,h6 _ H2 G2 (t1.trans t2) rfl⟩
  |_=>exact z.elim) q⟩
end Fd
namespace L2
open PySem PySem.Spec PyProof.Rows PySem.W
def ziO:entryFor table "proto.unchain"=some Builtin.«proto.unchain»:=entryFor_of_fast (by kernel_rfl)
def jt(h:Heap)(ea:Addr):Prop:=∃oe vs,h.get? ea=some oe/\oe.data=.fields vs/\vs[2]?=some Value.none
section
variable{prog:Program}{w:World}{A:Around}{E:Value->Shared->Prop}{s:Shared}{ea a:Addr}
def zpD{α:Type}{Q:α->Shared->Prop}{o:Obj}{vs:Array Value}(hh:A.handled=some (.ref ea))(hc:jt s.heap ea)(ho:s.heap.get? a=some o)(hd:o.data=.fields vs)(hz:2<vs.size)(hne:ea≠a)
  (h:E (.ref a) {s with heap:=s.heap.update a (Obj.mapFields (·.setIfInBounds 2 (.ref ea)))}):wpAny (model prog w) A (raiseNew (.ref a):Sem α) Q E s:=by
 obtain⟨oe,us,g1,g2,g3⟩:=hc;unfold raiseNew;refine aJ (wpAny_handled ?_);rw[hh];dsimp only;rw[if_pos (show(Value.ref ea != Value.ref a)=true by simpa using hne)];refine aJ (YAW (wpAny_runValue (codeAny_builtin ziO ?_)));unfold Builtin.«proto.unchain»;dsimp only;refine aJ (YAF g1 g2 g3 ?_);rw[if_pos (by rfl)];refine aJ (bV (bV ?_));exact aJ (yw (x:=.ref ea) ho hd hz (wpAny_throw h))
theorem jt.push(x:jt h ea):jt (h.push o) ea:=let⟨oe,vs,g,r⟩:=x;⟨oe,vs,dO _ g,r⟩
def jt.lt(x:jt h ea):ea<h.objs.size:=let⟨_,_,g,_⟩:=x;dw g
def zke{it:Addr}{x left step:Int}{Q:Option Value->Shared->Prop}(hh:A.handled=some (.ref ea))(hc:jt s.heap ea)(hit:IsRangeIter s.heap it x left step)(hleft:left<=0)(hQ:∀h',Heap.ExtBut it s.heap h'->Q none {s with heap:=h'}):wpAny (model prog w) A (pyNext (.ref it)) Q E s:=by
 have hT:s.TypeIs (.ref it) "range_iterator":=⟨_,hit,rfl⟩;unfold pyNext;refine aJ (yW (YAH (name:=Str.ofString "__next__") hT F.slot_range_iterator_next (uL F.slot_range_iterator_next hT F.entry_range_iterator_next ?_ (F.args_range_iterator_next_1 _))));show wpAny _ _ (field (.ref it) 0 >>= _) _ _ s;refine aJ (YAF hit rfl (x:=rawInt x) rfl ?_);show wpAny _ _ (field (.ref it) 1 >>= _) _ _ s;refine aJ (YAF hit rfl (x:=rawInt left) rfl ?_);show wpAny _ _ (field (.ref it) 2 >>= _) _ _ s;refine aJ (YAF hit rfl (x:=rawInt step) rfl ?_);show wpAny _ _ (if left<=0 then _ else _) _ _ s;rw[if_pos hleft];refine aJ (yJ (aJ ?_));show wpAny _ _ (newExc (.type "StopIteration") [] >>= _) _ _ _;refine aJ ?_;unfold newExc newTuple;refine aJ (YAI ?_ (by size_fits));refine aJ (m:=firstArgMember _ _) (wpAny_of_eq (a:=Value.none) (by first|rfl|(simp only[firstArgMember];rfl)) ?_);refine YAI ?_ (by size_fits);have g:=jF (s.heap.push {cls:=.type "tuple",data:=.seq ([]:List Value).toArray}) (o:={cls:=.type "StopIteration",data:=.fields (#[.ref s.heap.objs.size,.none,.none,.none,.bool false,.none]++ownMembersOf (.type "StopIteration") [])}) rfl;refine zpD (ea:=ea) hh hc.push.push g rfl (by show 2<(#[Value.ref _,.none,.none,.none,.bool false,.none]++#[]).size;simp) (fK hc.push.lt) ?_;refine aJ (Ft (T:="StopIteration") (b:=true) ⟨_,YAR _ g rfl,YCi _ _⟩ YCL ?_);refine bV (hQ _ λb o n q=>?_);have l:=dw q;rw[YAJ _ _ (by show(s.heap.push _).objs.size≠b;rw[xJ];exact wu (YCj l))];exact dO _ (dO _ q)
end
structure ul(X:Cx)(ea:Addr):Prop where
 hd:X.A.handled=some (.ref ea)
 at_:jt X.s₀.heap ea
 un:X.H₀ ea=none
 fs:ea∉X.fs
 ex:ea∉X.ex
section
variable{X:Cx}{aa:List (Addr×Obj)}{Z:St}{H:Hp}{s:Shared}{ea:Addr}{tg iter elt a:Expr}{Nc:List Str}{scope:Scope}{sub:List (Option Nat)}
def ul.now(h:ul X ea)(I:Inv X aa Z H s):jt s.heap ea:=by
 obtain⟨oe,vs,g,r⟩:=h.at_;exact⟨oe,vs,I.base.keep ea oe g h.un h.fs h.ex,r⟩
def ul.turn{it:Addr}{lo:Int}{n:Nat}(h:ul X ea):zlw X tg (DG lo n) [it] it (λi h=>IsRangeIter h it (lo+(i:Nat)*1) ((n:Int)-(i:Nat)) 1):=by
 intro i s Z H I hf st;obtain⟨f0,f1,f2,f3,f4,f5⟩:=hf it (by simp);refine⟨λgo E=>?_,λstop E=>?_⟩
 .have go:i<n:=go;refine wpAny_pyNext_range_item st (by omega) λh' st' sb=>?_;have I1:Inv X [] Z H {s with heap:=h',toks:=s.toks+1}:=I.turned (λb o hb e=>(sb.2 b hb).trans e) f0 f1 f3 f4 f5;have st2:IsRangeIter h' it (lo+((i+1:Nat):Int)*1) ((n:Int)-((i+1:Nat):Int)) 1:=by
   have e1:lo+((i+1:Nat):Int)*1=lo+(i:Int)*1+1:=by omega
   have e2:(n:Int)-((i+1:Nat):Int)=(n:Int)-(i:Int)-1:=by omega
   rw[e1,e2];exact st'
  refine⟨_,rfl,Ei (s:={s with heap:=h',toks:=s.toks+1}) (n:="range_iterator") st2 rfl rfl (by decide) ⟨.int (lo+i),H,I1,⟨s.toks,?_⟩,⟨rfl,rfl⟩,st2,λb hb=>(hf b hb).1⟩⟩;rw[Int.mul_one]
 .have stop:n<=i:=stop;exact zke h.hd (h.now I) st (by omega) λh' eb=>⟨rfl,I.turned (t':=s.toks) (λb o hb e=>eb b o hb e) f0 f1 f3 f4 f5⟩
def ul.comp(h:ul X ea)(I:Inv X aa Z H s)(hk:∀b o,s.heap.get? b=some o->s0.heap.get? b=some o)(hl:s.heap.objs.size<=l)(hf:il X aa H it):ul (gQ X Nc scope cl s0.heap.objs.size s0 (upd H l o) [it]) ea:=by
 obtain⟨oe,vs,g,r⟩:=h.now I;have lt:ea<X.s₀.heap.objs.size:=h.at_.lt;refine⟨h.hd,⟨oe,vs,hk _ _ g,r⟩,?_,λz=>?_,λz=>?_⟩
 .show upd H l o ea=none;rw[au (fK (jN (dw g) hl))];obtain⟨oe',_,g',_⟩:=h.at_;exact I.base.free ea oe' g' h.un h.ex
 .rcases ir.mp (I.stkSub ea z)with e|e
  .exact absurd lt (by have:=I.ok.above;rw[e];exact Nat.not_lt.mpr this)
  .exact h.fs e
 .have e:ea=it:=lX.mp z;subst e;rcases hf.2.2.2.1 with z|z
  .exact h.ex z
  .exact absurd lt (Nat.not_lt.mpr z)
def ul.pit(h:ul X ea)(hg:Gl X "range")(hm:X.mg "range"=none)(ha:PA X [a] ta)(hs:starEach [a] X.env=[(false,eval a X.env)]:=by rfl):PIT X Nc scope tg (.Call (.Name "range" p) [a] [] pos) (ztH ta):=by
 intro aa s Z H R I q;refine Call_ (Eo I hg hm boot_range (YBt (bF (ha pos aa s Z H _ I q) λus s1 ⟨vs,H1,I1,r1,q1⟩=>?_) hs rfl));obtain⟨j,e,q1,q2,q⟩:=q1;subst e;cases r1 with
 |cons r rr=>
  cases rr;obtain⟨t,rfl⟩:=r;refine call_range_1 ?_;refine wpAny_pyIter_range (IsRange.new ..) (small_one (by decide) (by decide) q1 q2) ?_;generalize ho:({cls:=.type "range",data:=.fields #[.int 0 s1.toks,.int j t,.int 1 (s1.toks+1)]}:Obj)=ob;have I2:Inv X aa Z H1 {s1 with heap:=s1.heap.push ob,toks:=s1.toks+1+1}:=I1.kept λb o e=>dO _ e;generalize hs2:({s1 with heap:=s1.heap.push ob,toks:=s1.toks+1+1}:Shared)=s2 at I2 ⊢;generalize hit:({cls:=.type "range_iterator",data:=.fields #[rawInt 0,rawInt (Builtin.Range.rangeSize 0 j 1),rawInt 1]}:Obj)=io;have I3:Inv X aa Z H1 {s2 with heap:=s2.heap.push io}:=I2.kept (t':=s2.toks) λb o e=>dO _ e;have fp:=I2.fpOk (H':=H1) (dJ _) (I2.hok.fresh (dJ _));refine⟨s2.heap.objs.size,[s2.heap.objs.size],_,DG 0 j.toNat,H1,rfl,I3,zhG _ 0 j.toNat,?_,λb hb=>by rw[lX.mp hb];exact fp,q,λcl s0 hk=>(h.comp (aa:=aa) I3 hk (dJ _) fp).turn⟩;show IsRangeIter _ _ (0+((0:Nat):Int)*1) (((j.toNat:Nat):Int)-((0:Nat):Int)) 1;have e1:(0:Int)+((0:Nat):Int)*1=0:=by simp
  have e2:((j.toNat:Nat):Int)-((0:Nat):Int)=Builtin.Range.rangeSize 0 j 1:=by rw[rangeSize_one];split<;>omega
  rw[e1,e2];exact hit▸jF _ rfl
end
abbrev _root_.PySem.Around.calmed(A:Around):Around:={A with handled:=none}
abbrev uX(CX:mO)(P:Program)(w:World)(K:qo)(mg:Str->Option Value)(base:Heap)(N:List Str)(qual:Str)(scope:Scope)(f:Addr)(cd:Value)(A:Around)(outer:List Env)(s:Shared)(H:Hp)(E:XK)(ea:Addr)(oe:Obj):Cx:=
 {di CX P w K mg base N qual scope f cd A outer s H E with calm:=false,pn:=[(ea,oe)]}
section
variable{CX:mO}{P:Program}{w:World}{K:qo}{mg:Str->Option Value}{base:Heap}{N ps:List Str}{name qual:Str}{params:Arguments}{body:List Stmt}{scope:Scope}{f ea:Addr}{oe:Obj}{cd dV kV doc pm ct oc:Value}{an od:Option Addr}{osl:Array (Option Value)}{A:Around}{outer:List Env}{s s1:Shared}{H:Hp}{Q:VK}{E:XK}{us:List Value}{vs:List V}{fs:Array Value}{k:Nat}
def zun(hh:A.handled=some (.ref ea))(ho:s.heap.get? ea=some oe)(hd:oe.data=.fields fs)(h2:fs[2]?=some Value.none)(hH:H ea=none)(hf:ea∉frs outer):ul (uX CX P w K mg base N qual scope f cd A outer s H E ea oe) ea:=
 ⟨hh,⟨oe,fs,ho,hd,h2⟩,hH,hf,λz=>nomatch z⟩
def zuh(I:Inv (di CX P w K mg base N qual scope f cd A.calmed outer s H E) [] (nC N vs) H s1)(hk:∀b o,s.heap.get? b=some o->s1.heap.get? b=some o)(ho:s.heap.get? ea=some oe)(hd:oe.data=.fields fs)(hH:H ea=none)(hf:ea∉frs outer):Inv (uX CX P w K mg base N qual scope f cd A outer s H E ea oe) [] (nC N vs) H s1:=
 ⟨⟨I.ok.mod,I.ok.kind,I.ok.glob,I.ok.blt,I.ok.above,I.ok.inj,I.ok.has,I.ok.cab,(λz=>by cases z),I.ok.frames,I.ok.stk,I.ok.exf,I.ok.bs,I.ok.bsz,I.ok.noex,I.ok.exfs,I.ok.funs,I.ok.frf⟩,I.os,I.bare,I.base,I.loc,I.cell,I.free,I.freeC,λp hp=>by
  have e:p=(ea,oe):=lX.mp hp;subst e;exact⟨hk _ _ ho,hH,fK (dw ho),hf,λv z=>by rw[hd]at z;cases z⟩,I.hok,I.len⟩
def zvH(lk:K.lookup f=some ⟨oc,od,.func (PySem.W.fnOf name qual params body scope dV kV doc pm an cd ct),osl⟩)(hcd:PySem.W.codeIn K cd qual=true)(qj:cZ N ps scope)(hr:bD (k+1) A.calmed)
  (ho:s.heap.get? ea=some oe) (hd:oe.data=.fields fs) (hH:H ea=none) (hf:ea∉frs outer) (e0:nq P w K mg base A outer s H) (hb:BindsTo s (PySem.W.fnOf name qual params body scope dV kV doc pm an cd ct) args (ps.zip us)) (r:Vals vs us) (hl:vs.length=ps.length)
  (ht:lJ (uX CX P w K mg base N qual scope f cd A outer s H E ea oe) body t) (hq:t {nx:=λ_ H'=>Q .non H',rt:=Q} (nC N vs) H):codeAny (model P w) A (.call (.ref f) args) (CR CX outer P w H s Q E) s:=by
 have KX:K.In s.heap:=e0.mod.kin.keeps λb o e=>(e0.bs b o e).1;have lim:s.heap.NoLimit:=e0.mod.nolimit.keeps λb o e=>(e0.bs b o e).1;have hkind:∀y∈ps.zip us,scope.names.lookup y.1=some .local\/(scope.names.lookup y.1=some .cell/\((cellsFrom (s.heap.objs.size+1) scope.names []).lookup y.1).isSome=true):=λy hy=>
  (qj.par y.1 (YCC hy).1).elim .inl λq=>.inr ⟨q,YCa _ _ _ (.inl q)⟩
 refine codeAny_call_function (show A.depth<_ from hr.depth) (KX _ _ lk) rfl qj.co qj.gen rfl (PySem.W.codeRec_of KX hcd) (hb _ _ _ _ ?_);refine wpAny_newFunctionEnv_cells qj.kind hkind λenv he s1 x=>?_;subst he;refine⟨lim.keeps x.toInCall.keep,codeAny_func ?_⟩;have I0:Inv (di CX P w K mg base N qual scope f cd A.calmed outer s H E) [] (nC N vs) H s1:=zjd qj rfl ⟨e0.frames,e0.mod,e0.bs,e0.bsz,e0.funs,e0.frf,e0.hok,e0.bare⟩ hl r x;have I:=zuh (A:=A) I0 x.toInCall.keep ho hd hH hf;refine YAT (ht [] s1 (nC N vs) H _ I hq) (λfl s' hs=>?_) λe s' hs=>hs;cases fl with
 |ret u=>obtain⟨v,Z',H',J,rv,q⟩:=hs;exact⟨v,H',J.os,J.bare,J.base,J.hok,rv,q⟩
 |next=>obtain⟨Z',H',J,q⟩:=hs;exact⟨.non,H',J.os,J.bare,J.base,J.hok,rfl,q⟩
 |brk=>obtain⟨_,_,_,q⟩:=hs;exact False.elim q
 |cont=>obtain⟨_,_,_,q⟩:=hs;exact False.elim q
end
variable{X:Cx}
def zqj(hp:(ea,oe)∈X.pn)(hc:oe.cls=.ref C)(kC:qX X.K C)(hu:∀u',RelV v u'->u'=u)(he:kitOne X.K (.ref C) u=some b):cU X (.builtin "isinstance") (λxs H Q=>xs=[.ref ea,v]/\Q (.bl b) H):=by
 intro aa s Z H xs us Q I r h;obtain⟨rfl,q⟩:=h;obtain⟨u1,u2,rfl,r1,r2⟩:=zrD r;cases r1;cases hu _ r2;obtain⟨g,_⟩:=I.pin (ea,oe) (Bu _ hp);exact zrP kC I.kIn ⟨oe,g,hc⟩ he λtk=>⟨.bl b,H,I.tok tk,rfl,q⟩
def zs3:bootBuiltins "ValueError"=some (.type "ValueError"):=by decide +kernel
end L2
namespace Fd
open PySem L2
section
variable{X:Cx}{c:Bk}{e a elt tg:Expr}{ifs:List Expr}{A E:WE}{C:WT}{ea Ca:Addr}{oe:Obj}{b:Bool}{x:Str}{p p' pos:Pos}{scope:Scope}{Nc:List Str}{sub:List (Option Nat)}
abbrev d8(A:WE)(ea:Addr)(b:Bool):WE:=λS Q=>A S λd=>d=.obj ea/\Q (.bl b)
def ztf(hA:DE X c e A)(hp:(ea,oe)∈X.pn)(hc:oe.cls=.ref Ca)(kC:qX X.K Ca)(hv:PE X (.Name x p') (tC v))(hu:∀u',RelV v u'->u'=u)(he:PySem.W.kitOne X.K (.ref Ca) u=some b)(hm:X.mg "isinstance"=none)(hg:Gl X "isinstance":=by rfl)
  (hs:starEach [e,.Name x p'] X.env=(false,eval e X.env)::starEach [.Name x p'] X.env:=by rfl):DE X c (.Call (.Name "isinstance" p) [e,.Name x p'] [] pos) (d8 A ea b)where
 mono:=λS Q Q' k q=>hA.mono S _ _ (λd z=>⟨z.1,k _ z.2⟩) q
 pe:=dM (JN (zqj hp hc kC hu he) hg hm PyProof.Rows.boot_isinstance (iM hA.pe (iM hv km) hs) (by decide) (by decide) hs rfl) λZ H Q ⟨S,G,r,q⟩=>⟨S,G,r,hA.mono S _ _ (λd z w H' G' t er=>by
  obtain⟨rfl,z⟩:=z;cases (show w=V.ref ea from er);exact⟨rfl,z (.bl b) H' G' t rfl⟩) q⟩
def zrJ(h:PIT X Nc scope tg iter wi)(k:∀ Z H R,wi' Z H R->wi Z H R):PIT X Nc scope tg iter wi':=λaa s Z H R I q=>h aa s Z H R I (k Z H R q)
def znv(t:Tg)(h:ul X ea)(hA:DE X c a A)(hg:∀{cl L s0 H0 ex},PG (gQ X Nc scope cl L s0 H0 ex) tg (lE c.K t))(hC:∀{cl L s0 H0 ex},Ex (gQ X Nc scope cl L s0 H0 ex) c ifs C)(hE:∀{cl L s0 H0 ex},DE (gQ X Nc scope cl L s0 H0 ex) c elt E)(hm:X.mg "range"=none)
  (hS:Eh X.N X.env.scope scope Nc sub=true:=by kernel_rfl) (hok:wW sub t=true:=by decide +kernel) (hs:∀y,foldedSetIterable (.Call (.Name "range" p) [a] [] p') X.env y=pure y:=by intro _;rfl) (hr:Gl X "range":=by rfl) (hs1:starEach [a] X.env=[(false,eval a X.env)]:=by rfl) :
  DF X c (.ListComp elt [⟨tg,.Call (.Name "range" p) [a] [] p',ifs,0⟩] scope pos) (eY sub (qM A) t C E):=
 have mC:=(@hC [] 0 X.s₀ (λ_=>none) []).mono;have mE:=(@hE [] 0 X.s₀ (λ_=>none) []).mono;have mI:rN (qM A):=λS Q Q' k q=>hA.mono S _ _ (λd z=>by cases d<;>first|exact⟨z.1,k _ z.2⟩|exact z) q;have pit:PIT X Nc scope tg (.Call (.Name "range" p) [a] [] p') (tDI c (qM A)):=zrJ (h.pit hr hm (iM hA.pe km hs1) hs1) λZ H R ⟨S,G,r,q⟩=>⟨S,G,r,hA.mono S _ _ (λd z v H' G' t e=>by
  cases d with
  |int n=>exact⟨n,by cases e;rfl,z.1.1,z.1.2,z.2 _ H' G' t (vH 0 _)⟩
  |_=>exact z.elim) q⟩
 ⟨zeu mI mC mE,dM (zjr (bR.of hS) pit (λcl L s0 H0 ex=>@hg cl L s0 H0 ex) (JK c.K sub t hok) (De c.K t) (λcl L s0 H0 ex=>(@hC cl L s0 H0 ex).pf) (λcl L s0 H0 ex=>(@hE cl L s0 H0 ex).pe) hs) (zfk mI mC mE)⟩
end
structure uI(P:Program)(w:World)(K:qo)(mg:Str->Option Value)(base:Heap)(k:Nat)(x:Str)(NS:List Str)(W:Str->Addr->Fn):Prop where
 ex:∃f fd y,mg x=some (.ref f)/\PySem.W.keepIn K (.ref f)=true/\Binds K fd [y] []/\∀(A:Around)(outer:List PySem.Env)(s:Shared)(H:Hp)(nm:Str)(ea C:Addr)(oe:Obj)(fs:Array Value)(Q:VK)(β:Addr)(G:Hp),nm∈NS->mg nm=some (.ref C)->bD k A.calmed->A.handled=some (.ref ea)->s.heap.get? ea=some oe->oe.cls=.ref C->oe.data=.fields fs->fs[2]?=some Value.none->H ea=none->ea∉frs outer ->
  nq P w K mg base A outer s H->Same G H->d7 β H G->up (W nm ea) [.obj ea] (λd=>∀v H' G',aX β H G H' G'->Rep ⟨K,β,H,G,True⟩ G' d v->Q v H')->codeAny (model P w) A (.call (.ref f) ⟨[.ref ea],[]⟩) (CR cR outer P w H s Q (λ_ _ _=>False)) s
def zv0{P:Program}{w:World}{K:qo}{mg:Str->Option Value}{base:Heap}{x qual y:Str}{st:Stmt}{f:Addr}{fd:FuncData}{N NS:List Str}{k:Nat}{B:Str->Addr->WS}(F:bZ K x qual st f fd)(hm:mg x=some (.ref f))(hb:Binds K fd [y] [])
  (hB:∀{cdv:Value}{A:Around}{outer:List PySem.Env}{s:Shared}{H:Hp}{β:Addr}{G:Hp}(nm:Str)(ea C:Addr)(oe:Obj),N.Nodup->nm∈NS->mg nm=some (.ref C)->oe.cls=.ref C->ul (uX cR P w K mg base N qual (gC st) f cdv A outer s H (λ_ _ _=>False) ea oe) ea ->
   rG (uX cR P w K mg base N qual (gC st) f cdv A outer s H (λ_ _ _=>False) ea oe) ⟨K,β,H,G,True⟩ (nW st) (B nm ea)) (qj:cZ N [y] (gC st):=by exact⟨rfl,rfl,rfl,by decide +kernel,rfl,by decide +kernel,by decide +kernel⟩):uI P w K mg base (k+1) x NS (λnm ea=>eG N.length (B nm ea)):=by
 obtain⟨oc,od,kV,doc,pm,an,cdv,ct,osl,e,lk,hcd⟩:=F.ex;refine⟨f,fd,y,hm,F.kp,hb,λA outer s H nm ea C oe fs Q β G hn hmn hr hh ho hc hd h2 hH hf e0 gh bx ⟨P',q,hP⟩=>?_⟩;have h:=@hB cdv A outer s H β G nm ea C oe qj.nd hn hmn hc (zun hh ho hd h2 hH hf);subst e;have KX:K.In s.heap:=e0.mod.kin.keeps λb o e=>(e0.bs b o e).1;refine zvH (vs:=[.ref ea]) lk hcd qj hr ho hd hH hf e0 (hb s [.ref ea] KX rfl) (.cons rfl .nil) rfl h.pss ⟨fH N.length [.obj ea],G,Jr gh bx ⟨.ref ea,[],rfl,rfl,rfl⟩,h.mono {nx:=λ_=>P' .non,rt:=P',bk:=λ_=>False,ct:=λ_=>False} _ _ ⟨λS z Z H' G' r s'=>hP _ z .non H' G' r.stp rfl,λd z v H' G' t e=>hP _ z v H' G' t e,λS z=>z.elim,λS z=>z.elim⟩ q⟩
end Fd
namespace L2
open PySem PySem.Spec PyProof.Rows PySem.W
section
variable{X:Cx}{CX:mO}{k:Nat}{f C:Addr}{fd:FuncData}{ps:List Str}{sp:Sp}{E:XK}{m:Str}{p pos apos:Pos}{e o:Expr}{es:List Expr}{ta:TE}{t:TA}{aa:List (Addr×Obj)}{Z:St}{H:Hp}{s:Shared}{Q:VK}
def zsL(he:PE X.nox o ta)(c:nP X.K C)(hm:Meth X.K C m f)(F:aM X.prog X.w X.K X.mg X.base CX k f fd ps sp)(hr:bD k X.A)(hb:Binds X.K fd ps [])(ha:PA X.nox (e::es) t)(I:Inv X aa Z H s)(h:CW C m sp [] E ta t Z H Q)
  (hst:starEach (e::es) X.env=(false,eval e X.env)::starEach es X.env:=by rfl) (hpl:(backTo pos (starEach es X.env)).any (·.1)=false:=by rfl)
  (ht:eval (.Call (.Attribute o m apos) (e::es) [] pos) X.env=(do
   let ov <-eval o X.env
   standAt apos.atName
   let(f,first) <-holding [ov] (getMethod ov m pl)
   callWith pos f first (backTo pos (starEach (e::es) X.env)) (backToKw pos (keywordEach [] X.env))):=by rfl) :
  wpAny (model X.prog X.w) X.A (eval (.Call (.Attribute o m apos) (e::es) [] pos) X.env) (EP X aa Z Q) (λx s'=>∃H1 s1,Inv X aa Z H1 s1/\CX X.stack H1 s1 E x s') s:=by
 refine YCm (pl:=pl) (YAT (he aa s Z H _ (I.wish _) h) (λu s1 ⟨x,H1,I1,rx,a,dx,fs,ex,ea,l,q⟩=>?_) λ_ _ z=>z.elim) ht;subst ex;obtain rfl:u=Value.ref a:=rx;refine zfy I1.unwish ea c hm l ?_;refine KJ (first:=[.ref a]) (h₀:=X.base) I.ok.mod.kin hm.kp (YAT (ha pos aa s1 Z H1 _ I1 q) (λus s2 ⟨vs,H2,I2,r,q2⟩=>⟨I2.kIn,?_⟩) λ_ _ z=>z.elim) hst hpl;have I2:=I2.unwish;have r2:Vals (.ref a::(vs++[])) ((.ref a::us)++[]):=.cons rfl (r.append .nil);have hl:((Value.ref a::us)++[]).length=ps.length:=by rw[<-r2.length];exact F.len _ _ _ _ q2
 refine CK (Cz (F.run X.A X.stack s2 H2 ⟨.ref a::us,[]⟩ ((Value.ref a::us)++[]) (.ref a::(vs++[])) Q E hr I2.env0 (hb s2 (.ref a::us) I2.kIn hl) r2 q2) λr s' hq=>?_);cases r with
 |error e=>exact⟨H2,s2,I2,hq⟩
 |ok fl=>
  cases fl with
  |ret u=>exact I2.after hq
  |next=>exact False.elim hq
  |brk=>exact False.elim hq
  |cont=>exact False.elim hq
end
end L2
namespace Fd
open PySem L2
section
variable{X:Cx}{b:Bo}{e:Expr}{es:List Expr}{pos p p1 p2 np q1 q2 fpos apos hpos cpos spos bpos:Pos}
abbrev zqx(i ie ib:Nat)(B:(Str->bN->Prop)->WOE)(kd:Str->Option D):WF:=λE qj S=>∃Y,B Y S qj (λd qh=>E.nx qh (S.set i (.val d)))/\∀nm qh,Y nm qh->∃d,kd nm=some d/\E.nx qh ((S.set ie .un).set ib (.val d))
def zrH(i ie ib:Nat){io k k2 m:Nat}{C:Addr}{mt x o n y xc fx:Str}{ps:List Str}{F:m7}{R:WOA}{pl:Sem Bool}{kd:Str->Option D}{Dc:Addr}{NS:List Str}{W:Str->Addr->Fn}(T:Met X.prog X.w X.K X.mg X.base (dj X.prog X.w) C mt k ps (kZ X.K X.mg m F))(L:uI X.prog X.w X.K X.mg X.base k2 fx NS W)
  (hv:∀qj M G1,DE X.nox (dz b qj M G1) (.Name o p) (vW io)) (hR:OA X.nox b (e::es) R) (hmD:X.mg xc=some (.ref Dc))
  (hkd:∀nm d,kd nm=some d->nm∈NS/\(∀C,X.mg nm=some (.ref C)->PySem.W.exmOne X.K (.ref C) (.ref Dc)=some true)/\∀ea,up (W nm ea) [.obj ea] (λd'=>d'=d))
  (hi:X.N[i]?=some x:=by rfl) (hie:X.N[ie]?=some n:=by rfl) (hib:X.N[ib]?=some y:=by rfl) (hx:X.env.scope.names.lookup x=some .local:=by rfl) (hn:X.env.scope.names.lookup n=some .local:=by rfl) (hy:X.env.scope.names.lookup y=some .local:=by rfl) (hne:ie≠ib:=by decide) (hN:X.N.Nodup:=by decreasing_trivial) (hr:bD k X.A:=by decreasing_trivial) (hr2:bD k2 X.A:=by decreasing_trivial)
  (hst:X.stack=X.env::X.outer:=by rfl) (hfr:X.env.frame=some X.env.locals:=by rfl) (hK:b.K=X.K:=by rfl) (hg:Gl X fx:=by rfl) (hgc:Gl X xc:=by rfl) (hdb:(fx==("__debug__":Str))=false:=by decide) (hdc:(xc==("__debug__":Str))=false:=by decide) (hdn:(n==("__debug__":Str))=false:=by decide) (hdk:(n==("__classdict__":Str))=false:=by decide)
  (hs1:swapsWith (.Call (.Attribute (.Name o p) mt apos) (e::es) [] cpos) (some (.Name x p1)) spos.line X.env=pure false:=by rfl) (hs2:swapsWith (.Call (.Name fx q1) [.Name n q2] [] fpos) (some (.Name y p2)) bpos.line X.env=pure false:=by rfl)
  (sk:Sk X e es cpos:=by exact⟨rfl,rfl⟩) (he2:starEach [.Name n q2] X.env=(false,eval (.Name n q2) X.env)::starEach [] X.env:=by rfl)
  (ht:eval (.Call (.Attribute (.Name o p) mt apos) (e::es) [] cpos) X.env=(do
   let ov <-eval (.Name o p) X.env
   standAt apos.atName
   let(f,first) <-holding [ov] (getMethod ov mt pl)
   callWith cpos f first (backTo cpos (starEach (e::es) X.env)) (backToKw cpos (keywordEach [] X.env))):=by rfl) :
  OS X b (.Try [.Assign [.Name x p1] (.Call (.Attribute (.Name o p) mt apos) (e::es) [] cpos) spos] [.ExceptHandler (some (.Name xc np)) (some n) [.Assign [.Name y p2] (.Call (.Name fx q1) [.Name n q2] [] fpos) bpos] hpos] [] [] pos) (zqx i ie ib (λY=>qZ io C mt m F Y R) kd)where
 mono:=λE E' qj S l ⟨Y,q,h⟩=>⟨Y,zfu hR.mono S qj _ _ (λd qh z=>l.nx qh _ z) q,λnm qh z=>let⟨d,h1,h2⟩:=h nm qh z;⟨d,h1,l.nx qh _ h2⟩⟩
 ps:=by
  intro aa s Z H Ds I ⟨S,G,qj,M,r,Y,q,hY⟩;obtain⟨f,fd,FO,hc,hm,hb⟩:=T.ex;have h:=zhE (X:=X) (y:=Y) (x:=o) (Q:=λv H'=>∃d qh G' M',qH b qh M' S Z H' G' d v/\Same G G'/\Dm M M'/\(sH b G M Ds).nx qh (S.set i (.val d))) (E:=λv _ H'=>∃nm C qh M' G',v=.ref C/\Y nm qh/\X.mg nm=some (.ref C)/\dq b qh M' S Z H' G'/\Same G G'/\Dm M M') hK hR.mono r
   (zfu hR.mono S qj _ _ (λd qh z v H' G' M' rp sg dm=>⟨d,qh,G',M',rp,sg,dm,z⟩) q) (λnm C qh M' H' G' w hc r2 sg dm=>⟨nm,C,qh,M',G',rfl,w,hc,r2,sg,dm⟩) (λ_ _ _ z=>z)
  refine wpAny_Try_except (YCq (YCO (YAT (zsL (zkh (A:=λ_=>vW io) hv).pe hc hm FO hr hb hR.pa I h sk.1 sk.2 ht) (λu s1 ⟨v,H1,I1,rv,d,qh,G',M',⟨G1,o1,r1,rp⟩,sg,dm,nx⟩=>?_) λx s' ⟨H1,s1,I1,ea,Cc,H2,ee,N,nm,Cc',qh,M',G',e1,yy,hmn,r2,sg,dm⟩=>?_) hs1))
  .exact Bm I1 hN hi (.inl hx) rv (λs3 I3=>CZ (CZ ⟨_,H1,I3,nx _ _ G' M' ⟨G1,o1,r1.put rp⟩ sg dm⟩)) (.inr hx)
  .subst ee;cases e1;obtain⟨d,hd,nx⟩:=hY nm qh yy;obtain⟨hns,hx1,hW⟩:=hkd nm d hd;have hx1:=hx1 Cc hmn;refine zvc I1 hst hfr N hgc hmD hx1 hN hie hn (λoe s2 hoc hcx I2=>?_) hdc;obtain⟨fs,hfs,h2⟩:=hcx;obtain⟨f2,fd2,y2,hmf,hk2,hb2,run⟩:=L.ex;obtain⟨G1,o1,r1⟩:=r2;have hσ:ie<Z.length:=by rw[I1.len];exact(jB.mp hie).1
   refine YCq (YCO (xR (yM I2 hg hmf ?_ hdb)) hs2);refine KJ (h₀:=X.base) I.ok.mod.kin hk2 (bF (iM (X:=X.sup ea oe λ_ _=>False) (lU hie (.inl hn) hdn hdk) km he2 fpos aa s2 (Z.set ie (some (.ref ea))) H2 (λvs H3=>vs=[.ref ea]/\H2=H3) I2 ⟨.ref ea,jK hσ,rfl,rfl⟩) λus s3 ⟨vs,H3,I3,r3,e3,e4⟩=>⟨I3.kIn,?_⟩) he2 rfl;subst e3;cases e4;obtain⟨u1,e5,r5⟩:∃u,us=[u]/\RelV (.ref ea) u:=by
    cases r3 with
    |cons a b=>cases b;exact⟨_,rfl,a⟩
   cases r5;subst e5;obtain⟨g1,g2,g3,g4,_⟩:=I3.pin (ea,oe) gw;refine CK (Cz (run (X.A.mark (some (.ref ea))) X.stack s3 H2 nm ea Cc oe fs (λv H4=>∃G3,aX b.β H2 G' H4 G3/\Rep ⟨X.K,b.β,H2,G',True⟩ G3 d v) b.β G' hns hmn ⟨rfl,hr2.dp,hr2.un⟩ rfl g1 hoc hfs h2 g2 (λz=>(ir.mp (I3.stkSub ea z)).elim g3 g4) I3.env0 r1.gh r1.bx (rM _ _ (λd'=>d'=d) _ (λd' z v H' G'' t rp=>⟨G'',t,z▸rp⟩) (hW ea))) λrs s' hq=>?_);cases rs with
   |error er=>exact False.elim hq
   |ok fl=>
    cases fl with
    |next=>exact False.elim hq
    |brk=>exact False.elim hq
    |cont=>exact False.elim hq
    |ret u=>
     obtain⟨v,H4,I4,rv,G3,t,rp⟩:=I3.after hq;refine Bm (X:=X.sup ea oe λ_ _=>False) I4 hN hib (.inl hy) rv (λs5 I5=>CZ (zsO (I5.unsup I.ok) hN hie hn λs6 I6=>⟨_,_,I6,?_⟩)) (.inr hy);rw[List.set_comm _ _ hne.symm,List.set_set];exact nx _ _ G3 M' ⟨G1,o1,((r1.step t).unput).put (Rep.back (c':=⟨X.K,b.β,H2,G',True⟩) (c:=dz b qh M' G1) hK.symm rfl (λa h=>r1.new0 h) rp)⟩ (sg.trans t.gg) dm
end
structure sW(K:qo)(mg:Str->Option Value)(xc:Str)(NT NS:List Str):Prop where
 cl:∀x∈NT,∃D,mg x=some (.ref D)/\∀nm∈NS,∀C,mg nm=some (.ref C)->PySem.W.kitOne K (.ref C) (.ref D)=some (decide (nm=x))
 ve:∀nm∈NS,∀C,mg nm=some (.ref C)->qX K C/\PySem.W.kitOne K (.ref C) (.type "ValueError")=some true
 top:∃D,mg xc=some (.ref D)/\∀nm∈NS,∀C,mg nm=some (.ref C)->PySem.W.exmOne K (.ref C) (.ref D)=some true
def ztV(ts ns:List (Str×Addr))(e1:NT=ts.map (·.1))(e2:NS=ns.map (·.1))(m1:∀p∈ts,mg p.1=some (.ref p.2))(m2:∀p∈ns,mg p.1=some (.ref p.2))(m3:mg xc=some (.ref fe))
  (h1:∀q∈ts,∀p∈ns,PySem.W.kitOne K (.ref p.2) (.ref q.2)=some (decide (p.1=q.1))) (h2:∀p∈ns,qX K p.2/\PySem.W.kitOne K (.ref p.2) (.type "ValueError")=some true/\PySem.W.exmOne K (.ref p.2) (.ref fe)=some true):sW K mg xc NT NS:=by
 subst e1 e2;have at_:∀nm∈ns.map (·.1),∀C,mg nm=some (.ref C)->∃p∈ns,p.1=nm/\p.2=C:=λnm hn C hm=>by
  obtain⟨p,hp,rfl⟩:=YAK.mp hn
  have:=(m2 p hp).symm.trans hm
  cases this;exact⟨p,hp,rfl,rfl⟩
 refine⟨λx hx=>?_,λnm hn C hm=>?_,fe,m3,λnm hn C hm=>?_⟩
 .obtain⟨q,hq,rfl⟩:=YAK.mp hx;refine⟨q.2,m1 q hq,λnm hn C hm=>?_⟩;obtain⟨p,hp,rfl,rfl⟩:=at_ nm hn C hm;exact h1 q hq p hp
 .obtain⟨p,hp,rfl,rfl⟩:=at_ nm hn C hm;exact⟨(h2 p hp).1,(h2 p hp).2.1⟩
 .obtain⟨p,hp,rfl,rfl⟩:=at_ nm hn C hm;exact(h2 p hp).2.2
section
variable{X:Cx}{c:Bk}{e:Expr}{A:WE}{ea C:Addr}{oe:Obj}{nm x xc:Str}{NT NS:List Str}{p p' pos:Pos}
def pA(xk:sW X.K X.mg xc NT NS)(hA:DE X c e A)(hp:(ea,oe)∈X.pn)(hc:oe.cls=.ref C)(hn:nm∈NS)(hmn:X.mg nm=some (.ref C))(hx:x∈NT:=by decide)(hm:X.mg "isinstance"=none:=by decreasing_trivial)(hg:Gl X "isinstance":=by rfl)(hg2:Gl X x:=by rfl)(hd:(x==("__debug__":Str))=false:=by decide)
  (hs:starEach [e,.Name x p'] X.env=(false,eval e X.env)::starEach [.Name x p'] X.env:=by rfl):DE X c (.Call (.Name "isinstance" p) [e,.Name x p'] [] pos) (d8 A ea (decide (nm=x))):=by
 obtain⟨D,h1,h2⟩:=xk.cl x hx;exact ztf (v:=.ref D) hA hp hc (xk.ve nm hn C hmn).1 (zkU hg2 h1 rfl hd) (λ_ z=>z) (h2 nm hn C hmn) hm hg hs
def zwj(xk:sW X.K X.mg xc NT NS)(hA:DE X c e A)(hp:(ea,oe)∈X.pn)(hc:oe.cls=.ref C)(hn:nm∈NS)(hmn:X.mg nm=some (.ref C))(hm2:X.mg "ValueError"=none)(hm:X.mg "isinstance"=none:=by decreasing_trivial)(hg:Gl X "isinstance":=by rfl)(hg2:Gl X "ValueError":=by rfl)
  (hs:starEach [e,.Name "ValueError" p'] X.env=(false,eval e X.env)::starEach [.Name "ValueError" p'] X.env:=by rfl):DE X c (.Call (.Name "isinstance" p) [e,.Name "ValueError" p'] [] pos) (d8 A ea true):=
 ztf (v:=.ty "ValueError") hA hp hc (xk.ve nm hn C hmn).1 (zo4 hg2 hm2 zs3 rfl) (λ_ z=>z) (xk.ve nm hn C hmn).2 hm hg hs
end
def kdN(NS:List Str)(nm:Str):Option D:=if nm∈NS then some (.lst true [.str nm])else none
section
variable{X:Cx}{b:Bo}{e:Expr}{es:List Expr}{pos p p1 p2 np q1 q2 fpos apos hpos cpos spos bpos:Pos}
def zr9(i ie ib:Nat){io k k2 m:Nat}{C:Addr}{mt x o n y xc fx:Str}{ps NT NS:List Str}{F:m7}{R:WOA}{pl:Sem Bool}{W:Str->Addr->Fn}(T:Met X.prog X.w X.K X.mg X.base (dj X.prog X.w) C mt k ps (kZ X.K X.mg m F))(L:uI X.prog X.w X.K X.mg X.base k2 fx NS W)(xk:sW X.K X.mg xc NT NS)(hW:∀nm∈NS,∀ea,up (W nm ea) [.obj ea] (λd'=>d'=.lst true [.str nm]))
  (hv:∀qj M G1,DE X.nox (dz b qj M G1) (.Name o p) (vW io)) (hR:OA X.nox b (e::es) R)
  (hi:X.N[i]?=some x:=by rfl) (hie:X.N[ie]?=some n:=by rfl) (hib:X.N[ib]?=some y:=by rfl) (hx:X.env.scope.names.lookup x=some .local:=by rfl) (hn:X.env.scope.names.lookup n=some .local:=by rfl) (hy:X.env.scope.names.lookup y=some .local:=by rfl) (hne:ie≠ib:=by decide) (hN:X.N.Nodup:=by decreasing_trivial) (hr:bD k X.A:=by decreasing_trivial) (hr2:bD k2 X.A:=by decreasing_trivial)
  (hst:X.stack=X.env::X.outer:=by rfl) (hfr:X.env.frame=some X.env.locals:=by rfl) (hK:b.K=X.K:=by rfl) (hg:Gl X fx:=by rfl) (hgc:Gl X xc:=by rfl) (hdb:(fx==("__debug__":Str))=false:=by decide) (hdc:(xc==("__debug__":Str))=false:=by decide) (hdn:(n==("__debug__":Str))=false:=by decide) (hdk:(n==("__classdict__":Str))=false:=by decide)
  (hs1:swapsWith (.Call (.Attribute (.Name o p) mt apos) (e::es) [] cpos) (some (.Name x p1)) spos.line X.env=pure false:=by rfl) (hs2:swapsWith (.Call (.Name fx q1) [.Name n q2] [] fpos) (some (.Name y p2)) bpos.line X.env=pure false:=by rfl)
  (sk:Sk X e es cpos:=by exact⟨rfl,rfl⟩) (he2:starEach [.Name n q2] X.env=(false,eval (.Name n q2) X.env)::starEach [] X.env:=by rfl)
  (ht:eval (.Call (.Attribute (.Name o p) mt apos) (e::es) [] cpos) X.env=(do
   let ov <-eval (.Name o p) X.env
   standAt apos.atName
   let(f,first) <-holding [ov] (getMethod ov mt pl)
   callWith cpos f first (backTo cpos (starEach (e::es) X.env)) (backToKw cpos (keywordEach [] X.env))):=by rfl) :
  OS X b (.Try [.Assign [.Name x p1] (.Call (.Attribute (.Name o p) mt apos) (e::es) [] cpos) spos] [.ExceptHandler (some (.Name xc np)) (some n) [.Assign [.Name y p2] (.Call (.Name fx q1) [.Name n q2] [] fpos) bpos] hpos] [] [] pos) (zqx i ie ib (λY=>qZ io C mt m F Y R) (kdN NS)):=by
 obtain⟨Dc,h1,h2⟩:=xk.top;refine zrH i ie ib T L hv hR h1 (λnm d z=>?_) hi hie hib hx hn hy hne hN hr hr2 hst hfr hK hg hgc hdb hdc hdn hdk hs1 hs2 sk he2 ht;unfold kdN at z;split at z
 .rename_i hn
  cases z;exact⟨hn,h2 nm hn,hW nm hn⟩
 .cases z
end
theorem zl5{α:Type}:∀{ks:List Str}{vs:List α}{z:Str},ks.length=vs.length->(dY ks vs z).isSome=ks.contains z
 |[],[],z,_=>rfl
 |k::ks,v::vs,z,h=>by
  show(if k=z then some v else dY ks vs z).isSome=(k::ks).contains z;by_cases e:k=z
  .subst e;simp
  .rw[if_neg e,zl5 (by simpa using h)];simp[YAM e]
section
variable{X:Cx}{c:Bk}{a b e:Expr}{A B:WE}{pos p:Pos}
abbrev nF(neg:Bool)(A B:WE):WT:=λS Q=>A S λx=>B S λd=>match x with|.str z=>rE d λks _=>Q (neg != ks.contains z)|_=>False
def zmd(hA:jm A)(hB:jm B):wF (nF neg A B):=λS Q Q' k q=>hA S _ _ (λx z=>hB S _ _ (λd y=>by
 cases x with
 |str s=>exact J8 (λ_ _ w=>k _ w) y
 |_=>exact y.elim) z) q
def zmf(hA:DE X c a A)(hB:DE X c b B)(Z:St)(H:Hp)(Q:Bool->Hp->Prop)(R:Bool->Hp->Prop)(hR:∀b H',Q (neg != b) H'->R b H')(h:Dw c (nF neg A B) Z H Q):tD c A Z H λy H1=>tD c B Z H1 λx H2=>∃a o,x=.ref a/\iZ H2 a y o/\R o.isSome H2:=by
 obtain⟨S,G,r,q⟩:=h;refine⟨S,G,r,hA.mono S _ _ (λx zx vx H1 G1 t1 e1=>⟨S,G1,r.step t1,hB.mono S _ _ (λd zd vd H2 G2 t2 e2=>?_) zx⟩) q⟩;cases x with
 |str s=>
  cases (show vx=V.str s from e1);have zd:rE d λks _=>∀H' G',aX c.β H G H' G'->Q (neg != ks.contains s) H':=zd;unfold rE at zd;cases ed:dcV d with
  |none=>rw[ed]at zd;exact zd.elim
  |some pr=>
   rw[ed]at zd;obtain⟨d0,vs,h1,h2,h3,h4⟩:=Ik e2 ed;refine⟨d0,_,h1,.inl ⟨_,Sum.inr s,Jl t2.gh h2,rfl,rfl⟩,?_⟩;rw[Eu,zl5 h3];exact hR _ _ (zd H2 G2 (t1.trans t2))
 |_=>exact zd.elim
def zwf(hA:DE X c a A)(hB:DE X c b B)(hm:behindInMarks .In b=false:=by with_unfolding_all rfl)(hu:X.A.units+1<cLine:=by decreasing_trivial):DT X c (.Compare a [.In] [b] pos) (nF false A B)where
 mono:=zmd hA.mono hB.mono
 pt:=yR (zlv (zuN hu hA.pe hB.pe) hm) λZ H Q h=>zmf hA hB Z H Q (λb H'=>∃c,V.bl b=.bl c/\Q c H') (λb H' z=>⟨b,rfl,by simpa using z⟩) h
def zlR(hA:DE X c a A)(hB:DE X c b B)(hm:behindInMarks .NotIn b=false:=by with_unfolding_all rfl)(hu:X.A.units+1<cLine:=by decreasing_trivial):DT X c (.Compare a [.NotIn] [b] pos) (nF true A B)where
 mono:=zmd hA.mono hB.mono
 pt:=yR (zlv (zo2 hu hA.pe hB.pe) hm) λZ H Q h=>zmf hA hB Z H Q (λb H'=>∃c,V.bl (!b)=.bl c/\Q c H') (λb H' z=>⟨!b,rfl,by simpa using z⟩) h
abbrev zrV(A:WE):WE:=λS Q=>A S λd=>rE d λks _=>Q (.int ks.length)
def znk:cU X (.builtin "len") (λxs H Q=>∃a kvs,xs=[V.ref a]/\Rd H a (.dK kvs)/\Q (.int kvs.length) H):=by
 intro aa s Z H xs us Q I r h;obtain⟨a,kvs,rfl,e,q⟩:=h;obtain⟨u,rfl,rx⟩:=qK r;cases rx;exact L2.zvt I e λt s' I'=>⟨.int kvs.length,H,I',⟨t,rfl⟩,q⟩
def zte(hA:DE X c e A)(hg:Gl X "len":=by rfl)(he:starEach [e] X.env=(false,eval e X.env)::starEach [] X.env:=by rfl)(hm:X.mg "len"=none:=by decreasing_trivial):DE X c (.Call (.Name "len" p) [e] [] pos) (zrV A)where
 mono:=λS Q Q' k q=>hA.mono S _ _ (λd z=>J8 (λ_ _ y=>k _ y) z) q
 pe:=dM (JN znk hg hm YDe (iM hA.pe km he) (by decide) (by decide) he rfl) λZ H Q ⟨S,G,r,q⟩=>⟨S,G,r,hA.mono S _ _ (λd z v H' G' t e=>by
  unfold rE at z;split at z
  .rename_i pr ed
   obtain⟨a,vs,h1,h2,h3,h4⟩:=Ik e ed;subst h1;refine⟨a,_,rfl,Jl t.gh h2,?_⟩;rw[show(dB pr.1 vs).length=pr.1.length by unfold dB;rw[bW,xF,<-h3,xX]];exact z (.int pr.1.length) H' G' t rfl
  .exact z.elim) q⟩
end
end Fd
namespace L2
open PySem PySem.Spec PyProof.Rows
section
variable{X:Cx}{a b:Expr}{rest:List Expr}{pos:Pos}{ta tb:TE}
def ztp(ha:PE X a ta)(hb:PE X (.BoolOp .Or (b::rest) pos) tb):PE X (.BoolOp .Or (a::b::rest) pos) (λZ H Q=>ta Z H λx H1=>∃k,wG X.K x H1 k/\if k=true then Q x H1 else tb Z H1 Q):=by
 intro aa s Z H Q I h;refine BoolOp_or (bF (ha aa s Z H _ I h) λv s1 ⟨x,H1,I1,r1,q1⟩=>?_);obtain⟨k,tv,q1⟩:=q1;refine bF (zrd aa s1 Z H1 x v (λb H'=>b=k/\if k=true then Q x H' else tb Z H' Q) I1 r1 ⟨k,tv,rfl,q1⟩) λc s2 ⟨H2,I2,e,q2⟩=>?_;subst e;cases c with
 |false=>exact hb aa s2 Z H2 Q I2 q2
 |true=>exact⟨x,H2,I2,r1,q2⟩
end
end L2
namespace Fd
open PySem L2
section
variable{X:Cx}{c:Bk}{a b:Expr}{rest:List Expr}{A B:WE}{pos:Pos}
abbrev xW(A B:WE):WE:=λS Q=>A S λx=>mW x λk=>if k=true then Q x else B S Q
def zwt(hA:DE X c a A)(hB:DE X c (.BoolOp .Or (b::rest) pos) B)(hK:c.K=X.K:=by rfl):DE X c (.BoolOp .Or (a::b::rest) pos) (xW A B)where
 mono:=λS Q Q' k q=>hA.mono S _ _ (λd z=>zgZ d (λb z=>by
  cases b
  .exact hB.mono S _ _ k z
  .exact k _ z) z) q
 pe:=dM (ztp hA.pe hB.pe) λZ H Q ⟨S,G,r,q⟩=>⟨S,G,r,hA.mono S _ _ (λd z v H' G' t e=>by
  unfold mW at z;split at z
  .rename_i k hk
   refine⟨k,hK▸zkr t.gh e hk,?_⟩;cases k
   .exact⟨S,G',r.step t,hB.mono S _ _ (λb' z' v2 H2 G2 t2=>z' v2 H2 G2 (t.trans t2)) z⟩
   .exact z v H' G' t e
  .exact z.elim) q⟩
end
structure gK where
 fen:Addr
 mark_entered:Addr
 hand_entered:Addr
 run_entered:Addr
 run_struck:Addr
 run_mended:Addr
 mark_settled:Addr
 hand_set_aside:Addr
 hand_heeded:Addr
 number_allowed:Addr
def NTx:List Str:=["BadName","Taken","Full","NoMark","NoHand","Same","BadRise","NoRun","Aside","NotAside","BadNumber","NothingLeft","Steady","NoDeed","Known","NoFen","Settled","NoPage"]
def ur:List Str:=["BadName","Taken","Full","NoMark","NoHand","Same","BadRise","NoRun","BadNumber"]
def CQ:Fn:=eG 0 ((aO (zrO ["stands","hands","aside","runs","entered","allowed"] (aq (bK ao) (aq (bK ao) (aq (bK ao) (aq (bK ao) (aq (kW (.int 0)) (aq (kW (.int 0)) ao)))))))))
def zcc(A:gK):m7:=nu 1 (λY=>(bQ (jw 0 "kept" A.fen (λqj=>(bh ao)))
  (bQ (jw 0 "books" A.fen (λqj=>(bh (aq (aZ 0 CQ ao) ao))))
  (jw 0 "undone" A.fen (λqj=>(bh ao))))))
def zc3:Fn:=eG 0 ((aO (zrO ["places","heeded","rows","entered","many","deeds"] (aq (aN (bh ao)) (aq zvq (aq (aN (bh ao)) (aq (kW (.int 0)) (aq (kW (.int 0)) (aq (aN (bh ao)) ao)))))))))
def tO:Fn:=eG 2 ((aO (cbW fY (aq (aN (eY [none,some 1] (gq (ak cz (vW 0) (kW (.str "places")))) (.nm 0) (bA (ak cD (ak aC (vW 0) (kW (.int 0))) (vW 1))) (vW 0))) ao))))
def uQ:Fn:=eG 2 ((aO (zsq (ak cz (vW 0) (kW (.str "places"))) (bK (aq (vW 1) (aq (aZ 2 tO (aq (vW 0) (aq (vW 1) ao))) ao))))))
noncomputable def Gg:Fn:=eG 6 ((aH (Br 0 (vW 0))
  (aH (gO 0 (kW (.str "deeds")) (ak aU (mH 0 (kW (.str "deeds"))) (aN (bh (aq (vW 1) ao)))))
  (aH (aP (.nm 2) (ak aC (vW 1) (kW (.int 0))))
  (aH (cX (rB (bA (ak cD (vW 2) (kW (.str "mark")))) (bA (ak cD (vW 2) (kW (.str "settle"))))) (gO 0 (kW (.str "places")) (ak aU (mH 0 (kW (.str "places"))) (aN (bh (aq (bK (aq (ak aC (vW 1) (kW (.int 1))) (aq (ak aU (vD 0 2 tO (aq (ak aC (vW 1) (kW (.int 1))) ao)) (kW (.int 1))) ao))) ao))))) (cX (bA (ak (eU false) (vW 2) (bK (aq (kW (.str "hand")) (aq (kW (.str "heed")) (aq (kW (.str "aside")) ao)))))) (wV 3 (mH 0 (kW (.str "heeded"))) (ak lW (vW 2) (kW (.str "aside"))) (ak aC (vW 1) (kW (.int 1)))
  (gO 0 (kW (.str "heeded")) (vW 3))) (cX (bA (ak cD (vW 2) (kW (.str "run")))) (aH (zM 0 (kW (.str "entered")) (kW (.int 1)))
  (aH (aP (.nm 4) (ak aU (bK (aq (mH 0 (kW (.str "entered"))) (aq (vD 0 2 uQ (aq (ak aC (vW 1) (kW (.int 1))) ao)) (aq (vD 0 2 uQ (aq (ak aC (vW 1) (kW (.int 2))) ao)) ao)))) (fu (vW 1) (mD (kW (.int 3))) my)))
  (gO 0 (kW (.str "rows")) (ak aU (mH 0 (kW (.str "rows"))) (aN (bh (aq (vW 4) ao))))))) (cX (bA (ak cD (vW 2) (kW (.str "strike")))) (gO 0 (kW (.str "rows")) (aN (eY [none,some 1] (gq (mH 0 (kW (.str "rows")))) (.nm 0) (bA (ak lW (ak aC (vW 0) (kW (.int 0))) (ak aC (vW 1) (kW (.int 1))))) (vW 0)))) (cX (bA (ak cD (vW 2) (kW (.str "mend")))) (aH (lq 5 (bh ao))
  (aH (rP (gq (mH 0 (kW (.str "rows")))) (.nm 4) (jZ 5 (ak aC (aN (bh (aq (vW 4) (aq (ak aU (fu (vW 4) my (mD (kW (.int 3)))) (bK (aq (ak aC (vW 1) (kW (.int 2))) (aq (ak aC (vW 4) (kW (.int 4))) ao)))) ao)))) (cbW mQ (aq (ak cD (ak aC (vW 4) (kW (.int 0))) (ak aC (vW 1) (kW (.int 1)))) ao)))))
  (nG 5 (gO 0 (kW (.str "rows")) (vW 5))))) (gO 0 (kW (.str "many")) (ak aC (vW 1) (kW (.int 1)))))))))
  (xu 0))))))
def rF:Fn:=eG 4 ((zpq 0 1 2 3))
def Bj:Fn:=eG 2 ((aO (cbW fY (aq (aN (eY [none,none,some 1] (gq (vW 0)) (.tp 2 (.cons (.nm 0) (.cons (.nm 1) .nil))) (bA (ak cD (vW 0) (vW 2))) (vW 1))) ao))))
def zc7:Fn:=eG 2 ((aO (bK (aq (vW 1) (aq (ak aU (aZ 2 Bj (aq (vW 0) (aq (vW 1) ao))) (kW (.int 1))) ao)))))
noncomputable def GR:jU:=iC 3 (λY=>(aH (aP (.nm 2) (ak cz (vW 0) (kW (.str "stands"))))
  (aH (cX (bA (ak Es (cbW fY (aq (vW 2) ao)) (kW (.int 12)))) (rH (aq (kW (.str "there is no room for another stand")) ao) (Y "Full")) bU)
  (aO (aZ 3 rF (aq (vW 0) (aq (kW (.str "stands")) (aq (ak aU (vW 2) (bK (aq (aZ 2 zc7 (aq (vW 2) (aq (vW 1) ao))) ao))) ao))))))))
noncomputable def zcV:jU:=iC 4 (λY=>(aH (aP (.tp 2 (.cons (.nm 2) (.cons (.nm 3) .nil))) (vW 1))
  (aH (cX (jH (gJ (aZ 1 BJ (aq (vW 3) ao)))) (rH (aq (kW (.str "a mark's name is 1 to 8 small letters")) ao) (Y "BadName")) bU)
  (aH (cX (bA (ak Ek (aZ 2 Bj (aq (ak cz (vW 0) (kW (.str "stands"))) (aq (vW 3) ao))) (kW (.int 0)))) (rH (aq (kW (.str "there is a mark of this name")) ao) (Y "Taken")) bU)
  (aO (qY 2 GR Y (aq (vW 0) (aq (vW 3) ao))))))))
noncomputable def zcJ:jU:=iC 5 (λY=>(aH (aP (.tp 2 (.cons (.nm 2) (.cons (.nm 3) .nil))) (vW 1))
  (aH (aP (.nm 4) (ak cz (vW 0) (kW (.str "hands"))))
  (aH (cX (jH (gJ (aZ 1 BJ (aq (vW 3) ao)))) (rH (aq (kW (.str "a hand's name is 1 to 8 small letters")) ao) (Y "BadName")) bU)
  (aH (cX (bA (ak (eU false) (vW 3) (vW 4))) (rH (aq (kW (.str "there is a hand of this name")) ao) (Y "Taken")) bU)
  (aH (cX (bA (ak Es (cbW fY (aq (vW 4) ao)) (kW (.int 10)))) (rH (aq (kW (.str "there is no room for another hand")) ao) (Y "Full")) bU)
  (aO (aZ 3 rF (aq (vW 0) (aq (kW (.str "hands")) (aq (ak aU (vW 4) (bK (aq (vW 3) ao))) ao)))))))))))
def CG:jU:=iC 3 (λY=>(aH (aP (.nm 2) (aZ 2 Bj (aq (vW 0) (aq (vW 1) ao))))
  (aH (cX (bA (ak cD (vW 2) (kW (.int 0)))) (rH (aq (kW (.str "there is no mark of this name")) ao) (Y "NoMark")) bU)
  (aO (bK (aq (vW 1) (aq (vW 2) ao)))))))
def zdc:jU:=iC 2 (λY=>(cX (bA (ak (eU true) (vW 1) (ak cz (vW 0) (kW (.str "hands"))))) (rH (aq (kW (.str "there is no hand of this name")) ao) (Y "NoHand")) bU))
def J3:jU:=iC 1 (λY=>(cX (bA (ak Ek (cbW qz (aq (vW 0) ao)) (kW (.int 1000000000)))) (rH (aq (kW (.str "the rise is beyond the bounds")) ao) (Y "BadRise")) bU))
noncomputable def zdk:jU:=iC 13 (λY=>(aH (aP (.tp 5 (.cons (.nm 2) (.cons (.nm 3) (.cons (.nm 4) (.cons (.nm 5) (.cons (.nm 6) .nil)))))) (vW 1))
  (aH (aP (.tp 2 (.cons (.nm 7) (.cons (.nm 8) .nil))) (qY 2 CG Y (aq (ak cz (vW 0) (kW (.str "stands"))) (aq (vW 3) ao))))
  (aH (aP (.tp 2 (.cons (.nm 9) (.cons (.nm 10) .nil))) (qY 2 CG Y (aq (ak cz (vW 0) (kW (.str "stands"))) (aq (vW 4) ao))))
  (aH (cX (bA (ak cD (vW 3) (vW 4))) (rH (aq (kW (.str "a run goes between two marks")) ao) (Y "Same")) bU)
  (aH (Ci (qY 2 zdc Y (aq (vW 0) (aq (vW 6) ao))))
  (aH (Ci (qY 1 J3 Y (aq (vW 5) ao)))
  (aH (cX (bA (ak Es (cbW fY (aq (ak cz (vW 0) (kW (.str "runs"))) ao)) (kW (.int 40)))) (rH (aq (kW (.str "there is no room for another run")) ao) (Y "Full")) bU)
  (aH (aP (.nm 11) (ak aU (ak cz (vW 0) (kW (.str "entered"))) (kW (.int 1))))
  (aH (aP (.nm 12) (bK (aq (vW 11) (aq (vW 7) (aq (vW 8) (aq (vW 9) (aq (vW 10) (aq (vW 5) (aq (vW 6) ao)))))))))
  (aO (aZ 3 rF (aq (aZ 3 rF (aq (vW 0) (aq (kW (.str "entered")) (aq (vW 11) ao)))) (aq (kW (.str "runs")) (aq (ak aU (ak cz (vW 0) (kW (.str "runs"))) (bK (aq (vW 12) ao))) ao)))))))))))))))
def Hu:jU:=iC 2 (λY=>(cX (bA (ak (eU true) (vW 1) (aN (eY [none] (gq (ak cz (vW 0) (kW (.str "runs")))) (.nm 0) cW (ak aC (vW 0) (kW (.int 0))))))) (rH (aq (kW (.str "no run of this number stands")) ao) (Y "NoRun")) bU))
noncomputable def zdF:jU:=iC 4 (λY=>(aH (aP (.tp 2 (.cons (.nm 2) (.cons (.nm 3) .nil))) (vW 1))
  (aH (Ci (qY 2 Hu Y (aq (vW 0) (aq (vW 3) ao))))
  (aO (aZ 3 rF (aq (vW 0) (aq (kW (.str "runs")) (aq (cbW zm (aq (aN (eY [none,some 3] (gq (ak cz (vW 0) (kW (.str "runs")))) (.nm 0) (bA (ak lW (ak aC (vW 0) (kW (.int 0))) (vW 1))) (vW 0))) ao)) ao))))))))
noncomputable def zdK:jU:=iC 6 (λY=>(aH (aP (.tp 3 (.cons (.nm 2) (.cons (.nm 3) (.cons (.nm 4) .nil)))) (vW 1))
  (aH (Ci (qY 2 Hu Y (aq (vW 0) (aq (vW 3) ao))))
  (aH (Ci (qY 1 J3 Y (aq (vW 4) ao)))
  (aH (aP (.nm 5) (aN (eY [none,some 3,some 4] (gq (ak cz (vW 0) (kW (.str "runs")))) (.nm 0) cW (ifW (bA (ak cD (ak aC (vW 0) (kW (.int 0))) (vW 1))) (ak aU (fu (vW 0) my (mD (kW (.int 5)))) (bK (aq (vW 2) (aq (ak aC (vW 0) (kW (.int 6))) ao)))) (vW 0)))))
  (aO (aZ 3 rF (aq (vW 0) (aq (kW (.str "runs")) (aq (cbW zm (aq (vW 5) ao)) ao))))))))))
def zcM:jU:=iC 6 (λY=>(aH (aP (.tp 2 (.cons (.nm 2) (.cons (.nm 3) .nil))) (vW 1))
  (aH (aP (.tp 2 (.cons (.nm 4) (.cons (.nm 5) .nil))) (qY 2 CG Y (aq (ak cz (vW 0) (kW (.str "stands"))) (aq (vW 3) ao))))
  (aO (qY 2 GR Y (aq (vW 0) (aq (vW 4) ao)))))))
noncomputable def zbu:jU:=iC 4 (λY=>(aH (aP (.tp 2 (.cons (.nm 2) (.cons (.nm 3) .nil))) (vW 1))
  (aH (cX (rB (bA (ak GP (vW 3) (kW (.int 0)))) (bA (ak Ek (vW 3) (kW (.int 3))))) (rH (aq (kW (.str "so many false hands can't be allowed for")) ao) (Y "BadNumber")) bU)
  (aO (aZ 3 rF (aq (vW 0) (aq (kW (.str "allowed")) (aq (vW 3) ao))))))))
def zH(A:gK):List (Str×D):=[("mark",.obj A.mark_entered),("hand",.obj A.hand_entered),("run",.obj A.run_entered),("strike",.obj A.run_struck),("mend",.obj A.run_mended),("settle",.obj A.mark_settled),("aside",.obj A.hand_set_aside),("heed",.obj A.hand_heeded),("allow",.obj A.number_allowed)]
def jY(A:gK):List (Addr×jU):=[(A.mark_entered,zcV),(A.hand_entered,zcJ),(A.run_entered,zdk),(A.run_struck,zdF),(A.run_mended,zdK),(A.mark_settled,zcM),(A.number_allowed,zbu)]
def Ij(A:gK):jU:=iC 3 (λY=>(aH (aP (.nm 2) (BX (zH A) (ak aC (vW 1) (kW (.int 0)))))
  (aO (zlG 2 2 (jY A) Y (aq (vW 0) (aq (vW 1) ao))))))
def qU(A:gK):bN->Fn:=λqj=>eG 1 ((aO (yd qj 0 "books" A.fen (uh kJ (kW (.int 1))))))
noncomputable def zR(A:gK):m7:=nu 3 (λY=>(bQ (j5 (.nm 2) (zra 2 (Ij A) Y (eQ (eZ λqj=>(jT qj 0 A.fen "now" 1 (qU A) (λ_ Q=>Q []))) (eQ (eZ λqj=>(vW 1)) fU))))
  (bQ (j7 0 "kept" A.fen (λqj=>(vW 1)))
  (bQ (j7 0 "books" A.fen (λqj=>(vW 2)))
  (bQ (jw 0 "undone" A.fen (λqj=>(bh ao)))
  (bQ (iQ λqj=>(cX (bA (ak cD (ak aC (vW 1) (kW (.int 0))) (kW (.str "run")))) (aO (ak cz (vW 2) (kW (.str "entered")))) bU))
  (iQ λqj=>(aO (kW .non)))))))))
def HB:Fn:=eG 2 ((aO (ak aC (aN (bh (aq (kW .non) (aq (ak aU (ak cz (vW 0) (kW (.str "entered"))) (kW (.int 1))) ao)))) (cbW mQ (aq (ak cD (ak aC (vW 1) (kW (.int 0))) (kW (.str "run"))) ao)))))
noncomputable def wB(A:gK):m7:=nu 3 (λY=>(bQ (Bl (zs0 2 (xf 6) (eQ (qZ 0 A.fen "deed" 2 (zR A) (λ_ _=>False) (eQ (eZ λqj=>(vW 2)) fU)) (eQ (eZ λqj=>(aZ 2 HB (aq (vW 1) (aq (vW 2) ao)))) fU))) (iQ λqj=>(aO (kW .non))) nilF)
  (iQ λqj=>(aO (aZ 2 Gg (aq (vW 1) (aq (vW 2) ao)))))))
def v6:Fn:=eG 1 ((aO (aN (eY [none,none] (gq (ak cz (vW 0) (kW (.str "places")))) (.tp 2 (.cons (.nm 0) (.cons (.nm 1) .nil))) (bA (ak cD (vW 1) (kW (.int 1)))) (vW 0)))))
def Gp:Fn:=eG 1 ((aO (ak ik (ak kO (ak jb (ak jb (vW 0) (vW 0)) (kW (.int 3))) (kW (.int 17))) (vW 0))))
noncomputable def Ef:Fn:=eG 8 ((aH (aP (.nm 2) (aZ 1 v6 (aq (vW 1) ao)))
  (aH (aP (.nm 3) (aN (J6 (ak cz (vW 1) (kW (.str "heeded"))))))
  (aH (cX (rB (bA (ak GP (cbW fY (aq (vW 2) ao)) (kW (.int 2)))) (rB (bA (ak cD (vW 3) (aN (bh ao)))) (bA (ak Es (cbW fY (aq (ak cz (vW 1) (kW (.str "rows"))) ao)) (kW (.int 40)))))) (aO (kW .non)) bU)
  (aH (aP (.nm 4) (aZ 2 dg (aq (vW 0) (aq (cbW fY (aq (vW 2) ao)) ao))))
  (aH (Hk 5 6 (ak aC (vW 2) (vW 4)) (ak aC (vW 2) (ak kO (ak aU (ak aU (vW 4) (kW (.int 1))) (aZ 2 dg (aq (vW 0) (aq (ak ik (cbW fY (aq (vW 2) ao)) (kW (.int 1))) ao)))) (cbW fY (aq (vW 2) ao)))))
  (aH (aP (.nm 7) (ak ik (aZ 1 Gp (aq (aZ 2 uQ (aq (vW 1) (aq (vW 6) ao))) ao)) (aZ 1 Gp (aq (aZ 2 uQ (aq (vW 1) (aq (vW 5) ao))) ao))))
  (aH (cX (bA (ak cD (aZ 2 dg (aq (vW 0) (aq (kW (.int 4)) ao))) (kW (.int 0)))) (aP (.nm 7) (ak aC (aN (bh (aq (ak aU (vW 7) (kW (.int 1))) (aq (ak ik (vW 7) (kW (.int 2))) (aq (aZ 2 dg (aq (vW 0) (aq (kW (.int 1000000000)) ao))) (aq (uh kJ (kW (.int 1000000000))) ao)))))) (aZ 2 dg (aq (vW 0) (aq (kW (.int 4)) ao))))) bU)
  (aO (bK (aq (kW (.str "run")) (aq (vW 5) (aq (vW 6) (aq (vW 7) (aq (ak aC (vW 3) (aZ 2 dg (aq (vW 0) (aq (cbW fY (aq (vW 3) ao)) ao)))) ao)))))))))))))))
noncomputable def zc6(A:gK):m7:=nu 10 (λY=>(bQ (iQ λqj=>(aP (.nm 4) (aZ 2 Km (aq (vW 0) (aq (kW (.int 16)) ao)))))
  (bQ (j5 (.nm 5) (ztr A.fen (zcc A) (λ_ _=>False)))
  (bQ (iQ λqj=>(aP (.nm 6) (aZ 0 zc3 ao)))
  (bQ (iQ λqj=>(lq 7 (eY [none,some 4] (qM (ak aU (kW (.int 1)) (aZ 2 dg (aq (vW 0) (aq (vW 1) ao))))) (.nm 0) cW (bK (aq (kW (.str "mark")) (aq (ak aC (vW 1) (vW 0)) ao))))))
  (bQ (iQ λqj=>(nG 7 (lq 7 (HY (vW 7) (aN (eY [none,some 4] (qM (ak aU (kW (.int 1)) (aZ 2 dg (aq (vW 0) (aq (vW 2) ao))))) (.nm 0) cW (bK (aq (kW (.str "hand")) (aq (ak aC (vW 1) (ak ik (kW (.int 15)) (vW 0))) ao)))))))))
  (bQ (iQ λqj=>(jZ 7 (bK (aq (kW (.str "allow")) (aq (aZ 2 dg (aq (vW 0) (aq (kW (.int 4)) ao))) ao)))))
  (bQ (J2 7 (yg (λqj=>(gq (vW 7))) (.nm 8) (v9 (λqj=>(bA (uo (vW 6)))) (j5 (.nm 6) (qP 3 (wB A) (λ_ _=>False) (eQ (eZ λqj=>(vW 5)) (eQ (eZ λqj=>(vW 6)) (eQ (eZ λqj=>(vW 8)) fU))))) nilF)))
  (bQ (yg (λqj=>(qM (aZ 2 dg (aq (vW 0) (aq (ak aU (vW 3) (kW (.int 1))) ao))))) (.nm 9) (v9 (λqj=>(bA (uo (vW 6)))) (bQ (iQ λqj=>(aP (.nm 8) (aZ 2 Ef (aq (vW 0) (aq (vW 6) ao)))))
  (v9 (λqj=>(bA (uo (vW 8)))) (j5 (.nm 6) (qP 3 (wB A) (λ_ _=>False) (eQ (eZ λqj=>(vW 5)) (eQ (eZ λqj=>(vW 6)) (eQ (eZ λqj=>(vW 8)) fU))))) nilF)) nilF))
  (iQ λqj=>(aO (bK (aq (vW 5) (aq (vW 6) (aq (vW 4) ao)))))))))))))))
noncomputable def zbX:Fn:=eG 7 ((aH (aP (.tp 5 (.cons (.nm 2) (.cons (.nm 3) (.cons (.nm 4) (.cons (.nm 5) (.cons (.nm 6) .nil)))))) (vW 1))
  (aH (cX (rB (bA (ak cD (aZ 2 tO (aq (vW 0) (aq (vW 3) ao))) (kW (.int 0)))) (bA (ak cD (aZ 2 tO (aq (vW 0) (aq (vW 4) ao))) (kW (.int 0))))) (aO (kW (.str "NoMark"))) bU)
  (aH (cX (bA (ak cD (vW 3) (vW 4))) (aO (kW (.str "Same"))) bU)
  (aH (cX (nF true (vW 6) (ak cz (vW 0) (kW (.str "heeded")))) (aO (kW (.str "NoHand"))) bU)
  (aH (cX (jH (bA (uV mz mz (uh kJ (kW (.int 1000000000))) (vW 5) (kW (.int 1000000000))))) (aO (kW (.str "BadRise"))) bU)
  (aO (ak aC (aN (bh (aq (kW (.str "")) (aq (kW (.str "Full")) ao)))) (cbW mQ (aq (ak cD (cbW fY (aq (ak cz (vW 0) (kW (.str "rows"))) ao)) (kW (.int 40))) ao))))))))))
noncomputable def Kg:Fn:=eG 2 ((aH (cX (jH (gJ (aZ 1 HX (aq (ak aC (vW 1) (kW (.int 1))) ao)))) (aO (kW (.str "BadName"))) bU)
  (aH (cX (bA (ak cD (ak aC (vW 1) (kW (.int 0))) (kW (.str "hand")))) (aH (cX (nF false (ak aC (vW 1) (kW (.int 1))) (ak cz (vW 0) (kW (.str "heeded")))) (aO (kW (.str "Taken"))) bU)
  (aO (ak aC (aN (bh (aq (kW (.str "")) (aq (kW (.str "Full")) ao)))) (cbW mQ (aq (ak cD (zrV (ak cz (vW 0) (kW (.str "heeded")))) (kW (.int 10))) ao))))) bU)
  (aH (cX (bA (ak Ek (aZ 2 tO (aq (vW 0) (aq (ak aC (vW 1) (kW (.int 1))) ao))) (kW (.int 0)))) (aO (kW (.str "Taken"))) bU)
  (aO (ak aC (aN (bh (aq (kW (.str "")) (aq (kW (.str "Full")) ao)))) (cbW mQ (aq (ak cD (cbW fY (aq (ak cz (vW 0) (kW (.str "places"))) ao)) (kW (.int 12))) ao))))))))
noncomputable def Fe:Fn:=eG 2 ((aH (cX (bA (ak cD (ak aC (vW 1) (kW (.int 0))) (kW (.str "run")))) (aO (aZ 2 zbX (aq (vW 0) (aq (vW 1) ao)))) bU)
  (aH (cX (bA (ak (eU false) (ak aC (vW 1) (kW (.int 0))) (bK (aq (kW (.str "mark")) (aq (kW (.str "hand")) ao))))) (aO (aZ 2 Kg (aq (vW 0) (aq (vW 1) ao)))) bU)
  (aH (cX (bA (ak cD (ak aC (vW 1) (kW (.int 0))) (kW (.str "settle")))) (aH (cX (bA (ak cD (aZ 2 tO (aq (vW 0) (aq (ak aC (vW 1) (kW (.int 1))) ao))) (kW (.int 0)))) (aO (kW (.str "NoMark"))) bU)
  (aO (ak aC (aN (bh (aq (kW (.str "")) (aq (kW (.str "Full")) ao)))) (cbW mQ (aq (ak cD (cbW fY (aq (ak cz (vW 0) (kW (.str "places"))) ao)) (kW (.int 12))) ao))))) bU)
  (aH (cX (bA (ak (eU false) (ak aC (vW 1) (kW (.int 0))) (bK (aq (kW (.str "strike")) (aq (kW (.str "mend")) ao))))) (aH (cX (jH (gJ (cbW anyF (aq (aN (eY [none,some 1] (gq (ak cz (vW 0) (kW (.str "rows")))) (.nm 0) cW (ak cD (ak aC (vW 0) (kW (.int 0))) (ak aC (vW 1) (kW (.int 1)))))) ao)))) (aO (kW (.str "NoRun"))) bU)
  (aO (ak aC (aN (bh (aq (kW (.str "")) (aq (kW (.str "BadRise")) ao)))) (cbW mQ (aq (pC (ak cD (ak aC (vW 1) (kW (.int 0))) (kW (.str "mend"))) (xg (uV mz mz (uh kJ (kW (.int 1000000000))) (ak aC (vW 1) (kW (.int 2))) (kW (.int 1000000000))))) ao))))) bU)
  (aH (cX (bA (ak cD (ak aC (vW 1) (kW (.int 0))) (kW (.str "allow")))) (aO (ak aC (aN (bh (aq (kW (.str "BadNumber")) (aq (kW (.str "")) ao)))) (cbW mQ (aq (uV mz mz (kW (.int 0)) (ak aC (vW 1) (kW (.int 1))) (kW (.int 3))) ao)))) bU)
  (aH (cX (nF true (ak aC (vW 1) (kW (.int 1))) (ak cz (vW 0) (kW (.str "heeded")))) (aO (kW (.str "NoHand"))) bU)
  (aH (cX (bA (ak cD (ak aC (vW 1) (kW (.int 0))) (kW (.str "aside")))) (aO (ak aC (aN (bh (aq (kW (.str "Aside")) (aq (kW (.str "")) ao)))) (cbW mQ (aq (ak cz (ak cz (vW 0) (kW (.str "heeded"))) (ak aC (vW 1) (kW (.int 1)))) ao)))) bU)
  (aO (ak aC (aN (bh (aq (kW (.str "")) (aq (kW (.str "NotAside")) ao)))) (cbW mQ (aq (ak cz (ak cz (vW 0) (kW (.str "heeded"))) (ak aC (vW 1) (kW (.int 1)))) ao))))))))))))
noncomputable def zdd(nm:Str)(ea:Addr):Fn:=eG 3 ((aH (aP (.nm 1) (aN (bh (aq (d8 (vW 0) ea (decide (nm="BadName"))) (aq (d8 (vW 0) ea (decide (nm="Taken"))) (aq (d8 (vW 0) ea (decide (nm="Full"))) (aq (d8 (vW 0) ea (decide (nm="NoMark"))) ao)))))))
  (aH (aP (.nm 1) (ak aU (vW 1) (aN (bh (aq (d8 (vW 0) ea (decide (nm="NoHand"))) (aq (d8 (vW 0) ea (decide (nm="Same"))) (aq (d8 (vW 0) ea (decide (nm="BadRise"))) (aq (d8 (vW 0) ea (decide (nm="NoRun"))) ao))))))))
  (aH (aP (.nm 1) (ak aU (vW 1) (aN (bh (aq (d8 (vW 0) ea (decide (nm="Aside"))) (aq (d8 (vW 0) ea (decide (nm="NotAside"))) (aq (d8 (vW 0) ea (decide (nm="BadNumber"))) (aq (d8 (vW 0) ea (decide (nm="NothingLeft"))) ao))))))))
  (aH (aP (.nm 1) (ak aU (vW 1) (aN (bh (aq (d8 (vW 0) ea (decide (nm="Steady"))) (aq (d8 (vW 0) ea (decide (nm="NoDeed"))) (aq (d8 (vW 0) ea (decide (nm="Known"))) (aq (d8 (vW 0) ea (decide (nm="NoFen"))) ao))))))))
  (aH (aP (.nm 1) (ak aU (vW 1) (aN (bh (aq (d8 (vW 0) ea (decide (nm="Settled"))) (aq (d8 (vW 0) ea (decide (nm="NoPage"))) (aq (xg (d8 (vW 0) ea true)) ao)))))))
  (aH (aP (.nm 2) (kW (.str "BadName Taken Full NoMark NoHand Same BadRise NoRun Aside NotAside BadNumber NothingLeft")))
  (aH (aP (.nm 2) (uT Jy (ak aU (vW 2) (kW (.str " Steady NoDeed Known NoFen Settled NoPage nothing"))) (kW (.str " "))))
  (aO (aN (eY [none,some 2,some 1] (qM (cbW fY (aq (vW 2) ao))) (.nm 0) (gJ (ak aC (vW 2) (vW 0))) (ak aC (vW 1) (vW 0)))))))))))))
def Ko(A:gK):m7:=nu 5 (λY=>(bQ (iQ λqj=>(aP (.nm 2) (kW .non)))
  (bQ (iQ λqj=>(aP (.nm 3) (aN (bh ao))))
  (bQ (zqx 2 4 3 (λY1=>qZ 0 A.fen "deed" 2 (zR A) Y1 (eQ (eZ λqj=>(vW 1)) fU)) (kdN ur))
  (iQ λqj=>(aO (bK (aq (vW 2) (aq (vW 3) ao)))))))))
noncomputable def GC(A:gK):m7:=nu 4 (λY=>(bQ (iQ λqj=>(aP (.nm 3) (aZ 2 Fe (aq (vW 1) (aq (vW 2) ao)))))
  (bQ (v9 (λqj=>(bA (ak cD (vW 3) (kW (.str ""))))) (Fi (qP 3 (wB A) (λ_ _=>False) (eQ (eZ λqj=>(vW 0)) (eQ (eZ λqj=>(vW 1)) (eQ (eZ λqj=>(vW 2)) fU))))) nilF)
  (bQ (Bl (zs0 2 (xf 6) (eQ (qP 2 (Ko A) (λ_ _=>False) (eQ (eZ λqj=>(vW 0)) (eQ (eZ λqj=>(vW 2)) fU))) (eQ (eZ λqj=>(bK (aq (kW .non) (aq (aN (bh (aq (vW 3) ao))) ao)))) fU))) (iQ λqj=>(aO (kW .non))) nilF)
  (iQ λqj=>(aO (vW 1)))))))
noncomputable def zbL:Fn:=eG 8 ((aH (aP (.nm 4) (ak aU (kW (.int 1)) (aZ 2 dg (aq (vW 0) (aq (ak ik (cbW fY (aq (vW 3) ao)) (kW (.int 1))) ao)))))
  (aH (cX (gJ (jk "str" (ak aC (vW 3) (vW 4)))) (aH (aP (.nm 5) (aN (bh (aq (kW (.str "")) (aq (ak aU (ak aC (vW 2) (kW (.int 0))) (ak Dn (fu (ak aC (vW 2) (kW (.int 0))) my (mD (kW (.int 1)))) (kW (.int 8)))) (aq (ak aU (fu (ak aC (vW 2) (kW (.int 0))) my (mD (kW (.int 7)))) (kW (.str "A"))) (aq (ak aU (fu (ak aC (vW 2) (kW (.int 0))) my (mD (kW (.int 3)))) (kW (.str " a"))) (aq (kW (.str "1")) ao))))))))
  (aH (aP (.nm 6) (ak aU (ak aU (ak aU (vW 2) (aZ 1 v6 (aq (vW 1) ao))) (aN (J6 (ak cz (vW 1) (kW (.str "heeded")))))) (vW 5)))
  (aP (.nm 7) (ak aC (vW 6) (aZ 2 dg (aq (vW 0) (aq (cbW fY (aq (vW 6) ao)) ao))))))) (aH (aP (.nm 6) (aN (bh (aq (kW (.int 0)) (aq (uh kJ (kW (.int 1))) (aq (kW (.int 1)) (aq (kW (.int 3)) (aq (kW (.int 4)) (aq (kW (.int 1000000000)) (aq (kW (.int 1000000001)) (aq (uh kJ (kW (.int 1000000000))) (aq (uh kJ (kW (.int 1000000001))) (aq (ak sU (kW (.int 10)) (kW (.int 20))) (aq (uh kJ (ak sU (kW (.int 10)) (kW (.int 20)))) ao))))))))))))))
  (aP (.nm 7) (ak aC (ak aU (vW 6) (aN (bh (aq (ak cz (vW 1) (kW (.str "entered"))) (aq (ak aU (ak cz (vW 1) (kW (.str "entered"))) (kW (.int 1))) ao))))) (aZ 2 dg (aq (vW 0) (aq (ak aU (cbW fY (aq (vW 6) ao)) (kW (.int 2))) ao)))))))
  (aO (ak aU (ak aU (fu (vW 3) my (mD (vW 4))) (bK (aq (vW 7) ao))) (fu (vW 3) (mD (ak aU (vW 4) (kW (.int 1)))) my))))))
def zey:Fn:=eG 1 ((aO (aN (eY [none,none] (gq (vW 0)) (.tp 2 (.cons (.nm 0) (.cons (.nm 1) .nil))) (bA (ak cD (vW 1) (kW (.int 1)))) (vW 0)))))
def zdE(A:gK):bN->Fn:=λqj=>eG 1 ((aO (aZ 1 zey (aq (ak cz (jT qj 0 A.fen "now" 1 (qU A) (λ_ Q=>Q [])) (kW (.str "stands"))) ao))))
def zdR(A:gK):bN->Fn:=λqj=>eG 1 ((aO (aN (CJ (ak cz (jT qj 0 A.fen "now" 1 (qU A) (λ_ Q=>Q [])) (kW (.str "hands")))))))
def zda(A:gK):bN->Fn:=λqj=>eG 2 ((aH (aP (.nm 1) (jT qj 0 A.fen "now" 1 (qU A) (λ_ Q=>Q [])))
  (aO (aN (eY [none,some 1] (gq (ak cz (vW 1) (kW (.str "hands")))) (.nm 0) (bA (ak (eU false) (vW 0) (ak cz (vW 1) (kW (.str "aside"))))) (vW 0))))))
def zc5(A:gK):bN->Fn:=λqj=>eG 1 ((aO (aN (CJ (ak cz (jT qj 0 A.fen "now" 1 (qU A) (λ_ Q=>Q [])) (kW (.str "stands")))))))
def zcD(A:gK):bN->Fn:=λqj=>eG 1 ((aO (ak cz (jT qj 0 A.fen "now" 1 (qU A) (λ_ Q=>Q [])) (kW (.str "allowed")))))
def zeA(A:gK):bN->Fn:=λqj=>eG 1 ((aO (aN (CJ (ak cz (jT qj 0 A.fen "now" 1 (qU A) (λ_ Q=>Q [])) (kW (.str "runs")))))))
def zbt:Fn:=eG 1 ((aO (aN (eY [none,some 0] (gq (ak cz (vW 0) (kW (.str "runs")))) (.nm 0) (bA (ak (eU true) (ak aC (vW 0) (kW (.int 6))) (ak cz (vW 1) (kW (.str "aside"))))) (vW 0)))))
def zcd(A:gK):bN->Fn:=λqj=>eG 1 ((aO (aN (eY [none] (gq (aZ 1 zbt (aq (jT qj 0 A.fen "now" 1 (qU A) (λ_ Q=>Q [])) ao))) (.nm 0) cW (ak aC (vW 0) (kW (.int 0)))))))
def zdM(A:gK):bN->Fn:=λqj=>eG 1 ((aO (aN (wO qj 0 "kept" A.fen))))
noncomputable def zdT(A:gK):bN->Fn:=λqj=>eG 2 ((aH (aP (.nm 1) (aN (bh (aq (jT qj 0 A.fen "marks" 1 (zdE A) (λ_ Q=>Q [])) (aq (jT qj 0 A.fen "hands" 1 (zdR A) (λ_ Q=>Q [])) (aq (jT qj 0 A.fen "asides" 1 (zda A) (λ_ Q=>Q [])) (aq (jT qj 0 A.fen "stands" 1 (zc5 A) (λ_ Q=>Q [])) (aq (jT qj 0 A.fen "allowed" 1 (zcD A) (λ_ Q=>Q [])) (aq (jT qj 0 A.fen "runs" 1 (zeA A) (λ_ Q=>Q [])) (aq (jT qj 0 A.fen "counting" 1 (zcd A) (λ_ Q=>Q [])) ao))))))))))
  (aO (ak aU (vW 1) (aN (bh (aq (jT qj 0 A.fen "deeds" 1 (zdM A) (λ_ Q=>Q [])) ao)))))))
def zce:Fn:=eG 1 ((aO (aN (eY [none,some 0] (gq (ak cz (vW 0) (kW (.str "rows")))) (.nm 0) (gJ (ak cz (ak cz (vW 1) (kW (.str "heeded"))) (ak aC (vW 0) (kW (.int 4))))) (vW 0)))))
noncomputable def zex:Fn:=eG 5 ((aH (aP (.nm 1) (ak cz (vW 0) (kW (.str "places"))))
  (aH (aP (.nm 2) (aN (eY [none,some 1] (gq (ak cz (vW 0) (kW (.str "rows")))) (.nm 0) cW (ak aU (ak aU (ak aU (bK (aq (ak aC (vW 0) (kW (.int 0))) ao)) (ak aC (vW 1) (ak aC (vW 0) (kW (.int 1))))) (ak aC (vW 1) (ak aC (vW 0) (kW (.int 2))))) (fu (vW 0) (mD (kW (.int 3))) my)))))
  (aH (aP (.nm 3) (aN (eY [none,some 0] (zsZ (ak cz (vW 0) (kW (.str "heeded")))) (.nm 0) (jH (gJ (ak cz (ak cz (vW 1) (kW (.str "heeded"))) (vW 0)))) (vW 0))))
  (aH (aP (.nm 4) (aN (bh (aq (aZ 1 v6 (aq (vW 0) ao)) (aq (aN (J6 (ak cz (vW 0) (kW (.str "heeded"))))) (aq (vW 3) (aq (vW 1) (aq (ak cz (vW 0) (kW (.str "many"))) (aq (vW 2) ao)))))))))
  (aO (ak aU (vW 4) (aN (bh (aq (aN (eY [none] (gq (aZ 1 zce (aq (vW 0) ao))) (.nm 0) cW (ak aC (vW 0) (kW (.int 0))))) (aq (ak cz (vW 0) (kW (.str "deeds"))) ao)))))))))))
def Em(A:gK):bN->Fn:=λqj=>eG 2 ((aO (aZ 2 (xf 6) (aq (Gd qj 1 (zdT A) (aq (vW 0) ao)) (aq (aZ 1 zex (aq (vW 1) ao)) ao)))))
noncomputable def J9(A:gK):WF:=(bQ (j5 (.tp 3 (.cons (.nm 2) (.cons (.nm 3) (.cons (.nm 4) .nil)))) (qP 4 (zc6 A) (λ_ _=>False) (eQ (eZ λqj=>(vW 1)) (eQ (eZ λqj=>(kW (.int 5))) (eQ (eZ λqj=>(kW (.int 4))) (eQ (eZ λqj=>(ak aC (aN (bh (aq (kW (.int 6)) (aq (kW (.int 38)) ao)))) (aZ 2 dg (aq (vW 1) (aq (kW (.int 2)) ao))))) fU))))))
  (bQ (iQ λqj=>(cX (bA (j6 (vW 3))) (aO (kW (.bl false))) bU))
  (bQ (yg (λqj=>(qM (ak aU (kW (.int 5)) (aZ 2 dg (aq (vW 1) (aq (kW (.int 10)) ao)))))) (.nm 5) (bQ (iQ λqj=>(aP (.nm 6) (aZ 2 dg (aq (vW 1) (aq (kW (.int 6)) ao)))))
  (bQ (iQ λqj=>(aP (.nm 7) (aZ 2 dg (aq (vW 1) (aq (ak aU (ak cz (vW 3) (kW (.str "entered"))) (kW (.int 2))) ao)))))
  (bQ (iQ λqj=>(aP (.nm 8) (ak aU (aZ 1 v6 (aq (vW 3) ao)) (fu (vW 4) my (mD (kW (.int 1)))))))
  (bQ (iQ λqj=>(aP (.nm 9) (ak aC (vW 8) (aZ 2 dg (aq (vW 1) (aq (cbW fY (aq (vW 8) ao)) ao))))))
  (bQ (iQ λqj=>(aP (.nm 10) (bK (aq (kW (.str "run")) (aq (vW 9) (aq (ak aC (vW 8) (aZ 2 dg (aq (vW 1) (aq (cbW fY (aq (vW 8) ao)) ao)))) (aq (ak ik (aZ 2 dg (aq (vW 1) (aq (kW (.int 9)) ao))) (kW (.int 4))) (aq (ak aC (vW 4) (kW (.int 15))) ao))))))))
  (bQ (iQ λqj=>(cX (bA (ak GP (vW 6) (kW (.int 3)))) (aP (.nm 10) (xW (aZ 2 Ef (aq (vW 1) (aq (vW 3) ao))) (vW 10))) (cX (bA (ak cD (vW 6) (kW (.int 3)))) (aP (.nm 10) (bK (aq (kW (.str "strike")) (aq (vW 7) ao)))) (cX (bA (ak cD (vW 6) (kW (.int 4)))) (aP (.nm 10) (bK (aq (kW (.str "mend")) (aq (vW 7) (aq (ak ik (aZ 2 dg (aq (vW 1) (aq (kW (.int 9)) ao))) (kW (.int 4))) ao))))) bU))))
  (bQ (iQ λqj=>(cX (Bv (bA (ak cD (vW 6) (kW (.int 5)))) (bA (ak cD (aZ 2 dg (aq (vW 1) (aq (kW (.int 2)) ao))) (kW (.int 0))))) (aP (.nm 10) (bK (aq (kW (.str "settle")) (aq (vW 9) ao)))) bU))
  (bQ (iQ λqj=>(rP (qM (ak aC (aN (bh (aq (kW (.int 0)) (aq (kW (.int 1)) (aq (kW (.int 2)) (aq (kW (.int 0)) ao)))))) (aZ 2 dg (aq (vW 1) (aq (kW (.int 4)) ao))))) (.nm 11) (aP (.nm 10) (aZ 4 zbL (aq (vW 1) (aq (vW 3) (aq (vW 4) (aq (vW 10) ao))))))))
  (bQ (j5 (.nm 3) (qP 3 (GC A) (λ_ _=>False) (eQ (eZ λqj=>(vW 2)) (eQ (eZ λqj=>(vW 3)) (eQ (eZ λqj=>(vW 10)) fU)))))
  (iQ λqj=>(cX (rB (bA (j6 (vW 3))) (jH (gJ (Gd qj 2 (Em A) (aq (vW 2) (aq (vW 3) ao)))))) (aO (kW (.bl false))) bU))))))))))))
  (iQ λqj=>(aO (kW (.bl true)))))))
def pI(h:F ds P)(k:∀d,P d->Q d):up F ds Q:=⟨P,h,k⟩
def Ck(t:Tg)(C:WT)(E:WE)(Sc:Env)(x:D)(o:Option D):Prop:=∀(Y:D->Prop)(N:Prop),(match o with|some d=>Y d|none=>N)->gD t x Sc λS2=>C S2 λb=>if b=true then E S2 Y else N
theorem zgm{α:Type}(emb:α->D)(g:α->Option D):∀(xs:List α)(acc:List D),(∀x∈xs,Ck t C E Sc (emb x) (g x))->Q (acc++xs.filterMap g)->lD t C E Sc Q (xs.map emb) acc
 |[],acc,_,q=>by simpa[lD]using q
 |x::xs,acc,h,q=>by
  show gD t (emb x) Sc λS2=>C S2 λb=>if b=true then E S2 λd=>lD t C E Sc Q (xs.map emb) (acc++[d])else lD t C E Sc Q (xs.map emb) acc;refine h x gw _ _ ?_;cases e:g x with
  |none=>
   refine zgm emb g xs acc (λy hy=>h y (je _ hy)) ?_;rw[YAV,e]at q;exact q
  |some d=>
   refine zgm emb g xs (acc++[d]) (λy hy=>h y (je _ hy)) ?_;rw[YAV,e]at q;rw[YCh];exact q
theorem zjH{α β:Type}(emb:α->D)(out:β->D)(R:α->β->Prop):∀(xs:List α)(ys:List β),(∀x∈xs,∀Y:D->Prop,(∀y,R x y->Y (out y))->gD t (emb x) Sc λS2=>C S2 λb=>b=true/\E S2 Y) ->
  wF C->(∀zs:List β,zs.length=xs.length->(∀z∈zs,∃x∈xs,R x z)->Q ((ys++zs).map out))->lD t C E Sc Q (xs.map emb) (ys.map out)
 |[],ys,_,_,q=>by simpa[lD]using q [] rfl (λz h=>by cases h)
 |x::xs,ys,h,mC,q=>by
  show gD t (emb x) Sc λS2=>C S2 λb=>if b=true then E S2 λd=>lD t C E Sc Q (xs.map emb) (ys.map out++[d])else lD t C E Sc Q (xs.map emb) (ys.map out);refine tK t (emb x) Sc (λS2 z=>mC S2 _ _ (λb z=>?_) z) (h x gw (λd=>lD t C E Sc Q (xs.map emb) (ys.map out++[d])) λy hy=>?_)
  .rw[z.1,if_pos rfl];exact z.2
  .have:=zjH (t:=t) (C:=C) (E:=E) (Sc:=Sc) (Q:=Q) emb out R xs (ys++[y]) (λx' hx'=>h x' (je _ hx')) mC (λzs hl hz=>by
    have:=q (y::zs) (by simp[hl]) (λz hz'=>by
     rcases ir.mp hz' with e|e
     .exact⟨x,gw,e▸hy⟩
     .obtain⟨x',h1,h2⟩:=hz z e;exact⟨x',je _ h1,h2⟩)
    simpa using this)
   simpa using this
def zoS:wF cW:=λS Q Q' k q=>k _ q
theorem Jc(I:List D->Env->Prop)
  (hs:∀x rest S (E':En),(∀ S,I rest S->E'.nx S)->(∀ S,I rest S->E'.ct S)->(∀d,E.rt d->E'.rt d)->(∀ S,E.nx S->E'.bk S)->I (x::rest) S->gD t x S λS'=>B E' S') (hd:∀ S,I [] S->E.nx S) :
  ∀(xs:List D)(S:Env),I xs S->rD t B E xs S
 |[],S,h=>hd S h
 |x::xs,S,h=>hs x xs S {nx:=rD t B E xs,ct:=rD t B E xs,bk:=E.nx,rt:=E.rt} (Jc I hs hd xs) (Jc I hs hd xs) (λd z=>z) (λS z=>z) h
def jX(i:Int):D.old (.int i)=.int i:=by unfold D.old;rfl
theorem zli(x:Int):∀hs:List Int,inB (.int x) (hs.map D.int)=hs.contains x
 |[]=>rfl
 |y::hs=>by
  have:=zli x hs
  unfold inB at this ⊢;rw[dZ,lV,Ak,this,List.contains_cons];congr 1;show(y==x)=(x==y);exact Bool.beq_comm
theorem zlP:∀hs:List Int,m9 (hs.map D.int)=true
 |[]=>rfl
 |y::hs=>by rw[dZ,m9,zlP hs];rfl
theorem zl8:∀hs:List Int,PyData.depthAll (lV (hs.map D.int))=0
 |[]=>rfl
 |y::hs=>by rw[dZ,lV,PyData.depthAll,zl8 hs];rfl
def zoc(x:Int)(hs:List Int):pZ (.int x) (hs.map D.int):=⟨rfl,zlP hs,by rw[zl8];exact iu (Nat.min_le_left _ _) (by decide)⟩
def Ce(x y:Int):qD (.int x) (.int y):=⟨rfl,rfl,by show min 0 0<=50;decide⟩
def FP(x y:Int):eqB (.int x) (.int y)=decide (x=y):=by
 show(x==y)=_;by_cases h:x=y<;>simp[h]
def tE(x y:Bool):qD (.bl x) (.bl y):=⟨rfl,rfl,by show min 0 0<=50;decide⟩
def zoD{x:Int}{hs:List Int}{n:Bool}{Q:D->Prop}(q:Q (.bl (!hs.contains x))):inD true (.int x) (.lst n (hs.map D.int)) Q:=⟨zoc _ _,by
 have:(if true=true then !inB (.int x) (hs.map D.int)else inB (.int x) (hs.map D.int)) = !hs.contains x:=congrArg (!·) (zli x hs)
 rw[this];exact q⟩
def zq3(q:Q (.bl (decide (x=y)))):cD (.int x) (.int y) Q:=⟨Ce _ _,by rw[FP];exact q⟩
def zus(q:Q (.bl (!decide (x=y)))):lW (.int x) (.int y) Q:=⟨Ce _ _,by rw[FP];exact q⟩
def zkA:D.old .box=.box:=by rw[D.old]
def ji(x:Str):D.old (.str x)=.str x:=by rw[D.old]
def zqU(x:Bool):D.old (.bl x)=.bl x:=by rw[D.old]
def Ez(h0:0<m)(h1:m<2^64)(k:∀x:Int,0<=x->x<m->Q (.int x)):up dg [.box,.int m] Q:=⟨Q,⟨⟨h0,h1⟩,k⟩,λd z=>z⟩
def zoO(m:Int)(n:Nat):iD m (n+1)=.int m::iD (m+1) n:=by
 unfold iD;rw[YCc,dZ,YAL];congr 1
 .simp
 .refine JM λk _=>?_;simp only[Function.comp_apply,Nat.succ_eq_add_one];congr 1;omega
def zig(n:Nat):iD 0 n=(List.range n).map λ(k:Nat)=>D.int (k:Int):=by
 unfold iD;refine JM λk _=>?_;simp
def Av(m:Int)(n:Nat):(iD m n).length=n:=by unfold iD;simp
def zt7{α:Type}(f:α->Bool)(xs:List α):(xs.map λx=>D.bl (f x))=(xs.map f).map D.bl:=by rw[YAL];rfl
def zgq{α:Type}{f:α->Bool}{xs:List α}{n:Bool}{Q:D->Prop}(q:Q (.bl (xs.all f))):mZ [.lst n (xs.map λx=>D.bl (f x))] Q:=
 ⟨xs.map f,zt7 f xs,by rw[List.all_map];exact q⟩
def Dp{α β:Type}(f:α->β)(xs:List α):xs.filterMap (λx=>some (f x))=xs.map f:=by rw[List.filterMap_eq_map']
def Ea{α:Type}(emb:α->D)(g:α->D)(xs:List α)(h:∀x∈xs,Ck t C E Sc (emb x) (some (g x)))(q:Q (xs.map g)):lD t C E Sc Q (xs.map emb) []:=
 zgm emb (λx=>some (g x)) xs [] h (by rw[Dp];exact q)
mutual
def eO:D->Nat->Bool
 |.non,_=>true
 |.bl _,_=>true
 |.int _,_=>true
 |.str x,_=>PyData.canLay0 (.str x)
 |.box,_=>false
 |.obj _,_=>false
 |.dct _ _ _,_=>false
 |.fdc _ _,_=>false
 |.tup xs,n+1=>decide (xs.length<=1000)&&rY xs n
 |.lst _ xs,n+1=>decide (xs.length<=1000)&&rY xs n
 |.tup _,0=>false
 |.lst _ _,0=>false
def rY:List D->Nat->Bool
 |[],_=>true
 |x::xs,n=>eO x n&&rY xs n
end
theorem zeP:∀{xs:List D}{n:Nat}{x:D},rY xs n=true->x∈xs->eO x n=true
 |y::ys,n,x,h,hx=>by
  rw[rY,YAB]at h;rcases ir.mp hx with e|e
  .rw[e];exact h.1
  .exact zeP h.2 e
theorem zgy:∀xs:List D,iH xs xs=xs.map λx=>.tup [x,x]
 |[]=>rfl
 |x::xs=>by rw[iH,zgy xs];rfl
mutual
theorem zkj:∀d:D,d.old.old=d.old
 |.non=>by simp[D.old]
 |.bl _=>by simp[D.old]
 |.int _=>by simp[D.old]
 |.str _=>by simp[D.old]
 |.box=>by simp[D.old]
 |.obj _=>by simp[D.old]
 |.dct _ _ xs=>by rw[D.old,D.old,YAL];congr 1;exact Ih xs
 |.fdc _ xs=>by rw[D.old,D.old,YAL];congr 1;exact Ih xs
 |.tup xs=>by rw[D.old,D.old,YAL];congr 1;exact Ih xs
 |.lst _ xs=>by rw[D.old,D.old,YAL];congr 1;exact Ih xs
theorem Ih:∀xs:List D,xs.map (D.old∘D.old)=xs.map D.old
 |[]=>rfl
 |x::xs=>by rw[dZ,dZ,Ih xs,Function.comp_apply,zkj x]
end
mutual
theorem zep:∀(d:D)(n:Nat),eO d.old n=eO d n
 |.non,_=>by rw[D.old]
 |.bl _,_=>by rw[D.old]
 |.int _,_=>by rw[D.old]
 |.str _,_=>by rw[D.old]
 |.box,_=>by rw[D.old]
 |.obj _,_=>by rw[D.old]
 |.dct _ _ _,_=>by rw[D.old,eO,eO]
 |.fdc _ _,_=>by rw[D.old,eO,eO]
 |.tup xs,n+1=>by rw[D.old,eO,eO,bW,zeK xs n]
 |.lst _ xs,n+1=>by rw[D.old,eO,eO,bW,zeK xs n]
 |.tup xs,0=>by rw[D.old,eO,eO]
 |.lst _ xs,0=>by rw[D.old,eO,eO]
theorem zeK:∀(xs:List D)(n:Nat),rY (xs.map D.old) n=rY xs n
 |[],_=>rfl
 |x::xs,n=>by rw[dZ,rY,rY,zep x n,zeK xs n]
end
def uY:∀{d:D}{n:Nat},eO d n=true->(∀xs,d≠.tup xs)->(∀b xs,d≠.lst b xs)->dR d=true
 |.non,_,_,_,_=>rfl
 |.bl _,_,_,_,_=>rfl
 |.int _,_,_,_,_=>rfl
 |.str x,_,h,_,_=>by rw[eO]at h;rw[dR];exact h
 |.box,_,h,_,_=>by rw[eO]at h;cases h
 |.obj _,_,h,_,_=>by rw[eO]at h;cases h
 |.dct _ _ _,_,h,_,_=>by rw[eO]at h;cases h
 |.fdc _ _,_,h,_,_=>by rw[eO]at h;cases h
 |.tup xs,_,_,h,_=>absurd rfl (h xs)
 |.lst b xs,_,_,_,h=>absurd rfl (h b xs)
theorem FZ:∀(n:Nat)(d e:D),d.old=e.old->eO d n=true->xf (n+1) [d,e] (·=.bl true)
 |n,d,e,he,h=>by
  have ho:=h;rw[<-zep]at ho;unfold xf eG fH;rw[dZ,dZ,<-he];have hoo:d.old.old=d.old:=zkj d;revert ho hoo;generalize d.old=x;intro ho hoo;cases x with
  |non=>rfl
  |bl b=>exact⟨tE _ _,tE _ _,tE _ _,⟨rfl,rfl,by show min 0 0<=50;decide⟩,by show D.bl (b==b)=_;simp⟩
  |int i=>exact⟨tE _ _,tE _ _,tE _ _,Ce _ _,by show D.bl (i==i)=_;simp⟩
  |str z=>exact⟨tE _ _,tE _ _,tE _ _,⟨uY ho (λ_ h=>by cases h) (λ_ _ h=>by cases h),uY ho (λ_ h=>by cases h) (λ_ _ h=>by cases h),by show min 0 0<=50;decide⟩,by show D.bl (z==z)=_;simp⟩
  |box=>rw[eO]at ho;cases ho
  |obj a=>rw[eO]at ho;cases ho
  |dct n ks xs=>rw[eO]at ho;cases ho
  |fdc ks xs=>rw[eO]at ho;cases ho
  |tup xs=>
   cases n with
   |zero=>rw[eO]at ho;cases ho
   |succ n=>
    rw[eO,YAB]at ho;have hl:=YAD ho.1;refine⟨tE _ _,tE _ _,Ce _ _,?_⟩;show yL (.bl (eqB (.int (xs.length:Int)) (.int (xs.length:Int)))) _;rw[FP,iB rfl];show _/\lD _ _ _ _ _ (iH xs xs) [];rw[zgy];refine⟨by rw[bW];omega,Ea (λx=>.tup [x,x]) (λ_=>.bl true) xs (λx hx Y N y=>⟨rfl,rfl,pI (FZ n x x rfl (zeP ho.2 hx)) λd hd=>by subst hd;exact y⟩) ?_⟩;exact zgq (f:=λ_=>true) (xs:=xs) (n:=true) (by show D.bl _=_;congr 1;simp)
  |lst b xs=>
   cases n with
   |zero=>rw[eO]at ho;cases ho
   |succ n=>
    rw[eO,YAB]at ho;have hl:=YAD ho.1;refine⟨tE _ _,tE _ _,Ce _ _,?_⟩;show yL (.bl (eqB (.int (xs.length:Int)) (.int (xs.length:Int)))) _;rw[FP,iB rfl];show _/\lD _ _ _ _ _ (iH xs xs) [];rw[zgy];refine⟨by rw[bW];omega,Ea (λx=>.tup [x,x]) (λ_=>.bl true) xs (λx hx Y N y=>⟨rfl,rfl,pI (FZ n x x rfl (zeP ho.2 hx)) λd hd=>by subst hd;exact y⟩) ?_⟩;exact zgq (f:=λ_=>true) (xs:=xs) (n:=true) (by show D.bl _=_;congr 1;simp)
abbrev sg(x:Str):List Nat:=x.cps.toList
def Jg(x:Str):x.length=(sg x).length:=by unfold Str.length;simp
def ztc(l:List Nat):sg ⟨l.toArray⟩=l:=by simp
def zoh(x y:Str):sg (x++y)=sg x++sg y:=by show(x.cps++y.cps).toList=_;simp
def ziV(x y:Str):eqB (.str x) (.str y)=decide (x=y):=by
 show(x==y)=_;by_cases h:x=y<;>simp[h]
def cC(x:Str):Bool:=PyData.canLay0 (.str x)
def IK(h:∀ch∈sg x,ch<0x110000):cC x=true:=by
 show x.cps.all (·<0x110000)=true;rw[<-Array.all_toList,An];intro ch hc;exact iB (h ch hc)
def bC(h:(sg x).all (λch=>decide (ch<0x110000))=true:=by decide +kernel):cC x=true:=IK λch hc=>YAD (An.mp h ch hc)
def zlr(hx:cC x=true)(hy:cC y=true):qD (.str x) (.str y):=⟨by rw[dR];exact hx,by rw[dR];exact hy,by show min 0 0<=50;decide⟩
def zoI(s:Str)(ch:Nat):mJ s ⟨#[ch]⟩=decide (ch∈sg s):=StrLaws.found_one s ch
def yI(x signs:Str)(n:Int):Bool:=(decide (1<=(x.length:Int))&&decide ((x.length:Int)<=n))&&(sg x).all λch=>decide (ch∈sg signs)
def Ho(h:S[i]?=some (.val d))(q:Q d):vW i S Q:=by unfold vW;rw[h];exact q
def Fy(q:f b):yL (.bl b) f:=q
def zuY{p q:Prop}(h:p):if true=true then p else q:=h
def zmi(q:Q (.bl (decide (i<=j)))):mz (.int i) (.int j) Q:=q
def zht(x signs:Str)(n:Int)(hx:x.length<=100000):Hr [.str x,.str signs,.int n] (·=.bl (yI x signs n)):=by
 unfold Hr eG fH;rw[dZ,dZ,dZ,ji,ji,jX];refine⟨hx,zmi ?_⟩;unfold yI;cases decide (1<=(x.length:Int))with
 |false=>rfl
 |true=>
  refine Fy (zuY (Ho (d:=.int n) rfl (zmi ?_)));cases decide ((x.length:Int)<=n)with
  |false=>rfl
  |true=>
   show _/\lD _ _ _ _ _ (vY x) [];refine⟨by unfold vY;rw[bW,<-Jg];exact hx,?_⟩;unfold vY;refine Ea (λch=>D.str ⟨#[ch]⟩) (λch=>.bl (decide (ch∈sg signs))) (sg x) (λch _ Y N y=>?_) ?_
   .show Y (.bl (if false=true then !mJ signs ⟨#[ch]⟩else mJ signs ⟨#[ch]⟩));rw[if_neg (by decide),zoI];exact y
   .exact zgq (f:=λch=>decide (ch∈sg signs)) (xs:=sg x) (n:=true) (by simp)
abbrev LET:Str:="abcdefghijklmnopqrstuvwxyz"
def znH(ch:Nat):ch∈sg LET↔97<=ch/\ch<=122:=by
 have:sg LET=List.range' 97 26:=by decide +kernel
 rw[this,List.mem_range'];constructor
 .rintro⟨i,h,rfl⟩;omega
 .intro h;exact⟨ch-97,by omega,by omega⟩
def nameB(x:Str):Bool:=yI x LET 8
def zk1(x:Str)(hx:x.length<=100000):BJ [.str x] (·=.bl (nameB x)):=by
 unfold BJ eG fH;rw[dZ,ji];exact⟨rfl,pI (zht x LET 8 hx) λd z=>z⟩
def ziA(x:Str)(lo hi:Option Int):(iI x lo hi).length<=x.length:=by
 rw[Jg,Jg];unfold iI;rw[ztc,DQ,YCt];exact iu (YCs _ _) (Nat.sub_le _ _)
def zlE(h:ch∈sg (iI x lo hi)):ch∈sg x:=by
 unfold iI at h;rw[ztc]at h;exact List.mem_of_mem_drop (List.mem_of_mem_take h)
def ziW(h:cC x=true):∀ch∈sg x,ch<0x110000:=by
 have h:x.cps.all (·<0x110000)=true:=h;rw[<-Array.all_toList,An]at h;intro ch hc;exact YAD (h ch hc)
def zol(h:cC x=true)(lo hi:Option Int):cC (iI x lo hi)=true:=IK λch hc=>ziW h ch (zlE hc)
abbrev sE:Str:=""
theorem zlO:∀ts:List Str,sg (Str.join sE ts)=(ts.map sg).flatten
 |[]=>rfl
 |[t]=>by show sg t=_;simp
 |t::u::r=>by
  show sg (t++sE++Str.join sE (u::r))=_;rw[zoh,zoh,zlO (u::r)]
  have:sg sE=[]:=by decide +kernel
  rw[this,rQ];rfl
def zkf(cs:List Nat):sg (Str.join sE (cs.map λch=>⟨#[ch]⟩))=cs:=by
 rw[zlO,YAL]
 induction cs with
 |nil=>rfl
 |cons ch cs ih=>rw[dZ,BL,ih];rfl
def zsb{cs:List Nat}(h1:1<=cs.length)(h2:cs.length<=8)(h:∀ch∈cs,ch∈sg LET):nameB (Str.join sE (cs.map λch=>⟨#[ch]⟩))=true:=by
 unfold nameB yI;rw[Jg,zkf,iB (by omega:1<=(cs.length:Int)),iB (by omega:(cs.length:Int)<=8),An.mpr λch hc=>iB (h ch hc)];rfl
def tR(ns:List Int):Prop:=∀n∈ns,0<=n/\n<26
def zow(d e:D)(n:Nat):fH (n+2) [d,e]=.val d.old::.val e.old::List.replicate n .un:=by unfold fH;rfl
def zqP(hj:S[j]?=some (.val .box))(hn:n<=1000)(q:∀ns:List Int,ns.length=n->tR ns->Q (ns.map D.int)) :
  (iD 0 n).length<=100000/\lD (.nm 0) cW (aZ 2 dg (aq (vW 1) (aq (kW (.int 26)) ao))) (eE [none,some j] S) Q (iD 0 n) []:=by
 refine⟨by rw[Av];omega,?_⟩;rw[zig]
 have:=zjH (t:=.nm 0) (C:=cW) (E:=aZ 2 dg (aq (vW 1) (aq (kW (.int 26)) ao))) (Sc:=eE [none,some j] S) (Q:=Q) (λk:Nat=>D.int (k:Int)) D.int (λ_ x=>0<=x/\x<26) (List.range n) [] (λx hx Y y=>by
  have e:(eE [none,some j] S)[1]?=some (.val .box):=by
   unfold eE;simp only[dZ,rT,YAA,List.getElem?_cons_zero];rw[hj]
  have e2:((eE [none,some j] S).set 0 (.val (.int x)))[1]?=some (.val .box):=by rw[jE (by decide)];exact e
  exact⟨rfl,Ho e2 ⟨rfl,Ez (by decide) (by decide) λz z0 z1=>y z ⟨z0,z1⟩⟩⟩) zoS (λzs hl hz=>q zs (by rw[hl,wH]) λz hz'=>by obtain⟨x,_,h⟩:=hz z hz';exact h)
 exact this
def Ev(A:WE)(S:Env)(d:D):Prop:=∀P:D->Prop,P d->A S P
def jh(A:WL)(S:Env)(ds:List D):Prop:=∀P:List D->Prop,P ds->A S P
def dU(A:WT)(S:Env)(b:Bool):Prop:=∀P:Bool->Prop,P b->A S P
def zA(A:WO)(S:Env)(o:Option Int):Prop:=∀P:Option Int->Prop,P o->A S P
section
variable{S:Env}{A B V:WE}{R:WL}{C C':WT}{d x y:D}{ds xs:List D}{i n:Nat}{b b':Bool}
def aA(h:S[i]?=some (.val d)):Ev (vW i) S d:=λP p=>Ho h p
def aF:Ev (kW d) S d:=λP p=>p
def lK(hA:Ev A S x)(hB:Ev B S y)(h:∀P:D->Prop,P d->f x y P):Ev (ak f A B) S d:=λP p=>hA _ (hB _ (h P p))
def zqC(hA:Ev A S x)(h:∀P:D->Prop,P d->f x P):Ev (uh f A) S d:=λP p=>hA _ (h P p)
def bL:jh ao S []:=λP p=>p
def aL(hA:Ev A S d)(hR:jh R S ds):jh (aq A R) S (d::ds):=λP p=>hA _ (hR _ p)
def lR(hR:jh R S ds)(h:ds.length<=100000:=by simp):Ev (bK R) S (.tup ds):=λP p=>hR _ ⟨h,p⟩
def kj(hR:jh R S ds)(h:ds.length<=100000:=by simp):jh (bh R) S ds:=λP p=>hR _ ⟨h,p⟩
def fV(hR:jh R S ds):Ev (aN R) S (.lst true ds):=λP p=>hR _ p
def jy(hR:jh R S ds)(h:F ds (·=d))(hl:ds.length=n:=by rfl):Ev (aZ n F R) S d:=λP p=>hR _ ⟨hl,pI h λe z=>by subst z;exact p⟩
def wN(hR:jh R S ds)(h:∀P:D->Prop,P d->f ds P):Ev (cbW f R) S d:=λP p=>hR _ (h P p)
def zvR(hC:dU C S b)(h:if b=true then Ev A S d else Ev B S d):Ev (ifW C A B) S d:=λP p=>hC _ (by cases b<;>exact h P p)
def Bf(hA:Ev A S (.dct nn ks xs))(h:dY ks xs z=some d):Ev (ak cz A (kW (.str z))) S d:=lK hA aF λP p=>by show nJ (dY ks xs z) P;rw[h];exact p
def zu9(hA:Ev A S (.fdc ks xs))(hB:Ev B S (.str z))(h:dY ks xs z=some d):Ev (ak cz A B) S d:=lK hA hB λP p=>by show nJ (dY ks xs z) P;rw[h];exact p
def lH(hA:Ev A S (.tup t))(hB:Ev B S (.int k))(h:gR t k=some d):Ev (ak aC A B) S d:=lK hA hB λP p=>by show(match gR t k with|some d=>P d|none=>False);rw[h];exact p
def ue(hA:Ev A S (.lst m t))(hB:Ev B S (.int k))(h:gR t k=some d):Ev (ak aC A B) S d:=lK hA hB λP p=>by show(match gR t k with|some d=>P d|none=>False);rw[h];exact p
def vB(hA:Ev A S (.int j))(hB:Ev B S (.int k)):Ev (ak aU A B) S (.int (j+k)):=lK hA hB λP p=>p
def Io(hA:Ev A S (.int j))(hB:Ev B S (.int k)):Ev (ak ik A B) S (.int (j-k)):=lK hA hB λP p=>p
def zkQ(hA:Ev A S (.int j))(hB:Ev B S (.int k))(h:∀P:D->Prop,P (.int (j*k))->jb (.int j) (.int k) P):Ev (ak jb A B) S (.int (j*k)):=lK hA hB h
def znq(hA:Ev A S (.int j))(hB:Ev B S (.int k))(h:0<k:=by decide):Ev (ak kO A B) S (.int (j % k)):=lK hA hB λP p=>⟨h,p⟩
def vg(hA:Ev A S (.tup s))(hB:Ev B S (.tup t))(h:s.length+t.length<=100000):Ev (ak aU A B) S (.tup (s++t)):=lK hA hB λP p=>⟨h,p⟩
def rJ(hA:Ev A S (.lst m s))(hB:Ev B S (.lst l t))(h:s.length+t.length<=100000):Ev (ak aU A B) S (.lst true (s++t)):=lK hA hB λP p=>⟨h,p⟩
def Ew(hA:Ev A S (.tup t)):Ev (cbW fY (aq A ao)) S (.int t.length):=wN (aL hA bL) λP p=>p
def ug(hA:Ev A S (.lst m t)):Ev (cbW fY (aq A ao)) S (.int t.length):=wN (aL hA bL) λP p=>p
def ww(hA:Ev A S (.str s))(hB:Ev B S (.str t))(hs:cC s=true)(ht:cC t=true):Ev (ak cD A B) S (.bl (decide (s=t))):=lK hA hB λP p=>⟨zlr hs ht,by rw[ziV];exact p⟩
def zvr(hA:Ev A S (.str s))(hB:Ev B S (.str t))(hs:cC s=true)(ht:cC t=true):Ev (ak lW A B) S (.bl (!decide (s=t))):=lK hA hB λP p=>⟨zlr hs ht,by rw[ziV];exact p⟩
def qI(hA:Ev A S (.int s))(hB:Ev B S (.int t)):Ev (ak cD A B) S (.bl (decide (s=t))):=lK hA hB λP p=>zq3 p
def zrf(hA:Ev A S (.int s))(hB:Ev B S (.int t)):Ev (ak lW A B) S (.bl (!decide (s=t))):=lK hA hB λP p=>zus p
def zqa(hA:Ev A S (.int s))(hB:Ev B S (.int t)):Ev (ak GP A B) S (.bl (decide (s<t))):=lK hA hB λP p=>p
def HQ(hA:Ev A S (.int s))(hB:Ev B S (.int t)):Ev (ak Ek A B) S (.bl (decide (t<s))):=lK hA hB λP p=>p
def CP(hA:Ev A S (.int s))(hB:Ev B S (.int t)):Ev (ak Es A B) S (.bl (decide (t<=s))):=lK hA hB λP p=>p
def zrh(hA:Ev A S x):Ev (j6 A) S (.bl (El x)):=λP p=>hA _ p
def ziS(hA:Ev A S x):Ev (uo A) S (.bl (!El x)):=λP p=>hA _ p
def dI(h:Ev A S (.bl b)):dU (bA A) S b:=λP p=>h _ p
def uw(h:Ev A S (.bl b)):dU (gJ A) S b:=λP p=>h _ p
def yo(h:dU C S b):dU (jH C) S (!b):=λP p=>h _ p
def yt(h:dU C S b)(h':b=false->dU C' S b'):dU (rB C C') S (b || b'):=λP p=>h _ (by
 cases b
 .exact h' rfl P p
 .exact p)
def b8(h:dU C S b)(e:b=b'):dU C S b':=e▸h
def pQ(h:Ev A S x)(e:x=y):Ev A S y:=e▸h
def yj:zA my S none:=λP p=>p
def wU(h:Ev A S (.int k)):zA (mD A) S (some k):=λP p=>h _ p
def Dv(hA:Ev A S (.tup t))(hL:zA L S l)(hU:zA U S u):Ev (fu A L U) S (.tup (cutD t l u)):=λP p=>hA _ (hL _ (hU _ p))
def uD{α:Type}(emb:α->D)(g:α->Option D)(ys:List α)(hI:jh I S (ys.map emb))(hl:ys.length<=100000)(h:∀x∈ys,Ck t C E (eE sub S) (emb x) (g x)):jh (eY sub I t C E) S (ys.filterMap g):=λP p=>
 hI _ ⟨by rw[bW];exact hl,zgm emb g ys [] h (by rw[YC5];exact p)⟩
def Ax(hA:Ev A S (.tup t)):jh (gq A) S t:=λP p=>hA _ p
def v8(hA:Ev A S (.lst m t)):jh (gq A) S t:=λP p=>hA _ p
def zkl(hA:Ev A S (.tup t)):jh (CJ A) S t:=λP p=>hA _ p
def t8(hC:dU C (Sc.set i (.val x)) true)(hE:Ev E (Sc.set i (.val x)) d):Ck (.nm i) C E Sc x (some d):=λY N q=>by
 unfold gD;exact hC _ (hE _ q)
def FW(hC:dU C (Sc.set i (.val x)) false):Ck (.nm i) C E Sc x none:=λY N q=>by
 unfold gD;exact hC _ q
def zua(hC:dU C ((Sc.set i (.val x)).set j (.val y)) true)(hE:Ev E ((Sc.set i (.val x)).set j (.val y)) d):Ck (.tp 2 (.cons (.nm i) (.cons (.nm j) .nil))) C E Sc (.tup [x,y]) (some d):=λY N q=>by
 unfold gD;refine⟨rfl,?_⟩;unfold f9 gD f9 gD f9;exact hC _ (hE _ q)
def zq2(hC:dU C ((Sc.set i (.val x)).set j (.val y)) false):Ck (.tp 2 (.cons (.nm i) (.cons (.nm j) .nil))) C E Sc (.tup [x,y]) none:=λY N q=>by
 unfold gD;refine⟨rfl,?_⟩;unfold f9 gD f9 gD f9;exact hC _ q
def Az:dU cW S true:=λP p=>p
end
section
variable{C:WT}{A B R:WS}{E:En}{S:Env}{V:WE}{d x y:D}{i j k:Nat}
def jP(h:dU C S false)(q:R E S):aH (cX C A bU) R E S:=h _ q
def Bq(h:dU C S false)(q:B E S):cX C A B E S:=h _ q
def Dh(h:dU C S true)(q:A E S):cX C A B E S:=h _ q
def pK(h:dU C S false)(q:aH B R E S):aH (cX C A B) R E S:=h _ q
def jV(h:dU C S true)(q:aH A R E S):aH (cX C A B) R E S:=h _ q
def jM(h:Ev V S d)(q:R E (S.set i (.val d))):aH (aP (.nm i) V) R E S:=h _ (by unfold gD;exact q)
def jg(h:Ev V S d)(q:E.rt d):aO V E S:=h _ q
def Hv(h:Ev V S (.tup [x,y]))(q:R E ((S.set i (.val x)).set j (.val y))):aH (aP (.tp 2 (.cons (.nm i) (.cons (.nm j) .nil))) V) R E S:=by
 refine h _ ?_;unfold gD;refine⟨rfl,?_⟩;unfold f9 gD f9 gD f9;exact q
def zoN(h:Ev V S (.tup [x1,x2,x3,x4,x5]))(q:R E (((((S.set i1 (.val x1)).set i2 (.val x2)).set i3 (.val x3)).set i4 (.val x4)).set i5 (.val x5))) :
  aH (aP (.tp 5 (.cons (.nm i1) (.cons (.nm i2) (.cons (.nm i3) (.cons (.nm i4) (.cons (.nm i5) .nil)))))) V) R E S:=by
 refine h _ ?_;unfold gD;refine⟨rfl,?_⟩;unfold f9 gD f9 gD f9 gD f9 gD f9 gD f9;exact q
def zrI(h:Ev V S (.tup [x1,x2,x3]))(q:R E (((S.set i1 (.val x1)).set i2 (.val x2)).set i3 (.val x3))) :
  aH (aP (.tp 3 (.cons (.nm i1) (.cons (.nm i2) (.cons (.nm i3) .nil)))) V) R E S:=by
 refine h _ ?_;unfold gD;refine⟨rfl,?_⟩;unfold f9 gD f9 gD f9 gD f9;exact q
end
def KW:List Str:=["BadName","Taken","Full","NoMark","NoHand","Same","BadRise","NoRun","Aside","NotAside","BadNumber","NothingLeft","Steady","NoDeed","Known","NoFen","Settled","NoPage","nothing"]
def qG(nm:Str):List Bool:=(KW.take 18).map (λx=>decide (nm=x))++[false]
def zQ(nm:Str)(k:Nat):Option Str:=if (qG nm).getD k false then some (KW.getD k "")else none
def zpk:ur.all (λnm=>decide ((List.range 19).filterMap (zQ nm)=[nm]))=true:=by decide +kernel
def zpH:Txt.split ("BadName Taken Full NoMark NoHand Same BadRise NoRun Aside NotAside BadNumber NothingLeft"++" Steady NoDeed Known NoFen Settled NoPage nothing") " "=KW:=by decide +kernel
def zuI(h:Ev A S (.obj ea)):Ev (d8 A ea b) S (.bl b):=λP p=>h _ ⟨rfl,p⟩
def znM(h:Ev A S (.bl b)):Ev (xg A) S (.bl (!b)):=λP p=>h _ p
def zuQ{A:WE}{S:Env}{n:Nat}(h:Ev A S (.int n))(hn:n<=100000):jh (qM A) S ((List.range n).map λ(k:Nat)=>D.int k):=λP p=>h _ ⟨⟨by omega,by omega⟩,by
 have e:iD 0 (n:Int).toNat=(List.range n).map λ(k:Nat)=>D.int k:=by
  unfold iD
  simp
 rw[e];exact p⟩
def zpM(hA:Ev A S (.str z))(hB:Ev B S (.str b))(h1:b.length≠0)(h2:z.length<=100000):Ev (uT Jy A B) S (.lst true ((Txt.split z b).map D.str)):=λP p=>hA _ (hB _ ⟨⟨h1,h2⟩,p⟩)
def zoM(hA:Ev A S (.str z))(hB:Ev B S (.str b))(h:z.length+b.length<=100000):Ev (ak aU A B) S (.str (z++b)):=lK hA hB λP p=>⟨h,p⟩
def znU{nm:Str}(hn:nm∈ur){s0:Sl}:Ev (aN (eY [none,some 2,some 1] (qM (cbW fY (aq (vW 2) ao))) (.nm 0) (gJ (ak aC (vW 2) (vW 0))) (ak aC (vW 1) (vW 0)))) [s0,.val (.lst true ((qG nm).map D.bl)),.val (.lst true (KW.map D.str))] (.lst true [.str nm]):=by
 have h:=YAD (An.mp zpk nm hn);have e:(List.range 19).filterMap (λk=>(zQ nm k).map D.str)=[D.str nm]:=by
  have:=congrArg (List.map D.str) h
  rw[YCK]at this;exact this
 rw[<-e];refine fV (uD (λk:Nat=>D.int k) _ (List.range 19) (zuQ (n:=19) (ug (t:=KW.map D.str) (aA rfl)) (by decide)) (by decide) λk hk=>?_);have hk:k<19:=J5.mp hk;have lb:(qG nm).length=19:=rfl;have hb:Ev (ak aC (vW 2) (vW 0)) [.val (.int k),.val (.lst true (KW.map D.str)),.val (.lst true ((qG nm).map D.bl))] (.bl ((qG nm).getD k false)):=ue (aA rfl) (aA rfl) (by
  refine gF ?_;rw[jG,jr (by rw[lb];exact hk),YAN,jr (by rw[lb];exact hk)];rfl)
 have hw:Ev (ak aC (vW 1) (vW 0)) [.val (.int k),.val (.lst true (KW.map D.str)),.val (.lst true ((qG nm).map D.bl))] (.str (KW.getD k "")):=ue (aA rfl) (aA rfl) (by
  refine gF ?_;rw[jG,jr (show k<KW.length from hk),YAN,jr (show k<KW.length from hk)];rfl)
 unfold zQ;cases hq:(qG nm).getD k false with
 |true=>exact t8 (uw (hq▸hb)) hw
 |false=>exact FW (uw (hq▸hb))
def zqm:∀nm∈ur,∀ea,up (zdd nm ea) [.obj ea] (λd'=>d'=.lst true [.str nm]):=λnm hn ea=>by
 refine⟨λd=>d=.lst true [.str nm],?_,λ_ z=>z⟩;have e0:∀{S:Env},S[0]?=some (.val (.obj ea))->∀b,Ev (d8 (vW 0) ea b) S (.bl b):=λh b=>zuI (aA h);unfold zdd eG;rw[show fH 3 [D.obj ea]=[.val (.obj ea),.un,.un] by simp[fH,D.old]];refine jM (fV (kj (aL (e0 rfl _) (aL (e0 rfl _) (aL (e0 rfl _) (aL (e0 rfl _) bL)))))) ?_;refine jM (rJ (aA rfl) (fV (kj (aL (e0 rfl _) (aL (e0 rfl _) (aL (e0 rfl _) (aL (e0 rfl _) bL)))))) (by simp)) ?_;refine jM (rJ (aA rfl) (fV (kj (aL (e0 rfl _) (aL (e0 rfl _) (aL (e0 rfl _) (aL (e0 rfl _) bL)))))) (by simp)) ?_;refine jM (rJ (aA rfl) (fV (kj (aL (e0 rfl _) (aL (e0 rfl _) (aL (e0 rfl _) (aL (e0 rfl _) bL)))))) (by simp)) ?_;refine jM (rJ (aA rfl) (fV (kj (aL (e0 rfl _) (aL (e0 rfl _) (aL (znM (e0 rfl true)) bL))))) (by simp)) ?_;refine jM aF ?_;refine jM (zpH▸zpM (zoM (aA rfl) aF (by decide +kernel)) aF (by decide +kernel) (by decide +kernel)) ?_;exact jg (znU hn) rfl
structure Yr where
 n:Int
 a:Nat
 b:Nat
 r:Int
 h:Str
structure Ya where
 pl:List (Str×Nat)
 hs:List (Str×Bool)
 sd:List Str
 rs:List Yr
 en:Int
 al:Int
 ds:List D
def dG(p:Str×Nat):D:=.tup [.str p.1,.int p.2]
def gH(pl:List (Str×Nat))(i:Nat):Str×Nat:=pl.getD i ("",0)
def cM(pl:List (Str×Nat))(r:Yr):D:=.tup [.int r.n,.str (gH pl r.a).1,.int (gH pl r.a).2,.str (gH pl r.b).1,.int (gH pl r.b).2,.int r.r,.str r.h]
def cL(r:Yr):D:=.tup [.int r.n,.int r.a,.int r.b,.int r.r,.str r.h]
abbrev BK:List Str:=["stands","hands","aside","runs","entered","allowed"]
abbrev MK:List Str:=["places","heeded","rows","entered","many","deeds"]
abbrev aY(s:Ya):List Str:=s.hs.map (·.1)
def iy(s:Ya):List D:=[.tup (s.pl.map dG),.tup ((aY s).map D.str),.tup (s.sd.map D.str),.tup (s.rs.map (cM s.pl)),.int s.en,.int s.al]
def cJ(s:Ya):D:=.dct false BK (iy s)
def gY(s:Ya):List D:=[.lst false (s.pl.map dG),.fdc (aY s) (s.hs.map λp=>.bl p.2),.lst false (s.rs.map cL),.int s.en,.int s.al,.lst false s.ds]
def aR(s:Ya):D:=.dct false MK (gY s)
def Gu{xs:List D}(h:∀x∈xs,x.old=x):xs.map D.old=xs:=by
 conv=>rhs;rw[<-List.map_id xs]
 exact JM h
def j9{xs:List D}(h:∀x∈xs,x.old=x):(D.tup xs).old=.tup xs:=by rw[D.old,Gu h]
def iW{n:Bool}{xs:List D}(h:∀x∈xs,x.old=x):(D.lst n xs).old=.lst false xs:=by rw[D.old,Gu h]
def Gj{n:Bool}{ks:List Str}{xs:List D}(h:∀x∈xs,x.old=x):(D.dct n ks xs).old=.dct false ks xs:=by rw[D.old,Gu h]
def zkP{ks:List Str}{xs:List D}(h:∀x∈xs,x.old=x):(D.fdc ks xs).old=.fdc ks xs:=by rw[D.old,Gu h]
def pP(a:Addr):D.old (.obj a)=.obj a:=by rw[D.old]
def pR(x:Str×Nat):(dG x).old=dG x:=j9 (by simp[ji,jX])
def Hg(pl:List (Str×Nat))(r:Yr):(cM pl r).old=cM pl r:=j9 (by simp[ji,jX])
def Bc(r:Yr):(cL r).old=cL r:=j9 (by simp[ji,jX])
def gM{α:Type}{f:α->D}(h:∀x,(f x).old=f x)(xs:List α):∀y∈xs.map f,y.old=y:=λy hy=>by
 obtain⟨x,_,rfl⟩:=YAK.mp hy;exact h x
def yu(s:Ya):∀x∈iy s,x.old=x:=by
 unfold iy;simp only[xY,lB,yp,zF,yq];exact⟨j9 (gM pR _),j9 (gM ji _),j9 (gM ji _),j9 (gM (Hg _) _),jX _,jX _⟩
def rZ(s:Ya):(cJ s).old=cJ s:=Gj (yu s)
def zsm{s:Ya}(h:∀d∈s.ds,d.old=d):∀x∈gY s,x.old=x:=by
 unfold gY;simp only[xY,lB,yp,zF,yq];exact⟨iW (gM pR _),zkP (gM (λ_=>zqU _) _),iW (gM Bc _),jX _,jX _,iW h⟩
def yC(h:∀d∈s.ds,d.old=d):(aR s).old=aR s:=Gj (zsm h)
def cY(e:fH n ds=S)(q:B {nx:=λ_=>Q .non,rt:=Q,bk:=λ_=>False,ct:=λ_=>False} S):eG n B ds Q:=by unfold eG;rw[e];exact q
def tQ(e:fH n ds=S)(q:B Y {nx:=λ_=>Q .non,rt:=Q,bk:=λ_=>False,ct:=λ_=>False} S):iC n B ds Q Y:=by unfold iC;rw[e];exact q
def CT(e:fH n ds=S)(q:B Y {nx:=λqh _=>Q .non qh,rt:=λqh d=>Q d qh,bk:=λ_ _=>False,ct:=λ_ _=>False} qj S):nu n B ds qj Q Y:=by unfold nu;rw[e];exact q
def J4(h:F ds P qg)(k:∀d,P d->Q d)(l:∀n,qg n->Y n):BV F ds Q Y:=⟨P,qg,h,k,l⟩
def Du(h:F ds qj P qg)(k:∀d qj,P d qj->Q d qj)(l:∀n qj,qg n qj->Y n qj):yV F ds qj Q Y:=⟨P,qg,h,k,l⟩
def lG(hd:d.old=d)(he:e.old=e):fH (n+2) [d,e]=.val d::.val e::List.replicate n .un:=by rw[zow,hd,he]
def zgj(h:nameB x=true):cC x=true:=by
 unfold nameB yI at h;rw[YAB]at h;exact IK λch hc=>by
  have:=YAD (An.mp h.2 ch hc)
  have:=(znH ch).mp this
  omega
def bw(pl:List (Str×Nat))(x:Str):Nat:=(pl.filter λp=>decide (p.1=x)).length
def rA:0<bw pl x↔x∈pl.map (·.1):=by
 unfold bw;rw[List.length_pos_iff_exists_mem,YAK];exact⟨λ⟨p,hp⟩=>⟨p,(zq.mp hp).1,YAD (zq.mp hp).2⟩,λ⟨p,hp,e⟩=>⟨p,zq.mpr ⟨hp,iB e⟩⟩⟩
theorem zlA{α β:Type}{p:α->Bool}{f:α->β}:∀xs:List α,(xs.filterMap λx=>if p x then some (f x)else none).length=(xs.filter p).length
 |[]=>rfl
 |x::xs=>by
  rw[YAV,YC3];cases p x
  .exact zlA xs
  .exact congrArg (·+1) (zlA xs)
def zm3{pl:List (Str×Nat)}{x:Str}(hm:∀y∈pl,cC y.1=true)(hx:cC x=true)(hl:pl.length<=1000):Bj [.tup (pl.map dG),.str x] (·=.int (bw pl x)):=by
 refine cY (S:=[.val (.tup (pl.map dG)),.val (.str x)]) (lG (n:=0) (j9 (gM pR pl)) (ji _)) ?_;refine jg (ug (fV (uD dG (λp=>if decide (p.1=x)then some (.int p.2)else none) pl (Ax (aA rfl)) (by omega) λy hy=>?_))) ?_
 .have ev:∀{S:Env},S[0]?=some (.val (.str y.1))->S[2]?=some (.val (.str x))->dU (bA (ak cD (vW 0) (vW 2))) S (decide (y.1=x)):=λh1 h2=>dI (ww (aA h1) (aA h2) (hm y hy) hx);cases e:decide (y.1=x)with
  |true=>exact zua (e▸ev rfl rfl) (aA rfl)
  |false=>exact zq2 (e▸ev rfl rfl)
 .rw[zlA];rfl
def bk5:dY BK [a,b,c,d,e,f] "entered"=some e:=by kernel_rfl
def mk1:dY MK [a,b,c,d,e,f] "places"=some a:=by kernel_rfl
def mk2:dY MK [a,b,c,d,e,f] "heeded"=some b:=by kernel_rfl
def mk3:dY MK [a,b,c,d,e,f] "rows"=some c:=by kernel_rfl
def mk4:dY MK [a,b,c,d,e,f] "entered"=some d:=by kernel_rfl
def b1(s:Ya):dY BK (iy s) "stands"=some (.tup (s.pl.map dG)):=by kernel_rfl
def b2(s:Ya):dY BK (iy s) "hands"=some (.tup ((aY s).map D.str)):=by kernel_rfl
def b3(s:Ya):dY BK (iy s) "aside"=some (.tup (s.sd.map D.str)):=by kernel_rfl
def b4(s:Ya):dY BK (iy s) "runs"=some (.tup (s.rs.map (cM s.pl))):=by kernel_rfl
def b5(s:Ya):dY BK (iy s) "entered"=some (.int s.en):=by kernel_rfl
def b6(s:Ya):dY BK (iy s) "allowed"=some (.int s.al):=by kernel_rfl
def m1(s:Ya):dY MK (gY s) "places"=some (.lst false (s.pl.map dG)):=by kernel_rfl
def m2(s:Ya):dY MK (gY s) "heeded"=some (.fdc (aY s) (s.hs.map λp=>.bl p.2)):=by kernel_rfl
def m3(s:Ya):dY MK (gY s) "rows"=some (.lst false (s.rs.map cL)):=by kernel_rfl
def m4(s:Ya):dY MK (gY s) "entered"=some (.int s.en):=by kernel_rfl
def m5(s:Ya):dY MK (gY s) "many"=some (.int s.al):=by kernel_rfl
def m6(s:Ya):dY MK (gY s) "deeds"=some (.lst false s.ds):=by kernel_rfl
def bp1:aW BK [a,b,c,d,e,f] "stands" w=[w,b,c,d,e,f]:=by kernel_rfl
def bp2:aW BK [a,b,c,d,e,f] "hands" w=[a,w,c,d,e,f]:=by kernel_rfl
def bp4:aW BK [a,b,c,d,e,f] "runs" w=[a,b,c,w,e,f]:=by kernel_rfl
def bp5:aW BK [a,b,c,d,e,f] "entered" w=[a,b,c,d,w,f]:=by kernel_rfl
def bp6:aW BK [a,b,c,d,e,f] "allowed" w=[a,b,c,d,e,w]:=by kernel_rfl
def bq1:bH BK "stands"=BK:=by kernel_rfl
def bq2:bH BK "hands"=BK:=by kernel_rfl
def bq4:bH BK "runs"=BK:=by kernel_rfl
def bq5:bH BK "entered"=BK:=by kernel_rfl
def bq6:bH BK "allowed"=BK:=by kernel_rfl
def zoW(hx:∀x∈xs,x.old=x)(hl:ks.length<1000)(q:Q (.dct true (bH ks z) (aW ks xs z v.old))):rF [.dct n ks xs,.str z,v] Q:=by
 refine cY (S:=[.val (.dct false ks xs),.val (.str z),.val v.old,.un]) (by unfold fH;simp[Gj hx,ji]) ?_;exact⟨by show 3<4;decide,hl,q⟩
def ziL(h:xs=iy t):(D.dct n BK xs).old=cJ t:=by rw[h,Gj (yu t)];rfl
theorem zmn(x:Str):∀hs:List Str,inB (.str x) (hs.map D.str)=decide (x∈hs)
 |[]=>by simp[inB,lV]
 |y::hs=>by
  have ih:=zmn x hs;unfold inB at ih ⊢;rw[dZ,lV,Ak,ih]
  have:PyData.eqv (toPy (.str y)) (toPy (.str x))=decide (y=x):=ziV y x
  rw[this];by_cases e:y=x
  .simp[e]
  .have e':¬ x=y:=λz=>e z.symm;simp[e,e']
theorem ziv:∀{hs:List Str},(∀y∈hs,cC y=true)->m9 (hs.map D.str)=true
 |[],_=>by rw[rT,m9]
 |y::hs,h=>by rw[dZ,m9,ziv λz hz=>h z (je _ hz),dR,show PyData.canLay0 (.str y)=true from h y gw];rfl
theorem zls:∀hs:List Str,PyData.depthAll (lV (hs.map D.str))=0
 |[]=>by rw[rT,lV];rfl
 |y::hs=>by rw[dZ,lV];show max 0 (PyData.depthAll (lV (hs.map D.str)))=0;rw[zls hs];rfl
def znY{x:Str}{hs:List Str}(hx:cC x=true)(h:∀y∈hs,cC y=true):pZ (.str x) (hs.map D.str):=⟨by rw[dR];exact hx,ziv h,by rw[zls];exact iu (Nat.min_le_left _ _) (by decide)⟩
def zs8{neg:Bool}{x:Str}{hs:List Str}{Q:D->Prop}(hx:cC x=true)(h:∀y∈hs,cC y=true)(q:Q (.bl (if neg then !decide (x∈hs)else decide (x∈hs)))):eU neg (.str x) (.tup (hs.map D.str)) Q:=by
 show pZ (.str x) (hs.map D.str)/\Q (.bl (if neg then !inB (.str x) (hs.map D.str)else inB (.str x) (hs.map D.str)));rw[zmn];exact⟨znY hx h,q⟩
def zN{neg:Bool}{A B:WE}{S:Env}{x:Str}{hs:List Str}(hA:Ev A S (.str x))(hB:Ev B S (.tup (hs.map D.str)))(hx:cC x=true)(h:∀y∈hs,cC y=true):Ev (ak (eU neg) A B) S (.bl (if neg then !decide (x∈hs)else decide (x∈hs))):=lK hA hB λP p=>zs8 hx h p
def GX(hR:jh R S [.dct n ks xs,.str z,v])(hx:∀x∈xs,x.old=x)(hl:ks.length<1000):Ev (aZ 3 rF R) S (.dct true (bH ks z) (aW ks xs z v.old)):=jy hR (zoW (Q:=(·=_)) hx hl rfl)
def gG(hi:S[i]?=some (.val (cJ s)))(h:dY BK (iy s) z=some d):Ev (ak cz (vW i) (kW (.str z))) S d:=Bf (aA hi) h
structure sr(pl:List (Str×Nat)):Prop where
 ok:∀x∈pl,nameB x.1=true
 ln:pl.length<=12
theorem sr.cC(h:sr pl):∀x∈pl,cC x.1=true:=λx hx=>zgj (h.ok x hx)
def zgp(h:sr pl)(hx:cC x=true):Bj [.tup (pl.map dG),.str x] (·=.int (bw pl x)):=zm3 h.cC hx (by have:=h.ln;omega)
def lY(pl:List (Str×Nat))(x:Str):Str×Nat:=(x,bw pl x+1)
def zpi(h:sr pl)(hx:cC x=true):zc7 [.tup (pl.map dG),.str x] (·=dG (lY pl x)):=by
 refine cY (lG (n:=0) (j9 (gM pR pl)) (ji _)) ?_;exact jg (lR (aL (aA rfl) (aL (vB (jy (aL (aA rfl) (aL (aA rfl) bL)) (zgp h hx)) aF) bL))) rfl
def ziz(h:sr pl)(hk:cC x=true):CG [.tup (pl.map dG),.str x] (λd=>d=dG (x,bw pl x)/\0<bw pl x) (λn=>n="NoMark" /\ bw pl x=0):=by
 refine tQ (lG (n:=1) (j9 (gM pR pl)) (ji _)) ?_;refine jM (jy (aL (aA rfl) (aL (aA rfl) bL)) (zgp h hk)) ?_;by_cases e:bw pl x=0
 .refine jV (b8 (dI (qI (aA rfl) aF)) (by rw[e];decide)) ⟨by decide,rfl,e⟩
 .refine jP (b8 (dI (qI (aA rfl) aF)) (gV (by omega))) ?_;exact jg (lR (aL (aA rfl) (aL (aA rfl) bL))) ⟨rfl,by omega⟩
def zqs(h:r.a<pl.length/\r.b<pl.length):cM (pl++[p]) r=cM pl r:=by
 have e:∀{i},i<pl.length->gH (pl++[p]) i=gH pl i:=λhi=>by unfold gH;rw[YAN,YAN,Dy hi]
 unfold cM;rw[e h.1,e h.2]
def ze6(h:sr s.pl)(h0:∀r∈s.rs,r.a<s.pl.length/\r.b<s.pl.length)(hx:cC x=true):GR [cJ s,.str x] (λv=>s.pl.length<12/\v.old=cJ {s with pl:=s.pl++[lY s.pl x]}) (λn=>n="Full" /\ s.pl.length=12):=by
 refine tQ (lG (n:=1) (rZ s) (ji _)) ?_;refine jM (gG rfl (b1 _)) ?_;have ln:=h.ln;by_cases e:s.pl.length=12
 .exact jV (b8 (dI (CP (Ew (aA rfl)) aF)) (by rw[bW];exact iB (by omega))) ⟨by decide,rfl,e⟩
 refine jP (b8 (dI (CP (Ew (aA rfl)) aF)) (by rw[bW];exact gV (by omega))) ?_;refine jg (GX (aL (aA rfl) (aL aF (aL (vg (aA rfl) (lR (aL (jy (aL (aA rfl) (aL (aA rfl) bL)) (zpi h hx)) bL)) (by rw[bW];show s.pl.length+1<=100000;omega)) bL))) (yu s) (by decide)) ⟨by omega,?_⟩;show(D.dct true (bH BK "stands") (aW BK (iy s) "stands" _)).old=_;rw[bq1,show aW BK (iy s) "stands" (D.tup (s.pl.map dG++[dG (lY s.pl x)])).old=_ from bp1];refine ziL ?_;rw[<-Ge (f:=dG),<-lL,j9 (gM pR _)];unfold iy;have e:s.rs.map (cM (s.pl++[lY s.pl x]))=s.rs.map (cM s.pl):=JM λr hr=>zqs (h0 r hr);show _=[_,_,_,D.tup (s.rs.map (cM (s.pl++[lY s.pl x]))),_,_];rw[e]
def zpJ(h:nameB x=true):x.length<=100000:=by
 unfold nameB yI at h;rw[YAB,YAB]at h
 have:=YAD h.1.2
 omega
def Gw(hR:jh R S ds)(h:F ds P qg)(k:∀d,P d->E.rt d)(l:∀n,qg n->Y n)(hl:ds.length=n:=by rfl):aO (qY n F Y R) E S:=hR _ ⟨hl,J4 h k l⟩
def zkX(hR:jh R S ds)(h:F ds P qg)(k:∀d,P d->∃x y,d=.tup [x,y]/\B E ((S.set i (.val x)).set j (.val y)))(l:∀n,qg n->Y n)(hl:ds.length=n:=by rfl):aH (aP (.tp 2 (.cons (.nm i) (.cons (.nm j) .nil))) (qY n F Y R)) B E S:=
 hR _ ⟨hl,J4 h (λd p=>by
  obtain⟨x,y,rfl,q⟩:=k d p;unfold gD;refine⟨rfl,?_⟩;unfold f9 gD f9 gD f9;exact q) l⟩
def zfb(hi:S[i]?=some (.val (.str x)))(hx:x.length<=100000):dU (jH (gJ (aZ 1 BJ (aq (vW i) ao)))) S (!nameB x):=yo (uw (jy (aL (aA hi) bL) (zk1 x hx)))
structure Tx(x:Str):Prop where
 ok:cC x=true
 ln:x.length<=100000
def wz(s:Ya)(x:Str):Option Str:=if nameB x=false then some "BadName" else if 0<bw s.pl x then some "Taken" else if s.pl.length=12 then some "Full" else none
def uH(s:Ya)(x:Str):Option Str:=if nameB x=false then some "BadName" else if x∈aY s then some "Taken" else if s.hs.length=10 then some "Full" else none
def Cj(s:Ya)(x:Str):Option Str:=if bw s.pl x=0 then some "NoMark" else if s.pl.length=12 then some "Full" else none
def zqp(h:sr s.pl)(h0:∀r∈s.rs,r.a<s.pl.length/\r.b<s.pl.length)(hx:Tx x):zcV [cJ s,.tup [.str "mark",.str x]] (λv=>wz s x=none/\v.old=cJ {s with pl:=s.pl++[lY s.pl x]}) (λn=>wz s x=some n):=by
 refine tQ (lG (n:=2) (rZ s) (j9 (by simp[ji]))) ?_;refine Hv (aA rfl) ?_;unfold wz;cases hb:nameB x with
 |false=>
  refine jV (b8 (zfb rfl hx.ln) (by rw[hb];rfl)) ⟨by decide,?_⟩;rfl
 |true=>
 refine jP (b8 (zfb rfl hx.ln) (by rw[hb];rfl)) ?_;rw[if_neg (by decide)];by_cases e:0<bw s.pl x
 .refine jV (b8 (dI (HQ (jy (aL (gG rfl (b1 _)) (aL (aA rfl) bL)) (zgp h hx.ok)) aF)) (iB (by omega))) ⟨by decide,?_⟩;rw[if_pos e]
 refine jP (b8 (dI (HQ (jy (aL (gG rfl (b1 _)) (aL (aA rfl) bL)) (zgp h hx.ok)) aF)) (gV (by omega))) ?_;rw[if_neg e];exact Gw (aL (aA rfl) (aL (aA rfl) bL)) (ze6 h h0 hx.ok) (λd z=>⟨if_neg (by omega),z.2⟩) λn z=>by rw[if_pos z.2,z.1]
def zmI(h:sr s.pl)(h0:∀r∈s.rs,r.a<s.pl.length/\r.b<s.pl.length)(hx:Tx x):zcM [cJ s,.tup [.str "settle",.str x]] (λv=>Cj s x=none/\v.old=cJ {s with pl:=s.pl++[lY s.pl x]}) (λn=>Cj s x=some n):=by
 refine tQ (lG (n:=4) (rZ s) (j9 (by simp[ji]))) ?_;refine Hv (aA rfl) ?_;unfold Cj;refine zkX (aL (gG rfl (b1 _)) (aL (aA rfl) bL)) (ziz h hx.ok) (λd hd=>⟨.str x,.int (bw s.pl x),hd.1,?_⟩) λn z=>by rw[if_pos z.2,z.1]
 rw[if_neg (by omega)];exact Gw (aL (aA rfl) (aL (aA rfl) bL)) (ze6 h h0 hx.ok) (λd z=>⟨if_neg (by omega),z.2⟩) λn z=>by rw[if_pos z.2,z.1]
structure zZ(s:Ya):Prop where
 nd:(aY s).Nodup
 ok:∀x∈aY s,nameB x=true
 ln:s.hs.length<=10
theorem zZ.cC(h:zZ s):∀x∈aY s,cC x=true:=λx hx=>zgj (h.ok x hx)
def zqD{s:Ya}{x:Str}(h:zZ s)(hx:Tx x):zcJ [cJ s,.tup [.str "hand",.str x]] (λv=>uH s x=none/\v.old=cJ {s with hs:=s.hs++[(x,true)]}) (λn=>uH s x=some n):=by
 refine tQ (lG (n:=3) (rZ s) (j9 (by simp[ji]))) ?_;refine Hv (aA rfl) ?_;refine jM (gG rfl (b2 _)) ?_;unfold uH;cases hb:nameB x with
 |false=>exact jV (b8 (zfb rfl hx.ln) (by rw[hb];rfl)) ⟨by decide,rfl⟩
 |true=>
 refine jP (b8 (zfb rfl hx.ln) (by rw[hb];rfl)) ?_;rw[if_neg (by decide)];have hl:((aY s).map D.str).length=s.hs.length:=by rw[bW,bW]
 have ln:=h.ln;by_cases e:x∈aY s
 .refine jV (b8 (dI (zN (neg:=false) (aA rfl) (aA rfl) hx.ok h.cC)) (by rw[iB e];rfl)) ⟨by decide,?_⟩;rw[if_pos e]
 refine jP (b8 (dI (zN (neg:=false) (aA rfl) (aA rfl) hx.ok h.cC)) (by rw[gV e];rfl)) ?_;rw[if_neg e];by_cases f:s.hs.length=10
 .refine jV (b8 (dI (CP (Ew (aA rfl)) aF)) (by rw[hl];exact iB (by omega))) ⟨by decide,?_⟩;rw[if_pos f]
 refine jP (b8 (dI (CP (Ew (aA rfl)) aF)) (by rw[hl];exact gV (by omega))) ?_;refine jg (GX (aL (aA rfl) (aL aF (aL (vg (aA rfl) (lR (aL (aA rfl) bL)) (by rw[hl];show s.hs.length+1<=100000;omega)) bL))) (yu s) (by decide)) ⟨if_neg f,?_⟩;show(D.dct true (bH BK "hands") (aW BK (iy s) "hands" _)).old=_;rw[bq2,show aW BK (iy s) "hands" (D.tup ((aY s).map D.str++[D.str x])).old=_ from bp2];refine ziL ?_;rw[<-Ge (f:=D.str),<-lL,j9 (gM ji _)];simp[iy,aY]
def okR(r:Int):Bool:=decide (-1000000000<=r)&&decide (r<=1000000000)
def zhf{s t:Ya}{z:Str}{V:WE}{v:D}{S:Env}{i:Nat}{E:En}(hi:S[i]?=some (.val (cJ s)))(hV:Ev V S v)(hk:bH BK z=BK)(hv:aW BK (iy s) z v.old=iy t)(q:∀d:D,d.old=cJ t->E.rt d):aO (aZ 3 rF (aq (vW i) (aq (kW (.str z)) (aq V ao)))) E S:=
 jg (GX (ks:=BK) (xs:=iy s) (n:=false) (aL (aA hi) (aL aF (aL hV bL))) (yu s) (by decide)) (q _ (by rw[hk];exact ziL hv))
def G7(hR:jh R S ds)(h:F ds P qg)(k:∀d,P d->B E S)(l:∀n,qg n->Y n)(hl:ds.length=n:=by rfl):aH (Ci (qY n F Y R)) B E S:=hR _ ⟨hl,J4 h k l⟩
def ziK(h:zZ s)(hx:cC x=true):zdc [cJ s,.str x] (λ_=>x∈aY s) (λn=>n="NoHand" /\ x∉aY s):=by
 refine tQ (lG (n:=0) (rZ s) (ji _)) ?_;have ev:=dI (zN (neg:=true) (S:=[.val (cJ s),.val (.str x)]) (aA (i:=1) rfl) (gG (i:=0) rfl (b2 s)) hx h.cC);by_cases e:x∈aY s
 .exact Bq (b8 ev (by rw[iB e];rfl)) e
 .exact Dh (b8 ev (by rw[gV e];rfl)) ⟨by decide,rfl,e⟩
def ze8:J3 [.int r] (λ_=>okR r=true) (λn=>n="BadRise" /\ okR r=false):=by
 refine tQ (S:=[.val (.int r)]) (by unfold fH;simp[jX]) ?_;have ev:=dI (HQ (S:=[.val (.int r)]) (wN (f:=qz) (d:=.int (if r<0 then -r else r)) (aL (aA (i:=0) (d:=.int r) rfl) bL) λP p=>p) (aF (d:=.int 1000000000)));by_cases e:okR r=true
 .refine Bq (b8 ev (gV ?_)) e;unfold okR at e;rw[YAB,xH,xH]at e;split<;>omega
 .refine Dh (b8 ev (iB ?_)) ⟨by decide,rfl,by simpa using e⟩;unfold okR at e;rw[YAB,xH,xH]at e;split<;>omega
def zkR{α:Type}{S:Env}{I:WL}{emb:α->D}{f:α->Int}{rs:List α}(hI:jh I S (rs.map emb))(hl:rs.length<=1000)(he:∀r,∃t,emb r=.tup (.int (f r)::t)):Ev (aN (eY [none] I (.nm 0) cW (ak aC (vW 0) (kW (.int 0))))) S (.lst true ((rs.map f).map D.int)):=by
 have:=uD (sub:=[none]) (t:=.nm 0) (C:=cW) (E:=ak aC (vW 0) (kW (.int 0))) emb (λr=>some (.int (f r))) rs hI (by omega) λr _=>by
  obtain⟨t,e⟩:=he r;rw[e];exact t8 Az (lH (aA rfl) aF (gF (j:=0) rfl))
 rw[Dp]at this;have e:(rs.map λr=>D.int (f r))=(rs.map f).map D.int:=by rw[YAL];rfl
 rw[e]at this;exact fV this
def zf1{s:Ya}{n:Int}(hl:s.rs.length<=40):Hu [cJ s,.int n] (λ_=>n∈s.rs.map (·.n)) (λk=>k="NoRun" /\ n∉s.rs.map (·.n)):=by
 refine tQ (lG (n:=0) (rZ s) (jX _)) ?_;have ev:dU (bA (ak (eU true) (vW 1) (aN (eY [none] (gq (ak cz (vW 0) (kW (.str "runs")))) (.nm 0) cW (ak aC (vW 0) (kW (.int 0))))))) [.val (cJ s),.val (.int n)] (!(s.rs.map (·.n)).contains n):=dI (lK (aA rfl) (zkR (emb:=cM s.pl) (Ax (gG rfl (b4 s))) (by omega) λr=>⟨_,rfl⟩) λP p=>zoD (n:=true) p);by_cases e:n∈s.rs.map (·.n)
 .exact Bq (b8 ev (by rw[Ke.mpr e];rfl)) e
 .have:(s.rs.map (·.n)).contains n=false:=by rw[<-YC4,Ke];exact e
  exact Dh (b8 ev (by rw[this];rfl)) ⟨by decide,rfl,e⟩
def lZ(pl:List (Str×Nat))(x:Str):Nat:=pl.findIdx λp=>decide (p=(x,bw pl x))
structure Lst(pl:List (Str×Nat)):Prop where
 fin:∀x,0<bw pl x->(x,bw pl x)∈pl
 le:∀p∈pl,p.2<=bw pl p.1
 nd:pl.Nodup
 one:∀x,0<bw pl x->(x,1)∈pl
def DX(h:Lst pl)(hx:0<bw pl x):lZ pl x<pl.length:=List.findIdx_lt_length_of_exists ⟨_,h.fin x hx,iB rfl⟩
def ztA(h:Lst pl)(hx:0<bw pl x):pl[lZ pl x]?=some (x,bw pl x):=by
 have hl:=DX h hx;rw[jr hl]
 have:=List.findIdx_getElem (p:=λp=>decide (p=(x,bw pl x))) (w:=hl)
 exact congrArg some (YAD this)
def zq8(h:Lst pl)(hx:0<bw pl x):gH pl (lZ pl x)=(x,bw pl x):=by
 unfold gH;rw[YAN,ztA h hx];rfl
def eV(s:Ya)(a b:Str)(r:Int)(h:Str):Option Str:=if bw s.pl a=0\/bw s.pl b=0 then some "NoMark" else if a=b then some "Same" else if h∉aY s then some "NoHand" else if okR r=false then some "BadRise" else if s.rs.length=40 then some "Full" else none
def qt(s:Ya)(a b:Str)(r:Int)(h:Str):Yr:=⟨s.en+1,lZ s.pl a,lZ s.pl b,r,h⟩
def zt3{S:Env}{i j:Nat}{s:Ya}{k:Int}{V:WE}{rs:List Yr}(hi:S[i]?=some (.val (cJ s)))(hj:S[j]?=some (.val (.int k)))(hV:Ev V S (.tup (rs.map (cM s.pl)))) :
  Ev (aZ 3 rF (aq (aZ 3 rF (aq (vW i) (aq (kW (.str "entered")) (aq (vW j) ao)))) (aq (kW (.str "runs")) (aq V ao)))) S (.dct true BK (iy {s with en:=k,rs:=rs})):=by
 have e5:aW BK (iy s) "entered" (D.int k).old=iy {s with en:=k}:=by rw[jX];exact bp5
 have f5:=GX (S:=S) (R:=aq (vW i) (aq (kW (.str "entered")) (aq (vW j) ao))) (ks:=BK) (xs:=iy s) (z:="entered") (v:=.int k) (n:=false) (aL (aA hi) (aL aF (aL (aA hj) bL))) (yu s) (by decide);rw[bq5,e5]at f5;have f6:=GX (aL f5 (aL (aF (d:=.str "runs")) (aL hV bL))) (yu _) (by decide);have e6:aW BK (iy {s with en:=k}) "runs" (D.tup (rs.map (cM s.pl))).old=iy {s with en:=k,rs:=rs}:=by rw[j9 (gM (Hg _) _)];exact bp4
 rw[bq4,e6]at f6;exact f6
def zs9(hp:sr s.pl)(hs:Lst s.pl)(hh:zZ s)(ha:cC a=true)(hb:cC b=true)(hk:cC h=true)(hl:s.rs.length<=40) :
  zdk [cJ s,.tup [.str "run",.str a,.str b,.int r,.str h]] (λv=>eV s a b r h=none/\v.old=cJ {s with en:=s.en+1,rs:=s.rs++[qt s a b r h]}) (λn=>eV s a b r h=some n):=by
 refine tQ (lG (n:=11) (rZ s) (j9 (by simp[ji,jX]))) ?_;refine zoN (aA rfl) ?_;unfold eV;refine zkX (aL (gG rfl (b1 _)) (aL (aA rfl) bL)) (ziz hp ha) (λd hd=>⟨.str a,.int (bw s.pl a),hd.1,?_⟩) λn z=>by rw[if_pos (.inl z.2),z.1]
 refine zkX (aL (gG rfl (b1 _)) (aL (aA rfl) bL)) (ziz hp hb) (λd2 hd2=>⟨.str b,.int (bw s.pl b),hd2.1,?_⟩) λn z=>by rw[if_pos (.inr z.2),z.1]
 have c0:¬ (bw s.pl a=0\/bw s.pl b=0):=by have:=hd.2;have:=hd2.2;omega
 have ee:dU (bA (ak cD (vW 3) (vW 4))) [.val (cJ s),.val (.tup [.str "run",.str a,.str b,.int r,.str h]),.val (.str "run"),.val (.str a),.val (.str b),.val (.int r),.val (.str h),.val (.str a),.val (.int (bw s.pl a)),.val (.str b),.val (.int (bw s.pl b)),.un,.un] (decide (a=b)):=dI (ww (aA rfl) (aA rfl) ha hb);rw[if_neg c0];by_cases e:a=b
 .refine jV (b8 ee (iB e)) ⟨by decide,?_⟩;rw[if_pos e]
 refine jP (b8 ee (gV e)) ?_;rw[if_neg e];refine G7 (aL (aA rfl) (aL (aA rfl) bL)) (ziK hh hk) (λ_ i1=>?_) λn z=>by rw[if_pos z.2,z.1]
 rw[if_neg λz=>z i1];refine G7 (aL (aA rfl) bL) ze8 (λ_ i2=>?_) λn z=>by rw[if_pos z.2,z.1]
 rw[if_neg (by rw[i2];decide)];show aH _ _ _ [.val (cJ s),.val (.tup [.str "run",.str a,.str b,.int r,.str h]),.val (.str "run"),.val (.str a),.val (.str b),.val (.int r),.val (.str h),.val (.str a),.val (.int (bw s.pl a)),.val (.str b),.val (.int (bw s.pl b)),.un,.un];have e4:=dI (CP (S:=[.val (cJ s),.val (.tup [.str "run",.str a,.str b,.int r,.str h]),.val (.str "run"),.val (.str a),.val (.str b),.val (.int r),.val (.str h),.val (.str a),.val (.int (bw s.pl a)),.val (.str b),.val (.int (bw s.pl b)),.un,.un]) (Ew (t:=s.rs.map (cM s.pl)) (gG (i:=0) (s:=s) rfl (b4 s))) (aF (d:=.int 40)));by_cases f:s.rs.length=40
 .refine jV (b8 e4 (by rw[bW];exact iB (by omega))) ⟨by decide,?_⟩;rw[if_pos f]
 refine jP (b8 e4 (by rw[bW];exact gV (by omega))) ?_;rw[if_neg f];refine jM (vB (gG rfl (b5 _)) aF) ?_;refine jM (d:=cM s.pl (qt s a b r h)) (pQ (lR (aL (aA rfl) (aL (aA rfl) (aL (aA rfl) (aL (aA rfl) (aL (aA rfl) (aL (aA rfl) (aL (aA rfl) bL)))))))) (by unfold cM qt;rw[zq8 hs hd.2,zq8 hs hd2.2])) ?_;refine jg (zt3 (s:=s) (k:=s.en+1) (rs:=s.rs++[qt s a b r h]) rfl rfl ?_) ⟨rfl,ziL rfl⟩;rw[lL];exact vg (gG rfl (b4 _)) (lR (aL (aA rfl) bL)) (by rw[bW];show s.rs.length+1<=100000;omega)
theorem zhY :∀rs:List Yr,(rs.filterMap λr=>if !decide (r.n=n)then some (g r)else none)=(rs.filter λr=>!decide (r.n=n)).map g
 |[]=>rfl
 |r::rs=>by
  rw[YAV,YC3];by_cases e:r.n=n
  .simp only[e,decide_true,Bool.not_true,Ba,um];exact zhY rs
  .simp only[e,decide_false,Bool.not_false,uB,dZ];rw[zhY rs]
def Dg(s:Ya)(n:Int):Option Str:=if n∉s.rs.map (·.n)then some "NoRun" else none
def zmQ{s:Ya}{n:Int}(hl:s.rs.length<=40):zdF [cJ s,.tup [.str "strike",.int n]] (λv=>Dg s n=none/\v.old=cJ {s with rs:=s.rs.filter λr=>!decide (r.n=n)}) (λk=>Dg s n=some k):=by
 refine tQ (lG (n:=2) (rZ s) (j9 (by simp[ji,jX]))) ?_;refine Hv (aA rfl) ?_;unfold Dg;refine G7 (aL (aA rfl) (aL (aA rfl) bL)) (zf1 hl) (λ_ i1=>?_) λn z=>by rw[if_pos z.2,z.1]
 have hc:=uD (sub:=[none,some 3]) (I:=gq (ak cz (vW 0) (kW (.str "runs")))) (S:=[.val (cJ s),.val (.tup [.str "strike",.int n]),.val (.str "strike"),.val (.int n)]) (t:=.nm 0) (C:=bA (ak lW (ak aC (vW 0) (kW (.int 0))) (vW 1))) (E:=vW 0) (cM s.pl) (λr=>if !decide (r.n=n)then some (cM s.pl r)else none) s.rs (Ax (gG rfl (b4 _))) (by omega) (λr _=>by
  have ev:∀{S:Env},S[0]?=some (.val (cM s.pl r))->S[1]?=some (.val (.int n))->dU (bA (ak lW (ak aC (vW 0) (kW (.int 0))) (vW 1))) S (!decide (r.n=n)):=λh0 h1=>dI (zrf (lH (t:=[.int r.n,.str (gH s.pl r.a).1,.int (gH s.pl r.a).2,.str (gH s.pl r.b).1,.int (gH s.pl r.b).2,.int r.r,.str r.h]) (aA h0) aF (gF (j:=0) rfl)) (aA h1));cases e:!decide (r.n=n)with
  |false=>exact FW (b8 (ev rfl rfl) e)
  |true=>exact t8 (b8 (ev rfl rfl) e) (aA rfl))
 rw[zhY]at hc;refine zhf (t:={s with rs:=s.rs.filter λr=>!decide (r.n=n)}) rfl (wN (d:=.tup ((s.rs.filter λr:Yr=>!decide (r.n=n)).map (cM s.pl))) (aL (fV hc) bL) λP p=>p) bq4 ?_ λd hd=>⟨if_neg λz=>z i1,hd⟩;rw[j9 (gM (Hg _) _)];exact bp4
def Cq(s:Ya)(n r:Int):Option Str:=if n∉s.rs.map (·.n)then some "NoRun" else if okR r=false then some "BadRise" else none
def pG(n k:Int)(r:Yr):Yr:=if r.n=n then{r with r:=k}else r
def zpC{s:Ya}{n k:Int}(hl:s.rs.length<=40):zdK [cJ s,.tup [.str "mend",.int n,.int k]] (λv=>Cq s n k=none/\v.old=cJ {s with rs:=s.rs.map (pG n k)}) (λw=>Cq s n k=some w):=by
 refine tQ (lG (n:=4) (rZ s) (j9 (by simp[ji,jX]))) ?_;refine zrI (aA rfl) ?_;unfold Cq;refine G7 (aL (aA rfl) (aL (aA rfl) bL)) (zf1 hl) (λ_ i1=>?_) λn z=>by rw[if_pos z.2,z.1]
 rw[if_neg λz=>z i1];refine G7 (aL (aA rfl) bL) ze8 (λ_ i2=>?_) λn z=>by rw[if_pos z.2,z.1]
 rw[if_neg (by rw[i2];decide)];have hc:=uD (sub:=[none,some 3,some 4]) (I:=gq (ak cz (vW 0) (kW (.str "runs")))) (S:=[.val (cJ s),.val (.tup [.str "mend",.int n,.int k]),.val (.str "mend"),.val (.int n),.val (.int k),.un]) (t:=.nm 0) (C:=cW) (E:=ifW (bA (ak cD (ak aC (vW 0) (kW (.int 0))) (vW 1))) (ak aU (fu (vW 0) my (mD (kW (.int 5)))) (bK (aq (vW 2) (aq (ak aC (vW 0) (kW (.int 6))) ao)))) (vW 0)) (cM s.pl) (λr=>some (cM s.pl (pG n k r))) s.rs (Ax (gG rfl (b4 _))) (by omega) (λr _=>by
  have cut:cutD [D.int r.n,.str (gH s.pl r.a).1,.int (gH s.pl r.a).2,.str (gH s.pl r.b).1,.int (gH s.pl r.b).2,.int r.r,.str r.h] none (some 5)=[.int r.n,.str (gH s.pl r.a).1,.int (gH s.pl r.a).2,.str (gH s.pl r.b).1,.int (gH s.pl r.b).2]:=by kernel_rfl
  have v0:Ev (vW 0) ((eE [none,some 3,some 4] [.val (cJ s),.val (.tup [.str "mend",.int n,.int k]),.val (.str "mend"),.val (.int n),.val (.int k),.un]).set 0 (.val (cM s.pl r))) (.tup [.int r.n,.str (gH s.pl r.a).1,.int (gH s.pl r.a).2,.str (gH s.pl r.b).1,.int (gH s.pl r.b).2,.int r.r,.str r.h]):=aA rfl;have a1:=pQ (Dv v0 yj (wU (aF (d:=.int 5)))) (congrArg D.tup cut);refine t8 Az (zvR (b:=decide (r.n=n)) (dI (qI (lH v0 aF (gF (j:=0) rfl)) (aA rfl))) ?_);unfold pG;by_cases e:r.n=n
  .rw[iB e,if_pos rfl,if_pos e];exact vg a1 (lR (aL (aA rfl) (aL (lH (k:=6) v0 aF (gF (j:=6) rfl)) bL))) (by show 7<=100000;decide)
  .rw[gV e,if_neg (by decide),if_neg e];exact v0)
 rw[Dp]at hc;refine jM (fV hc) ?_;refine zhf (t:={s with rs:=s.rs.map (pG n k)}) rfl (wN (f:=zm) (d:=.tup (s.rs.map λr=>cM s.pl (pG n k r))) (aL (aA rfl) bL) λP p=>p) bq4 ?_ λd hd=>⟨rfl,hd⟩;rw[show(s.rs.map λr=>cM s.pl (pG n k r))=(s.rs.map (pG n k)).map (cM s.pl)from by rw[YAL];rfl,j9 (gM (Hg _) _)];exact bp4
def zp(k:Int):Option Str:=if k<0\/3<k then some "BadNumber" else none
def znu{s:Ya}{k:Int}:zbu [cJ s,.tup [.str "allow",.int k]] (λv=>zp k=none/\v.old=cJ {s with al:=k}) (λn=>zp k=some n):=by
 refine tQ (lG (n:=2) (rZ s) (j9 (by simp[ji,jX]))) ?_;refine Hv (aA rfl) ?_;unfold zp;have ev:=yt (S:=[.val (cJ s),.val (.tup [.str "allow",.int k]),.val (.str "allow"),.val (.int k)]) (dI (zqa (aA (i:=3) (d:=.int k) rfl) (aF (d:=.int 0)))) λ_=>dI (HQ (aA (i:=3) (d:=.int k) rfl) (aF (d:=.int 3)));by_cases e:k<0\/3<k
 .refine jV (b8 ev (by rw[Bool.or_eq_true,xH,xH];exact e)) ⟨by decide,?_⟩;rw[if_pos e]
 refine jP (b8 ev (by rw[YCw,YB8,YB8];omega)) ?_;refine zhf (t:={s with al:=k}) rfl (aA rfl) bq6 ?_ λd hd=>⟨if_neg e,hd⟩;rw[jX];exact bp6
inductive Yd where
 |mark (x:Str)|hand (x:Str)|run (a b:Str) (r:Int) (h:Str)|strike (n:Int)|mend (n k:Int)|settle (x:Str)|allow (k:Int)
def jQ:Yd->Str
 |.mark _ => "mark"
 |.hand _ => "hand"
 |.run _ _ _ _ => "run"
 |.strike _ => "strike"
 |.mend _ _ => "mend"
 |.settle _ => "settle"
 |.allow _ => "allow"
def bu:Yd->List D
 |.mark x|.hand x|.settle x=>[.str x]
 |.run a b r h=>[.str a,.str b,.int r,.str h]
 |.strike n|.allow n=>[.int n]
 |.mend n k=>[.int n,.int k]
def yD(d:Yd):D:=.tup (.str (jQ d)::bu d)
def jn:Yd->Prop
 |.mark x|.hand x|.settle x=>Tx x
 |.run a b _ h=>Tx a/\Tx b/\Tx h
 |_=>True
noncomputable def why(s:Ya)(d:Yd):Option Str:=Yd.rec (motive:=λ_=>Option Str) (λx=>wz s x) (λx=>uH s x) (λa b r h=>eV s a b r h) (λn=>Dg s n) (λn k=>Cq s n k) (λx=>Cj s x) (λk=>zp k) d
def wR(hs:List (Str×Bool))(x:Str)(b:Bool):List (Str×Bool):=hs.map λp=>if p.1=x then(p.1,b)else p
noncomputable def yDo(s:Ya):Yd->Ya
 |.mark x|.settle x=>{s with pl:=s.pl++[lY s.pl x]}
 |.hand x=>{s with hs:=s.hs++[(x,true)]}
 |.run a b r h=>{s with en:=s.en+1,rs:=s.rs++[qt s a b r h]}
 |.strike n=>{s with rs:=s.rs.filter λr=>!decide (r.n=n)}
 |.mend n k=>{s with rs:=s.rs.map (pG n k)}
 |.allow k=>{s with al:=k}
def jL(s:Ya)(d:Yd):Ya:={yDo s d with ds:=s.ds++[yD d]}
def zoR(d:Yd):∀x∈bu d,x.old=x:=by cases d<;>simp[bu,ji,jX]
def lN(d:Yd):(yD d).old=yD d:=j9 (by simpa[ji]using zoR d)
def uq(d:Yd):cC (jQ d)=true:=by cases d<;>(dsimp only[jQ];exact bC)
def zqG(hs:List (Str×Bool))(x:Str)(b:Bool):(wR hs x b).map (·.1)=hs.map (·.1):=by
 unfold wR;rw[YAL];exact JM λp _=>by show(if p.1=x then(p.1,b)else p).1=p.1;split<;>rfl
structure dX(s:Ya):Prop where
 p:sr s.pl
 pt:Lst s.pl
 h:zZ s
 ra:∀r∈s.rs,r.a<s.pl.length/\r.b<s.pl.length/\r.h∈aY s
 rl:s.rs.length<=40
 sn:∀x∈s.sd,x∈aY s
 sl:s.sd.length<=s.ds.length
 sh:∀p∈s.hs,p.2 = !decide (p.1∈s.sd)
 e0:0<=s.en
 el:s.en<=s.ds.length
 dd:∀d∈s.ds,d.old=d/\eO d 3=true
 dl:s.ds.length<=1000
 rn:∀r∈s.rs,r.n<=s.en
def dX.sok(ok:dX s):∀x∈s.sd,cC x=true:=λx hx=>ok.h.cC x (ok.sn x hx)
def dX.rab(ok:dX s):∀r∈s.rs,r.a<s.pl.length/\r.b<s.pl.length:=λr hr=>⟨(ok.ra r hr).1,(ok.ra r hr).2.1⟩
def Bh(ho:(D.tup (.str w::xs)).old=.tup (.str w::xs))(hl:(zH A).lookup w=some (.obj f))(hm:(f,F)∈jY A)(h:F [cJ s,.tup (.str w::xs)] P qg):Ij A [cJ s,.tup (.str w::xs)] P qg:=by
 refine tQ (lG (n:=1) (rZ s) ho) ?_;have ev:Ev (BX (zH A) (ak aC (vW 1) (kW (.int 0)))) (.val (cJ s)::.val (.tup (.str w::xs))::List.replicate 1 Sl.un) (.obj f):=λP p=>by
  refine lH (d:=.str w) (aA rfl) aF (gF (j:=0) rfl) _ ?_;show opD ((zH A).lookup w) P;rw[hl];exact p
 refine jM ev ?_;exact⟨F,hm,rfl,J4 h (λ_ z=>z) λ_ z=>z⟩
def zpY(ok:dX s)(hx:jn d):Ij A [cJ s,yD d] (λv=>why s d=none/\v.old=cJ (jL s d)) (λn=>why s d=some n):=by
 have sl:s.sd.length<=1000:=iu ok.sl ok.dl;cases d with
 |mark x=>exact Bh (f:=A.mark_entered) (lN (.mark x)) (by kernel_rfl) (by unfold jY;simp) (zqp ok.p ok.rab hx)
 |hand x=>exact Bh (f:=A.hand_entered) (lN (.hand x)) (by kernel_rfl) (by unfold jY;simp) (zqD ok.h hx)
 |run a b r h=>exact Bh (f:=A.run_entered) (lN (.run a b r h)) (by kernel_rfl) (by unfold jY;simp) (zs9 ok.p ok.pt ok.h hx.1.ok hx.2.1.ok hx.2.2.ok ok.rl)
 |strike n=>exact Bh (f:=A.run_struck) (lN (.strike n)) (by kernel_rfl) (by unfold jY;simp) (zmQ ok.rl)
 |mend n k=>exact Bh (f:=A.run_mended) (lN (.mend n k)) (by kernel_rfl) (by unfold jY;simp) (zpC ok.rl)
 |settle x=>exact Bh (f:=A.mark_settled) (lN (.settle x)) (by kernel_rfl) (by unfold jY;simp) (zmI ok.p ok.rab hx)
 |allow k=>exact Bh (f:=A.number_allowed) (lN (.allow k)) (by kernel_rfl) (F:=zbu) (by unfold jY;simp) (znu (s:=s))
def cG(A:gK)(ks bs us:List D):Ob:=⟨A.fen,[("kept",ks),("books",bs),("undone",us)]⟩
def zl4:vU (cG A ks bs us) "kept" 0 ks:=⟨rfl,λi y hi=>by omega⟩
def zkc:vU (cG A ks bs us) "books" 1 bs:=⟨rfl,λi y hi e=>by
 have:i=0:=by omega
 subst this;cases e;show("kept":Str)≠"books"; decide +kernel⟩
abbrev NF(m:Str):Prop:=m≠"kept" /\ m≠"books" /\ m≠"undone"
def zro{A:gK}{ks bs us:List D}{m:Str}(h:NF m):∀x∈(cG A ks bs us).fs,x.1≠m:=λx hx=>by
 have hx:x∈[(("kept":Str),ks),("books",bs),("undone",us)]:=hx;simp only[ir,lB,rK]at hx;rcases hx with rfl|rfl|rfl
 .exact YAM h.1
 .exact YAM h.2.1
 .exact YAM h.2.2
def xN{A:gK}{qj:bN}{S:Env}{i:Nat}{q:Addr}{m:Str}{F:bN->Fn}{ks bs us:List D}{d:D}(hi:S[i]?=some (.val (.obj q)))(hS:qj q=some (cG A ks bs us))(hm:NF m)(h:F qj [.obj q] (·=d)):Ev (jT qj i A.fen m 1 F (λ_ Q=>Q [])) S d:=λP p=>by
 unfold jT;rw[hi];exact⟨⟨_,hS,rfl,zro hm⟩,rfl,pI h λe z=>by subst z;exact p⟩
def zpG:gR (bs++[x]) (-1)=some x:=by
 unfold gR rW;rw[if_neg (by decide),iU,if_pos (by simp;omega)];show(bs++[x])[(-1+((bs.length+1:Nat):Int)).toNat]?=some x;rw[show(-1+((bs.length+1:Nat):Int)).toNat=bs.length from by omega]
 simp
def zur:NF "now":=by decide +kernel
def zrR(hS:qj q=some (cG A ks (bs++[cJ s]) us)):qU A qj [.obj q] (·=cJ s):=by
 refine cY (S:=[.val (.obj q)]) (by unfold fH;simp[pP]) ?_;refine⟨_,1,bs++[cJ s],hS,rfl,zkc,?_⟩;show(match gR (bs++[cJ s]) (-1)with|some d=>d.old=cJ s|none=>False);rw[zpG];exact rZ s
def zlN{A:gK}{qj:bN}{q:Addr}{s:Ya}{ks bs us:List D}{S:Env}{i:Nat}(hi:S[i]?=some (.val (.obj q)))(hS:qj q=some (cG A ks (bs++[cJ s]) us)):Ev (jT qj i A.fen "now" 1 (qU A) (λ_ Q=>Q [])) S (cJ s):=xN hi hS zur (zrR hS)
section
variable{E:qN}{qj:bN}{S:Env}{B:WF}{q:Addr}{A:gK}{ks bs us:List D}{i:Nat}{d:D}{V:bN->WE}
def zqw(hi:S[i]?=some (.val (.obj q)))(hS:qj q=some (cG A ks bs us))(hV:Ev (V qj) S d)(hl:ks.length<100000)(h:B E (iY qj q (cG A (ks++[d.old]) bs us)) S):bQ (j7 i "kept" A.fen V) B E qj S:=by
 show j7 i "kept" A.fen V _ qj S;unfold j7;rw[hi];exact⟨_,0,ks,hS,rfl,zl4,hV _ ⟨hl,h⟩⟩
def znF(hi:S[i]?=some (.val (.obj q)))(hS:qj q=some (cG A ks bs us))(hV:Ev (V qj) S d)(hl:bs.length<100000)(h:B E (iY qj q (cG A ks (bs++[d.old]) us)) S):bQ (j7 i "books" A.fen V) B E qj S:=by
 show j7 i "books" A.fen V _ qj S;unfold j7;rw[hi];exact⟨_,1,bs,hS,rfl,zkc,hV _ ⟨hl,h⟩⟩
def zmO:jd "undone" [] (cG A ks bs us).fs=(cG A ks bs []).fs:=by unfold cG;kernel_rfl
def zmD(hi:S[i]?=some (.val (.obj q)))(hS:qj q=some (cG A ks bs us))(h:B E (iY qj q (cG A ks bs [])) S):bQ (jw i "undone" A.fen (λqj=>bh ao)) B E qj S:=by
 show jw i "undone" A.fen _ _ qj S;unfold jw;rw[hi];refine⟨by decide,_,hS,rfl,by show 3<100;decide,?_⟩;show B E (iY qj q ⟨A.fen,jd "undone" [] (cG A ks bs us).fs⟩) S;rw[zmO];exact h
end
def jW:Yd->Bool
 |.run _ _ _ _=>true
 |_=>false
def zum(d:Yd):decide (jQ d="run")=jW d:=by cases d<;>kernel_rfl
def uE(s:Ya)(d:Yd):D:=if jW d=true then .int (s.en+1)else .non
def d0(hi:S[i]?=some (.val (yD d))):Ev (ak aC (vW i) (kW (.int 0))) S (.str (jQ d)):=lH (t:=.str (jQ d)::bu d) (aA hi) aF (gF (j:=0) rfl)
def zlD(d:Yd)(hi:S[i]?=some (.val (yD d))):Ev (ak cD (ak aC (vW i) (kW (.int 0))) (kW (.str "run"))) S (.bl (jW d)):=pQ (ww (d0 hi) aF (uq d) bC) (congrArg D.bl (zum d))
def six:∀{xs:List D},xs.length=6->∃a b c d e f,xs=[a,b,c,d,e,f]
 |[a,b,c,d,e,f],_=>⟨a,b,c,d,e,f,rfl⟩
def zs1(h:v.old=cJ t)(hi:S[i]?=some (.val v)):∃b:D,b.old=.int t.en/\Ev (ak cz (vW i) (kW (.str "entered"))) S b:=by
 cases v with
 |dct n ks xs=>
  rw[D.old]at h;injection h with h1 h2 h3
  subst h2;obtain⟨a,b,c,d,e,f,rfl⟩:=six (xs:=xs) (by rw[<-bW (f:=D.old),h3];rfl);refine⟨e,?_,Bf (aA hi) bk5⟩
  have:=congrArg (λl:List D=>l[4]?) h3
  exact Option.some.inj this
 |_=>rw[D.old]at h;cases h
def zlB(hS:qj q=some (cG A s.ds (bs++[cJ s]) us))(ok:dX s)(hx:jn d)(hb:bs.length<=1000) :
  zR A [.obj q,yD d] qj (λv qh=>why s d=none/\v.old=uE s d/\qh=iY qj q (cG A (s.ds++[yD d]) (bs++[cJ s]++[cJ (jL s d)]) [])) (λn qh=>why s d=some n/\qh=qj):=by
 refine CT (lG (n:=1) (pP q) (lN d)) ?_;show jT qj 0 A.fen "now" 1 (qU A) (λ_ Q=>Q []) _ _;refine zlN (ks:=s.ds) (us:=us) rfl hS _ ⟨rfl,J4 (zpY ok hx) (λv hv=>?_) λ_ z=>⟨z,rfl⟩⟩;obtain⟨hw,hv⟩:=hv;unfold gD;show bQ (j7 0 "kept" A.fen λ_=>vW 1) _ _ _ [.val (.obj q),.val (yD d),.val v];refine zqw (V:=λ_=>vW 1) (d:=yD d) (q:=q) rfl hS (aA rfl) (by have:=ok.dl;omega) ?_;rw[lN];refine znF (V:=λ_=>vW 2) (d:=v) (q:=q) rfl qW (aA rfl) (by rw[iU];show bs.length+1<100000;omega) ?_;rw[hv,Fg];refine zmD (q:=q) rfl qW ?_;rw[Fg];refine dI (zlD d (i:=1) rfl) _ ?_;unfold uE;cases e:jW d with
 |false=>exact⟨hw,by rw[D.old];rfl,rfl⟩
 |true=>
  obtain⟨b,h1,h2⟩:=zs1 hv (i:=2) (S:=[.val (.obj q),.val (yD d),.val v]) rfl;refine h2 _ ⟨hw,?_,rfl⟩;rw[h1];cases d with
  |run a b r h=>rfl
  |_=>cases e
def zi5(x:Str)(hx:x.length<=100000):HX [.str x] (·=.bl (nameB x)):=by
 unfold HX eG fH;rw[dZ,ji];refine⟨hx,zmi ?_⟩;unfold nameB yI;cases decide (1<=(x.length:Int))with
 |false=>rfl
 |true=>
  refine Fy (zuY (zmi ?_));cases decide ((x.length:Int)<=8)with
  |false=>rfl
  |true=>
   show _/\lD _ _ _ _ _ (vY x) [];refine⟨by unfold vY;rw[bW,<-Jg];exact hx,?_⟩;unfold vY;refine Ea (λch=>D.str ⟨#[ch]⟩) (λch=>.bl (decide (ch∈sg LET))) (sg x) (λch _ Y N y=>?_) ?_
   .show Y (.bl (if false=true then !mJ LET ⟨#[ch]⟩else mJ LET ⟨#[ch]⟩));rw[if_neg (by decide),zoI];exact y
   .exact zgq (f:=λch=>decide (ch∈sg LET)) (xs:=sg x) (n:=true) (by simp)
def mp1:aW MK [a,b,c,d,e,f] "places" w=[w,b,c,d,e,f]:=by kernel_rfl
def mp2:aW MK [a,b,c,d,e,f] "heeded" w=[a,w,c,d,e,f]:=by kernel_rfl
def mp3:aW MK [a,b,c,d,e,f] "rows" w=[a,b,w,d,e,f]:=by kernel_rfl
def mp4:aW MK [a,b,c,d,e,f] "entered" w=[a,b,c,w,e,f]:=by kernel_rfl
def mp5:aW MK [a,b,c,d,e,f] "many" w=[a,b,c,d,w,f]:=by kernel_rfl
def mp6:aW MK [a,b,c,d,e,f] "deeds" w=[a,b,c,d,e,w]:=by kernel_rfl
def mq1:bH MK "places"=MK:=by kernel_rfl
def mq2:bH MK "heeded"=MK:=by kernel_rfl
def mq3:bH MK "rows"=MK:=by kernel_rfl
def mq4:bH MK "entered"=MK:=by kernel_rfl
def mq5:bH MK "many"=MK:=by kernel_rfl
def mq6:bH MK "deeds"=MK:=by kernel_rfl
section
variable{S:Env}{E:En}{i:Nat}{V I:WE}{R B:WS}{ks:List Str}{xs:List D}{d v:D}{z:Str}{n:Bool}
def zt4(h:Ev V S (.dct n ks xs))(q:R E (S.set i (.dic ks xs))):aH (Br i V) R E S:=h _ q
def Ae(hi:S[i]?=some (.dic ks xs))(ho:Ag i S=true)(hk:ks.length<1000)(h:Ev V S d)(q:E.nx (S.set i (.dic (bH ks z) (aW ks xs z d)))):gO i (kW (.str z)) V E S:=by
 unfold gO;rw[hi];exact⟨ho,hk,h _ q⟩
def zrU(hi:S[i]?=some (.dic ks xs))(ho:Ag i S=true)(hk:ks.length<1000)(hl:dY ks xs z=some (.int a))(h:Ev V S (.int b))(q:E.nx (S.set i (.dic (bH ks z) (aW ks xs z (.int (a+b)))))):zM i (kW (.str z)) V E S:=by
 unfold zM;rw[hi];refine⟨ho,hk,?_⟩;show(match dY ks xs z with|some (.int a)=>_|_=>False);rw[hl];exact h _ q
def Aw(hi:S[i]?=some (.dic ks xs))(hl:dY ks xs z=some d):Ev (mH i (kW (.str z))) S d:=λP p=>by
 unfold mH;rw[hi];show nJ (dY ks xs z) P;rw[hl];exact p
def zkw(hi:S[i]?=some (.dic ks xs))(hL:jh L S ds)(h:F (.dct true ks xs::ds) (·=d))(f:zs6 d)(hl:ds.length+1=k:=by rfl):Ev (vD i k F L) S d:=λP p=>by
 unfold vD;rw[hi];exact hL _ ⟨hl,pI h λe z=>by subst z;exact⟨f,p⟩⟩
def ztj(hi:i<S.length)(hA:Ev A S (.fdc ks xs))(hk:ks.length<1000)(hV:Ev V (S.set i .un) v)(hI:Ev I (S.set i .un) (.str z))(q:B E (S.set i (.val (.fdc (bH ks z) (aW ks xs z v))))):wV i A V I B E S:=⟨hi,hA _ ⟨hk,hV _ (hI _ q)⟩⟩
end
def zlo(h:∀x∈xs,eO x n=true)(hl:xs.length<=1000:=by simp):eO (.tup xs) (n+1)=true:=by
 rw[eO,iB hl,Bool.true_and];clear hl
 induction xs with
 |nil=>rw[rY]
 |cons x xs ih=>rw[rY,h x gw,ih λy hy=>h y (je _ hy)];rfl
def ye(h:∀x∈xs,eO x n=true)(hl:xs.length<=1000):eO (.lst b xs) (n+1)=true:=by
 rw[eO,iB hl,Bool.true_and];clear hl
 induction xs with
 |nil=>rw[rY]
 |cons x xs ih=>rw[rY,h x gw,ih λy hy=>h y (je _ hy)];rfl
def qO(h:cC x=true):eO (.str x) n=true:=by rw[eO];exact h
def yF:eO (.int i) n=true:=by rw[eO]
section
variable{S:Env}{i:Nat}{w z:Str}{b:Bool}
def uK(hi:S[i]?=some (.val (.str w)))(hw:cC w=true)(hz:cC z=true):dU (bA (ak cD (vW i) (kW (.str z)))) S (decide (w=z)):=dI (ww (aA hi) aF hw hz)
end
def Ar(xs:List D)(pl:List (Str×Nat)):Prop:=dY MK (xs.map D.old) "places"=some (.lst false (pl.map dG))
def zmh:fH 2 [.dct n ks xs,.str x]=[.val (.dct false ks (xs.map D.old)),.val (.str x)]:=by
 unfold fH;rw[dZ,dZ,rT,ji,D.old];rfl
def zfR(hp:Ar xs pl)(h:sr pl)(hx:cC x=true):tO [.dct n MK xs,.str x] (·=.int (bw pl x)):=by
 refine cY zmh ?_;refine jg (ug (fV (uD dG (λp=>if decide (p.1=x)then some (dG p)else none) pl (v8 (Bf (aA rfl) hp)) (by have:=h.ln;omega) λy hy=>?_))) ?_
 .have ev:∀{S:Env},S[0]?=some (.val (dG y))->S[1]?=some (.val (.str x))->dU (bA (ak cD (ak aC (vW 0) (kW (.int 0))) (vW 1))) S (decide (y.1=x)):=λh1 h2=>dI (ww (lH (t:=[.str y.1,.int y.2]) (aA h1) aF (gF (j:=0) rfl)) (aA h2) (h.cC y hy) hx);cases e:decide (y.1=x)with
  |true=>exact t8 (e▸ev rfl rfl) (aA rfl)
  |false=>exact FW (e▸ev rfl rfl)
 .rw[zlA];rfl
def zsB(s:Ya):Ar (gY s) s.pl:=by
 unfold Ar gY;rw[dZ,iW (gM pR _)];exact mk1
def fP(hi:S[i]?=some (.val (aR s)))(h:dY MK (gY s) z=some d):Ev (ak cz (vW i) (kW (.str z))) S d:=Bf (aA hi) h
def pM[Decidable c](h:(if c then some x else o)=none):¬ c/\o=none:=by
 by_cases e:c
 .rw[if_pos e]at h;cases h
 .rw[if_neg e]at h;exact⟨e,h⟩
def zgi(pl:List (Str×Nat))(x y:Str):bw (pl++[lY pl x]) y=bw pl y+if x=y then 1 else 0:=by
 unfold bw;rw[List.filter_append,iU];congr 1;by_cases e:x=y
 .simp[lY,e]
 .simp[lY,e]
def Lst.snoc(h:Lst pl)(x:Str):Lst (pl++[lY pl x])where
 fin:=λy hy=>by
  rw[zgi]at hy ⊢;by_cases e:x=y
  .subst e;rw[if_pos rfl];exact YAE _ (lX.mpr rfl)
  .rw[if_neg e]at hy ⊢;exact Bu _ (h.fin y hy)
 le:=λp hp=>by
  rw[zgi];rcases YAG.mp hp with z|z
  .exact iu (h.le p z) (Js _ _)
  .rw[lX.mp z];show bw pl x+1<=bw pl x+if x=x then 1 else 0;rw[if_pos rfl];exact dJ _
 nd:=List.nodup_append.mpr ⟨h.nd,by simp,λa ha b hb z=>by
  rw[lX.mp hb]at z
  have:=h.le a ha
  rw[z]at this;exact absurd this (Nat.not_succ_le_self _)⟩
 one:=λy hy=>by
  rw[zgi]at hy;by_cases e:0<bw pl y
  .exact Bu _ (h.one y e)
  .by_cases f:x=y
   .subst f
    have:bw pl x=0:=by omega
    refine YAE _ (lX.mpr ?_);unfold lY;rw[this]
   .rw[if_neg f]at hy;exact absurd hy e
def zwe(hx:jn d):eO (yD d) 3=true:=by
 have w:=uq d;unfold yD;refine zlo ?_ (by cases d<;>simp[bu]);rw[xY];refine⟨qO w,?_⟩;cases d with
 |mark x=>simp[bu,qO (Tx.ok hx)]
 |hand x=>simp[bu,qO (Tx.ok hx)]
 |settle x=>simp[bu,qO (Tx.ok hx)]
 |run a b r h=>simp[bu,yF,qO hx.1.ok,qO hx.2.1.ok,qO hx.2.2.ok]
 |strike n=>simp[bu,yF]
 |allow n=>simp[bu,yF]
 |mend n k=>simp[bu,yF]
def zqE(ok:dX s)(hx:jn d)(f:why s d=none)(hl:s.ds.length<1000):dX (jL s d):=by
 have dn:(jL s d).ds=s.ds++[yD d]:=rfl;have dd:∀y∈(jL s d).ds,y.old=y/\eO y 3=true:=λy hy=>by
  rw[dn]at hy;rcases YAG.mp hy with z|z
  .exact ok.dd y z
  .rw[lX.mp z];exact⟨lN d,zwe hx⟩
 have dm:(jL s d).ds.length=s.ds.length+1:=by rw[dn,iU];rfl
 have dl:(jL s d).ds.length<=1000:=by rw[dm];omega
 have sl:s.sd.length<=(jL s d).ds.length:=by rw[dm];have:=ok.sl;omega
 have el:s.en<=(jL s d).ds.length:=by rw[dm];have:=ok.el;omega
 have place:∀x,nameB x=true->s.pl.length≠12->sr (s.pl++[lY s.pl x]):=λx hn hl=>⟨λp hp=>(YAG.mp hp).elim (ok.p.ok p) λz=>by rw[lX.mp z];exact hn,by rw[iU];have:=ok.p.ln;show s.pl.length+1<=12;omega⟩;have ra':∀x,∀r∈s.rs,r.a<(s.pl++[lY s.pl x]).length/\r.b<(s.pl++[lY s.pl x]).length/\r.h∈aY s:=λx r hr=>by
  have:=ok.ra r hr;rw[iU];show _<_+1/\_<_+1/\_;exact⟨by omega,by omega,this.2.2⟩
 have lh:=ok.h.ln;have hp:∀(t:Ya)(x:Str)(b:Bool),t.hs=wR s.hs x b->zZ t:=λt x b e=>by
  have en:aY t=aY s:=by show t.hs.map (·.1)=_;rw[e];exact zqG _ _ _
  exact⟨en▸ok.h.nd,en▸ok.h.ok,by rw[e];unfold wR;rw[bW];exact lh⟩
 cases d with
 |mark x=>
  obtain⟨f1,f⟩:=pM (show wz s x=none from f);obtain⟨f2,f⟩:=pM f;exact⟨place x (by simpa using f1) (pM f).1,ok.pt.snoc x,⟨ok.h.nd,ok.h.ok,lh⟩,ra' x,ok.rl,ok.sn,sl,ok.sh,ok.e0,el,dd,dl,ok.rn⟩
 |settle x=>
  obtain⟨f1,g⟩:=pM (show Cj s x=none from f);obtain⟨p,hp,rfl⟩:=YAK.mp (rA.mp (Nat.pos_of_ne_zero f1));exact⟨place _ (ok.p.ok p hp) (pM g).1,ok.pt.snoc _,⟨ok.h.nd,ok.h.ok,lh⟩,ra' _,ok.rl,ok.sn,sl,ok.sh,ok.e0,el,dd,dl,ok.rn⟩
 |hand x=>
  obtain⟨f1,f⟩:=pM (show uH s x=none from f);obtain⟨f2,f⟩:=pM f;have f3:=(pM f).1;have en:aY (jL s (.hand x))=aY s++[x]:=by show(s.hs++[(x,true)]).map (·.1)=_;rw[lL];rfl
  refine⟨⟨ok.p.ok,ok.p.ln⟩,ok.pt,⟨?_,λy hy=>?_,?_⟩,λr hr=>⟨(ok.ra r hr).1,(ok.ra r hr).2.1,en▸Bu _ (ok.ra r hr).2.2⟩,ok.rl,λy hy=>en▸Bu _ (ok.sn y hy),sl,λp hp=>?_,ok.e0,el,dd,dl,ok.rn⟩
  .rw[en];exact List.nodup_append.mpr ⟨ok.h.nd,by simp,λa ha b hb z=>by rw[lX.mp hb]at z;exact f2 (z▸ha)⟩
  .rw[en]at hy;exact(YAG.mp hy).elim (ok.h.ok y) λz=>by rw[lX.mp z];simpa using f1
  .show(s.hs++[_]).length<=10;rw[iU];show s.hs.length+1<=10;omega
  .refine(YAG.mp hp).elim (ok.sh p) λz=>?_;rw[lX.mp z];show true = !decide (x∈s.sd);rw[gV λz=>f2 (ok.sn x z)];rfl
 |run a b r h=>
  obtain⟨f1,f⟩:=pM (show eV s a b r h=none from f);obtain⟨f2,f⟩:=pM f;obtain⟨f3,f⟩:=pM f;obtain⟨f4,f⟩:=pM f;have f5:=(pM f).1;have e0:=ok.e0;have rl:=ok.rl;have el2:=ok.el;refine⟨⟨ok.p.ok,ok.p.ln⟩,ok.pt,⟨ok.h.nd,ok.h.ok,lh⟩,λq hq=>?_,?_,ok.sn,sl,ok.sh,by show 0<=s.en+1;omega,by rw[dm];show s.en+1<=_;omega,dd,dl,λq hq=>by
   rcases YAG.mp hq with z|z
   .have:=ok.rn q z;show q.n<=s.en+1;omega
   .rw[lX.mp z];exact Int.le_refl _⟩
  .rcases YAG.mp hq with z|z
   .exact ok.ra q z
   .rw[lX.mp z];exact⟨DX ok.pt (by omega),DX ok.pt (by omega),Decidable.of_not_not f3⟩
  .show(s.rs++[_]).length<=40;rw[iU];show s.rs.length+1<=40;omega
 |strike n=>exact⟨⟨ok.p.ok,ok.p.ln⟩,ok.pt,⟨ok.h.nd,ok.h.ok,lh⟩,λq hq=>ok.ra q (zq.mp hq).1,iu (YCp _ _) ok.rl,ok.sn,sl,ok.sh,ok.e0,el,dd,dl,λq hq=>ok.rn q (zq.mp hq).1⟩
 |mend n k=>
  refine⟨⟨ok.p.ok,ok.p.ln⟩,ok.pt,⟨ok.h.nd,ok.h.ok,lh⟩,λq hq=>?_,by show(s.rs.map _).length<=40;rw[bW];exact ok.rl,ok.sn,sl,ok.sh,ok.e0,el,dd,dl,λq hq=>by
   obtain⟨r,hr,rfl⟩:=YAK.mp hq;unfold pG;split<;>exact ok.rn r hr⟩
  obtain⟨r,hr,rfl⟩:=YAK.mp hq;unfold pG;split<;>exact ok.ra r hr
 |allow k=>exact⟨⟨ok.p.ok,ok.p.ln⟩,ok.pt,⟨ok.h.nd,ok.h.ok,lh⟩,ok.ra,ok.rl,ok.sn,sl,ok.sh,ok.e0,el,dd,dl,ok.rn⟩
def zo7(y x:Str×Nat):eqB (dG y) (dG x)=decide (y=x):=by
 have:eqB (dG y) (dG x)=(eqB (.str y.1) (.str x.1)&&(((y.2:Nat):Int)==((x.2:Nat):Int)&&true)):=rfl
 rw[this,ziV];obtain⟨a,b⟩:=y;obtain⟨c,d⟩:=x;by_cases e:a=c
 .by_cases f:b=d
  .subst e;subst f;simp
  .simp[e,f];omega
 .simp[e]
def zni(h:cC x.1=true):dR (dG x)=true:=by
 show(PyData.canLay0 (.str x.1)&&_)=true;rw[show PyData.canLay0 (.str x.1)=true from h];rfl
theorem zl7:∀{pl:List (Str×Nat)},(∀y∈pl,cC y.1=true)->m9 (pl.map dG)=true
 |[],_=>by rw[rT,m9]
 |y::pl,h=>by rw[dZ,m9,zl7 λz hz=>h z (je _ hz),zni (h y gw)];rfl
def zeB(hp:Ar xs pl)(h:sr pl)(hs:Lst pl)(hk:cC x=true)(hx:0<bw pl x):uQ [.dct n MK xs,.str x] (·=.int (lZ pl x)):=by
 refine cY zmh ?_;have ht:=zfR (n:=false) (xs:=xs.map D.old) (x:=x) (pl:=pl) (by unfold Ar;rw[YAL,show(D.old∘D.old)=D.old from funext zkj];exact hp) h hk;have et:Ev (bK (aq (vW 1) (aq (aZ 2 tO (aq (vW 0) (aq (vW 1) ao))) ao))) [.val (.dct false MK (xs.map D.old)),.val (.str x)] (dG (x,bw pl x)):=lR (aL (aA rfl) (aL (jy (aL (aA rfl) (aL (aA rfl) bL)) ht) bL));have ev:Ev (zsq (ak cz (vW 0) (kW (.str "places"))) (bK (aq (vW 1) (aq (aZ 2 tO (aq (vW 0) (aq (vW 1) ao))) ao)))) [.val (.dct false MK (xs.map D.old)),.val (.str x)] (.int (lZ pl x)):=λP p=>by
  refine Bf (aA rfl) hp _ ?_;refine et (λy=>ztY (pl.map dG) y P) ?_;refine⟨⟨zni hk,zl7 h.cC,?_⟩,by rw[bW];have:=h.ln;omega,lZ pl x,dG (x,bw pl x),by rw[jG,ztA hs hx];rfl,?_,λm hm z hz=>?_,p⟩
  .exact iu (YCs _ _) (by show(toPy (dG (x,bw pl x))).depth<=50;exact(by decide:1<=50))
  .rw[zo7,iB rfl]
  .have hml:m<pl.length:=Nat.lt_trans hm (DX hs hx);rw[jG,jr hml]at hz;cases hz;show eqB (dG pl[m]) (dG (x,bw pl x))=false;rw[zo7]
   have:=List.not_of_lt_findIdx hm
   simpa using this
 exact jg ev rfl
def zpy(s:Ya)(d:Yd):(uE s d).old=uE s d:=by
 unfold uE;split
 .exact jX _
 .rw[D.old]
def zqd(hd:∀y∈s.ds,y.old=y):HB [aR s,yD d] (·=uE s d):=by
 refine cY (lG (n:=0) (yC hd) (lN d)) ?_;have er:Ev (ak cD (ak aC (vW 1) (kW (.int 0))) (kW (.str "run"))) (.val (aR s)::.val (yD d)::List.replicate 0 Sl.un) (.bl (jW d)):=zlD d (i:=1) rfl;have el:=fV (kj (aL (aF (d:=.non)) (aL (vB (fP (s:=s) (S:=.val (aR s)::.val (yD d)::List.replicate 0 Sl.un) (i:=0) rfl (m4 s)) (aF (d:=.int 1))) bL)));refine jg (ue (k:=if jW d then 1 else 0) (d:=uE s d) el (wN (aL er bL) λP p=>p) ?_) rfl;unfold uE;cases jW d
 .exact gF (j:=0) rfl
 .exact gF (j:=1) rfl
def zru(h:xs.map D.old=gY t):(D.dct n MK xs).old=aR t:=by rw[D.old,h];rfl
def in3(hi:S[i]?=some (.val (.str w)))(hw:cC w=true):dU (bA (ak (eU false) (vW i) (bK (aq (kW (.str "hand")) (aq (kW (.str "heed")) (aq (kW (.str "aside")) ao)))))) S (decide (w∈[("hand":Str),"heed","aside"])):=
 dI (zN (neg:=false) (hs:=["hand","heed","aside"]) (aA hi) (lR (aL aF (aL aF (aL aF bL)))) hw (by
  intro y hy;simp only[ir,lB,rK]at hy;rcases hy with rfl|rfl|rfl<;>exact bC))
def zqv(hn:x∉hs.map (·.1)):bH (hs.map (·.1)) x=(hs++[(x,true)]).map (·.1)/\aW (hs.map (·.1)) (hs.map λp=>D.bl p.2) x (.bl true)=(hs++[(x,true)]).map λp=>D.bl p.2:=by
 have:(hs.map (·.1)).contains x=false:=by rw[<-YC4,Ke];exact hn
 unfold bH aW;rw[this];exact⟨by rw[lL];rfl,by rw[lL];rfl⟩
abbrev mY(s:Ya)(d:Yd):List D:=[.lst false (s.pl.map dG),.fdc (aY s) (s.hs.map λp=>.bl p.2),.lst false (s.rs.map cL),.int s.en,.int s.al,.lst true (s.ds++[yD d])]
def zkz:Ar [.lst false (s.pl.map dG),.fdc (aY s) (s.hs.map λp=>.bl p.2),.lst false (s.rs.map cL),.int e,.int s.al,.lst true (s.ds++[yD d])] s.pl:=by
 unfold Ar;rw[dZ,iW (gM pR _)];exact mk1
def Df(ha:a.old=.lst false (t.pl.map dG))(hb:b=.fdc (aY t) (t.hs.map λp=>.bl p.2))(hc:c.old=.lst false (t.rs.map cL))(he:e=t.en)(hf:f=t.al)(hL:L.old=.lst false t.ds):(D.dct true MK [a,b,c,.int e,.int f,L]).old=aR t:=by
 refine zru ?_;subst hb;subst he;subst hf;simp only[dZ,rT];rw[ha,hc,hL,zkP (gM (λ_=>zqU _) _),jX,jX];rfl
def wk(d:Yd):Nat:=match d with
 |.mark _|.settle _=>0
 |.hand _=>1
 |.run _ _ _ _=>2
 |.strike _=>3
 |.mend _ _=>4
 |.allow _=>5
section
variable{s:Ya}{d:Yd}{S:Env}
def Ai(d:Yd)(h2:S[2]?=some (.val (.str (jQ d))))(hb:decide (wk d=0)=b:=by rfl):dU (rB (bA (ak cD (vW 2) (kW (.str "mark")))) (bA (ak cD (vW 2) (kW (.str "settle"))))) S b:=b8 (yt (uK h2 (uq d) bC) λ_=>uK h2 (uq d) bC) (by rw[<-hb];cases d<;>kernel_rfl)
def Kv(d:Yd)(h2:S[2]?=some (.val (.str (jQ d))))(hb:decide (wk d=1)=b:=by rfl):dU (bA (ak (eU false) (vW 2) (bK (aq (kW (.str "hand")) (aq (kW (.str "heed")) (aq (kW (.str "aside")) ao)))))) S b:=b8 (in3 h2 (uq d)) (by rw[<-hb];cases d<;>kernel_rfl)
def wk2(d:Yd)(h2:S[2]?=some (.val (.str (jQ d))))(hb:decide (wk d=2)=b:=by rfl):dU (bA (ak cD (vW 2) (kW (.str "run")))) S b:=b8 (uK h2 (uq d) bC) (by rw[<-hb];cases d<;>kernel_rfl)
def wk3(d:Yd)(h2:S[2]?=some (.val (.str (jQ d))))(hb:decide (wk d=3)=b:=by rfl):dU (bA (ak cD (vW 2) (kW (.str "strike")))) S b:=b8 (uK h2 (uq d) bC) (by rw[<-hb];cases d<;>kernel_rfl)
def wk4(d:Yd)(h2:S[2]?=some (.val (.str (jQ d))))(hb:decide (wk d=4)=b:=by rfl):dU (bA (ak cD (vW 2) (kW (.str "mend")))) S b:=b8 (uK h2 (uq d) bC) (by rw[<-hb];cases d<;>kernel_rfl)
end
def tu(hi:S[i]?=some (.val (yD d)))(h:(bu d)[j]?=some y):Ev (ak aC (vW i) (kW (.int (j+1:Nat)))) S y:=lH (t:=.str (jQ d)::bu d) (k:=(j+1:Nat)) (aA hi) aF (gF (j:=j+1) h)
def zuv:WS:=gO 0 (kW (.str "places")) (ak aU (mH 0 (kW (.str "places"))) (aN (bh (aq (bK (aq (ak aC (vW 1) (kW (.int 1))) (aq (ak aU (vD 0 2 tO (aq (ak aC (vW 1) (kW (.int 1))) ao)) (kW (.int 1))) ao))) ao))))
def zty:WS:=wV 3 (mH 0 (kW (.str "heeded"))) (ak lW (vW 2) (kW (.str "aside"))) (ak aC (vW 1) (kW (.int 1))) (gO 0 (kW (.str "heeded")) (vW 3))
section
variable{s:Ya}{d:Yd}
abbrev Ej(t:Ya):En:={nx:=λ_=>(D.non).old=aR t,rt:=λv=>v.old=aR t,bk:=λ_=>False,ct:=λ_=>False}
abbrev SM(s:Ya)(d:Yd):Env:=[.dic MK (mY s d),.val (yD d),.val (.str (jQ d)),.un,.un,.un]
def zj3(ok:dX s)(hx:Tx x)(ha:bu d=[.str x])(hd:∀y∈s.ds++[yD d],y.old=y):aH zuv (xu 0) (Ej {s with pl:=s.pl++[lY s.pl x],ds:=s.ds++[yD d]}) (SM s d):=by
 have e1:∀{S:Env},S[1]?=some (.val (yD d))->Ev (ak aC (vW 1) (kW (.int 1))) S (.str x):=λh=>tu (j:=0) h (by rw[ha];rfl);refine Ae (d:=.lst true (s.pl.map dG++[dG (lY s.pl x)])) rfl rfl (by decide) (rJ (Aw rfl mk1) (fV (kj (aL (lR (aL (e1 rfl) (aL (vB (zkw rfl (aL (e1 rfl) bL) (zfR (n:=true) zkz ok.p hx.ok) trivial) aF) bL))) bL))) (by rw[bW];have:=ok.p.ln;show s.pl.length+1<=100000;omega)) ?_;rw[mq1,mp1];refine Df (t:={s with pl:=s.pl++[lY s.pl x],ds:=s.ds++[yD d]}) ?_ rfl (iW (gM Bc _)) rfl rfl (iW hd);rw[<-Ge (f:=dG),<-lL];exact iW (gM pR _)
def zp9(ok:dX s)(ha:bu d=[.str x])(hb:(!decide (jQ d="aside"))=b)(hp:bH (aY s) x=hs.map (·.1)/\aW (aY s) (s.hs.map λp=>D.bl p.2) x (.bl b)=hs.map λp=>D.bl p.2)(hd:∀y∈s.ds++[yD d],y.old=y):aH zty (xu 0) (Ej {s with sd:=sd,hs:=hs,ds:=s.ds++[yD d]}) (SM s d):=by
 have e1:∀{S:Env},S[1]?=some (.val (yD d))->Ev (ak aC (vW 1) (kW (.int 1))) S (.str x):=λh=>tu (j:=0) h (by rw[ha];rfl);refine ztj (ks:=aY s) (xs:=s.hs.map λp=>.bl p.2) (v:=.bl b) (z:=x) (by show 3<6;decide) (Aw rfl mk2) (by have:=ok.h.ln;show(s.hs.map (·.1)).length<1000;rw[bW];omega) (pQ (zvr (aA rfl) aF (uq d) bC) (congrArg D.bl hb)) (e1 rfl) ?_;rw[hp.1,hp.2];refine Ae (d:=.fdc (hs.map (·.1)) (hs.map λp=>.bl p.2)) rfl rfl (by decide) (aA rfl) ?_;rw[mq2,mp2];exact Df (t:={s with sd:=sd,hs:=hs,ds:=s.ds++[yD d]}) (iW (gM pR _)) rfl (iW (gM Bc _)) rfl rfl (iW hd)
end
noncomputable def zt6:WS:=aH (zM 0 (kW (.str "entered")) (kW (.int 1)))
  (aH (aP (.nm 4) (ak aU (bK (aq (mH 0 (kW (.str "entered"))) (aq (vD 0 2 uQ (aq (ak aC (vW 1) (kW (.int 1))) ao)) (aq (vD 0 2 uQ (aq (ak aC (vW 1) (kW (.int 2))) ao)) ao)))) (fu (vW 1) (mD (kW (.int 3))) my)))
  (gO 0 (kW (.str "rows")) (ak aU (mH 0 (kW (.str "rows"))) (aN (bh (aq (vW 4) ao))))))
def ztR:WS:=gO 0 (kW (.str "rows")) (aN (eY [none,some 1] (gq (mH 0 (kW (.str "rows")))) (.nm 0) (bA (ak lW (ak aC (vW 0) (kW (.int 0))) (ak aC (vW 1) (kW (.int 1))))) (vW 0)))
noncomputable def zuB:WS:=aH (lq 5 (bh ao))
  (aH (rP (gq (mH 0 (kW (.str "rows")))) (.nm 4) (jZ 5 (ak aC (aN (bh (aq (vW 4) (aq (ak aU (fu (vW 4) my (mD (kW (.int 3)))) (bK (aq (ak aC (vW 1) (kW (.int 2))) (aq (ak aC (vW 4) (kW (.int 4))) ao)))) ao)))) (cbW mQ (aq (ak cD (ak aC (vW 4) (kW (.int 0))) (ak aC (vW 1) (kW (.int 1)))) ao)))))
  (nG 5 (gO 0 (kW (.str "rows")) (vW 5))))
def zuU(ok:dX s)(ha:Tx a)(hb:Tx b)(ca:0<bw s.pl a)(cb:0<bw s.pl b)(hd:∀y∈s.ds++[yD (.run a b r h)],y.old=y):aH zt6 (xu 0) (Ej (jL s (.run a b r h))) (SM s (.run a b r h)):=by
 refine zrU (i:=0) (S:=SM s (.run a b r h)) (ks:=MK) (xs:=mY s (.run a b r h)) (a:=s.en) (b:=1) rfl rfl (by decide) mk4 aF ?_;rw[mq4,mp4];show aH _ _ _ [.dic MK [.lst false (s.pl.map dG),.fdc (aY s) (s.hs.map λp=>.bl p.2),.lst false (s.rs.map cL),.int (s.en+1),.int s.al,.lst true (s.ds++[yD (.run a b r h)])],.val (yD (.run a b r h)),.val (.str "run"),.un,.un,.un];have cut:cutD [D.str "run",.str a,.str b,.int r,.str h] (some 3) none=[.int r,.str h]:=by kernel_rfl
 have v1:Ev (vW 1) [.dic MK [.lst false (s.pl.map dG),.fdc (aY s) (s.hs.map λp=>.bl p.2),.lst false (s.rs.map cL),.int (s.en+1),.int s.al,.lst true (s.ds++[yD (.run a b r h)])],.val (yD (.run a b r h)),.val (.str "run"),.un,.un,.un] (.tup [.str "run",.str a,.str b,.int r,.str h]):=aA rfl;refine jM (d:=cL (qt s a b r h)) (vg (s:=[.int (s.en+1),.int (lZ s.pl a),.int (lZ s.pl b)]) (t:=[.int r,.str h]) (lR (aL (Aw (i:=0) rfl mk4) (aL (zkw (i:=0) rfl (aL (lH (k:=1) (d:=.str a) v1 aF (gF (j:=1) rfl)) bL) (zeB zkz ok.p ok.pt ha.ok ca) trivial) (aL (zkw (i:=0) rfl (aL (lH (k:=2) (d:=.str b) v1 aF (gF (j:=2) rfl)) bL) (zeB zkz ok.p ok.pt hb.ok cb) trivial) bL)))) (pQ (Dv v1 (wU (aF (d:=.int 3))) yj) (congrArg D.tup cut)) (by show 5<=100000;decide)) ?_;refine Ae (d:=.lst true (s.rs.map cL++[cL (qt s a b r h)])) rfl rfl (by decide) (rJ (Aw rfl mk3) (fV (kj (aL (aA rfl) bL))) (by rw[bW];have:=ok.rl;show s.rs.length+1<=100000;omega)) ?_;rw[mq3,mp3];refine Df (t:=jL s (.run a b r h)) (iW (gM pR _)) rfl ?_ rfl rfl (iW hd);rw[<-Ge (f:=cL),<-lL];exact iW (gM Bc _)
def znQ(ok:dX s)(hd:∀y∈s.ds++[yD (.strike n)],y.old=y):aH ztR (xu 0) (Ej (jL s (.strike n))) (SM s (.strike n)):=by
 have hc:=uD (sub:=[none,some 1]) (S:=SM s (.strike n)) (I:=gq (mH 0 (kW (.str "rows")))) (t:=.nm 0) (C:=bA (ak lW (ak aC (vW 0) (kW (.int 0))) (ak aC (vW 1) (kW (.int 1))))) (E:=vW 0) cL (λr=>if !decide (r.n=n)then some (cL r)else none) s.rs (v8 (Aw rfl mk3)) (by have:=ok.rl;omega) (λr _=>by
  have ev:∀{S:Env},S[0]?=some (.val (cL r))->S[1]?=some (.val (yD (.strike n)))->dU (bA (ak lW (ak aC (vW 0) (kW (.int 0))) (ak aC (vW 1) (kW (.int 1))))) S (!decide (r.n=n)):=λh0 h1=>dI (zrf (lH (t:=[.int r.n,.int r.a,.int r.b,.int r.r,.str r.h]) (aA h0) aF (gF (j:=0) rfl)) (tu (j:=0) h1 rfl));cases e:!decide (r.n=n)with
  |false=>exact FW (b8 (ev rfl rfl) e)
  |true=>exact t8 (b8 (ev rfl rfl) e) (aA rfl))
 rw[zhY]at hc;refine Ae (S:=SM s (.strike n)) (d:=.lst true ((s.rs.filter λr:Yr=>!decide (r.n=n)).map cL)) rfl rfl (by decide) (fV hc) ?_;rw[mq3,mp3];exact Df (t:=jL s (.strike n)) (iW (gM pR _)) rfl (iW (gM Bc _)) rfl rfl (iW hd)
def zvp{S:Env}{E:En}{i:Nat}{xs:List D}{V:WE}{d:D}(hi:S[i]?=some (.own xs))(h:Ev V S d)(hl:xs.length<100000)(q:E.nx (S.set i (.own (xs++[d])))):jZ i V E S:=by
 unfold jZ;rw[hi];exact h _ ⟨hl,q⟩
def zr6{s:Ya}{n k:Int}(ok:dX s)(hd:∀y∈s.ds++[yD (.mend n k)],y.old=y):aH zuB (xu 0) (Ej (jL s (.mend n k))) (SM s (.mend n k)):=by
 refine⟨by simp,?_⟩;show rP (gq (mH 0 (kW (.str "rows")))) (.nm 4) _ _ [.dic MK (mY s (.mend n k)),.val (yD (.mend n k)),.val (.str "mend"),.un,.un,.own []];refine v8 (Aw rfl mk3) _ ?_;have rl:=ok.rl;refine Jc (λrest S=>∃r1 r2 s4,(s4=.un\/∃v,s4=.val v)/\s.rs=r1++r2/\rest=r2.map cL/\S=[.dic MK (mY s (.mend n k)),.val (yD (.mend n k)),.val (.str "mend"),.un,s4,.own ((r1.map (pG n k)).map cL)]) ?_ ?_ _ _ ⟨[],s.rs,.un,.inl rfl,rfl,rfl,rfl⟩
 .rintro x rest S E' hn _ _ _ ⟨r1,r2,s4,h4,e,er,rfl⟩;cases r2 with
  |nil=>cases er
  |cons r r2=>
   rw[dZ]at er;injection er with e1 e2
   subst e1;unfold gD;have hl:r1.length<=40:=by have:=congrArg List.length e;rw[iU]at this;omega
   have cut:cutD [D.int r.n,.int r.a,.int r.b,.int r.r,.str r.h] none (some 3)=[.int r.n,.int r.a,.int r.b]:=by kernel_rfl
   have v4:Ev (vW 4) [.dic MK (mY s (.mend n k)),.val (yD (.mend n k)),.val (.str "mend"),.un,.val (cL r),.own ((r1.map (pG n k)).map cL)] (.tup [.int r.n,.int r.a,.int r.b,.int r.r,.str r.h]):=aA rfl;have vd:Ev (vW 1) [.dic MK (mY s (.mend n k)),.val (yD (.mend n k)),.val (.str "mend"),.un,.val (cL r),.own ((r1.map (pG n k)).map cL)] (.tup [.str "mend",.int n,.int k]):=aA rfl;have a2:=vg (pQ (Dv v4 yj (wU (aF (d:=.int 3)))) (congrArg D.tup cut)) (lR (aL (lH (k:=2) (d:=.int k) vd aF (gF (j:=2) rfl)) (aL (lH (k:=4) (d:=.str r.h) v4 aF (gF (j:=4) rfl)) bL))) (by show 5<=100000;decide);refine zvp (d:=cL (pG n k r)) rfl (ue (k:=if decide (r.n=n)then 1 else 0) (fV (kj (aL v4 (aL a2 bL)))) (wN (aL (qI (lH (k:=0) v4 aF (gF (j:=0) rfl)) (lH (k:=1) (d:=.int n) vd aF (gF (j:=1) rfl))) bL) λP p=>p) ?_) (by rw[bW,bW];omega) (hn _ ⟨r1++[r],r2,.val (cL r),.inr ⟨_,rfl⟩,by rw[e];simp,e2,by rw[lL,lL];rfl⟩);unfold pG;by_cases f:r.n=n
   .rw[iB f,if_pos f];exact gF (j:=1) rfl
   .rw[gV f,if_neg f];exact gF (j:=0) rfl
 .rintro S ⟨r1,r2,s4,h4,e,er,rfl⟩;cases r2 with
  |cons r r2=>cases er
  |nil=>
   rw[rQ]at e;rw[<-e];show gO 0 (kW (.str "rows")) (vW 5) _ [.dic MK (mY s (.mend n k)),.val (yD (.mend n k)),.val (.str "mend"),.un,s4,.val (.lst true ((s.rs.map (pG n k)).map cL))];refine Ae (ks:=MK) (xs:=mY s (.mend n k)) (d:=.lst true ((s.rs.map (pG n k)).map cL)) rfl (by rcases h4 with rfl|⟨v,rfl⟩<;>rfl) (by decide) (aA rfl) ?_;rw[mq3,mp3];exact Df (t:=jL s (.mend n k)) (iW (gM pR _)) rfl (iW (gM Bc _)) rfl rfl (iW hd)
def zqf(ok:dX s)(hx:jn d)(f:why s d=none):Gg [aR s,yD d] (λv=>v.old=aR (jL s d)):=by
 have hd:∀y∈s.ds++[yD d],y.old=y:=λy hy=>by
  rcases YAG.mp hy with z|z
  .exact(ok.dd y z).1
  .rw[lX.mp z];exact lN d
 refine cY (lG (n:=4) (yC λy hy=>(ok.dd y hy).1) (lN d)) ?_;refine zt4 (xs:=gY s) (aA rfl) ?_;refine Ae (ks:=MK) (xs:=gY s) (d:=.lst true (s.ds++[yD d])) rfl rfl (by decide) (rJ (Aw rfl (m6 s)) (fV (kj (aL (aA rfl) bL))) (by have:=ok.dl;show s.ds.length+1<=100000;omega)) ?_;rw[mq6,show aW MK (gY s) "deeds" (.lst true (s.ds++[yD d]))=_ from mp6];dsimp only;refine jM (S:=[.dic MK (mY s d),.val (yD d),.un,.un,.un,.un]) (d:=.str (jQ d)) (d0 rfl) ?_;show aH (cX _ zuv (cX _ zty (cX _ zt6 (cX _ ztR (cX _ zuB _))))) _ (Ej (jL s d)) (SM s d);cases d with
 |mark x=>exact jV (Ai (.mark x) rfl) (zj3 ok hx rfl hd)
 |settle x=>exact jV (Ai (.settle x) rfl) (zj3 ok hx rfl hd)
 |hand x=>exact pK (Ai (.hand x) rfl) (jV (Kv (.hand x) rfl) (zp9 ok rfl (by kernel_rfl) (zqv (pM (pM (show uH s x=none from f)).2).1) hd))
 |run a b r h=>
  have c:=(pM (show eV s a b r h=none from f)).1;exact pK (Ai (.run a b r h) rfl) (pK (Kv (.run a b r h) rfl) (jV (wk2 (.run a b r h) rfl) (zuU ok hx.1 hx.2.1 (by omega) (by omega) hd)))
 |strike n=>exact pK (Ai (.strike n) rfl) (pK (Kv (.strike n) rfl) (pK (wk2 (.strike n) rfl) (jV (wk3 (.strike n) rfl) (znQ ok hd))))
 |mend n k=>exact pK (Ai (.mend n k) rfl) (pK (Kv (.mend n k) rfl) (pK (wk2 (.mend n k) rfl) (pK (wk3 (.mend n k) rfl) (jV (wk4 (.mend n k) rfl) (zr6 ok hd)))))
 |allow k=>
  refine pK (Ai (.allow k) rfl) (pK (Kv (.allow k) rfl) (pK (wk2 (.allow k) rfl) (pK (wk3 (.allow k) rfl) (pK (wk4 (.allow k) rfl) ?_))));refine Ae (d:=.int k) rfl rfl (by decide) (tu (j:=0) rfl rfl) ?_;rw[mq5,mp5];exact Df (t:=jL s (.allow k)) (iW (gM pR _)) rfl (iW (gM Bc _)) rfl rfl (iW hd)
def Wd(E:En)(o:Option Str):Prop:=E.rt (.str (o.getD ""))
section
variable{S:Env}{C A B V:WE}{T:WT}{R:WS}{E:En}{b:Bool}{s:Ya}{d:Yd}{x n:Str}{c:Prop}[Decidable c]{o:Option Str}
def zoz(h:Ev C S (.bl b)):Ev (ak aC (aN (bh (aq (kW (.str u)) (aq (kW (.str v)) ao)))) (cbW mQ (aq C ao))) S (.str (if b=true then v else u)):=by
 refine ue (k:=if b then 1 else 0) (fV (kj (aL aF (aL aF bL)))) (wN (aL h bL) λP p=>p) ?_;cases b
 .exact gF (j:=0) rfl
 .exact gF (j:=1) rfl
def uR(ev:dU T S b)(hb:b=decide c)(hE:Wd E (if c then some n else o))(h:¬ c->Wd E o->R E S):aH (cX T (aO (kW (.str n))) bU) R E S:=by
 subst hb;by_cases e:c
 .rw[if_pos e]at hE;exact jV (b8 ev (iB e)) (jg aF hE)
 .rw[if_neg e]at hE;exact jP (b8 ev (gV e)) (h e hE)
def Dt(ev:Ev C S (.bl b))(hb:b=decide c)(hE:Wd E (if c then some n else none)):aO (ak aC (aN (bh (aq (kW (.str "")) (aq (kW (.str n)) ao)))) (cbW mQ (aq C ao))) E S:=by
 subst hb;refine jg (zoz ev) ?_;by_cases e:c
 .rw[if_pos e]at hE;rw[if_pos (iB e)];exact hE
 .rw[if_neg e]at hE;rw[if_neg (by simpa using e)];exact hE
def zm8(ev:Ev C S (.bl b))(hb:b = !decide c)(hE:Wd E (if c then some n else none)):aO (ak aC (aN (bh (aq (kW (.str n)) (aq (kW (.str "")) ao)))) (cbW mQ (aq C ao))) E S:=by
 subst hb;refine jg (zoz ev) ?_;by_cases e:c
 .rw[if_pos e]at hE;rw[iB e];exact hE
 .rw[if_neg e]at hE;rw[gV e];exact hE
def zld(h:Ev V S y)(q:E.rt y):aH (aO V) R E S:=h _ q
def Dj{U V R:WS}{E:En}(h:aH U V {E with nx:=R E} S):aH (aH U V) R E S:=h
def zth(hA:Ev A S (.str z))(hB:Ev B S (.fdc ks xs)):dU (nF neg A B) S (neg != ks.contains z):=λP p=>hA _ (hB _ p)
def zsR(hA:Ev A S (.fdc ks xs)):Ev (zrV A) S (.int ks.length):=λP p=>hA _ p
def zgk(ok:dX s)(hx:cC x=true)(h0:S[0]?=some (.val (aR s)))(hV:Ev V S (.str x)):Ev (aZ 2 tO (aq (vW 0) (aq V ao))) S (.int (bw s.pl x)):=jy (aL (aA h0) (aL hV bL)) (zfR (zsB s) ok.p hx)
def zuw(h0:S[0]?=some (.val (aR s)))(hV:Ev V S (.str x)):dU (nF neg V (ak cz (vW 0) (kW (.str "heeded")))) S (neg != decide (x∈aY s)):=b8 (zth hV (fP h0 (m2 s))) (by
 by_cases e:x∈aY s
 .rw[iB e,Ke.mpr e]
 .rw[gV e,show(aY s).contains x=false by rw[<-YC4,Ke];exact e])
def qL{k j:Nat}:decide ((k:Int)=(j:Int))=decide (k=j):=by
 by_cases e:k=j
 .subst e;simp
 .rw[gV e,gV (by omega)]
def zlq(hL:Ev L S (.int i))(hV:Ev V S (.int r))(hU:Ev U S (.int k)):Ev (uV mz mz L V U) S (.bl (decide (i<=r)&&decide (r<=k))):=λP p=>hL _ (hV _ (by
 show if decide (i<=r)=true then U S (λw=>mz (.int r) w P)else P (.bl false);by_cases e:i<=r
 .rw[iB e]at p ⊢;exact hU _ p
 .rw[gV e]at p ⊢;exact p))
def zqS(hL:Ev L S (.int (-1000000000)))(hV:Ev V S (.int r))(hU:Ev U S (.int 1000000000)):Ev (uV mz mz L V U) S (.bl (okR r)):=zlq hL hV hU
def zjv{a b h:Str}{r:Int}(ok:dX s)(ha:Tx a)(hb:Tx b):zbX [aR s,yD (.run a b r h)] (·=.str ((eV s a b r h).getD "")):=by
 refine cY (lG (n:=5) (yC λy hy=>(ok.dd y hy).1) (lN _)) ?_;refine zoN (x1:=.str "run") (x2:=.str a) (x3:=.str b) (x4:=.int r) (x5:=.str h) (aA rfl) ?_;show aH _ _ _ [.val (aR s),.val (yD (.run a b r h)),.val (.str "run"),.val (.str a),.val (.str b),.val (.int r),.val (.str h)];refine uR (b8 (yt (dI (qI (t:=0) (zgk ok ha.ok rfl (aA rfl)) aF)) λ_=>dI (qI (t:=0) (zgk ok hb.ok rfl (aA rfl)) aF)) rfl) (by rw[Bool.decide_or,<-qL,<-qL];rfl) (show Wd _ (eV s a b r h)from rfl) λ_ hE=>?_;refine uR (dI (ww (aA rfl) (aA rfl) ha.ok hb.ok)) rfl hE λ_ hE=>?_;refine uR (zuw (x:=h) rfl (aA rfl)) (by simp) hE λ_ hE=>?_;refine uR (yo (dI (zqS (r:=r) (zqC aF λP p=>p) (aA rfl) aF))) (by cases okR r<;>rfl) hE λ_ hE=>?_;exact Dt (qI (ug (fP rfl (m3 s))) aF) (by rw[bW];exact qL (j:=40)) hE
def Et(hi:S[i]?=some (.val (yD d)))(hz:cC z=true):dU (bA (ak cD (ak aC (vW i) (kW (.int 0))) (kW (.str z)))) S (decide (jQ d=z)):=dI (ww (d0 hi) aF (uq d) hz)
def d1(h1:S[1]?=some (.val (yD d)))(hy:(bu d)[0]?=some y):Ev (ak aC (vW 1) (kW (.int 1))) S y:=tu (j:=0) h1 hy
def zjQ(ok:dX s)(hx:Tx x):Kg [aR s,yD (.mark x)] (·=.str ((wz s x).getD "")):=by
 refine cY (lG (n:=0) (yC λy hy=>(ok.dd y hy).1) (lN _)) ?_;refine uR (yo (uw (jy (aL (d1 rfl rfl) bL) (zi5 x hx.ln)))) (by cases nameB x<;>rfl) (show Wd _ (wz s x)from rfl) λ_ hE=>?_;refine jP (b8 (Et (d:=.mark x) (i:=1) rfl bC) (show decide (("mark":Str)="hand")=false by decide +kernel)) ?_;refine uR (dI (HQ (zgk ok hx.ok rfl (d1 rfl rfl)) aF)) (by by_cases e:0<bw s.pl x<;>simp[e]) hE λ_ hE=>?_;exact Dt (qI (ug (fP rfl (m1 s))) aF) (by rw[bW];exact qL (j:=12)) hE
def zjE(ok:dX s)(hx:Tx x):Kg [aR s,yD (.hand x)] (·=.str ((uH s x).getD "")):=by
 refine cY (lG (n:=0) (yC λy hy=>(ok.dd y hy).1) (lN _)) ?_;refine uR (yo (uw (jy (aL (d1 rfl rfl) bL) (zi5 x hx.ln)))) (by cases nameB x<;>rfl) (show Wd _ (uH s x)from rfl) λ_ hE=>?_;refine jV (b8 (Et (d:=.hand x) (i:=1) rfl bC) (show decide (("hand":Str)="hand")=true by decide +kernel)) (Dj ?_);refine uR (zuw (x:=x) rfl (d1 rfl rfl)) (by simp) hE λ_ hE=>?_;exact Dt (qI (zsR (fP rfl (m2 s))) aF) (by rw[bW];exact qL (j:=10)) hE
def in2(h1:S[1]?=some (.val (yD d)))(hu:cC u=true)(hv:cC v=true):dU (bA (ak (eU false) (ak aC (vW 1) (kW (.int 0))) (bK (aq (kW (.str u)) (aq (kW (.str v)) ao))))) S (decide (jQ d∈[u,v])):=
 dI (zN (neg:=false) (hs:=[u,v]) (d0 h1) (lR (aL aF (aL aF bL))) (uq d) (by
  intro y hy;simp only[ir,lB,rK]at hy;rcases hy with rfl|rfl<;>assumption))
def zn1(hA:Ev A S (.bl b))(hB:b=true->Ev B S (.bl b')):Ev (pC A B) S (.bl (b&&b')):=λP p=>hA _ (by
 cases b
 .exact p
 .exact hB rfl _ p)
def zrs{n:Int}(ok:dX s)(hy:(bu d)[0]?=some (.int n)):Ev (cbW anyF (aq (aN (eY [none,some 1] (gq (ak cz (vW 0) (kW (.str "rows")))) (.nm 0) cW (ak cD (ak aC (vW 0) (kW (.int 0))) (ak aC (vW 1) (kW (.int 1)))))) ao)) [.val (aR s),.val (yD d)] (.bl (decide (n∈s.rs.map (·.n)))):=by
 have hc:=uD (S:=[.val (aR s),.val (yD d)]) (sub:=[none,some 1]) (I:=gq (ak cz (vW 0) (kW (.str "rows")))) (t:=.nm 0) (C:=cW) (E:=ak cD (ak aC (vW 0) (kW (.int 0))) (ak aC (vW 1) (kW (.int 1)))) cL (λr=>some (.bl (decide (r.n=n)))) s.rs (v8 (fP rfl (m3 s))) (by have:=ok.rl;omega) (λr _=>by
  exact t8 Az (qI (lH (t:=[.int r.n,.int r.a,.int r.b,.int r.r,.str r.h]) (aA rfl) aF (gF (j:=0) rfl)) (d1 rfl hy)))
 rw[Dp]at hc;refine wN (aL (fV hc) bL) λP p=>⟨s.rs.map λr=>decide (r.n=n),by rw[YAL];rfl,?_⟩
 have:((s.rs.map λr=>decide (r.n=n)).any id)=decide (n∈s.rs.map (·.n)):=by
  rw[Bool.eq_iff_iff,List.any_eq_true,xH]
  simp
 rw[this];exact p
def zob(ok:dX s)(hx:x∈aY s):dY (aY s) (s.hs.map λp=>D.bl p.2) x=some (.bl (!decide (x∈s.sd))):=by
 have h:=ok.sh;show dY (s.hs.map (·.1)) _ _=_;have hx:x∈s.hs.map (·.1):=hx;generalize s.hs=hs at h hx
 induction hs with
 |nil=>cases hx
 |cons p hs ih=>
  rw[dZ,dZ];unfold dY;by_cases e:p.1=x
  .rw[if_pos e,<-e,h p gw]
  .rw[if_neg e];rw[dZ]at hx;exact ih (λq hq=>h q (je _ hq)) ((ir.mp hx).resolve_left λz=>e z.symm)
def zpW(ok:dX s)(hx:jn d):Fe [aR s,yD d] (·=.str ((why s d).getD "")):=by
 refine cY (lG (n:=0) (yC λy hy=>(ok.dd y hy).1) (lN d)) ?_;have er:=Et (d:=d) (S:=[.val (aR s),.val (yD d)]) (i:=1) (z:="run") rfl bC;have e1:=in2 (d:=d) (S:=[.val (aR s),.val (yD d)]) (u:="mark") (v:="hand") rfl bC bC;have e2:=Et (d:=d) (S:=[.val (aR s),.val (yD d)]) (i:=1) (z:="settle") rfl bC;have e3:=in2 (d:=d) (S:=[.val (aR s),.val (yD d)]) (u:="strike") (v:="mend") rfl bC bC;have e4:=Et (d:=d) (S:=[.val (aR s),.val (yD d)]) (i:=1) (z:="allow") rfl bC;have e5:=Et (d:=d) (S:=[.val (aR s),.val (yD d)]) (i:=1) (z:="aside") rfl bC;have em:=ww (d0 (d:=d) (S:=[.val (aR s),.val (yD d)]) (i:=1) rfl) (aF (d:=.str "mend")) (uq d) bC;cases d with
 |run a b r h=>exact jV (b8 er (by kernel_rfl)) (zld (jy (aL (aA rfl) (aL (aA rfl) bL)) (zjv ok hx.1 hx.2.1)) rfl)
 |mark x=>exact jP (b8 er (by kernel_rfl)) (jV (b8 e1 (by kernel_rfl)) (zld (jy (aL (aA rfl) (aL (aA rfl) bL)) (zjQ ok hx)) rfl))
 |hand x=>exact jP (b8 er (by kernel_rfl)) (jV (b8 e1 (by kernel_rfl)) (zld (jy (aL (aA rfl) (aL (aA rfl) bL)) (zjE ok hx)) rfl))
 |settle x=>
  refine jP (b8 er (by kernel_rfl)) (jP (b8 e1 (by kernel_rfl)) (jV (b8 e2 (by kernel_rfl)) (Dj ?_)));refine uR (dI (qI (t:=0) (zgk ok (Tx.ok hx) rfl (d1 rfl rfl)) aF)) (qL (j:=0)) (show Wd _ (Cj s x)from rfl) λ_ hE=>?_;exact Dt (qI (ug (fP rfl (m1 s))) aF) (by rw[bW];exact qL (j:=12)) hE
 |strike n=>
  refine jP (b8 er (by kernel_rfl)) (jP (b8 e1 (by kernel_rfl)) (jP (b8 e2 (by kernel_rfl)) (jV (b8 e3 (by kernel_rfl)) (Dj ?_))));refine uR (yo (uw (zrs (d:=.strike n) ok rfl))) (by rw[<-decide_not]) (show Wd _ (Dg s n)from rfl) λ_ hE=>?_;exact Dt (c:=False) (zn1 em λh=>absurd h (by decide)) (b:=false&&false) (by rfl) hE
 |mend n k=>
  refine jP (b8 er (by kernel_rfl)) (jP (b8 e1 (by kernel_rfl)) (jP (b8 e2 (by kernel_rfl)) (jV (b8 e3 (by kernel_rfl)) (Dj ?_))));refine uR (yo (uw (zrs (d:=.mend n k) ok rfl))) (by rw[<-decide_not]) (show Wd _ (Cq s n k)from rfl) λ_ hE=>?_;exact Dt (zn1 em λ_=>znM (zqS (r:=k) (zqC aF λP p=>p) (tu (d:=.mend n k) (j:=1) rfl rfl) aF)) (by rw[show decide (jQ (.mend n k)="mend")=true by kernel_rfl];cases okR k<;>rfl) hE
 |allow k=>
  refine jP (b8 er (by kernel_rfl)) (jP (b8 e1 (by kernel_rfl)) (jP (b8 e2 (by kernel_rfl)) (jP (b8 e3 (by kernel_rfl)) (jV (b8 e4 (by kernel_rfl)) ?_))));refine zm8 (zlq (r:=k) aF (d1 (d:=.allow k) rfl rfl) aF) ?_ (show Wd _ (zp k)from rfl);by_cases e:k<0\/3<k
  .rw[iB e];rcases e with e|e
   .rw[gV (by omega)];rfl
   .rw[gV (show ¬ k<=3 by omega),Bool.and_false];rfl
  .rw[gV e,iB (by omega),iB (by omega)];rfl
end
def JV(R:WOA)(S:Env)(qj:bN)(ds:List D):Prop:=∀K:List D->bN->Prop,K ds qj->R S qj K
def GD:JV fU S qj []:=λK k=>k
def wM{V:bN->WE}{R:WOA}{S:Env}{qj:bN}{d:D}{ds:List D}(h:Ev (V qj) S d)(hR:JV R S qj ds):JV (eQ (eZ V) R) S qj (d::ds):=λK k=>h _ (hR _ k)
def zup(h:dU (C qj) S false)(q:B E qj S):bQ (v9 C U nilF) B E qj S:=h _ q
def zt1(h:dU (C qj) S false)(q:B E qj S):v9 C U B E qj S:=h _ q
def zkn(h:dU (C qj) S true)(q:U E qj S):v9 C U B E qj S:=h _ q
def zlX{A:gK}{i n:Nat}{m:Str}{F:m7}{y:Str->bN->Prop}{R:WOA}{S:Env}{qj:bN}{Q P:D->bN->Prop}{qg:Str->bN->Prop}{q:Addr}{ks bs us ds:List D}(hi:S[i]?=some (.val (.obj q)))(hS:qj q=some (cG A ks bs us))(hm:NF m)(hR:JV R S qj ds)(h:F (.obj q::ds) qj P qg)(k:∀d qh,P d qh->Q d qh)(l:∀n qh,qg n qh->y n qh)(hl:ds.length+1=n:=by rfl):qZ i A.fen m n F y R S qj Q:=by
 unfold qZ;rw[hi];exact⟨⟨_,hS,rfl,zro hm⟩,hR _ ⟨hl,Du h k l⟩⟩
def zo3:NF "deed":=by decide +kernel
def zkq{i:Nat}{V:bN->WE}{R:WF}{E:qN}{qj:bN}{S:Env}{d:D}(h:Ev (V qj) S d)(q:R E qj (S.set i (.val d))):bQ (iQ λqj=>aP (.nm i) (V qj)) R E qj S:=h _ (by unfold gD;exact q)
def zrn(h:why s d=some nm):nm∈ur:=by
 unfold ur;cases d<;>simp only[why,zp,uH,wz,Cq,eV,Cj,Dg]at h<;>(repeat' split at h)<;>cases h<;>simp
def zrZ:∀nm∈ur,cC nm=true/\decide (nm="")=false:=by decide +kernel
def BW(A:gK)(s:Ya)(d:Yd)(bs:List D):Ob:=cG A (s.ds++[yD d]) (bs++[cJ s]++[cJ (jL s d)]) []
def zsl(s:Ya)(d:Yd):eO (uE s d) 5=true:=by unfold uE;split<;>rw[eO]
section
variable{A:gK}{qj:bN}{q:Addr}{s:Ya}{d:Yd}{nm:Str}{bs us:List D}{m:D}
def zmm(hm:m.old=aR s)(hS:qj q=some (cG A s.ds (bs++[cJ s]) us))(ok:dX s)(hx:jn d)(f:why s d=none)(hb:bs.length<=1000) :
  wB A [.obj q,m,yD d] qj (λv qh=>v.old=aR (jL s d)/\qh=iY qj q (BW A s d bs)) (λ_ _=>False):=by
 refine CT (S:=[.val (.obj q),.val (aR s),.val (yD d)]) (by unfold fH;simp[pP,hm,lN]) ?_;have hd:∀y∈s.ds,y.old=y:=λy hy=>(ok.dd y hy).1;show qZ 0 A.fen "deed" 2 (zR A) (λ_ _=>False) (eQ (eZ λqj=>vW 2) fU) [.val (.obj q),.val (aR s),.val (yD d)] qj _;refine zlX (ds:=[yD d]) (q:=q) rfl hS zo3 (wM (aA rfl) GD) (zlB hS ok hx hb) (λv qh h=>?_) λ_ _ z=>by rw[f]at z;cases z.1
 obtain⟨_,hv,rfl⟩:=h;have et:Ev (aZ 2 HB (aq (vW 1) (aq (vW 2) ao))) [.val (.obj q),.val (aR s),.val (yD d)] (uE s d):=jy (aL (aA rfl) (aL (aA rfl) bL)) (zqd hd);refine et _ ⟨rfl,pI (FZ 5 v (uE s d) (hv.trans (zpy s d).symm) (by rw[<-zep,hv];exact zsl s d)) λe z=>?_⟩;subst z;show aO (aZ 2 Gg (aq (vW 1) (aq (vW 2) ao))) _ [.val (.obj q),.val (aR s),.val (yD d)];exact⟨rfl,pI (zqf ok hx f) λe z=>⟨z,rfl⟩⟩
def zng(hS:qj q=some (cG A s.ds (bs++[cJ s]) us))(ok:dX s)(hx:jn d)(f:why s d=some nm)(hb:bs.length<=1000) :
  Ko A [.obj q,yD d] qj (λv qh=>v=.tup [.non,.lst true [.str nm]]/\qh=qj) (λ_ _=>False):=by
 refine CT (lG (n:=3) (pP q) (lN d)) ?_;refine zkq (V:=λ_=>kW .non) aF ?_;refine zkq (V:=λ_=>aN (bh ao)) (fV (kj bL)) ?_;show zqx 2 4 3 _ (kdN ur) _ qj [.val (.obj q),.val (yD d),.val .non,.val (.lst true []),.un];refine⟨λn qh=>why s d=some n/\qh=qj,?_,λn qh z=>⟨.lst true [.str n],?_,?_⟩⟩
 .show qZ 0 A.fen "deed" 2 (zR A) _ (eQ (eZ λqj=>vW 1) fU) [.val (.obj q),.val (yD d),.val .non,.val (.lst true []),.un] qj _;exact zlX (ds:=[yD d]) (q:=q) rfl hS zo3 (wM (aA rfl) GD) (zlB hS ok hx hb) (λv qh h=>by rw[f]at h;cases h.1) λ_ _ z=>z
 .unfold kdN;rw[if_pos (zrn z.1)]
 .obtain⟨z1,rfl⟩:=z;rw[f]at z1;cases z1;show aO (bK (aq (vW 2) (aq (vW 3) ao))) _ [.val (.obj q),.val (yD d),.val .non,.val (.lst true [.str nm]),.un];exact jg (lR (aL (aA rfl) (aL (aA rfl) bL))) ⟨rfl,rfl⟩
def zm2(hm:m.old=aR s)(hS:qj q=some (cG A s.ds (bs++[cJ s]) us))(ok:dX s)(hx:jn d)(hb:bs.length<=1000) :
  GC A [.obj q,m,yD d] qj (λv qh=>(why s d=none/\v.old=aR (jL s d)/\qh=iY qj q (BW A s d bs))\/((why s d).isSome=true/\v.old=aR s/\qh=qj)) (λ_ _=>False):=by
 refine CT (S:=[.val (.obj q),.val (aR s),.val (yD d),.un]) (by unfold fH;simp[pP,hm,lN]) ?_;refine zkq (V:=λ_=>aZ 2 Fe (aq (vW 1) (aq (vW 2) ao))) (jy (aL (aA rfl) (aL (aA rfl) bL)) (zpW ok hx)) ?_;show bQ _ _ _ qj [.val (.obj q),.val (aR s),.val (yD d),.val (.str ((why s d).getD ""))];have old:(aR s).old=aR s:=yC λy hy=>(ok.dd y hy).1;cases hw:why s d with
 |none=>
  have e:dU (bA (ak cD (vW 3) (kW (.str "")))) [.val (.obj q),.val (aR s),.val (yD d),.val (.str ((none:Option Str).getD ""))] true:=b8 (dI (ww (s:="") (aA rfl) aF bC bC)) (by decide +kernel);refine e _ ?_;show qP 3 (wB A) _ (eQ (eZ λqj=>vW 0) (eQ (eZ λqj=>vW 1) (eQ (eZ λqj=>vW 2) fU))) [.val (.obj q),.val (aR s),.val (yD d),.val (.str "")] qj _;exact⟨rfl,Du (zmm old hS ok hx hw hb) (λv qh z=>.inl ⟨rfl,z.1,z.2⟩) λ_ _ z=>z⟩
 |some nm=>
  obtain⟨o1,o3⟩:=zrZ nm (zrn hw);have e:dU (bA (ak cD (vW 3) (kW (.str "")))) [.val (.obj q),.val (aR s),.val (yD d),.val (.str ((some nm).getD ""))] false:=b8 (dI (ww (s:=nm) (aA rfl) aF o1 bC)) o3;refine zup (C:=λ_=>bA (ak cD (vW 3) (kW (.str "")))) e ?_;show qP 2 (Ko A) (λ_ _=>False) (eQ (eZ λqj=>vW 0) (eQ (eZ λqj=>vW 2) fU)) [.val (.obj q),.val (aR s),.val (yD d),.val (.str nm)] qj _;refine⟨rfl,Du (zng hS ok hx hw hb) (λv qh h=>?_) λ_ _ z=>z⟩;obtain⟨rfl,rfl⟩:=h;have et:Ev (bK (aq (kW .non) (aq (aN (bh (aq (vW 3) ao))) ao))) [.val (.obj q),.val (aR s),.val (yD d),.val (.str nm)] (.tup [.non,.lst true [.str nm]]):=lR (aL aF (aL (fV (kj (aL (aA rfl) bL))) bL));refine wM (V:=λ_=>bK (aq (kW .non) (aq (aN (bh (aq (vW 3) ao))) ao))) et GD _ ⟨rfl,pI (FZ 5 _ _ rfl (zlo (n:=4) ?_)) λe z=>?_⟩
  .simp only[xY,lB,yp,zF,yq];exact⟨by rw[eO],ye (n:=3) (by simp[qO o1]) (by simp)⟩
  .subst z;exact .inr ⟨rfl,old,rfl⟩
end
def pN(ha:a.old=a):fH (n+1) [a]=.val a::List.replicate n .un:=by
 unfold fH;simp[ha]
def lu(pl:List (Str×Nat)):List D:=pl.filterMap λp=>if decide (((p.2:Nat):Int)=1)then some (.str p.1)else none
def zr8(pl:List (Str×Nat)):∀y∈lu pl,y.old=y:=λy hy=>by
 obtain⟨p,_,e⟩:=Be.mp hy;split at e<;>cases e
 exact ji _
def zhy(hI:jh I S (pl.map dG))(hl:pl.length<=1000):jh (eY [none,none] I (.tp 2 (.cons (.nm 0) (.cons (.nm 1) .nil))) (bA (ak cD (vW 1) (kW (.int 1)))) (vW 0)) S (lu pl):=
 uD (sub:=[none,none]) (t:=.tp 2 (.cons (.nm 0) (.cons (.nm 1) .nil))) (C:=bA (ak cD (vW 1) (kW (.int 1)))) (E:=vW 0) dG (λp=>if decide (((p.2:Nat):Int)=1)then some (.str p.1)else none) pl hI (by omega) λp _=>by
  have ev:∀{S:Env},S[1]?=some (.val (.int p.2))->dU (bA (ak cD (vW 1) (kW (.int 1)))) S (decide (((p.2:Nat):Int)=1)):=λh=>dI (qI (aA h) aF);cases e:decide (((p.2:Nat):Int)=1)with
  |true=>exact zua (e▸ev rfl) (aA rfl)
  |false=>exact zq2 (e▸ev rfl)
def zkb(hl:pl.length<=1000):zey [.tup (pl.map dG)] (·=.lst true (lu pl)):=by
 refine cY (pN (n:=0) (j9 (gM pR _))) ?_;exact jg (fV (zhy (Ax (aA rfl)) hl)) rfl
theorem zkK{α:Type}{p:α->Bool}{g:α->D}:∀xs:List α,(xs.filterMap λx=>if p x then some (g x)else none)=(xs.filter p).map g
 |[]=>rfl
 |x::xs=>by
  rw[YAV,YC3];cases p x
  .exact zkK xs
  .exact congrArg (g x::·) (zkK xs)
def ziq{α:Type}{sub:List (Option Nat)}{I:WL}{C:WT}{S:Env}{emb:α->D}(p:α->Bool){ys:List α}(hI:jh I S (ys.map emb))(hl:ys.length<=100000)(h:∀x∈ys,dU C ((eE sub S).set 0 (.val (emb x))) (p x))(h0:0<(eE sub S).length:=by exact Nat.zero_lt_succ _):jh (eY sub I (.nm 0) C (vW 0)) S ((ys.filter p).map emb):=by
 have:=uD (sub:=sub) (t:=.nm 0) (C:=C) (E:=vW 0) emb (λx=>if p x then some (emb x)else none) ys hI hl λx hx=>by
  have e:=h x hx;cases f:p x with
  |false=>exact FW (b8 e f)
  |true=>exact t8 (b8 e f) (aA (by simp[h0]))
 rw[zkK]at this;exact this
def uM(s:Ya):List Str:=(aY s).filter λx=>decide (x∈s.sd)
def sI(s:Ya):List Yr:=s.rs.filter λr=>!decide (r.h∈s.sd)
def vp(s:Ya):List D:=[.lst false (lu s.pl),.lst false ((aY s).map D.str),.lst false ((uM s).map D.str),.lst false (s.pl.map dG),.int s.al,.lst false (s.rs.map (cM s.pl)),.lst false (((sI s).map (·.n)).map D.int),.lst false s.ds]
section
variable{A:gK}{qj:bN}{q:Addr}{s:Ya}{bs us:List D}
def Ks(hi:S[i]?=some (.val (.obj q)))(hS:qj q=some (cG A s.ds (bs++[cJ s]) us))(h:dY BK (iy s) z=some d):Ev (ak cz (jT qj i A.fen "now" 1 (qU A) (λ_ Q=>Q [])) (kW (.str z))) S d:=Bf (zlN hi hS) h
def mX(ok:dX s):(aY s).length<=10:=by rw[bW];exact ok.h.ln
def zmP(hS:qj q=some (cG A s.ds (bs++[cJ s]) us))(ok:dX s):zdE A qj [.obj q] (·=.lst true (lu s.pl)):=by
 refine cY (pN (n:=0) (pP q)) ?_;exact jg (jy (aL (Ks rfl hS (b1 s)) bL) (zkb (by have:=ok.p.ln;omega))) rfl
def zmw(hS:qj q=some (cG A s.ds (bs++[cJ s]) us)):zdR A qj [.obj q] (·=.lst true ((aY s).map D.str)):=by
 refine cY (pN (n:=0) (pP q)) ?_;exact jg (fV (zkl (Ks rfl hS (b2 s)))) rfl
def zkE(hS:qj q=some (cG A s.ds (bs++[cJ s]) us)):zc5 A qj [.obj q] (·=.lst true (s.pl.map dG)):=by
 refine cY (pN (n:=0) (pP q)) ?_;exact jg (fV (zkl (Ks rfl hS (b1 s)))) rfl
def zjz(hS:qj q=some (cG A s.ds (bs++[cJ s]) us)):zcD A qj [.obj q] (·=.int s.al):=by
 refine cY (pN (n:=0) (pP q)) ?_;exact jg (Ks rfl hS (b6 s)) rfl
def zn7(hS:qj q=some (cG A s.ds (bs++[cJ s]) us)):zeA A qj [.obj q] (·=.lst true (s.rs.map (cM s.pl))):=by
 refine cY (pN (n:=0) (pP q)) ?_;exact jg (fV (zkl (Ks rfl hS (b4 s)))) rfl
def zk8(hS:qj q=some (cG A s.ds (bs++[cJ s]) us))(ok:dX s):zda A qj [.obj q] (·=.lst true ((uM s).map D.str)):=by
 refine cY (pN (n:=1) (pP q)) ?_;refine jM (zlN rfl hS) ?_;exact jg (fV (ziq (S:=[.val (.obj q),.val (cJ s)]) (λx=>decide (x∈s.sd)) (Ax (gG rfl (b2 s))) (by have:=mX ok;omega) (λx hx=>dI (zN (neg:=false) (aA rfl) (gG (i:=1) rfl (b3 s)) (ok.h.cC x hx) ok.sok)))) rfl
def zqz(ok:dX s):zbt [cJ s] (·=.lst true ((sI s).map (cM s.pl))):=by
 refine cY (pN (n:=0) (rZ s)) ?_;exact jg (fV (ziq (S:=[.val (cJ s)]) (λr=>!decide (r.h∈s.sd)) (Ax (gG rfl (b4 s))) (by have:=ok.rl;omega) (λr hr=>dI (zN (neg:=true) (lH (k:=6) (t:=[.int r.n,.str (gH s.pl r.a).1,.int (gH s.pl r.a).2,.str (gH s.pl r.b).1,.int (gH s.pl r.b).2,.int r.r,.str r.h]) (aA rfl) aF (gF (j:=6) rfl)) (gG (i:=1) rfl (b3 s)) (ok.h.cC _ (ok.ra r hr).2.2) ok.sok)))) rfl
def znS(ok:dX s):(sI s).length<=1000:=iu (YCp _ _) (by have:=ok.rl;omega)
def zis(hS:qj q=some (cG A s.ds (bs++[cJ s]) us))(ok:dX s):zcd A qj [.obj q] (·=.lst true (((sI s).map (·.n)).map D.int)):=by
 refine cY (pN (n:=0) (pP q)) ?_;exact jg (zkR (emb:=cM s.pl) (v8 (jy (aL (zlN rfl hS) bL) (zqz ok))) (znS ok) λr=>⟨_,rfl⟩) rfl
def zmW(hS:qj q=some (cG A s.ds (bs++[cJ s]) us))(ok:dX s):zdM A qj [.obj q] (·=.lst true s.ds):=by
 refine cY (pN (n:=0) (pP q)) ?_;refine⟨_,0,s.ds,hS,rfl,zl4,?_⟩;show D.lst true (s.ds.map D.old)=_;rw[Gu λx hx=>(ok.dd x hx).1]
def zpu:NF "marks":=by decide +kernel
def zpI:NF "hands":=by decide +kernel
def zoL:NF "asides":=by decide +kernel
def zor:NF "stands":=by decide +kernel
def zmR:NF "allowed":=by decide +kernel
def zr3:NF "runs":=by decide +kernel
def zkG:NF "counting":=by decide +kernel
def zqb:NF "deeds":=by decide +kernel
def znC(ok:dX s):[D.lst n1 (lu s.pl),.lst n2 ((aY s).map D.str),.lst n3 ((uM s).map D.str),.lst n4 (s.pl.map dG),.int s.al,.lst n5 (s.rs.map (cM s.pl)),.lst n6 (((sI s).map (·.n)).map D.int),.lst n7 s.ds].map D.old=vp s:=by
 simp only[dZ,rT];rw[iW (zr8 _),iW (gM ji _),iW (gM ji _),iW (gM pR _),jX,iW (gM (Hg _) _),iW (gM jX _),iW λx hx=>(ok.dd x hx).1];rfl
def zpd(hS:qj q=some (cG A s.ds (bs++[cJ s]) us))(ok:dX s):zdT A qj [.obj q] (λv=>v.old=.lst false (vp s)):=by
 refine cY (pN (n:=1) (pP q)) ?_;refine jM (fV (kj (aL (xN rfl hS zpu (zmP hS ok)) (aL (xN rfl hS zpI (zmw hS)) (aL (xN rfl hS zoL (zk8 hS ok)) (aL (xN rfl hS zor (zkE hS)) (aL (xN rfl hS zmR (zjz hS)) (aL (xN rfl hS zr3 (zn7 hS)) (aL (xN rfl hS zkG (zis hS ok)) bL))))))))) ?_;refine jg (rJ (aA rfl) (fV (kj (aL (xN rfl hS zqb (zmW hS ok)) bL))) (by show 8<=100000;decide)) ?_;show(D.lst true _).old=_;rw[D.old];exact congrArg (D.lst false) (znC ok)
def zqH{S:Env}{A:WE}{hs:List Str}{xs:List D}(h:Ev A S (.fdc hs xs)):jh (zsZ A) S (hs.map D.str):=λP p=>h _ p
def ziH{S:Env}{A:WE}{hs:List Str}{xs:List D}(h:Ev A S (.fdc hs xs))(hl:hs.length<=1000):jh (J6 A) S (hs.map D.str):=λP p=>h _ ⟨hl,p⟩
def zlU(ok:dX s):(aR s).old=aR s:=yC λx hx=>(ok.dd x hx).1
def zev(ok:dX s):v6 [aR s] (·=.lst true (lu s.pl)):=by
 refine cY (pN (n:=0) (zlU ok)) ?_;exact jg (fV (zhy (v8 (fP rfl (m1 s))) (by have:=ok.p.ln;omega))) rfl
def zkY(ok:dX s):zce [aR s] (·=.lst true ((sI s).map cL)):=by
 refine cY (pN (n:=0) (zlU ok)) ?_;exact jg (fV (ziq (S:=[.val (aR s)]) (λr=>!decide (r.h∈s.sd)) (v8 (fP rfl (m3 s))) (by have:=ok.rl;omega) (λr hr=>uw (zu9 (fP (i:=1) rfl (m2 s)) (lH (k:=4) (t:=[.int r.n,.int r.a,.int r.b,.int r.r,.str r.h]) (aA rfl) aF (gF (j:=4) rfl)) (zob ok (ok.ra r hr).2.2))))) rfl
def zre{pl:List (Str×Nat)}{a:Nat}(ha:a<pl.length):gR (pl.map dG) (a:Int)=some (dG (gH pl a)):=gF (by
 rw[jG];unfold gH;rw[YAN,jr ha];rfl)
def zr4(ok:dX s):zex [aR s] (λv=>v.old=.lst false (vp s)):=by
 refine cY (pN (n:=4) (zlU ok)) ?_;refine jM (fP rfl (m1 s)) ?_;have hc:=uD (sub:=[none,some 1]) (S:=[.val (aR s),.val (.lst false (s.pl.map dG)),.un,.un,.un]) (I:=gq (ak cz (vW 0) (kW (.str "rows")))) (t:=.nm 0) (C:=cW) (E:=ak aU (ak aU (ak aU (bK (aq (ak aC (vW 0) (kW (.int 0))) ao)) (ak aC (vW 1) (ak aC (vW 0) (kW (.int 1))))) (ak aC (vW 1) (ak aC (vW 0) (kW (.int 2))))) (fu (vW 0) (mD (kW (.int 3))) my)) cL (λr=>some (cM s.pl r)) s.rs (v8 (fP rfl (m3 s))) (by have:=ok.rl;omega) (λr hr=>by
  obtain⟨ha,hb,_⟩:=ok.ra r hr;have cut:cutD [D.int r.n,.int r.a,.int r.b,.int r.r,.str r.h] (some 3) none=[.int r.r,.str r.h]:=by kernel_rfl
  have v0:Ev (vW 0) ((eE [none,some 1] [.val (aR s),.val (.lst false (s.pl.map dG)),.un,.un,.un]).set 0 (.val (cL r))) (.tup [.int r.n,.int r.a,.int r.b,.int r.r,.str r.h]):=aA rfl;have v1:Ev (vW 1) ((eE [none,some 1] [.val (aR s),.val (.lst false (s.pl.map dG)),.un,.un,.un]).set 0 (.val (cL r))) (.lst false (s.pl.map dG)):=aA rfl;have p1:=lR (aL (lH (k:=0) v0 aF (gF (j:=0) rfl)) bL);have p2:=ue (d:=.tup [.str (gH s.pl r.a).1,.int (gH s.pl r.a).2]) v1 (lH (k:=1) (d:=.int r.a) v0 aF (gF (j:=1) rfl)) (zre ha);have p3:=ue (d:=.tup [.str (gH s.pl r.b).1,.int (gH s.pl r.b).2]) v1 (lH (k:=2) (d:=.int r.b) v0 aF (gF (j:=2) rfl)) (zre hb);have p4:=pQ (Dv v0 (wU (aF (d:=.int 3))) yj) (congrArg D.tup cut);exact t8 Az (vg (vg (vg p1 p2 (by show 3<=100000;decide)) p3 (by show 5<=100000;decide)) p4 (by show 7<=100000;decide)))
 rw[Dp]at hc;refine jM (fV hc) ?_;refine jM (fV (ziq (S:=[.val (aR s),.val (.lst false (s.pl.map dG)),.val (.lst true (s.rs.map (cM s.pl))),.un,.un]) (emb:=D.str) (λx=>decide (x∈s.sd)) (zqH (fP rfl (m2 s))) (by have:=mX ok;omega) (λx hx=>b8 (yo (uw (zu9 (z:=x) (fP (i:=1) rfl (m2 s)) (aA rfl) (zob ok hx)))) (Bool.not_not _)))) ?_;show aH _ _ _ [.val (aR s),.val (.lst false (s.pl.map dG)),.val (.lst true (s.rs.map (cM s.pl))),.val (.lst true ((uM s).map D.str)),.un];refine jM (fV (kj (aL (jy (aL (aA rfl) bL) (zev ok)) (aL (fV (ziH (fP rfl (m2 s)) (by have:=mX ok;omega))) (aL (aA rfl) (aL (aA rfl) (aL (fP rfl (m5 s)) (aL (aA rfl) bL)))))))) ?_;refine jg (rJ (aA rfl) (fV (kj (aL (zkR (emb:=cL) (v8 (jy (aL (aA rfl) bL) (zkY ok))) (znS ok) λr=>⟨_,rfl⟩) (aL (fP rfl (m6 s)) bL)))) (by show 8<=100000;decide)) ?_;show(D.lst true _).old=_;rw[D.old];exact congrArg (D.lst false) (znC ok)
def zuO(ok:dX s)(ha:a<s.pl.length):cC (gH s.pl a).1=true:=by
 unfold gH;rw[YAN,jr ha];exact ok.p.cC _ (By ha)
def zt8(ok:dX s):eO (.lst false (vp s)) 5=true:=by
 have hp:=ok.p.ln;have hh:=mX ok;have hd:=ok.dl;have hr:=ok.rl;have ha:(uM s).length<=10:=iu (YCp _ _) hh;unfold vp;refine ye ?_ (by simp);simp only[xY,lB,yp,zF,yq];refine⟨ye (λx hx=>?_) (iu (YB2 _ _) (by omega)),ye (λx hx=>?_) (by rw[bW];omega),ye (λx hx=>?_) (by rw[bW];omega),ye (λx hx=>?_) (by rw[bW];omega),yF,ye (λx hx=>?_) (by rw[bW];omega),ye (λx hx=>?_) (by rw[bW,bW];exact znS ok),ye (λd hd=>(ok.dd d hd).2) (by omega)⟩
 .obtain⟨p,hp,e⟩:=Be.mp hx;split at e<;>cases e
  exact qO (ok.p.cC p hp)
 .obtain⟨y,hy,rfl⟩:=YAK.mp hx;exact qO (ok.h.cC y hy)
 .obtain⟨y,hy,rfl⟩:=YAK.mp hx;exact qO (ok.h.cC y (zq.mp hy).1)
 .obtain⟨y,hy,rfl⟩:=YAK.mp hx;exact zlo (by simp[qO (ok.p.cC y hy),yF])
 .obtain⟨r,hr,rfl⟩:=YAK.mp hx;obtain⟨ha,hb,hh⟩:=ok.ra r hr;exact zlo (by simp[qO (zuO ok ha),qO (zuO ok hb),yF,qO (ok.h.cC _ hh)])
 .obtain⟨y,hy,rfl⟩:=YAK.mp hx;exact yF
def zoF(hm:m.old=aR s)(hS:qj q=some (cG A s.ds (bs++[cJ s]) us))(ok:dX s):Em A qj [.obj q,m] (·=.bl true):=by
 refine cY (S:=[.val (.obj q),.val (aR s)]) (by unfold fH;simp[pP,hm]) ?_;refine⟨rfl,pI (zpd hS ok) λv hv=>⟨rfl,pI (zr4 ok) λw hw=>⟨rfl,pI (FZ 5 v w (hv.trans hw.symm) ?_) λe z=>z⟩⟩⟩;rw[<-zep,hv];exact zt8 ok
end
def zk3(x y:Str):(x++y).length=x.length+y.length:=by show(x.cps++y.cps).size=_;rw[Array.size_append];rfl
def zkB(hx:cC x=true)(hy:cC y=true):cC (x++y)=true:=IK λch hc=>by
 rw[zoh]at hc;exact(YAG.mp hc).elim (ziW hx ch) (ziW hy ch)
def Tx.name(h:nameB x=true):Tx x:=⟨zgj h,zpJ h⟩
def zvM(h:nameB x=true):x.length<=8:=by
 unfold nameB yI at h;rw[YAB,YAB]at h
 have:=YAD h.1.2
 omega
def tk(hb:S[b]?=some (.val .box))(hM:Ev M S (.int m))(h0:0<m)(h1:m<2^64)(k:∀x:Int,0<=x->x<m->Q (.int x)):aZ 2 dg (aq (vW b) (aq M ao)) S Q:=(aL (aA hb) (aL hM bL)) _ ⟨rfl,Ez h0 h1 k⟩
def zq6{S:Env}{A B:WE}{b:Bool}{ns:List Str}{k:Nat}{y:Str}(hA:Ev A S (.lst b (ns.map D.str)))(hB:Ev B S (.int k))(h:ns[k]?=some y):Ev (ak aC A B) S (.str y):=ue hA hB (gF (by rw[jG,h];rfl))
def zns(hA:Ev A S (.str z))(hL:zA L S l)(hU:zA U S u)(h:z.length<=100000):Ev (fu A L U) S (.str (iI z l u)):=λP p=>hA _ (hL _ (hU _ ⟨h,p⟩))
def zpz(ok:dX s):∃ms:List Str,lu s.pl=ms.map D.str/\ms.length<=12/\∀y∈ms,Tx y:=by
 have h:=ok.p.cC;have hn:=ok.p.ok;have hl:=ok.p.ln;refine⟨s.pl.filterMap λp=>if decide (((p.2:Nat):Int)=1)then some p.1 else none,?_,iu (YB2 _ _) hl,λy hy=>?_⟩
 .unfold lu;rw[YCK];congr 1
  funext p
  split<;>rfl
 .obtain⟨p,hp,e⟩:=Be.mp hy;split at e<;>cases e
  exact Tx.name (hn p hp)
def jA(A:WE)(S:Env)(P:D->Prop):Prop:=∀Q:D->Prop,(∀d,P d->Q d)->A S Q
def tU(A:WL)(S:Env)(P:List D->Prop):Prop:=∀Q:List D->Prop,(∀d,P d->Q d)->A S Q
section
variable{S:Env}{A B V:WE}{R:WL}{P P' T:D->Prop}{PL TL:List D->Prop}{d:D}{i:Nat}{E:En}{U:WS}
def pW(h:Ev A S d):jA A S (·=d):=λQ q=>h Q (q d rfl)
def uC(hA:jA A S P)(hB:jA B S P')(h:∀x y,P x->P' y->∀Q:D->Prop,(∀d,T d->Q d)->f x y Q):jA (ak f A B) S T:=λQ q=>hA _ λx px=>hB _ λy py=>h x y px py Q q
def zpT(hA:jA A S P)(hR:tU R S PL)(h:∀d ds,P d->PL ds->TL (d::ds)):tU (aq A R) S TL:=λQ q=>hA _ λd pd=>hR _ λds pds=>q _ (h d ds pd pds)
def vG(hb:S[b]?=some (.val .box))(hM:Ev M S (.int m))(h0:0<m)(h1:m<2^64):jA (aZ 2 dg (aq (vW b) (aq M ao))) S (λd=>∃x:Int,d=.int x/\0<=x/\x<m):=λQ q=>tk hb hM h0 h1 λx a b=>q _ ⟨x,rfl,a,b⟩
def zl1(h:jA V S P)(k:∀d,P d->U E (S.set i (.val d))):aH (aP (.nm i) V) U E S:=h _ λd p=>by unfold gD;exact k d p
def zU(h:jA V S P)(k:∀d,P d->E.nx (S.set i (.val d))):aP (.nm i) V E S:=h _ λd p=>by unfold gD;exact k d p
def zr5(h:tU R S PL)(hl:∀ds,PL ds->ds.length<=100000):jA (aN (bh R)) S (λd=>∃ds,d=.lst true ds/\PL ds):=λQ q=>h _ λds p=>⟨hl ds p,q _ ⟨ds,rfl,p⟩⟩
end
def zrp{ns:List Str}{z:Int}(h0:0<=z)(h1:z<ns.length):∃y∈ns,gR (ns.map D.str) z=some (.str y):=by
 obtain⟨j,rfl⟩:=YAZ h0;have hj:j<ns.length:=by omega
 exact⟨ns[j],By hj,gF (by rw[jG,jr hj];rfl)⟩
abbrev TxD(d:D):Prop:=∃y,d=.str y/\Tx y
def zpZ(hb:S[b]?=some (.val .box))(hM:Ev M S (.int m))(h0:0<m)(h1:m<2^64)(k:∀x:Int,0<=x->x<m->R E (S.set i (.val (.int x)))):aH (aP (.nm i) (aZ 2 dg (aq (vW b) (aq M ao)))) R E S:=tk hb hM h0 h1 λx z0 z1=>by unfold gD;exact k x z0 z1
def TxL(n:Nat)(ds:List D):Prop:=∃bs:List Str,ds=bs.map D.str/\bs.length=n/\∀y∈bs,Tx y
def txk{S:Env}{y:Str}(h:Tx y):jA (kW (.str y)) S TxD:=λQ q=>q _ ⟨y,rfl,h⟩
def txl0{S:Env}:tU ao S (TxL 0):=λQ q=>q _ ⟨[],rfl,rfl,by simp⟩
def GF{S:Env}{A:WE}{R:WL}{n:Nat}(hA:jA A S TxD)(hR:tU R S (TxL n)):tU (aq A R) S (TxL (n+1)):=zpT hA hR (by
 rintro d ds ⟨y,rfl,ty⟩ ⟨bs,rfl,hb,tb⟩;exact⟨y::bs,rfl,by simp[hb],λz hz=>(ir.mp hz).elim (λe=>e▸ty) (tb z)⟩)
def xj(d:Yd)(t:Nat)(y:D):D:=.tup (.str (jQ d)::(bu d).set t y)
def bend(hx:jn d)(ht:t<(bu d).length):(∃x,(bu d)[t]?=some (.str x)/\∀y,Tx y->∃d',jn d'/\xj d t (.str y)=yD d')\/(∃i,(bu d)[t]?=some (.int i)/\∀k,∃d',jn d'/\xj d t (.int k)=yD d'):=by
 cases d with
 |mark x=>match t,ht with|0,_=>exact .inl ⟨x,rfl,λy hy=>⟨.mark y,hy,rfl⟩⟩
 |hand x=>match t,ht with|0,_=>exact .inl ⟨x,rfl,λy hy=>⟨.hand y,hy,rfl⟩⟩
 |settle x=>match t,ht with|0,_=>exact .inl ⟨x,rfl,λy hy=>⟨.settle y,hy,rfl⟩⟩
 |strike n=>match t,ht with|0,_=>exact .inr ⟨n,rfl,λk=>⟨.strike k,trivial,rfl⟩⟩
 |allow n=>match t,ht with|0,_=>exact .inr ⟨n,rfl,λk=>⟨.allow k,trivial,rfl⟩⟩
 |mend n r=>match t,ht with
  |0,_=>exact .inr ⟨n,rfl,λk=>⟨.mend k r,trivial,rfl⟩⟩
  |1,_=>exact .inr ⟨r,rfl,λk=>⟨.mend n k,trivial,rfl⟩⟩
 |run a b r h=>match t,ht with
  |0,_=>exact .inl ⟨a,rfl,λy hy=>⟨.run y b r h,⟨hy,hx.2.1,hx.2.2⟩,rfl⟩⟩
  |1,_=>exact .inl ⟨b,rfl,λy hy=>⟨.run a y r h,⟨hx.1,hy,hx.2.2⟩,rfl⟩⟩
  |2,_=>exact .inr ⟨r,rfl,λk=>⟨.run a b k h,hx,rfl⟩⟩
  |3,_=>exact .inl ⟨h,rfl,λy hy=>⟨.run a b r y,⟨hx.1,hx.2.1,hy⟩,rfl⟩⟩
def zlF(d:Yd):0<(bu d).length/\(bu d).length<=4:=by cases d<;>exact⟨by simp[bu],by simp[bu]⟩
def zqR{α:Type}{xs:List α}{k:Nat}(h:k<=xs.length):cutD xs none (some (k:Int))=xs.take k:=by
 unfold cutD;rw[HT.jx];show List.take (min k xs.length-0) (xs.drop 0)=_;rw[YCG h];rfl
def ztP{α:Type}{xs:List α}{k:Nat}(h:k<=xs.length):cutD xs (some (k:Int)) none=xs.drop k:=by
 unfold cutD;rw[HT.jx,YCG h];show List.take (xs.length-k) (xs.drop k)=_;exact YCd (by simp)
def zll(h3:S[3]?=some (.val (yD d)))(h4:S[4]?=some (.val (.int (1+(t:Int)))))(h7:S[7]?=some (.val y))(ht:t<(bu d).length)(q:E.rt (xj d t y)):aO (ak aU (ak aU (fu (vW 3) my (mD (vW 4))) (bK (aq (vW 7) ao))) (fu (vW 3) (mD (ak aU (vW 4) (kW (.int 1)))) my)) E S:=by
 have v3:Ev (vW 3) S (.tup (.str (jQ d)::bu d)):=aA h3;have l4:=(zlF d).2;have e1:cutD (D.str (jQ d)::bu d) none (some (1+(t:Int)))=.str (jQ d)::(bu d).take t:=by
  rw[show(1+(t:Int))=((t+1:Nat):Int)from by omega,zqR (by rw[lF];omega),List.take_succ_cons]
 have e2:cutD (D.str (jQ d)::bu d) (some (1+(t:Int)+1)) none=(bu d).drop (t+1):=by
  rw[show(1+(t:Int)+1)=((t+1+1:Nat):Int)from by omega,ztP (by rw[lF];omega),List.drop_succ_cons]
 have a1:=pQ (Dv v3 yj (wU (aA h4))) (congrArg D.tup e1);have a2:=pQ (Dv v3 (wU (vB (aA h4) (aF (d:=.int 1)))) yj) (congrArg D.tup e2);have l1:((bu d).take t).length<=4:=iu (List.length_take_le' _ _) l4;have l2:((bu d).drop (t+1)).length<=4:=iu (by rw[YCt];exact Nat.sub_le _ _) l4;refine jg (vg (vg a1 (lR (aL (aA h7) bL)) (by rw[lF];show _+1+1<=_;omega)) a2 (by rw[iU,lF];show _+1+1+_<=_;omega)) ?_;unfold xj at q;rw[List.set_eq_take_append_cons_drop,if_pos ht]at q
 simpa using q
def zrQ{ns:List Int}{z:Int}(h0:0<=z)(h1:z<ns.length):∃y,gR (ns.map D.int) z=some (.int y):=by
 obtain⟨j,rfl⟩:=YAZ h0;have hj:j<ns.length:=by omega
 exact⟨ns[j],gF (by rw[jG,jr hj];rfl)⟩
def zqt{s:Ya}{d:Yd}{m:D}{n:Bool}{pool:List Str}(ok:dX s)(hx:jn d)(hm:m.old=aR s)(hl:pool.length=16)(hn:∀y∈pool,nameB y=true):zbL [.box,m,.lst n (pool.map D.str),yD d] (λv=>∃d',v=yD d'/\jn d'):=by
 refine cY (S:=[.val .box,.val (aR s),.val (.lst false (pool.map D.str)),.val (yD d),.un,.un,.un,.un]) (by unfold fH;simp[hm,lN,iW (gM ji pool)];rw[D.old]) ?_;obtain⟨al0,al4⟩:=zlF d;have ln:(((.str (jQ d)::bu d:List D).length:Nat):Int)-1=((bu d).length:Int):=by rw[lF];omega
 refine zl1 (P:=λv=>∃t:Nat,v=.int (1+(t:Int))/\t<(bu d).length) (uC (pW aF) (vG (b:=0) rfl (Io (Ew (t:=.str (jQ d)::bu d) (aA rfl)) aF) (by rw[ln];omega) (by rw[ln];omega)) λa b ha hb Q q=>?_) λv hv=>?_
 .obtain⟨z,rfl,z0,z1⟩:=hb;subst ha;rw[ln]at z1;obtain⟨j,rfl⟩:=YAZ z0;exact q _ ⟨j,rfl,by omega⟩
 obtain⟨t,rfl,ht⟩:=hv;show aH _ _ _ [.val .box,.val (aR s),.val (.lst false (pool.map D.str)),.val (yD d),.val (.int (1+(t:Int))),.un,.un,.un];have ex:∀{y},(bu d)[t]?=some y->Ev (ak aC (vW 3) (vW 4)) [.val .box,.val (aR s),.val (.lst false (pool.map D.str)),.val (yD d),.val (.int (1+(t:Int))),.un,.un,.un] y:=λh=>lH (t:=.str (jQ d)::bu d) (k:=1+(t:Int)) (aA rfl) (aA rfl) (by rw[show(1+(t:Int))=((t+1:Nat):Int)from by omega];exact gF h);obtain⟨p0,hp0⟩:∃p0,pool[0]?=some p0:=⟨pool[0],jr (by omega)⟩;rcases bend hx ht with⟨x,hx1,hx2⟩|⟨i,hi1,hi2⟩
 .refine jV (uw λP p=>ex hx1 _ p) (Dj ?_);have np:nameB p0=true:=hn p0 (YBW hp0);have l8:=zvM np;have op:=zgj np;have ep:∀{S:Env},S[2]?=some (.val (.lst false (pool.map D.str)))->Ev (ak aC (vW 2) (kW (.int 0))) S (.str p0):=λh=>zq6 (k:=0) (aA h) aF hp0;have c1:=ziA p0 none (some 1);have c7:=ziA p0 none (some 7);have c3:=ziA p0 none (some 3);have good:∀u:Str,u.length<=64->(∀ch∈sg u,ch∈sg (iI p0 none (some 1)))->Tx (p0++u):=λu h1 h2=>⟨zkB op (IK λch hc=>ziW op ch (zlE (h2 ch hc))),by rw[zk3];omega⟩;have t3:Tx (iI p0 none (some 7)++"A"):=⟨zkB (zol op _ _) bC,by rw[zk3];show _+1<=_;omega⟩;have t4:Tx (iI p0 none (some 3)++" a"):=⟨zkB (zol op _ _) bC,by rw[zk3];show _+2<=_;omega⟩;have t1:Tx "":=⟨bC,by decide +kernel⟩;have t5:Tx "1":=⟨bC,by decide +kernel⟩;obtain⟨ms,em,lm,tm⟩:=zpz ok;have cu:∀{k:Int}{u:Str}{S:Env},S[2]?=some (.val (.lst false (pool.map D.str)))->Tx (iI p0 none (some k)++u)->(iI p0 none (some k)).length+u.length<=100000->jA (ak aU (fu (ak aC (vW 2) (kW (.int 0))) my (mD (kW (.int k)))) (kW (.str u))) S TxD:=λh ht hl Q q=>zoM (zns (ep h) yj (wU aF) (by omega)) aF hl Q (q _ ⟨_,rfl,ht⟩);refine zl1 (zr5 (PL:=TxL 5) (GF (txk t1) (GF (uC (P:=(·=.str p0)) (P':=λd=>∃u:Str,d=.str u/\u.length<=64/\∀ch∈sg u,ch∈sg (iI p0 none (some 1))) (pW (ep rfl)) (λQ q=>zns (ep rfl) yj (wU aF) (by omega) _ ⟨⟨by decide,by decide,by omega⟩,λu h1 h2=>q _ ⟨u,rfl,iu h1 (by show 8*_<=64;omega),h2⟩⟩) λa b ha hb Q q=>?_) (GF (cu rfl t3 (by show _+1<=_;omega)) (GF (cu rfl t4 (by show _+2<=_;omega)) (GF (txk t5) txl0))))) λds ⟨bs,e,hb,_⟩=>by rw[e,bW];omega) λd hd=>?_
  .obtain⟨u,rfl,h1,h2⟩:=hb;subst ha;exact⟨by omega,q _ ⟨_,rfl,good u h1 h2⟩⟩
  obtain⟨_,rfl,bs,rfl,hb,tb⟩:=hd;show aH _ _ _ [.val .box,.val (aR s),.val (.lst false (pool.map D.str)),.val (yD d),.val (.int (1+(t:Int))),.val (.lst true (bs.map D.str)),.un,.un];have hh:=mX ok;have hh2:=ok.h.ln;have tall:∀y∈pool++ms++aY s++bs,Tx y:=λy hy=>by
   simp only[YAG]at hy;rcases hy with((z|z)|z)|z
   .exact Tx.name (hn y z)
   .exact tm y z
   .exact Tx.name (ok.h.ok y z)
   .exact tb y z
  refine jM (d:=.lst true ((pool++ms++aY s++bs).map D.str)) (by
   rw[lL,lL,lL,<-em];refine rJ (rJ (rJ (aA rfl) (jy (aL (aA rfl) bL) (zev ok)) ?_) (fV (ziH (fP rfl (m2 s)) (by omega))) ?_) (aA rfl) ?_<;>simp only[iU,bW,em]<;>omega) ?_
  have hl2:((pool++ms++aY s++bs).map D.str).length=(pool++ms++aY s++bs).length:=bW _;have hl3:16<=(pool++ms++aY s++bs).length/\(pool++ms++aY s++bs).length<=100:=by simp only[iU,bW];omega
  refine zU (P:=TxD) (uC (pW (aA (i:=6) rfl)) (vG (b:=0) rfl (ug (aA (i:=6) rfl)) (by rw[hl2];omega) (by rw[hl2];omega)) λa b ha hb Q q=>?_) λd hd=>?_
  .obtain⟨z,rfl,z0,z1⟩:=hb;subst ha;rw[hl2]at z1;obtain⟨y,hy,e⟩:=zrp z0 z1;show(match gR ((pool++ms++aY s++bs).map D.str) z with|some d=>Q d|none=>False);rw[e];exact q _ ⟨y,rfl,tall y hy⟩
  .obtain⟨y,rfl,ty⟩:=hd;obtain⟨d',h1,h2⟩:=hx2 y ty;exact zll (E:={nx:=λx=>∃d',D.non=yD d'/\jn d',rt:=λv=>∃d',v=yD d'/\jn d',bk:=λx=>False,ct:=λx=>False}) (S:=[.val .box,.val (aR s),.val (.lst false (pool.map D.str)),.val (yD d),.val (.int (1+(t:Int))),.val (.lst true (bs.map D.str)),.val (.lst true ((pool++ms++aY s++bs).map D.str)),.val (.str y)]) rfl rfl rfl ht ⟨d',h2,h1⟩
 .refine pK (uw λP p=>ex hi1 _ p) (Dj ?_);have neg:∀{S:Env}(i:Int),Ev (uh kJ (kW (.int i))) S (.int (-i)):=λi=>zqC aF λP p=>p;have pw:∀{S:Env},Ev (ak sU (kW (.int 10)) (kW (.int 20))) S (.int (10^20)):=lK aF aF λP p=>⟨⟨by decide,by decide,by decide⟩,p⟩;refine jM (d:=.lst true (([0,-1,1,3,4,1000000000,1000000001,-1000000000,-1000000001,10^20,-10^20]:List Int).map D.int)) (fV (kj (aL aF (aL (neg 1) (aL aF (aL aF (aL aF (aL aF (aL aF (aL (neg 1000000000) (aL (neg 1000000001) (aL pw (aL (zqC pw λP p=>p) bL))))))))))))) ?_;generalize hns:([0,-1,1,3,4,1000000000,1000000001,-1000000000,-1000000001,10^20,-10^20]:List Int)=ns;have nl:ns.length=11:=by rw[<-hns];rfl
  have e6:Ev (vW 6) [.val .box,.val (aR s),.val (.lst false (pool.map D.str)),.val (yD d),.val (.int (1+(t:Int))),.un,.val (.lst true (ns.map D.int)),.un] (.lst true (ns.map D.int)):=aA rfl;have ee:=fP (s:=s) (S:=[.val .box,.val (aR s),.val (.lst false (pool.map D.str)),.val (yD d),.val (.int (1+(t:Int))),.un,.val (.lst true (ns.map D.int)),.un]) (i:=1) rfl (m4 s);have en:=vB (pQ (ug e6) (by rw[bW,nl])) (aF (d:=.int 2));refine zU (P:=λv=>∃k,v=.int k) (uC (pW (rJ e6 (fV (kj (aL ee (aL (vB ee (aF (d:=.int 1))) bL)))) (by rw[bW,nl];show 13<=100000;decide))) (vG (b:=0) (m:=13) rfl en (by decide) (by decide)) λa b ha hb Q q=>?_) λv hv=>?_
  .obtain⟨z,rfl,z0,z1⟩:=hb;subst ha;rw[show ns.map D.int++[.int s.en,.int (s.en+1)]=(ns++[s.en,s.en+1]).map D.int from by rw[lL];rfl];obtain⟨y,e⟩:=zrQ (ns:=ns++[s.en,s.en+1]) z0 (by rw[iU,nl];exact z1);show(match gR ((ns++[s.en,s.en+1]).map D.int) z with|some d=>Q d|none=>False);rw[e];exact q _ ⟨y,rfl⟩
  .obtain⟨k,rfl⟩:=hv;obtain⟨d',h1,h2⟩:=hi2 k;exact zll (E:={nx:=λx=>∃d',D.non=yD d'/\jn d',rt:=λv=>∃d',v=yD d'/\jn d',bk:=λx=>False,ct:=λx=>False}) (S:=[.val .box,.val (aR s),.val (.lst false (pool.map D.str)),.val (yD d),.val (.int (1+(t:Int))),.un,.val (.lst true (ns.map D.int)),.val (.int k)]) rfl rfl rfl ht ⟨d',h2,h1⟩
def zva(h0:0<=x)(h1:x<26):gR (sg LET) x=some (97+x.toNat):=by
 obtain⟨j,rfl⟩:=YAZ h0
 have:∀j<26,(sg LET)[j]?=some (97+j):=by decide +kernel
 exact gF (this j (by omega))
def CV(ns:List Int):Str:=Str.join sE (ns.map λn=>⟨#[97+n.toNat]⟩)
def zO(ns:List Int):sg (CV ns)=ns.map λn=>97+n.toNat:=by
 unfold CV;rw[show(ns.map λn=>(⟨#[97+n.toNat]⟩:Str))=(ns.map λn=>97+n.toNat).map λch=>⟨#[ch]⟩from by rw[YAL];rfl,zkf]
def zqk(h26:tR ns)(h1:1<=ns.length)(h2:ns.length<=8):nameB (CV ns)=true:=by
 unfold CV;rw[show(ns.map λn=>(⟨#[97+n.toNat]⟩:Str))=(ns.map λn=>97+n.toNat).map λch=>⟨#[ch]⟩from by rw[YAL];rfl];refine zsb (by rw[bW];exact h1) (by rw[bW];exact h2) λch hc=>?_;obtain⟨n,hn,rfl⟩:=YAK.mp hc
 have:=h26 n hn
 exact(znH _).mpr (by omega)
def ztb(hi:S[i]?=some (.val (.lst n (ns.map D.int))))(hj:S[j]?=some (.val (.str LET)))(h26:tR ns)(h2:ns.length<=8)(q:Q (.str (CV ns))) :
  uT vP (kW (.str sE)) (aN (eY [none,some j] (gq (vW i)) (.nm 0) cW (ak aC (vW 1) (vW 0)))) S Q:=by
 have e:(eE [none,some j] S)[1]?=some (.val (.str LET)):=by
  unfold eE;simp only[dZ,rT,YAA,List.getElem?_cons_zero];rw[hj]
 have hc:=uD (sub:=[none,some j]) (S:=S) (I:=gq (vW i)) (t:=.nm 0) (C:=cW) (E:=ak aC (vW 1) (vW 0)) D.int (λn=>some (.str ⟨#[97+n.toNat]⟩)) ns (v8 (aA hi)) (by omega) (λx hx=>t8 Az (λP p=>by
  have e2:((eE [none,some j] S).set 0 (.val (.int x)))[1]?=some (.val (.str LET)):=by rw[jE (by decide)];exact e
  refine Ho e2 (Ho (d:=.int x) (by unfold eE;rfl) ?_);have hl:(LET:Str).length=26:=by decide +kernel
  show _/\(match gR (sg LET) x with|some ch=>P (.str ⟨#[ch]⟩)|none=>False);rw[zva (h26 x hx).1 (h26 x hx).2];exact⟨by rw[hl];decide,p⟩))
 rw[Dp]at hc;refine hc (λxs=>vP sE (.lst true xs) Q) ⟨ns.map λn:Int=>⟨#[97+n.toNat]⟩,by rw[YAL];rfl,λt ht=>?_,by rw[bW];omega,by decide +kernel,q⟩;obtain⟨ch,_,rfl⟩:=YAK.mp ht;show 1<=2000;decide
def zko{E:En}{m size k c:Int}{like:Bool}{fs ns:List Int}{rows:List Str}{pl:Nat}(hpl:pl<ns.length)(h8:ns.length<=8)(hf:fs[pl]?=some c)(n26:tR ns)(hr:rows.length<1000)
  (q:∀x d,nameB x=true->(sg x)[pl]?=some (97+((c+11*k) % 26).toNat)->E.nx [.val .box,.val (.int m),.val (.str LET),.val (.int size),.val (.int pl),.val (.bl like),.val (.lst true (fs.map D.int)),.own ((rows++[x]).map D.str),.val (.int k),d]) :
  aH (sS 9 (vW 4) (ak kO (ak aU (ak aC (vW 6) (vW 4)) (ak jb (kW (.int 11)) (vW 8))) (kW (.int 26))))
   (nG 9 (jZ 7 (uT vP (kW (.str sE)) (aN (eY [none,some 2] (gq (vW 9)) (.nm 0) cW (ak aC (vW 1) (vW 0))))))) E
   [.val .box,.val (.int m),.val (.str LET),.val (.int size),.val (.int pl),.val (.bl like),.val (.lst true (fs.map D.int)),.own (rows.map D.str),.val (.int k),.own (ns.map D.int)]:=by
 have hv:0<=(c+11*k) % 26/\(c+11*k) % 26<26:=⟨wI _ (by decide),wL _ (by decide)⟩;have ea:Ev (ak kO (ak aU (ak aC (vW 6) (vW 4)) (ak jb (kW (.int 11)) (vW 8))) (kW (.int 26))) [.val .box,.val (.int m),.val (.str LET),.val (.int size),.val (.int pl),.val (.bl like),.val (.lst true (fs.map D.int)),.own (rows.map D.str),.val (.int k),.own (ns.map D.int)] (.int ((c+11*k) % 26)):=znq (vB (ue (aA rfl) (aA rfl) (gF (by rw[jG,hf];rfl))) (zkQ aF (aA rfl) λP p=>⟨.inl ⟨by decide,by decide⟩,p⟩)) aF;refine ea _ ?_;have e:rW (ns.map D.int).length (pl:Int)=some pl:=by
  unfold rW;rw[bW,if_pos (by omega),if_pos (by omega)];simp
 show(match rW (ns.map D.int).length (pl:Int)with|some m=>_|none=>False);rw[e];have es:(ns.map D.int).set pl (.int ((c+11*k) % 26))=(ns.set pl ((c+11*k) % 26)).map D.int:=List.map_set.symm;show nG 9 (jZ 7 (uT vP (kW (.str sE)) (aN (eY [none,some 2] (gq (vW 9)) (.nm 0) cW (ak aC (vW 1) (vW 0)))))) E [.val .box,.val (.int m),.val (.str LET),.val (.int size),.val (.int pl),.val (.bl like),.val (.lst true (fs.map D.int)),.own (rows.map D.str),.val (.int k),.own ((ns.map D.int).set pl (.int ((c+11*k) % 26)))];rw[es];have n26':tR (ns.set pl ((c+11*k) % 26)):=λn hn=>by
  rcases List.mem_or_eq_of_mem_set hn with h|h
  .exact n26 n h
  .rw[h];exact hv
 show uT vP (kW (.str sE)) (aN (eY [none,some 2] (gq (vW 9)) (.nm 0) cW (ak aC (vW 1) (vW 0)))) [.val .box,.val (.int m),.val (.str LET),.val (.int size),.val (.int pl),.val (.bl like),.val (.lst true (fs.map D.int)),.own (rows.map D.str),.val (.int k),.val (.lst true ((ns.set pl ((c+11*k) % 26)).map D.int))] _;refine ztb (i:=9) (j:=2) rfl rfl n26' (by rw[Hx];omega) ⟨by rw[bW];omega,?_⟩
 have:=q (CV (ns.set pl ((c+11*k) % 26))) (.val (.lst true ((ns.set pl ((c+11*k) % 26)).map D.int))) (zqk n26' (by rw[Hx];omega) (by rw[Hx];omega)) (by rw[zO,jG,jK hpl];rfl)
 rw[lL]at this;exact this
def Apart(c:Int)(pl:Nat)(rows:List Str):Prop:=∀(i:Nat) x,rows[i]?=some x->(sg x)[pl]?=some (97+((c+11*(i:Int)) % 26).toNat)
def Apart.nodup(h:Apart c pl rows)(hl:rows.length<=26):rows.Nodup:=by
 refine List.pairwise_iff_getElem.mpr λi j hi hj hij e=>?_;have h1:=h i _ (jr hi);have h2:=h j _ (jr hj);rw[e,h2]at h1
 have:=Option.some.inj h1
 omega
def zmU(m:Int)(m0:0<=m)(m1:m<=26):Km [.box,.int m] (λd=>∃ns:List Str,d=.lst true (ns.map D.str)/\(ns.length:Int)=m/\(∀x∈ns,nameB x=true)/\ns.Nodup):=by
 unfold Km eG;rw[zow .box (.int m) 8,zkA,jX];refine⟨rfl,Ez (by decide) (by decide) λa a0 a1=>?_⟩;refine⟨rfl,Ez (by omega) (by omega) λp p0 p1=>?_⟩;refine⟨rfl,Ez (by decide) (by decide) λl l0 l1=>⟨Ce _ _,?_⟩⟩;generalize eqB (.int l) (.int 0)=like;refine⟨⟨by omega,by omega⟩,?_⟩;refine zqP (j:=0) (n:=(1+a).toNat) rfl (by omega) λfs fl f26=>?_;refine⟨vX _,⟨by omega,by omega⟩,?_⟩;obtain⟨pl,rfl⟩:=YAZ p0;obtain⟨c,hc⟩:∃c,fs[pl]?=some c:=⟨_,jr (by omega)⟩;refine Jc (λrest S=>∃(rows:List Str)(s8 s9:Sl),S=[.val .box,.val (.int m),.val (.str LET),.val (.int (1+a)),.val (.int (pl:Int)),.val (.bl like),.val (.lst true (fs.map D.int)),.own (rows.map D.str),s8,s9]/\(rows.length+rest.length:Int)=m/\(∀x∈rows,nameB x=true)/\Apart c pl rows/\rest=iD (rows.length:Int) rest.length) ?_ ?_ _ _ ⟨[],.un,.un,rfl,by rw[Av];show((0:Nat):Int)+(m.toNat:Int)=m;omega,by simp,λi x h=>by simp at h,by rw[Av];rfl⟩
 .rintro k rest S E' hn hcc hr hb ⟨rows,s8,s9,rfl,hl,hx,hap,hk⟩;rw[lF,zoO]at hk;injection hk with hk1 hk2
  subst hk1;have h00:(0:Int)<=(D.int (rows.length:Int)::rest).length:=by omega
  have hl':(rows.length:Int)<1000:=by omega
  have fin:∀ns:List Int,pl<ns.length->ns.length<=8->tR ns->aH (sS 9 (vW 4) (ak kO (ak aU (ak aC (vW 6) (vW 4)) (ak jb (kW (.int 11)) (vW 8))) (kW (.int 26))))
   (nG 9 (jZ 7 (uT vP (kW (.str sE)) (aN (eY [none,some 2] (gq (vW 9)) (.nm 0) cW (ak aC (vW 1) (vW 0))))))) E'
   [.val .box,.val (.int m),.val (.str LET),.val (.int (1+a)),.val (.int (pl:Int)),.val (.bl like),.val (.lst true (fs.map D.int)),.own (rows.map D.str),.val (.int (rows.length:Int)),.own (ns.map D.int)]:=λns h1 h2 h3=>
   zko h1 h2 hc h3 (by omega) λx d hxx hsx=>hn _ ⟨rows++[x],.val (.int (rows.length:Int)),d,rfl,by rw[iU,YCn];rw[lF]at hl;omega,λy hy=>(YAG.mp hy).elim (hx y) (λz=>by rw[lX.mp z];exact hxx),λi y hy=>by
    by_cases hi:i<rows.length
    .rw[Dy hi]at hy;exact hap i y hy
    .rw[YBv (by omega)]at hy;have e0:i-rows.length=0:=by
      cases hz:i-rows.length with
      |zero=>rfl
      |succ n=>rw[hz]at hy;simp at hy
     rw[e0]at hy;cases hy
     have:i=rows.length:=by omega
     rw[this];exact hsx,by rw[iU,YCn];rw[show((rows.length+1:Nat):Int)=(rows.length:Int)+1 from by omega];exact hk2⟩
  cases like with
  |true=>exact fin fs (by omega) (by omega) f26
  |false=>
   refine⟨rfl,Ez (by omega) (by omega) λt t0 t1=>⟨⟨by omega,by omega⟩,?_⟩⟩;exact zqP (j:=0) (n:=(((pl:Int)+1)+t).toNat) rfl (by omega) λns nl n26=>fin ns (by omega) (by omega) n26
 .rintro S ⟨rows,s8,s9,rfl,hl,hx,hap,hk⟩;have hl2:(rows.length:Int)=m:=by simpa using hl
  exact⟨rows,rfl,hl2,hx,hap.nodup (by omega)⟩
def fC(pl:List (Str×Nat)):List Str:=pl.filterMap λp=>if decide (((p.2:Nat):Int)=1)then some p.1 else none
def zrv(pl:List (Str×Nat)):lu pl=(fC pl).map D.str:=by
 unfold lu fC;rw[YCK];congr 1
 funext p
 split<;>rfl
def Ey(h:x∈fC pl):(x,1)∈pl:=by
 obtain⟨p,hp,e⟩:=Be.mp h;split at e
 .rename_i e1
  cases e
  have:p.2=1:=by have:=YAD e1;omega
  rw[<-this];exact hp
 .cases e
def Eg(h:x∈fC pl):0<bw pl x:=rA.mpr (YAK.mpr ⟨_,Ey h,rfl⟩)
def zul(h:pl.Nodup):(fC pl).Nodup:=by
 induction pl with
 |nil=>exact YDd
 |cons p pl ih=>
  rw[YAP]at h;unfold fC;rw[YAV];split
  .exact ih h.2
  .rename_i y e
   refine YAP.mpr ⟨λz=>?_,ih h.2⟩;split at e
   .rename_i e1
    cases e
    have:p.2=1:=by have:=YAD e1;omega
    exact h.1 (by have:=Ey z;rw[<- ‹p.2=1›]at this;exact this)
   .cases e
def zqK(pl:List (Str×Nat)):(fC pl).length<=pl.length:=YB2 _ _
def zvb{ms:List Str}(h:ms.Nodup){a b:Nat}{ha:a<ms.length}{hb:b<ms.length}(hab:a≠b):ms[a]≠ms[b]:=by
 have p:=List.pairwise_iff_getElem.mp h;rcases Nat.lt_or_gt_of_ne hab with z|z
 .exact p a b ha hb z
 .exact YAM (p b a hb ha z)
def jC(ms:List Str)(i:Nat):Str:=ms.getD i ""
def xG(ha:a<ms.length):jC ms a=ms[a]:=by unfold jC;rw[YAN,jr ha];rfl
def ziP{ms:List Str}{k:Int}(h0:0<=k)(h1:k<ms.length):gR (ms.map D.str) k=some (.str (jC ms k.toNat)):=by
 obtain⟨j,rfl⟩:=YAZ h0;have hj:j<ms.length:=by omega
 exact gF (by rw[jG,jr hj];show _=some (D.str (jC ms j));rw[xG hj];rfl)
def zsW:eqB (.lst n xs) (.lst m [])=xs.isEmpty:=by
 cases xs with
 |nil=>rfl
 |cons x xs=>rfl
def zpX{n m:Bool}{hs:List Str}(h:∀y∈hs,cC y=true):qD (.lst n (hs.map D.str)) (.lst m []):=⟨by unfold dR;exact ziv h,by unfold dR;rw[m9],by
 refine iu (YCs _ _) ?_;show(toPy (.lst m [])).depth<=50;exact(by decide:1<=50)⟩
def zjw(h0:0<=p)(h1:p<1000):Gp [.int p] (·=.int (p*p*3 % 17-p)):=by
 refine cY (pN (n:=0) (jX p)) ?_;have e1:Ev (ak jb (vW 0) (vW 0)) [.val (.int p)] (.int (p*p)):=zkQ (aA rfl) (aA rfl) λP q=>⟨.inl ⟨by omega,by omega⟩,q⟩;have e2:Ev (ak jb (ak jb (vW 0) (vW 0)) (kW (.int 3))) [.val (.int p)] (.int (p*p*3)):=zkQ e1 aF λP q=>⟨.inr ⟨by decide,by decide⟩,q⟩;exact jg (Io (znq e2 aF) (aA rfl)) rfl
def zky{b:Bool}{hs:List Int}{k:Int}{Q:D->Prop}(k0:0<=k)(k1:k<hs.length)(q:∀v∈hs,Q (.int v)):aC (.lst b (hs.map D.int)) (.int k) Q:=by
 obtain⟨j,rfl⟩:=YAZ k0;have hj:j<hs.length:=by omega
 show(match gR (hs.map D.int) (j:Int)with|some d=>Q d|none=>False);rw[gF (j:=j) (by rw[jG,jr hj];rfl)];exact q _ (By hj)
def zT(s:Ya)(v:D):Prop:=v=.non\/∃d,v=yD d/\jn d/\why s d=none/\jW d=true
abbrev enR(s:Ya):En:={nx:=λ_=>zT s .non,rt:=zT s,bk:=λ_=>False,ct:=λ_=>False}
abbrev eR(s:Ya)(x5 x6 x7 x4:Sl):Env:=[.val .box,.val (aR s),.val (.lst true ((fC s.pl).map D.str)),.val (.lst true ((aY s).map D.str)),x4,x5,x6,x7]
section
variable{s:Ya}{x4:Sl}
def zlL(ok:dX s){a b:Str}{r:Int}(ha:a∈fC s.pl)(hb:b∈fC s.pl)(hab:a≠b)(hr:okR r=true)(l1:1<=(aY s).length)(l4:s.rs.length<40):aO (bK (aq (kW (.str "run")) (aq (vW 5) (aq (vW 6) (aq (vW 7) (aq (ak aC (vW 3) (aZ 2 dg (aq (vW 0) (aq (cbW fY (aq (vW 3) ao)) ao)))) ao)))))) (enR s) (eR s (.val (.str a)) (.val (.str b)) (.val (.int r)) x4):=by
 have lh:=mX ok;have tx:∀{x},x∈fC s.pl->Tx x:=λh=>Tx.name (ok.p.ok _ (Ey h));show aZ 2 dg (aq (vW 0) (aq (cbW fY (aq (vW 3) ao)) ao)) (eR s (.val (.str a)) (.val (.str b)) (.val (.int r)) x4) _;refine tk rfl (pQ (ug (aA rfl)) (by rw[bW])) (by omega) (by omega) λk k0 k1=>?_;show(match gR ((aY s).map D.str) k with|some d=>(_/\_:Prop)|none=>False);rw[ziP k0 k1];have hm:jC (aY s) k.toNat∈aY s:=by rw[xG (by omega)];exact By _
 refine⟨by show 5<=100000;decide,.inr ⟨.run a b r (jC (aY s) k.toNat),rfl,⟨tx ha,tx hb,Tx.name (ok.h.ok _ hm)⟩,?_,rfl⟩⟩;show eV s a b r _=none
 have:=Eg ha
 have:=Eg hb
 unfold eV;rw[if_neg (by omega),if_neg hab,if_neg λz=>z hm,if_neg (by rw[hr];decide),if_neg (by omega)]
def zlx(h1:-1000000000<=r)(h2:r<=1000000000):okR r=true:=by unfold okR;rw[iB h1,iB h2];rfl
def zqu(ok:dX s){a b:Str}{r:Int}(ha:a∈fC s.pl)(hb:b∈fC s.pl)(hab:a≠b)(r0:-100<=r)(r1:r<=100)(l1:1<=(aY s).length)(l4:s.rs.length<40):aH (cX (bA (ak cD (aZ 2 dg (aq (vW 0) (aq (kW (.int 4)) ao))) (kW (.int 0)))) (aP (.nm 7) (ak aC (aN (bh (aq (ak aU (vW 7) (kW (.int 1))) (aq (ak ik (vW 7) (kW (.int 2))) (aq (aZ 2 dg (aq (vW 0) (aq (kW (.int 1000000000)) ao))) (aq (uh kJ (kW (.int 1000000000))) ao)))))) (aZ 2 dg (aq (vW 0) (aq (kW (.int 4)) ao))))) bU)
  (aO (bK (aq (kW (.str "run")) (aq (vW 5) (aq (vW 6) (aq (vW 7) (aq (ak aC (vW 3) (aZ 2 dg (aq (vW 0) (aq (cbW fY (aq (vW 3) ao)) ao)))) ao))))))) (enR s) (eR s (.val (.str a)) (.val (.str b)) (.val (.int r)) x4):=by
 show aZ 2 dg (aq (vW 0) (aq (kW (.int 4)) ao)) (eR s (.val (.str a)) (.val (.str b)) (.val (.int r)) x4) _;refine tk rfl aF (by decide) (by decide) λx x0 x1=>?_;refine⟨Ce _ _,?_⟩;rw[FP];by_cases hx:x=0
 .rw[iB hx];show aZ 2 dg (aq (vW 0) (aq (kW (.int 1000000000)) ao)) (eR s (.val (.str a)) (.val (.str b)) (.val (.int r)) x4) _;refine tk rfl aF (by decide) (by decide) λy y0 y1=>?_;refine⟨by show 4<=100000;decide,?_⟩;show aZ 2 dg (aq (vW 0) (aq (kW (.int 4)) ao)) (eR s (.val (.str a)) (.val (.str b)) (.val (.int r)) x4) _;refine tk rfl aF (by decide) (by decide) λk k0 k1=>?_;refine zky (b:=true) (hs:=[r+1,r-2,y,-1000000000]) k0 k1 λv hv=>?_;unfold gD;simp only[ir,lB,rK]at hv;exact zlL ok ha hb hab (zlx (by rcases hv with rfl|rfl|rfl|rfl<;>omega) (by rcases hv with rfl|rfl|rfl|rfl<;>omega)) l1 l4
 .rw[gV hx];exact zlL ok ha hb hab (zlx (by omega) (by omega)) l1 l4
def zf3{m:D}(hm:m.old=aR s)(ok:dX s):Ef [.box,m] (zT s):=by
 have hl:(fC s.pl).length<=12:=iu (zqK _) ok.p.ln;have lh:=mX ok;refine cY (S:=[.val .box,.val (aR s),.un,.un,.un,.un,.un,.un]) (by unfold fH;simp[zkA,hm]) ?_;refine jM (pQ (jy (aL (aA rfl) bL) (zev ok)) (by rw[zrv])) ?_;refine jM (fV (ziH (fP rfl (m2 s)) (by omega))) ?_;show aH _ _ (enR s) (eR s .un .un .un .un);have lm:∀{S:Env},S[2]?=some (.val (.lst true ((fC s.pl).map D.str)))->Ev (cbW fY (aq (vW 2) ao)) S (.int (fC s.pl).length):=λh=>pQ (ug (aA h)) (by rw[bW]);have e1:=dI (zqa (lm (S:=eR s .un .un .un .un) rfl) (aF (d:=.int 2)));have e2:dU (bA (ak cD (vW 3) (aN (bh ao)))) (eR s .un .un .un .un) ((aY s).map D.str).isEmpty:=dI (lK (aA rfl) (fV (kj bL)) λP p=>⟨zpX ok.h.cC,by rw[zsW];exact p⟩);have e3:=dI (CP (S:=eR s .un .un .un .un) (ug (fP (i:=1) rfl (m3 s))) (aF (d:=.int 40)));cases hb:(decide (((fC s.pl).length:Int)<2) || (((aY s).map D.str).isEmpty || decide ((40:Int)<=((s.rs.map cL).length:Int))))with
 |true=>exact(b8 (yt e1 λ_=>yt e2 λ_=>e3) hb) _ (.inl rfl)
 |false=>
  refine jP (b8 (yt e1 λ_=>yt e2 λ_=>e3) hb) ?_;rw[YCw,YCw]at hb;obtain⟨h1,h2,h3⟩:=hb;have l2:2<=(fC s.pl).length:=by have:=of_decide_eq_false h1;omega
  have l1:1<=(aY s).length:=by
   cases e:aY s with
   |nil=>rw[e]at h2;cases h2
   |cons x xs=>simp
  have l4:s.rs.length<40:=by have:=of_decide_eq_false h3;rw[bW]at this;omega
  refine zpZ rfl (lm rfl) (by omega) (by omega) λat_ a0 a1=>?_;show aH _ _ (enR s) (eR s .un .un .un (.val (.int at_)));generalize x4e:Sl.val (D.int at_)=x4;have v4:Ev (vW 4) (eR s .un .un .un x4) (.int at_):=by rw[<-x4e];exact aA rfl
  have hA:Ev (ak aC (vW 2) (vW 4)) (eR s .un .un .un x4) (.str (jC (fC s.pl) at_.toNat)):=ue (aA rfl) v4 (ziP a0 a1);have hB:jA (ak aC (vW 2) (ak kO (ak aU (ak aU (vW 4) (kW (.int 1))) (aZ 2 dg (aq (vW 0) (aq (ak ik (cbW fY (aq (vW 2) ao)) (kW (.int 1))) ao)))) (cbW fY (aq (vW 2) ao)))) (eR s .un .un .un x4) (λv=>∃ot:Int,v=.str (jC (fC s.pl) ot.toNat)/\0<=ot/\ot<(fC s.pl).length/\ot≠at_):=by
   refine uC (pW (aA rfl)) (uC (P:=λv=>∃t:Int,v=.int (at_+1+t)/\0<=t/\t<(fC s.pl).length-1) (uC (pW (vB v4 aF)) (vG (b:=0) rfl (Io (lm rfl) aF) (by omega) (by omega)) λa b ha hb Q q=>?_) (pW (lm rfl)) (T:=λv=>∃ot:Int,v=.int ot/\0<=ot/\ot<(fC s.pl).length/\ot≠at_) λa b ha hb Q q=>?_) λa b ha hb Q q=>?_
   .obtain⟨t,rfl,t0,t1⟩:=hb;subst ha;exact q _ ⟨t,rfl,t0,t1⟩
   .obtain⟨t,rfl,t0,t1⟩:=ha;subst hb;have hn:(0:Int)<((fC s.pl).length:Int):=by omega
    refine⟨hn,q _ ⟨_,rfl,wI _ (by omega),wL _ hn,?_⟩⟩;by_cases hh:at_+1+t<((fC s.pl).length:Int)
    .rw[Int.emod_eq_of_lt (by omega) hh];omega
    .have:at_+1+t=(at_+1+t-((fC s.pl).length:Int))+((fC s.pl).length:Int)*1:=by omega
     rw[this,Int.add_mul_emod_self_left,Int.emod_eq_of_lt (by omega) (by omega)];omega
   .obtain⟨ot,rfl,o0,o1,o2⟩:=hb;subst ha;show(match gR ((fC s.pl).map D.str) ot with|some d=>Q d|none=>False);rw[ziP o0 o1];exact q _ ⟨ot,rfl,o0,o1,o2⟩
  refine hA _ (hB _ ?_);rintro v ⟨ot,rfl,o0,o1,o2⟩;have ma:jC (fC s.pl) at_.toNat∈fC s.pl:=by rw[xG (by omega)];exact By _
  have mb:jC (fC s.pl) ot.toNat∈fC s.pl:=by rw[xG (by omega)];exact By _
  have hab:jC (fC s.pl) at_.toNat≠jC (fC s.pl) ot.toNat:=by rw[xG (by omega),xG (by omega)];exact zvb (zul ok.pt.nd) (by omega)
  generalize jC (fC s.pl) at_.toNat=a at ma hab;generalize jC (fC s.pl) ot.toNat=b at mb hab;have lp:=ok.p.ln;have ia:=DX ok.pt (Eg ma);have ib:=DX ok.pt (Eg mb);have pl2:Ev (aZ 2 uQ (aq (vW 1) (aq (vW 6) ao))) (eR s (.val (.str a)) (.val (.str b)) .un x4) (.int (lZ s.pl b)):=jy (aL (aA rfl) (aL (aA rfl) bL)) (zeB (zsB s) ok.p ok.pt (ok.p.cC _ (Ey mb)) (Eg mb));have pl1:Ev (aZ 2 uQ (aq (vW 1) (aq (vW 5) ao))) (eR s (.val (.str a)) (.val (.str b)) .un x4) (.int (lZ s.pl a)):=jy (aL (aA rfl) (aL (aA rfl) bL)) (zeB (zsB s) ok.p ok.pt (ok.p.cC _ (Ey ma)) (Eg ma));refine jM (S:=eR s (.val (.str a)) (.val (.str b)) .un x4) (Io (jy (aL pl2 bL) (zjw (by omega) (by omega))) (jy (aL pl1 bL) (zjw (by omega) (by omega)))) ?_;refine zqu ok ma mb hab ?_ ?_ l1 l4
  .generalize (lZ s.pl a:Int)*(lZ s.pl a:Int)*3=u;generalize (lZ s.pl b:Int)*(lZ s.pl b:Int)*3=v;omega
  .generalize (lZ s.pl a:Int)*(lZ s.pl a:Int)*3=u;generalize (lZ s.pl b:Int)*(lZ s.pl b:Int)*3=v;omega
end
def nU:Ya:=⟨[],[],[],[],0,0,[]⟩
theorem HS(I:List D->bN->Env->Prop)
  (hs:∀x rest qj S (E':qN),(∀qj S,I rest qj S->E'.nx qj S)->(∀qj S,I rest qj S->E'.ct qj S)->(∀qj d,E.rt qj d->E'.rt qj d)->(∀qj S,E.nx qj S->E'.bk qj S)->I (x::rest) qj S->gD t x S λS'=>B E' qj S') (hd:∀qj S,I [] qj S->E.nx qj S) :
  ∀(xs:List D)(qj:bN)(S:Env),I xs qj S->qu t B E xs qj S
 |[],qj,S,h=>hd qj S h
 |x::xs,qj,S,h=>hs x xs qj S {nx:=qu t B E xs,ct:=qu t B E xs,bk:=E.nx,rt:=E.rt} (HS I hs hd xs) (HS I hs hd xs) (λqj d z=>z) (λqj S z=>z) h
def zlM(hR:JV R S qj ds)(h:F ds qj P qg)(k:∀d qh,P d qh->Q d qh)(l:∀n qh,qg n qh->y n qh)(hl:ds.length=n:=by rfl):qP n F y R S qj Q:=hR _ ⟨hl,Du h k l⟩
def zog:CQ [] (·=.dct true BK (iy nU)):=by
 refine cY (S:=[]) rfl ?_;exact⟨by decide,by decide,by decide,by decide,by decide,rfl⟩
def znr:zc3 [] (λv=>v.old=aR nU):=by
 refine cY (S:=[]) rfl ?_;refine⟨by decide,by decide,by decide,by decide,?_⟩;refine zru ?_;simp only[dZ,rT];rw[iW (by simp),zkP (by simp),jX];rfl
def zrr(hi:S[i]?=some (.val (.obj q)))(hF:jh (F qj) S xs)(hS:qj q=some o)(hC:o.C=C)(hl:o.fs.length<100)(h:E.nx (iY qj q ⟨o.C,jd f (xs.map D.old) o.fs⟩) S):jw i f C F E qj S:=by
 unfold jw;rw[hi];exact hF _ ⟨o,hS,hC,hl,h⟩
def zp3:zcc A [.obj a] (iY qj a ⟨A.fen,[]⟩) (λd qh=>d=.non/\qh=iY qj a (cG A [] [cJ nU] [])) (λ_ _=>False):=by
 refine CT (pN (n:=0) (pP a)) ?_;refine⟨by decide,⟨A.fen,[]⟩,qW,rfl,by show 0<100;decide,?_⟩;rw[Fg];have p1:jd "kept" ([].map D.old) ([]:List (Str×List D))=[(("kept":Str),[])]:=by kernel_rfl
 rw[p1];have eb:jh (bh (aq (aZ 0 CQ ao) ao)) [.val (.obj a)] [.dct true BK (iy nU)]:=kj (aL (jy bL zog) bL);show bQ (jw 0 "books" A.fen λqj=>bh (aq (aZ 0 CQ ao) ao)) _ _ _ [.val (.obj a)];refine zrr (q:=a) (o:=⟨A.fen,[("kept",[])]⟩) rfl eb qW rfl (by show 1<100;decide) ?_;rw[Fg,Ge,Gj (yu nU)];have p2:jd "books" [D.dct false BK (iy nU)] [(("kept":Str),([]:List D))]=[(("kept":Str),[]),("books",[D.dct false BK (iy nU)])]:=by kernel_rfl
 rw[p2];show jw 0 "undone" A.fen (λqj=>bh ao) _ _ [.val (.obj a)];refine zrr (q:=a) (o:=⟨A.fen,[("kept",[]),("books",[D.dct false BK (iy nU)])]⟩) rfl (kj bL) qW rfl (by show 2<100;decide) ?_;rw[Fg];have p3:jd "undone" ([].map D.old) [(("kept":Str),([]:List D)),("books",[D.dct false BK (iy nU)])]=[(("kept":Str),[]),("books",[D.dct false BK (iy nU)]),("undone",[])]:=by kernel_rfl
 rw[p3];exact⟨rfl,rfl⟩
def zrS:dX nU:=by constructor<;>first|(constructor<;>simp[nU,bw,aY])|simp[nU]
def zin(h:v.old=aR s):El v=false:=by
 cases v with
 |non=>rw[D.old]at h;cases h
 |_=>rfl
structure lA(A:gK)(qj:bN)(q:Addr)(m:D)(s:Ya)(n:Nat):Prop where
 m:m.old=aR s
 ok:dX s
 dn:s.ds.length<=n
 ex:∃bs us,qj q=some (cG A s.ds (bs++[cJ s]) us)/\bs.length<=n
section
variable{A:gK}{qj:bN}{q:Addr}{m:D}{s:Ya}{d:Yd}{n i j k:Nat}{S:Env}{Q:D->bN->Prop}
def lA.le(z:lA A qj q m s n)(h:n<=k):lA A qj q m s k:=⟨z.m,z.ok,iu z.dn h,z.ex.imp λbs h1=>h1.imp λus h2=>⟨h2.1,iu h2.2 h⟩⟩
def lA.next(z:lA A qj q m s n)(hn:n<900)(hx:jn d)(f:why s d=none)(hb:bs.length<=n)(hv:v.old=aR (jL s d)):lA A (iY qj q (BW A s d bs)) q v (jL s d) (n+1):=by
 have dn:=z.dn;refine⟨hv,zqE z.ok hx f (by omega),?_,bs++[cJ s],[],by rw[qW];rfl,by rw[iU];show bs.length+1<=n+1;omega⟩;show(s.ds++[_]).length<=n+1;rw[iU];show s.ds.length+1<=n+1;omega
def lA.judged(z:lA A qj q m s n)(hn:n<900)(hx:jn d)(hi:S[i]?=some (.val (.obj q)))(hj:S[j]?=some (.val m))(hk:S[k]?=some (.val (yD d)))
  (h:∀v qh s',lA A qh q v s' (n+1)->Q v qh):qP 3 (GC A) (λ_ _=>False) (eQ (eZ λqj=>vW i) (eQ (eZ λqj=>vW j) (eQ (eZ λqj=>vW k) fU))) S qj Q:=by
 obtain⟨bs,us,hS,hb⟩:=z.ex;refine zlM (wM (aA hi) (wM (aA hj) (wM (aA hk) GD))) (zm2 z.m hS z.ok hx (by omega)) (λv qh hv=>?_) λ_ _ z=>z;rcases hv with⟨h1,h2,rfl⟩|⟨_,h2,rfl⟩
 .exact h v _ _ (z.next hn hx h1 hb h2)
 .exact h v _ s ⟨h2,z.ok,YCU z.dn,bs,us,hS,YCU hb⟩
def lA.step(z:lA A qj q m s n)(hn:n<900)(hx:jn d)(f:why s d=none)(hi:S[i]?=some (.val (.obj q)))(hj:S[j]?=some (.val m))(hk:S[k]?=some (.val (yD d)))
  (h:∀v qh,lA A qh q v (jL s d) (n+1)->Q v qh):qP 3 (wB A) (λ_ _=>False) (eQ (eZ λqj=>vW i) (eQ (eZ λqj=>vW j) (eQ (eZ λqj=>vW k) fU))) S qj Q:=by
 obtain⟨bs,us,hS,hb⟩:=z.ex;refine zlM (wM (aA hi) (wM (aA hj) (wM (aA hk) GD))) (zmm z.m hS z.ok hx f (by omega)) (λv qh hv=>?_) λ_ _ z=>z;obtain⟨h1,rfl⟩:=hv;exact h v _ (z.next hn hx f hb h1)
end
def Fits:Ya->List Yd->Prop
 |_,[]=>True
 |s,d::r=>(why s d=none/\jn d)/\Fits (jL s d) r
theorem zhA{rest:List Yd}:∀(xs:List Str)(s:Ya),xs.Nodup->(∀x∈xs,nameB x=true/\bw s.pl x=0)->s.pl.length+xs.length<=12->(∀s':Ya,s'.hs=s.hs->Fits s' rest)->Fits s (xs.map Yd.mark++rest)
 |[],s,_,_,_,k=>k s rfl
 |x::xs,s,hn,hx,hl,k=>by
  rw[YAP]at hn;rw[lF]at hl;obtain⟨h1,h2⟩:=hx x gw;refine⟨⟨?_,Tx.name h1⟩,zhA xs _ hn.2 (λy hy=>⟨(hx y (je _ hy)).1,?_⟩) ?_ λs' h=>k s' h⟩
  .show wz s x=none;unfold wz;rw[if_neg (by rw[h1];decide),if_neg (by omega),if_neg (by omega)]
  .show bw (s.pl++[lY s.pl x]) y=0;rw[zgi,(hx y (je _ hy)).2,if_neg (show ¬ x=y from λz=>hn.1 (z▸hy))]
  .show(s.pl++[_]).length+xs.length<=12;rw[iU];show s.pl.length+1+xs.length<=12;omega
theorem zhH{rest:List Yd}:∀(xs:List Str)(s:Ya),xs.Nodup->(∀x∈xs,nameB x=true/\x∉aY s)->s.hs.length+xs.length<=10->(∀s':Ya,Fits s' rest)->Fits s (xs.map Yd.hand++rest)
 |[],s,_,_,_,k=>k s
 |x::xs,s,hn,hx,hl,k=>by
  rw[YAP]at hn;rw[lF]at hl;obtain⟨h1,h2⟩:=hx x gw;refine⟨⟨?_,Tx.name h1⟩,zhH xs _ hn.2 (λy hy=>⟨(hx y (je _ hy)).1,λz=>?_⟩) ?_ k⟩
  .show uH s x=none;unfold uH;rw[if_neg (by rw[h1];decide),if_neg h2,if_neg (by omega)]
  .have z:y∈(s.hs++[(x,true)]).map (·.1):=z;rw[lL]at z;rcases YAG.mp z with z|z
   .exact(hx y (je _ hy)).2 z
   .rw[lX.mp z]at hy;exact hn.1 hy
  .show(s.hs++[_]).length+xs.length<=10;rw[iU];show s.hs.length+1+xs.length<=10;omega
def ztm{ns:List Str}{k:Nat}(h:k<ns.length):gR (ns.map D.str) (k:Int)=some (.str (jC ns k)):=by
 have:=ziP (ms:=ns) (k:=(k:Int)) (by omega) (by omega)
 rw[Ed]at this;exact this
def zqW(h:k<ns.length):jC ns k∈ns:=by rw[xG h];exact By h
theorem zik{ns:List Str}(hn:ns.Nodup){f:Nat->Nat}:∀{l:List Nat},l.Nodup->(∀k∈l,f k<ns.length)->(∀a∈l,∀b∈l,f a=f b->a=b)->(l.map λk=>jC ns (f k)).Nodup
 |[],_,_,_=>by simp
 |k::l,h1,h2,h3=>by
  rw[YAP]at h1;rw[dZ,YAP];refine⟨λm=>?_,zik hn h1.2 (λj hj=>h2 j (je _ hj)) λa ha b hb=>h3 a (je _ ha) b (je _ hb)⟩;obtain⟨j,hj,e⟩:=YAK.mp m;have e:jC ns (f j)=jC ns (f k):=e;have fj:=h2 j (je _ hj);have fk:=h2 k gw;rw[xG fj,xG fk]at e;by_cases z:f j=f k
  .exact h1.1 (h3 j (je _ hj) k gw z▸hj)
  .exact zvb hn z e
def qw(ns:List Str)(n1 n2:Nat)(k:Int):List Yd:=((List.range n1).map λk=>jC ns k).map Yd.mark++(((List.range n2).map λk=>jC ns (15-k)).map Yd.hand++[.allow k])
def zrW(ns:List Str)(n1 n2:Nat)(k:Int):(qw ns n1 n2 k).map yD=(((List.range n1).map λk=>D.tup [.str "mark",.str (jC ns k)])++((List.range n2).map λk=>D.tup [.str "hand",.str (jC ns (15-k))]))++[.tup [.str "allow",.int k]]:=by
 unfold qw;rw[lL,lL,YAL,YAL,YAL,YAL,YCh];rfl
def zpK{ns:List Str}{n1 n2:Nat}{k:Int}(hl:ns.length=16)(hn:ns.Nodup)(ho:∀x∈ns,nameB x=true)(h1:n1<=5)(h2:n2<=4)(k0:0<=k)(k3:k<=3):Fits nU (qw ns n1 n2 k):=by
 have lt:∀{n j:Nat},j∈List.range n->j<n:=λh=>J5.mp h;unfold qw;refine zhA _ nU (zik hn (f:=λk=>k) List.nodup_range (λj hj=>by have:=lt hj;omega) λa _ b _ e=>e) (λx hx=>?_) (by rw[bW,wH];show 0+n1<=12;omega) λs' hs=>?_
 .obtain⟨j,hj,rfl⟩:=YAK.mp hx
  have:=lt hj
  exact⟨ho _ (zqW (by omega)),by simp[nU,bw]⟩
 .have hs:s'.hs=[]:=hs;refine zhH _ s' (zik hn (f:=λk=>15-k) List.nodup_range (λj hj=>by omega) λa ha b hb e=>?_) (λx hx=>?_) (by rw[bW,wH,hs];show 0+n2<=10;omega) λs2=>⟨⟨by show zp k=none;unfold zp;rw[if_neg (by omega)],trivial⟩,trivial⟩
  .have:=lt ha;have:=lt hb
   have e:15-a=15-b:=e;omega
  .obtain⟨j,hj,rfl⟩:=YAK.mp hx;exact⟨ho _ (zqW (by omega)),by show _∉s'.hs.map (·.1);rw[hs];simp⟩
def zoB{A:gK}{qj:bN}{M N R:Int}(hM:0<M/\M<=5)(hN:0<N/\N<=4)(hR:0<=R/\R<=40):zc6 A [.box,.int M,.int N,.int R] qj (λv qh=>∃(q:Addr)(m:D)(ns:List Str)(s:Ya),v=.tup [.obj q,m,.lst true (ns.map D.str)]/\lA A qh q m s 60/\ns.length=16/\(∀x∈ns,nameB x=true)/\ns.Nodup) (λ_ _=>False):=by
 refine CT (S:=[.val .box,.val (.int M),.val (.int N),.val (.int R),.un,.un,.un,.un,.un,.un]) (by unfold fH;simp[zkA,jX]) ?_;refine⟨rfl,pI (zmU 16 (by decide) (by decide)) λd hd=>?_⟩;obtain⟨ns,rfl,nl,nok,nd⟩:=hd;unfold gD;intro q hq;refine Du zp3 (λd qh h=>?_) λ_ _ z=>z;obtain⟨rfl,rfl⟩:=h;refine⟨rfl,?_⟩;unfold gD;refine⟨rfl,pI znr λm0 hm0=>?_⟩;unfold gD;show aZ 2 dg (aq (vW 0) (aq (vW 1) ao)) [.val .box,.val (.int M),.val (.int N),.val (.int R),.val (.lst true (ns.map D.str)),.val (.obj q),.val m0,.un,.un,.un] _;refine tk rfl (aA rfl) (by omega) (by omega) λt1 a0 a1=>?_;refine⟨⟨by omega,by omega⟩,by rw[Av];omega,?_⟩;rw[zig];refine Ea (λk:Nat=>D.int (k:Int)) (λk=>D.tup [.str "mark",.str (jC ns k)]) (List.range (1+t1).toNat) (λk hk=>t8 Az (lR (aL aF (aL (ue (aA rfl) (aA rfl) (ztm (by have:=J5.mp hk;omega))) bL)))) ?_;show aZ 2 dg (aq (vW 0) (aq (vW 2) ao)) [.val .box,.val (.int M),.val (.int N),.val (.int R),.val (.lst true (ns.map D.str)),.val (.obj q),.val m0,.val (.lst true ((List.range (1+t1).toNat).map λk=>D.tup [.str "mark",.str (jC ns k)])),.un,.un] _;refine tk rfl (aA rfl) (by omega) (by omega) λt2 b0 b1=>?_;refine⟨⟨by omega,by omega⟩,by rw[Av];omega,?_⟩;rw[zig];refine Ea (λk:Nat=>D.int (k:Int)) (λk=>D.tup [.str "hand",.str (jC ns (15-k))]) (List.range (1+t2).toNat) (λk hk=>t8 Az (lR (aL aF (aL (ue (aA rfl) (Io aF (aA rfl)) (by
  have:=J5.mp hk
  rw[show(15:Int)-(k:Int)=((15-k:Nat):Int)from by omega];exact ztm (by omega))) bL)))) ?_
 refine⟨by rw[bW,bW,wH,wH];omega,?_⟩;show aZ 2 dg (aq (vW 0) (aq (kW (.int 4)) ao)) [.val .box,.val (.int M),.val (.int N),.val (.int R),.val (.lst true (ns.map D.str)),.val (.obj q),.val m0,.own (((List.range (1+t1).toNat).map λk=>D.tup [.str "mark",.str (jC ns k)])++((List.range (1+t2).toNat).map λk=>D.tup [.str "hand",.str (jC ns (15-k))])),.un,.un] _;refine tk rfl aF (by decide) (by decide) λt3 c0 c1=>?_;refine⟨by show 2<=100000;decide,by rw[iU,bW,bW,wH,wH];omega,?_⟩;rw[<-zrW];have hf:=zpK (n1:=(1+t1).toNat) (n2:=(1+t2).toNat) (k:=t3) (by omega) nd nok (by omega) (by omega) c0 (by omega);have hz:(qw ns (1+t1).toNat (1+t2).toNat t3).length<=10:=by
  unfold qw;rw[iU,iU,bW,bW,bW,bW,wH,wH];show _+(_+1)<=10;omega
 generalize qw ns (1+t1).toNat (1+t2).toNat t3=zs at hf hz;show qu (.nm 8) _ _ (zs.map yD) _ [.val .box,.val (.int M),.val (.int N),.val (.int R),.val (.lst true (ns.map D.str)),.val (.obj q),.val m0,.val (.lst true (zs.map yD)),.un,.un];generalize D.lst true (zs.map yD)=L;refine HS (λrest qj S=>∃zr s m n s8,rest=zr.map yD/\S=[.val .box,.val (.int M),.val (.int N),.val (.int R),.val (.lst true (ns.map D.str)),.val (.obj q),.val m,.val L,s8,.un]/\lA A qj q m s n/\n+zr.length<=10/\Fits s zr) ?_ ?_ _ _ _ ⟨zs,nU,m0,0,.un,rfl,rfl,⟨hm0,zrS,by simp[nU],[],[],qW,by simp⟩,by omega,hf⟩
 .rintro x rest qj S E' hn hc hr hb ⟨zr,s,m,n,s8,e,rfl,z,hl,hf⟩;cases zr with
  |nil=>cases e
  |cons d zr=>
   rw[dZ]at e;injection e with e1 e2
   subst e1;obtain⟨⟨f1,f2⟩,f3⟩:=hf;rw[lF]at hl;unfold gD;refine zkn (C:=λ_=>bA (uo (vW 6))) (b8 (dI (ziS (aA rfl))) (by rw[zin z.m];rfl)) ?_;refine lA.step (i:=5) (j:=6) (k:=8) z (by omega) f2 f1 rfl rfl rfl λv qh z'=>?_;unfold gD;exact hn _ _ ⟨zr,jL s d,v,n+1,.val (yD d),e2,rfl,z',by omega,f3⟩
 .rintro qj S ⟨zr,s,m,n,s8,e,rfl,z,hl,hf⟩;show aZ 2 dg (aq (vW 0) (aq (ak aU (vW 3) (kW (.int 1))) ao)) [.val .box,.val (.int M),.val (.int N),.val (.int R),.val (.lst true (ns.map D.str)),.val (.obj q),.val m,.val L,s8,.un] _;refine tk rfl (vB (aA rfl) aF) (by omega) (by omega) λt4 d0 d1=>?_;refine⟨⟨by omega,by omega⟩,?_⟩;refine HS (λrest qj S=>∃s m n s8 s9,S=[.val .box,.val (.int M),.val (.int N),.val (.int R),.val (.lst true (ns.map D.str)),.val (.obj q),.val m,.val L,s8,s9]/\lA A qj q m s n/\n+rest.length<=60) ?_ ?_ _ _ _ ⟨s,m,n,s8,.un,rfl,z,by rw[Av];omega⟩
  .rintro x rest qj S E' hn hc hr hb ⟨s,m,n,s8,s9,rfl,z,hl⟩;rw[lF]at hl;unfold gD;refine zkn (C:=λ_=>bA (uo (vW 6))) (b8 (dI (ziS (aA rfl))) (by rw[zin z.m];rfl)) ?_;refine⟨rfl,pI (zf3 z.m z.ok) λd hd=>?_⟩;unfold gD;rcases hd with rfl|⟨d,rfl,fx,f,_⟩
   .show v9 (λ_=>bA (uo (vW 8))) (j5 (.nm 6) (qP 3 (wB A) (λ_ _=>False) (eQ (eZ λqj=>vW 5) (eQ (eZ λqj=>vW 6) (eQ (eZ λqj=>vW 8) fU))))) nilF E' qj [.val .box,.val (.int M),.val (.int N),.val (.int R),.val (.lst true (ns.map D.str)),.val (.obj q),.val m,.val L,.val (.non),.val x];refine zt1 (C:=λ_=>bA (uo (vW 8))) (b8 (dI (ziS (x:=.non) (aA rfl))) rfl) ?_;exact hn _ _ ⟨s,m,n,.val .non,.val x,rfl,z,by omega⟩
   .show v9 (λ_=>bA (uo (vW 8))) (j5 (.nm 6) (qP 3 (wB A) (λ_ _=>False) (eQ (eZ λqj=>vW 5) (eQ (eZ λqj=>vW 6) (eQ (eZ λqj=>vW 8) fU))))) nilF E' qj [.val .box,.val (.int M),.val (.int N),.val (.int R),.val (.lst true (ns.map D.str)),.val (.obj q),.val m,.val L,.val (yD d),.val x];refine zkn (C:=λ_=>bA (uo (vW 8))) (b8 (dI (ziS (x:=yD d) (aA rfl))) rfl) ?_;refine lA.step (i:=5) (j:=6) (k:=8) z (by omega) fx f rfl rfl rfl λv qh z'=>?_;unfold gD;exact hn _ _ ⟨_,v,n+1,.val (yD d),.val x,rfl,z',by omega⟩
  .rintro qj S ⟨s,m,n,s8,s9,rfl,z,hl⟩;exact⟨by show 3<=100000;decide,q,m,ns,s,rfl,z.le (by omega),by omega,nok,nd⟩
def Cw(I:bN->Env->Prop)(hA:∀E2:qN,(∀qj S,I qj S->E2.nx qj S)->(∀qj d,E.rt qj d->E2.rt qj d)->X E2 qj S)(hB:∀qj S,I qj S->Y E qj S):bQ X Y E qj S:=hA {E with nx:=Y E} hB λqj d z=>z
def KC{V:bN->WE}{B:WF}{E:qN}{qj:bN}{S:Env}{i:Nat}{P:D->Prop}(h:jA (V qj) S P)(q:∀d,P d->B E qj (S.set i (.val d))):bQ (iQ λqj=>aP (.nm i) (V qj)) B E qj S:=h _ λd p=>by unfold gD;exact q d p
def zvZ{C:bN->WT}{U:bN->WS}{B:WF}{E:qN}{qj:bN}{S:Env}(h:dU (C qj) S false)(q:B E qj S):bQ (iQ λqj=>cX (C qj) (U qj) bU) B E qj S:=h _ q
def zpx(z:lA A qj q m s n)(hi:S[i]?=some (.val (.obj q)))(hj:S[j]?=some (.val m)):dU (jH (gJ (Gd qj 2 (Em A) (aq (vW i) (aq (vW j) ao))))) S false:=by
 obtain⟨bs,us,hS,_⟩:=z.ex;exact yo (b:=true) (uw λP p=>(aL (aA hi) (aL (aA hj) bL)) _ ⟨rfl,pI (zoF z.m hS z.ok) λe h=>by subst h;exact p⟩)
def ztN(z:lA A qj q m s n)(hi:S[i]?=some (.val (.obj q)))(hj:S[j]?=some (.val m)):dU (rB (bA (j6 (vW j))) (jH (gJ (Gd qj 2 (Em A) (aq (vW i) (aq (vW j) ao)))))) S false:=b8 (yt (dI (zrh (aA hj))) λ_=>zpx z hi hj) (by rw[zin z.m];rfl)
section
variable{S:Env}{A B:WE}{P T:D->Prop}{R:WL}{ds:List D}{n:Nat}{F:Fn}
def zmb(hR:jh R S ds)(h:F ds P)(hl:ds.length=n:=by rfl):jA (aZ n F R) S P:=λQ q=>hR _ ⟨hl,pI h q⟩
def zrY(hA:jA A S λv=>v=.non\/∃d,v=yD d/\T (yD d))(hB:jA B S T):jA (xW A B) S T:=λQ q=>hA _ (by
 rintro v (rfl|⟨d,rfl,h⟩)
 .exact hB Q q
 .exact q _ h)
def zoq(hA:jA A S P)(h:∀d,P d->T d):jA A S T:=λQ q=>hA Q λd p=>q d (h d p)
def zp8{b:Bool}{ns:List Str}{i:Nat}(hA:Ev A S (.lst b (ns.map D.str)))(hb:S[i]?=some (.val .box)){M:WE}(hM:Ev M S (.int ns.length))(h0:0<ns.length)(h1:ns.length<1000):jA (ak aC A (aZ 2 dg (aq (vW i) (aq M ao)))) S λv=>∃x∈ns,v=.str x:=uC (pW hA) (vG hb hM (by omega) (by omega)) λa c ha hc Q q=>by
 obtain⟨z,rfl,z0,z1⟩:=hc;subst ha;obtain⟨y,hy,e⟩:=zrp z0 z1;show(match gR (ns.map D.str) z with|some d=>Q d|none=>False);rw[e];exact q _ ⟨y,hy,rfl⟩
def ztx(hA:Ev A S (.lst b t))(hL:zA L S l)(hU:zA U S u):Ev (fu A L U) S (.lst true (cutD t l u)):=λP p=>hA _ (hL _ (hU _ p))
end
def zgE{x:D}{i:Int}(h:x.old=.int i):x=.int i:=by
 cases x<;>rw[D.old]at h<;>cases h<;>rfl
def zla{x:D}{ks:List Str}{xs:List D}(h:x.old=.fdc ks xs):∃ys,x=.fdc ks ys/\ys.map D.old=xs:=by
 cases x<;>rw[D.old]at h<;>cases h
 exact⟨_,rfl,rfl⟩
def zn6{m:D}{s:Ya}(h:m.old=aR s):∃n a ys c f,m=.dct n MK [a,.fdc (aY s) ys,c,.int s.en,.int s.al,f]:=by
 cases m with
 |dct n ks xs=>
  rw[D.old]at h;injection h with h1 h2 h3
  subst h2;obtain⟨a,b,c,d,e,f,rfl⟩:=six (xs:=xs) (by rw[<-bW (f:=D.old),h3];rfl);have g:∀i:Nat,([a,b,c,d,e,f].map D.old)[i]?=(gY s)[i]?:=λi=>by rw[h3]
  obtain⟨ys,rfl,_⟩:=zla (Option.some.inj (g 1));have e3:=zgE (Option.some.inj (g 3));have e4:=zgE (Option.some.inj (g 4));subst e3;subst e4;exact⟨n,a,ys,c,f,rfl⟩
 |_=>rw[D.old]at h;cases h
section
variable{S:Env}{s:Ya}{m:D}{i:Nat}
def zu7(h:m.old=aR s)(hi:S[i]?=some (.val m)):Ev (ak cz (vW i) (kW (.str "entered"))) S (.int s.en):=by
 obtain⟨n,a,ys,c,f,rfl⟩:=zn6 h;exact Bf (aA hi) mk4
def zpo(h:m.old=aR s)(ok:dX s)(hi:S[i]?=some (.val m)):Ev (aZ 1 v6 (aq (vW i) ao)) S (.lst true ((fC s.pl).map D.str)):=by
 refine jy (aL (aA hi) bL) ?_
 have:=zev ok
 rw[zrv]at this;unfold v6 eG at this ⊢;rw[show fH 1 [m]=fH 1 [aR s]from by unfold fH;simp[h,zlU ok]];exact this
def zvB{ns:List Str}:cutD (ns.map D.str) none (some 1)=(ns.take 1).map D.str:=by
 cases ns with
 |nil=>rfl
 |cons x xs=>
  have:=zqR (xs:=(x::xs).map D.str) (k:=1) (by simp)
  rw[<-List.map_take]at this;exact this
end
def zqy(ok:dX s):∀x∈fC s.pl,nameB x=true:=λx hx=>ok.p.ok _ (Ey hx)
def zos{pool:List Str}{k:Nat}(h:∀y∈pool,nameB y=true):∀y∈pool.take k,nameB y=true:=λy hy=>h y (List.mem_of_mem_take hy)
abbrev ph(q:Addr)(m:D)(pool:List Str)(x5 x6 x7 x8 x9 x10 x11:Sl):Env:=[.un,.val .box,.val (.obj q),.val m,.val (.lst true (pool.map D.str)),x5,x6,x7,x8,x9,x10,x11]
abbrev DdP(v:D):Prop:=∃d,v=yD d/\jn d
def ztT(h:m.old=aR s)(ok:dX s)(hi:S[i]?=some (.val .box))(hj:S[j]?=some (.val m))(hB:jA B S DdP):jA (xW (aZ 2 Ef (aq (vW i) (aq (vW j) ao))) B) S DdP:=zrY (zoq (zmb (aL (aA hi) (aL (aA hj) bL)) (zf3 h ok)) λv hv=>hv.imp id λ⟨d,e,t,_⟩=>⟨d,e,d,rfl,t⟩) hB
def zsk{C D:WT}{A B:WS}{E:En}{S:Env}{b:Bool}(hC:dU C S b)(hD:b=true->D S λk=>if k=true then A E S else B E S)(hB:b=false->B E S):cX (Bv C D) A B E S:=hC _ (by
 cases b
 .exact hB rfl
 .exact hD rfl)
def zsH(A:gK):xQ 10 (J9 A):=by
 unfold xQ;show J9 A _ _ [.un,.val .box,.un,.un,.un,.un,.un,.un,.un,.un,.un,.un];unfold J9;refine Cw (λqj S=>∃q m s pool,pool.length=16/\(∀y∈pool,nameB y=true)/\lA A qj q m s 60/\S=ph q m pool .un .un .un .un .un .un .un) (λE2 h2 _=>?_) ?_
 .have er:jA (ak aC (aN (bh (aq (kW (.int 6)) (aq (kW (.int 38)) ao)))) (aZ 2 dg (aq (vW 1) (aq (kW (.int 2)) ao)))) [.un,.val .box,.un,.un,.un,.un,.un,.un,.un,.un,.un,.un] (λv=>∃r:Int,v=.int r/\0<=r/\r<=40):=uC (pW (fV (kj (aL aF (aL aF bL))))) (vG (b:=1) rfl aF (by decide) (by decide)) λa b ha hb Q qq=>by
   obtain⟨w,rfl,w0,w1⟩:=hb;subst ha;refine zky (b:=true) (hs:=[6,38]) w0 w1 λv hv=>qq _ ⟨v,rfl,?_,?_⟩<;>(simp only[ir,lB,rK]at hv;omega)
  refine er _ ?_;rintro v ⟨r,rfl,r0,r1⟩;refine⟨rfl,Du (zoB (M:=5) (N:=4) (by decide) (by decide) ⟨r0,r1⟩) (λd qh h=>?_) λ_ _ z=>z⟩;obtain⟨q,m,ns,s,rfl,z,nl,nok,nd⟩:=h;unfold gD;refine⟨rfl,?_⟩;unfold f9 gD f9 gD f9 gD f9;exact h2 _ _ ⟨q,m,s,ns,nl,nok,z,rfl⟩
 rintro qj S ⟨q,m,s,pool,pl16,pok,z,rfl⟩;refine zvZ (C:=λqj=>bA (j6 (vW 3))) (b8 (dI (zrh (aA rfl))) (zin z.m)) ?_;refine Cw (λqj S=>True) (λE2 h2 hrt=>?_) ?_
 .have er:jA (ak aU (kW (.int 5)) (aZ 2 dg (aq (vW 1) (aq (kW (.int 10)) ao)))) (ph q m pool .un .un .un .un .un .un .un) (λd=>∃n:Nat,d=.int n/\n<=40):=uC (pW aF) (vG (b:=1) rfl aF (by decide) (by decide)) λa b ha hb Q qq=>by
   obtain⟨w,rfl,w0,w1⟩:=hb;subst ha;obtain⟨j,rfl⟩:=YAZ w0;exact qq _ ⟨5+j,by simp,by omega⟩
  refine er _ ?_;rintro d ⟨n,rfl,hn40⟩;refine⟨⟨by omega,by omega⟩,?_⟩;refine HS (λrest qj S=>∃s m n x5 x6 x7 x8 x9 x10 x11,S=ph q m pool x5 x6 x7 x8 x9 x10 x11/\lA A qj q m s n/\n+rest.length<=200) ?_ ?_ _ _ _ ⟨s,m,60,.un,.un,.un,.un,.un,.un,.un,rfl,z,by rw[Av];omega⟩
  .rintro x rest qj S E' hnx _ hrt' _ ⟨s,m,n,x5,x6,x7,x8,x9,x10,x11,rfl,z,hln⟩;rw[lF]at hln;unfold gD;have ok:=z.ok;have lm:(fC s.pl).length<=12:=iu (zqK _) ok.p.ln;refine KC (V:=λ_=>aZ 2 dg (aq (vW 1) (aq (kW (.int 6)) ao))) (vG (b:=1) rfl aF (by decide) (by decide)) ?_;rintro _ ⟨way,rfl,_,_⟩;refine KC (V:=λ_=>aZ 2 dg (aq (vW 1) (aq (ak aU (ak cz (vW 3) (kW (.str "entered"))) (kW (.int 2))) ao))) (vG (b:=1) rfl (vB (zu7 z.m rfl) aF) (by have:=ok.e0;omega) (by have:=ok.el;have:=ok.dl;omega)) ?_;rintro _ ⟨num,rfl,_,_⟩;refine KC (V:=λ_=>ak aU (aZ 1 v6 (aq (vW 3) ao)) (fu (vW 4) my (mD (kW (.int 1))))) (P:=λv=>v=.lst true ((fC s.pl++pool.take 1).map D.str)) (pW (pQ (rJ (zpo z.m ok rfl) (pQ (ztx (aA rfl) yj (wU aF)) (by rw[zvB])) (by rw[bW,bW,DQ];omega)) (by rw[lL]))) ?_;rintro _ rfl;have mok:∀y∈fC s.pl++pool.take 1,Tx y:=λy hy=>Tx.name ((YAG.mp hy).elim (zqy ok y) (zos pok y));have ml:(fC s.pl++pool.take 1).length=(fC s.pl).length+1:=by rw[iU,DQ];omega
   generalize fC s.pl++pool.take 1=ms at mok ml;have pk:∀{x5 x6 x7 x9 x10 x11:Sl},jA (ak aC (vW 8) (aZ 2 dg (aq (vW 1) (aq (cbW fY (aq (vW 8) ao)) ao)))) (ph q m pool x5 x6 x7 (.val (.lst true (ms.map D.str))) x9 x10 x11) (λv=>∃x∈ms,v=.str x):=zp8 (aA rfl) rfl (pQ (ug (aA rfl)) (by rw[bW])) (by omega) (by omega);refine KC (V:=λ_=>ak aC (vW 8) (aZ 2 dg (aq (vW 1) (aq (cbW fY (aq (vW 8) ao)) ao)))) pk ?_;rintro _ ⟨one,ho,rfl⟩;obtain⟨p15,hp15⟩:∃p,pool[15]?=some p:=⟨pool[15],jr (by omega)⟩;have t9:∀{S:Env},S[1]?=some (.val .box)->jA (ak ik (aZ 2 dg (aq (vW 1) (aq (kW (.int 9)) ao))) (kW (.int 4))) S (λv=>∃r:Int,v=.int r):=λh=>uC (vG h aF (by decide) (by decide)) (pW aF) λa b ha hb Q qq=>by
    obtain⟨w,rfl,_,_⟩:=ha;subst hb;exact qq _ ⟨_,rfl⟩
   refine KC (V:=λ_=>bK (aq (kW (.str "run")) (aq (vW 9) (aq (ak aC (vW 8) (aZ 2 dg (aq (vW 1) (aq (cbW fY (aq (vW 8) ao)) ao)))) (aq (ak ik (aZ 2 dg (aq (vW 1) (aq (kW (.int 9)) ao))) (kW (.int 4))) (aq (ak aC (vW 4) (kW (.int 15))) ao)))))) (P:=DdP) (λQ qq=>?_) ?_
   .refine pk (x5:=.val x) (x6:=.val (.int way)) (x7:=.val (.int num)) (x9:=.val (.str one)) (x10:=x10) (x11:=x11) _ ?_;rintro _ ⟨two,ht,rfl⟩;refine t9 rfl _ ?_;rintro _ ⟨r,rfl⟩;refine zq6 (k:=15) (aA rfl) aF hp15 _ ?_;exact⟨by show 5<=100000;decide,qq _ ⟨.run one two r p15,rfl,mok _ ho,mok _ ht,Tx.name (pok _ (YBW hp15))⟩⟩
   rintro _ ⟨d,rfl,hd⟩;show bQ _ _ E' qj (ph q m pool (.val x) (.val (.int way)) (.val (.int num)) (.val (.lst true (ms.map D.str))) (.val (.str one)) (.val (yD d)) x11);generalize hx8:Sl.val (.lst true (ms.map D.str))=y8;refine Cw (λqh S=>qh=qj/\∃d,jn d/\S=ph q m pool (.val x) (.val (.int way)) (.val (.int num)) y8 (.val (.str one)) (.val (yD d)) x11) (λE2 h2 _=>?_) ?_
   .have fin:∀d',jn d'->E2.nx qj ((ph q m pool (.val x) (.val (.int way)) (.val (.int num)) y8 (.val (.str one)) (.val (yD d)) x11).set 10 (.val (yD d'))):=λd' h'=>h2 _ _ ⟨rfl,d',h',rfl⟩;have w6:∀{k:Int},Ev (ak cD (vW 6) (kW (.int k))) (ph q m pool (.val x) (.val (.int way)) (.val (.int num)) y8 (.val (.str one)) (.val (yD d)) x11) (.bl (decide (way=k))):=qI (aA rfl) aF;cases c1:decide (way<3)with
    |true=>
     refine Dh (b8 (dI (zqa (aA rfl) aF)) c1) (zU (ztT (B:=vW 10) z.m ok rfl rfl (zoq (pW (aA rfl)) λv hv=>⟨d,hv,hd⟩)) ?_);rintro _ ⟨d',rfl,h'⟩;exact fin d' h'
    |false=>
     refine Bq (b8 (dI (zqa (aA rfl) aF)) c1) ?_;cases c2:decide (way=3)with
     |true=>
      refine Dh (b8 (dI w6) c2) (zU (P:=λv=>v=yD (.strike num)) (pW (lR (ds:=[.str "strike",.int num]) (aL aF (aL (aA rfl) bL)))) ?_);rintro _ rfl;exact fin _ trivial
     |false=>
      refine Bq (b8 (dI w6) c2) ?_;cases c3:decide (way=4)with
      |true=>
       refine Dh (b8 (dI w6) c3) (zU (P:=DdP) (λQ qq=>?_) ?_)
       .refine t9 (S:=ph q m pool (.val x) (.val (.int way)) (.val (.int num)) y8 (.val (.str one)) (.val (yD d)) x11) rfl _ ?_;rintro _ ⟨r,rfl⟩;exact⟨by show 3<=100000;decide,qq _ ⟨.mend num r,rfl,trivial⟩⟩
       .rintro _ ⟨d',rfl,h'⟩;exact fin d' h'
      |false=>exact Bq (b8 (dI w6) c3) (h2 _ _ ⟨rfl,d,hd,rfl⟩)
   rintro qh S ⟨rfl,d,hd,rfl⟩;refine Cw (λqk S=>qk=qh/\∃d,jn d/\S=ph q m pool (.val x) (.val (.int way)) (.val (.int num)) y8 (.val (.str one)) (.val (yD d)) x11) (λE2 h2 _=>?_) ?_
   .have go:∀b:Bool,(if b=true then aP (.nm 10) (bK (aq (kW (.str "settle")) (aq (vW 9) ao))) (atS E2 qh) (ph q m pool (.val x) (.val (.int way)) (.val (.int num)) y8 (.val (.str one)) (.val (yD d)) x11)else bU (atS E2 qh) (ph q m pool (.val x) (.val (.int way)) (.val (.int num)) y8 (.val (.str one)) (.val (yD d)) x11)):=λb=>by
     cases b
     .exact h2 _ _ ⟨rfl,d,hd,rfl⟩
     .refine zU (P:=λv=>v=yD (.settle one)) (pW (lR (ds:=[.str "settle",.str one]) (aL aF (aL (aA (S:=ph q m pool (.val x) (.val (.int way)) (.val (.int num)) y8 (.val (.str one)) (.val (yD d)) x11) (i:=9) rfl) bL)))) ?_;rintro _ rfl;exact h2 _ _ ⟨rfl,.settle one,mok _ ho,rfl⟩
    refine zsk (dI (qI (s:=way) (t:=5) (aA rfl) aF)) (λ_=>?_) λ_=>go false;refine tk (b:=1) (S:=ph q m pool (.val x) (.val (.int way)) (.val (.int num)) y8 (.val (.str one)) (.val (yD d)) x11) rfl aF (by decide) (by decide) λw _ _=>?_;exact aF _ (zq3 (go _))
   rintro qk S ⟨rfl,d,hd,rfl⟩;refine Cw (λqi S=>qi=qk/\∃d x11,jn d/\S=ph q m pool (.val x) (.val (.int way)) (.val (.int num)) y8 (.val (.str one)) (.val (yD d)) x11) (λE2 h2 _=>?_) ?_
   .have er:jA (ak aC (aN (bh (aq (kW (.int 0)) (aq (kW (.int 1)) (aq (kW (.int 2)) (aq (kW (.int 0)) ao)))))) (aZ 2 dg (aq (vW 1) (aq (kW (.int 4)) ao)))) (ph q m pool (.val x) (.val (.int way)) (.val (.int num)) y8 (.val (.str one)) (.val (yD d)) x11) (λv=>∃r:Int,v=.int r/\0<=r/\r<=2):=uC (pW (fV (kj (aL aF (aL aF (aL aF (aL aF bL))))))) (vG (b:=1) rfl aF (by decide) (by decide)) λa b ha hb Q qq=>by
     obtain⟨w,rfl,w0,w1⟩:=hb;subst ha;refine zky (b:=true) (hs:=[0,1,2,0]) w0 w1 λv hv=>qq _ ⟨v,rfl,?_,?_⟩<;>(simp only[ir,lB,rK]at hv;omega)
    refine er _ ?_;rintro _ ⟨r,rfl,r0,r1⟩;refine⟨⟨by omega,by omega⟩,?_⟩;refine Jc (λrest S=>∃d x11,jn d/\S=ph q m pool (.val x) (.val (.int way)) (.val (.int num)) y8 (.val (.str one)) (.val (yD d)) x11) ?_ ?_ _ _ ⟨d,x11,hd,rfl⟩
    .rintro k rest S E3 hn3 _ _ _ ⟨d,x11,hd,rfl⟩;unfold gD;refine zU (zmb (aL (aA rfl) (aL (aA rfl) (aL (aA rfl) (aL (aA rfl) bL)))) (zqt ok hd z.m pl16 pok)) ?_;rintro _ ⟨d',rfl,h'⟩;exact hn3 _ ⟨d',.val k,h',rfl⟩
    .rintro S ⟨d,x11,hd,rfl⟩;exact h2 _ _ ⟨rfl,d,x11,hd,rfl⟩
   rintro qi S ⟨rfl,d,x11,hd,rfl⟩;refine Cw (λqj S=>∃s' m',lA A qj q m' s' (n+1)/\S=ph q m' pool (.val x) (.val (.int way)) (.val (.int num)) y8 (.val (.str one)) (.val (yD d)) x11) (λE2 h2 _=>?_) ?_
   .refine z.judged (by omega) hd rfl rfl rfl λv qh s' z'=>?_;unfold gD;exact h2 _ _ ⟨s',v,z',rfl⟩
   rintro S4 S ⟨s',m',z',rfl⟩;refine Bq (ztN z' rfl rfl) ?_;exact hnx _ _ ⟨s',m',n+1,_,_,_,_,_,_,_,rfl,z',by omega⟩
  .intro qj S _;exact h2 _ _ trivial
 .intro qj S _;rfl
end Fd
namespace Fen
open PySem L2
def top(i:Nat):Stmt:=PySem.Challenge.pw_fenlevel_k26_runs_entered_struck_and_men.main.body.getD i (.Pass ⟨0,0,0,0⟩)
abbrev zrT:Stmt:=top 0
abbrev Jb:Stmt:=top 24
abbrev Gr:Stmt:=top 25
abbrev Jo:Stmt:=top 27
abbrev Ii:Stmt:=top 28
abbrev Hi:Stmt:=top 29
abbrev Ju:Stmt:=top 30
abbrev Hw:Stmt:=top 37
abbrev Gn:Stmt:=top 38
abbrev J0:Stmt:=top 39
abbrev Jw:Stmt:=top 40
abbrev Ig:Stmt:=top 41
abbrev Fp:Stmt:=top 42
abbrev Gm:Stmt:=top 43
abbrev Ia:Stmt:=top 44
abbrev Jj:Stmt:=top 45
abbrev Hy:Stmt:=top 46
abbrev G6:Stmt:=top 47
abbrev JH:Stmt:=top 48
abbrev zdO:Stmt:=top 49
abbrev zeL:Stmt:=top 50
abbrev Kf:Stmt:=top 51
abbrev JT:Stmt:=top 53
abbrev Ht:Stmt:=top 55
abbrev tY:Stmt:=top 58
abbrev Af:Stmt:=top 59
abbrev Ji:Stmt:=top 60
abbrev GZ:Stmt:=top 61
abbrev Kw:Stmt:=top 62
abbrev Gy:Stmt:=top 63
abbrev Fq:Stmt:=top 64
abbrev Kp:Stmt:=top 65
abbrev Jd:Stmt:=top 66
abbrev Iz:Stmt:=top 67
abbrev Gf:Stmt:=top 68
abbrev J7:Stmt:=top 69
abbrev Im:Stmt:=top 70
abbrev uU:Stmt:=top 71
abbrev Gs:Stmt:=top 72
abbrev Jk:Stmt:=top 73
abbrev JB:Stmt:=top 74
abbrev HW:Stmt:=top 75
abbrev HF:Stmt:=top 76
abbrev GK:Stmt:=top 77
abbrev HJ:Stmt:=top 78
abbrev Gx:Stmt:=top 79
abbrev Hn:Stmt:=top 80
abbrev KN:Stmt:=top 81
abbrev Hj:Stmt:=top 82
abbrev Kq:Stmt:=top 83
abbrev tL:Stmt:=top 84
def iG:Stmt->Nat->Stmt
 |.ClassDef _ _ _ b _ _ _ _ _ _ _,j=>b.getD j (.Pass ⟨0,0,0,0⟩)
 |_,_=>.Pass ⟨0,0,0,0⟩
abbrev zct:Stmt:=iG (top 20) 0
abbrev Kl:Stmt:=iG (top 56) 0
abbrev Hl:Stmt:=iG (top 56) 1
abbrev zhg:Stmt:=iG (top 56) 2
abbrev zgI:Stmt:=iG (top 56) 3
abbrev zia:Stmt:=iG (top 56) 4
abbrev zeS:Stmt:=iG (top 56) 5
abbrev zgO:Stmt:=iG (top 56) 6
abbrev zeT:Stmt:=iG (top 56) 7
abbrev zfK:Stmt:=iG (top 56) 8
abbrev zg8:Stmt:=iG (top 56) 9
abbrev zfL:Stmt:=iG (top 56) 10
abbrev FQ:Stmt:=iG (top 56) 11
abbrev zgV:Stmt:=iG (top 56) 12
abbrev zfz:Stmt:=iG (top 56) 13
abbrev Fo:Stmt:=iG (top 56) 14
abbrev zgR:Stmt:=iG (top 56) 15
abbrev Kz:Stmt:=iG (top 56) 16
abbrev Fl:Stmt:=iG (top 56) 17
abbrev Ip:Stmt:=iG (top 56) 18
abbrev Hf:Stmt:=iG (top 56) 19
abbrev Jf:Stmt:=iG (top 56) 20
abbrev Kr:Stmt:=iG (top 56) 21
abbrev JX:Stmt:=iG (top 56) 22
abbrev zeO:Stmt:=iG (top 56) 23
abbrev zfw:Stmt:=iG (top 56) 24
abbrev zdQ:Stmt:=iG (top 56) 25
abbrev zgY:Stmt:=iG (top 56) 26
abbrev zcE:Stmt:=iG (top 56) 27
abbrev zfN:Stmt:=iG (top 56) 28
abbrev zeV:Stmt:=iG (top 56) 29
abbrev zd9:Stmt:=iG (top 56) 30
abbrev zih:Stmt:=iG (top 56) 31
section
variable{P:Program}{w:PySem.World}{K:qo}{mg:Str->Option Value}{base:Heap}
def zvK:cZ ["_law_script"] ["_law_script"] (gC tY):=⟨rfl,rfl,rfl,by decide +kernel,rfl,by decide +kernel,by decide +kernel⟩
def ztt{f:Addr}{fd:FuncData}(F:bZ K "_law_box" "_law_box" tY f fd)(T:Txt K mg):aM P w K mg base cR 1 f fd ["_law_script"] (zsh K):=by
 refine F.ok zvK (λvs H Q E h=>?_) (λcdv A outer s H vs Q E hr h=>?_)
 .obtain⟨a,ns,rfl,_⟩:=h;rfl
 .obtain⟨a,ns,rfl,hS,hl,k⟩:=h;refine⟨_,zJ (zE (zrt (iM (yH zea rfl T.list Gz (iM (zl0 qT (pv 0) zoZ (zo0 ju)) km)) (iM ju (iM ju (iM ju km)))))),?_⟩;refine⟨_,rfl,_,rfl,a,_,rfl,hS,λp hp=>?_⟩;rw[zvF hl];refine⟨p,_,rfl,.inl (cA.of cH),λc hc=>⟨by show 4<=sizeLine;decide,λb hb=>?_⟩⟩;have hcp:c≠p:=λz=>by rw[z,cH]at hc;cases hc
  have hbc:b≠c:=λz=>by rw[z,cH]at hb;cases hb
  have hb1:upd H p (.lst (ns.map V.int)) b=none:=by rw[au hbc]at hb;exact hb
  have hbp:b≠p:=λz=>by rw[z,cH]at hb1;cases hb1
  have hc0:H c=none:=by rw[au hcp]at hc;exact hc
  have hb0:H b=none:=by rw[au hbp]at hb1;exact hb1
  refine k b c _ hb0 ⟨⟨0,0,17,cH,by decide,by decide,by decide,by decide⟩,by rw[au hbc.symm,cH],hl⟩ λx o e=>?_;rw[au (lO e hb0),au (lO e hc0),au (lO e hp)];exact e
def jJ:cZ ["_law_box_here","_law_many","_law_rest","_law_cell","_law_seed"] ["_law_box_here","_law_many"] (gC Af):=⟨rfl,rfl,rfl,by decide +kernel,rfl,by decide +kernel,by decide +kernel⟩
def zkD{f:Addr}{fd:FuncData}(F:bZ K "_law_take" "_law_take" Af f fd)(T:Txt K mg):aM P w K mg base cR 1 f fd ["_law_box_here","_law_many"] ztC:=by
 refine F.ok jJ (λvs H Q E h=>?_) (λcdv A outer s H vs Q E hr h=>?_)
 .obtain⟨b,c,ns,m,rfl,_⟩:=h;rfl
 .obtain⟨b,c,ns,m,rfl,B,m0,m1,k⟩:=h;refine⟨_,nQ (Dq (zh7 ztg (vL dH (pv 0) ju (λ_ _=>rfl)) ju (wD _))
    (nQ (uA (i:=2) jJ.nd rfl (Or.inl rfl) (vL dH (pv 0) ju (λ_ _=>rfl)))
    (nQ (DY (pD zml (pv 2) (pv 1)) (zlQ (pv 0) ju G8))
    (zJ (zE (pD Dr (pv 2) (pv 1)))))) IW)
   (nQ (uA (i:=3) jJ.nd rfl (Or.inl rfl) ju)
   (nQ (Dq (zh7 zu4 (vL dH (pv 0) ju (λ_ _=>rfl)) (JN jl rfl T.len YDe (iM (vL dH (pv 0) ju (λ_ _=>rfl)) km)) (wD _))
    (nQ (uA (i:=3) jJ.nd rfl (Or.inl rfl) (vL dH (vL dH (pv 0) ju (λ_ _=>rfl)) (vL dH (pv 0) ju (λ_ _=>rfl)) (λ_ _=>rfl)))
    (zJ (zss (pv 0) ju zqg ju ztF G8))) IW)
   (nQ (Dq (zh7 zub (pv 3) (pD zoj ju ju) (wD _))
    (nQ (DY (pD zml (pv 3) (pv 1)) (zlQ (pv 0) ju G8))
    (zJ (zE (pD Dr (pv 3) (pv 1))))) IW)
   (nQ (uA (i:=4) jJ.nd rfl (Or.inl rfl) (vL dH (pv 0) ju (λ_ _=>rfl)))
   (nQ (uA (i:=4) jJ.nd rfl (Or.inl rfl) (pD mU (pD mU (pD zoj (pv 4) ju) (pD mK ju (pv 4))) (pD mK ju (pD Dr (pv 3) ju))))
   (nQ (DY (pD Dr (pD mU (pv 4) ju) ju) (zlQ (pv 0) ju G8))
   (zJ (zE (pD Dr (pD zr7 (vL dH (pv 0) ju (λ_ _=>rfl)) ju) (pv 1)))))))))),?_⟩
  obtain⟨p,r,d,e,hp0,hr0,hd0,hd1⟩:=B.ex;refine⟨_,rfl,b,_,_,.int r,rfl,rfl,cA.of e,rfl,_,_,rfl,rfl,_,rfl,?_⟩;refine wZ (λh0=>?_) (λh0=>?_)
  .refine⟨_,rfl,b,_,_,.int r,rfl,rfl,cA.of e,rfl,?_⟩;refine⟨_,rfl,_,rfl,_,_,rfl,rfl,⟨m0,m1⟩,_,rfl,b,_,_,2,rfl,rfl,e,rfl,?_⟩;refine⟨_,rfl,_,rfl,_,_,rfl,rfl,m0,?_⟩;exact k _ _ (wI _ (by omega)) (wL _ m0) (B.put hp0 (YDb hr0 (by omega)) hd0 hd1) nY.upd
  refine⟨_,rfl,b,_,_,.int p,rfl,rfl,cA.of e,rfl,_,rfl,b,_,_,.ref c,rfl,rfl,cA.of e,rfl,c,_,rfl,.inl (cA.of B.cells),_,_,rfl,rfl,_,rfl,?_⟩;refine wZ (λh1=>?_) (λh1=>?_)
  .have hlt:=YAD h1;rw[bW]at hlt;obtain⟨z,hz⟩:∃z,ns[p.toNat]?=some z:=⟨_,jr (by omega)⟩;have hat:gR (ns.map V.int) p=some (.int z):=by
    have q:=gF (xs:=ns.map V.int) (j:=p.toNat) (v:=.int z) (by rw[jG,hz];rfl)
    rwa[Int.toNat_of_nonneg hp0]at q
   refine⟨_,rfl,b,_,_,.ref c,rfl,rfl,cA.of e,rfl,_,rfl,b,_,_,.int p,rfl,rfl,cA.of e,rfl,c,_,_,.int z,rfl,rfl,cA.of B.cells,hat,?_⟩;refine⟨_,rfl,b,_,1,.int p,rfl,rfl,cA.of e,rfl,_,_,rfl,rfl,b,_,_,1,rfl,rfl,e,rfl,?_⟩;have e1:upd H b (vz c (p+1) r d) b=some (vz c (p+1) r d):=cH;have hp1:0<=p+1:=by omega
   have B1:=B.put hp1 hr0 hd0 hd1;have X1:nY b H (upd H b (vz c (p+1) r d)):=nY.upd;refine⟨_,rfl,_,_,rfl,rfl,⟨by decide,by decide,by decide⟩,_,_,rfl,rfl,_,rfl,?_⟩;refine wZ (λh2=>?_) (λh2=>?_)
   .refine⟨_,rfl,_,rfl,_,_,rfl,rfl,⟨m0,m1⟩,_,rfl,b,_,_,2,rfl,rfl,e1,rfl,_,rfl,_,rfl,_,_,rfl,rfl,m0,?_⟩;have hz0:(0:Int)<=z:=by
     have:=YAD h2
     exact Int.le_trans (by decide) this
    exact k _ _ (wI _ (by omega)) (wL _ m0) (B1.put hp1 (YDb hz0 (by omega)) hd0 hd1) (X1.trans nY.upd)
   .refine⟨_,rfl,b,_,_,.int d,rfl,rfl,cA.of e1,rfl,?_⟩;refine⟨_,rfl,_,_,rfl,rfl,⟨by decide,by decide,by omega⟩,_,rfl,_,_,rfl,rfl,.inl ⟨by decide,by decide⟩,_,_,rfl,rfl,_,rfl,_,_,rfl,rfl,(by show(0:Int)<2147483629;decide),_,_,rfl,rfl,.inl ⟨by decide,by decide⟩,_,_,rfl,rfl,?_⟩;refine⟨_,rfl,_,_,rfl,rfl,_,_,rfl,rfl,(by show(0:Int)<2147483629;decide),_,rfl,b,_,_,3,rfl,rfl,e1,rfl,?_⟩;refine⟨_,rfl,b,_,_,_,rfl,rfl,cA.of cH,rfl,_,_,rfl,rfl,⟨by decide,by decide⟩,_,rfl,_,_,rfl,rfl,m0,?_⟩;exact k _ _ (wI _ (by omega)) (wL _ m0) (B1.put hp1 hr0 (wI _ (by decide)) (wL _ (by decide))) (X1.trans nY.upd)
  .have e1:=e;have hp1:=hp0;have B1:=B;have X1:nY b H H:=nY.refl _ _;refine⟨_,rfl,_,_,rfl,rfl,⟨by decide,by decide,by decide⟩,_,_,rfl,rfl,_,rfl,?_⟩;refine wZ (λh2=>?_) (λh2=>?_)
   .refine⟨_,rfl,_,rfl,_,_,rfl,rfl,⟨m0,m1⟩,_,rfl,b,_,_,2,rfl,rfl,e1,rfl,_,rfl,_,rfl,_,_,rfl,rfl,m0,?_⟩;have hz0:(0:Int)<=0:=Int.le_refl _;exact k _ _ (wI _ (by omega)) (wL _ m0) (B1.put hp1 (YDb hz0 (by omega)) hd0 hd1) (X1.trans nY.upd)
   .refine⟨_,rfl,b,_,_,.int d,rfl,rfl,cA.of e1,rfl,?_⟩;refine⟨_,rfl,_,_,rfl,rfl,⟨by decide,by decide,by omega⟩,_,rfl,_,_,rfl,rfl,.inl ⟨by decide,by decide⟩,_,_,rfl,rfl,_,rfl,_,_,rfl,rfl,(by show(0:Int)<2147483629;decide),_,_,rfl,rfl,.inl ⟨by decide,by decide⟩,_,_,rfl,rfl,?_⟩;refine⟨_,rfl,_,_,rfl,rfl,_,_,rfl,rfl,(by show(0:Int)<2147483629;decide),_,rfl,b,_,_,3,rfl,rfl,e1,rfl,?_⟩;refine⟨_,rfl,b,_,_,_,rfl,rfl,cA.of cH,rfl,_,_,rfl,rfl,⟨by decide,by decide⟩,_,rfl,_,_,rfl,rfl,m0,?_⟩;exact k _ _ (wI _ (by omega)) (wL _ m0) (B1.put hp1 hr0 (wI _ (by decide)) (wL _ (by decide))) (X1.trans nY.upd)
end
end Fen
namespace Fd
open PySem L2
section
variable{P:Program}{w:World}{K:qo}{mg:Str->Option Value}{base:Heap}
theorem zkD{f:Addr}{fd:FuncData}(F:bZ K "_law_take" "_law_take" Fen.Af f fd)(T:Bt mg):aM P w K mg base cR 1 f fd ["_law_box_here","_law_many"] (dh K 2 dg):=by
 refine(Fen.zkD F ⟨T.list,T.len,T.range⟩).imp λvs H Q E ⟨β,G,ds,gh,bx,hv,hl,P',q,hP⟩=>?_;unfold dg at q;split at q
 .rename_i m
  obtain⟨v1,v2,rfl,e1,e2⟩:=zvx hv;cases e1;cases e2;obtain⟨cc,p,r,d,ns,hb,p0,r0,d0,d1,hc,hn⟩:=bx.ex;refine⟨β,cc,ns,m,rfl,⟨⟨p,r,d,hb,p0,r0,d0,d1⟩,gh _ _ hc,hn⟩,q.1.1,q.1.2,λx H' x0 x1 B X=>?_⟩;refine hP _ (q.2 x x0 x1) _ H' G ⟨Same.refl _,λa o e=>?_,λa o n e=>X a o n e,λa e=>.inl e,⟨?_,bx.still⟩,λz=>by(rw[hb]at z;cases z),λcc2 p2 r2 d2 h2=>by
   rw[hb]at h2;cases h2;obtain⟨p',r',d',e',_⟩:=B.ex;exact⟨p',r',d',e'⟩⟩ rfl
  .have na:a≠β:=λz=>by rw[z,bx.still]at e;cases e
   exact X a o na (gh a o e)
  .obtain⟨p',r',d',e',q'⟩:=B.ex;exact⟨cc,p',r',d',ns,e',q'.1,q'.2.1,q'.2.2.1,q'.2.2.2,hc,hn⟩
 .exact q.elim
def Ir(K:qo):Sp:=λvs H Q _=>∃(a:Addr)(ns:List Int),vs=[.ref a]/\cA K H a (ns.map V.int)/\ns.length<=63/\∀H',Q (.bl true) H'
def zsT{f:Addr}{fd:FuncData}{st:Stmt}{rest:List Stmt}{N:List Str}{n k:Nat}{B:WF}{p1 p2 p3 p4 p5:Pos}(F:bZ K "law" "law" st f fd)
  (hbd:nW st=.Assign [.Name "_law_box_here" p1] (.Call (.Name "_law_box" p2) [.Name "_law_script" p3] [] p4) p5::rest)
  (cB:fG P w K mg base "_law_box" 1 ["_law_script"] (Fen.zsh K))
  (hB:∀{cdv:Value}{A:Around}{outer:List PySem.Env}{s:Shared}{H:Hp}{E:XK}{β:Addr}{H1 G1:Hp},(("_law_script"::"_law_box_here"::N:List Str)).Nodup->bD k (A.deeper (PyProof.Rows.envOfC "law" (gC st) s.heap.objs.size f cdv)) ->
   pq (di cR P w K mg base ("_law_script"::"_law_box_here"::N) "law" (gC st) f cdv A outer s H E).nox ⟨K,β,H1,G1,λ_=>none⟩ rest B)
  (h:xQ n B) (hN:N.length=n:=by rfl) (qj:cZ ("_law_script"::"_law_box_here"::N) ["_law_script"] (gC st):=by exact⟨rfl,rfl,rfl,by decide +kernel,rfl,by decide +kernel,by decide +kernel⟩)
  (hgl:(gC st).names.lookup ("_law_box":Str)=some .globalImplicit:=by decide +kernel) (hs0:(gC st).names.lookup ("_law_script":Str)=some .local:=by decide +kernel) (hs1:(gC st).names.lookup ("_law_box_here":Str)=some .local\/(gC st).names.lookup ("_law_box_here":Str)=some .cell:=by decide +kernel) (hk:1<=k:=by decide):aM P w K mg base cR (k+1) f fd ["_law_script"] (Ir K):=by
 refine F.ok qj (λvs H Q E ⟨a,ns,e,_⟩=>by rw[e];rfl) (λcdv A outer s H vs Q E hr ⟨a,ns,e,hS,hl,q⟩=>?_);subst e;have hrest:lJ (di cR P w K mg base ("_law_script"::"_law_box_here"::N) "law" (gC st) f cdv A outer s H E).nox rest (λD Z H'=>∃ β H1 G1,tOS ⟨K,β,H1,G1,λ_=>none⟩ B D Z H'):=λaa s' Z H' D I ⟨β,H1,G1,z⟩=>(@hB cdv A outer s H E β H1 G1 qj.nd hr).pss aa s' Z H' D I z;rw[hbd];obtain⟨fB,fdB,FB,mB,kB,bB⟩:=cB.ex;refine⟨_,nQ (uA (i:=1) qj.nd rfl hs1 (yG FB (hr.mono hk) hgl mB kB bB .nil Ah (iM (lU (i:=0) rfl (.inl hs0)) km)) rfl (.inl rfl)) hrest,?_⟩;refine⟨.ref a,rfl,a,ns,rfl,hS,hl,λb cc H1 hb Bx Sm=>?_⟩;obtain⟨p,r,d,e,p0,r0,d0,d1⟩:=Bx.ex;have hcc:=Bx.cells;have nb:b≠cc:=Bx.ne
 let G1:Hp:=λx=>if x=cc then some (.lst (ns.map V.int))else none
 have gcc:G1 cc=some (.lst (ns.map V.int)):=by show(if cc=cc then _ else _)=_;rw[if_pos rfl]
 have gb:G1 b=none:=by show(if b=cc then _ else _)=_;rw[if_neg nb]
 have gh:Same G1 H1:=λx o ex=>by
  have ex':(if x=cc then some (HO.lst (ns.map V.int))else none)=some o:=ex;split at ex'
  .rename_i z;rw[z,hcc];exact ex'
  .cases ex'
 have bx:d7 b H1 G1:=⟨⟨cc,p,r,d,ns,e,p0,r0,d0,d1,gcc,Bx.few⟩,gb⟩;have kn:∃ad,Kn K b G1 (λ_=>none) (λ_=>none) ad:=⟨λ_=>[],λp o z=>(by cases z),λp o i a x z=>(by cases z),λp q i j a z=>absurd rfl z,λa o z=>(by cases z),λa z=>absurd rfl z⟩;have ou:Out ⟨K,b,H1,G1,λ_=>none⟩ (λ_=>none) G1:=⟨λa z=>absurd rfl z,Same.refl _,λa z=>.inl z,gh,Dm.refl _⟩;refine⟨b,H1,G1,.un::.val .box::List.replicate n .un,G1,λ_=>none,λ_=>none,⟨G1,ou,⟨?_,aX.refl gh bx,λi sl ei=>?_,λi j x xs ys ei=>?_,kn⟩⟩,(@hB cdv A outer s H E b H1 G1 qj.nd hr).mono {nx:=λ_ _=>False,rt:=λ_ d=>d=.bl true,bk:=λ_ _=>False,ct:=λ_ _=>False} _ _ _ ⟨λ_ S z=>z.elim,λ_ d z v H' G' M' G2 _ _ t _ ev=>?_,λ_ S z=>z.elim,λ_ S z=>z.elim⟩ h⟩
 .simp[L2.nC,hN]
 .match i with
  |0=>cases ei;trivial
  |1=>cases ei;exact⟨.ref b,rfl,rfl⟩
  |i+2=>
   rw[YAA,YAA,JD]at ei;split at ei<;>cases ei
   trivial
 .match i with
  |0=>cases ei
  |1=>cases ei
  |i+2=>
   rw[YAA,YAA,JD]at ei;split at ei<;>cases ei
 .subst z;cases ev;exact q H'
end
end Fd
namespace Fd
open PySem L2 Fen
section
variable{P:Program}{w:World}{K:qo}{mg:Str->Option Value}{base:Heap}
local macro_rules|`(tactic| decreasing_trivial)=>`(tactic| first|exact Nk.mk rfl (by first|exact Or.inl rfl|exact Or.inr (Or.inl rfl)|exact Or.inr (Or.inr rfl)) (by decide) (by decide)|assumption|exact Bt.len ‹_›|exact Bd.dict ‹_›|exact Bd.abs ‹_›|exact ztu ‹_›|exact Bt.range ‹_›|exact Bt.list ‹_›|exact Bt.isinstance ‹_›|exact Bt.all ‹_›|exact Bt.tuple ‹_›|exact Bt.sorted ‹_›|exact Bt.set ‹_›|exact Bt.zip ‹_›|exact Bt.enumerate ‹_›|exact Bt.any ‹_›|exact Bt.min ‹_›|exact Bt.max ‹_›|exact Bt.int ‹_›|exact Bt.bool ‹_›|exact Bt.str ‹_›|exact bD.mono ‹_› (by first|decide|omega)|exact bD.units ‹_›|exact Gz|exact PyProof.Rows.boot_tuple|exact PyProof.Rows.boot_int|exact PyProof.Rows.boot_bool|exact PyProof.Rows.boot_str|decide|exact vN (by kernel_rfl))
structure Xa where
 (aBadName aTaken aFull aNoMark aNoHand aSame aBadRise aNoRun aBadNumber:Addr)
structure Xh(K:qo)(mg:Str->Option Value)(a:Xa):Prop where
 m_BadName:mg "BadName"=some (.ref a.aBadName)
 m_Taken:mg "Taken"=some (.ref a.aTaken)
 m_Full:mg "Full"=some (.ref a.aFull)
 m_NoMark:mg "NoMark"=some (.ref a.aNoMark)
 m_NoHand:mg "NoHand"=some (.ref a.aNoHand)
 m_Same:mg "Same"=some (.ref a.aSame)
 m_BadRise:mg "BadRise"=some (.ref a.aBadRise)
 m_NoRun:mg "NoRun"=some (.ref a.aNoRun)
 m_BadNumber:mg "BadNumber"=some (.ref a.aBadNumber)
 o_BadName:PySem.W.excIn K a.aBadName vh "ValueError.__new__"=true
 o_Taken:PySem.W.excIn K a.aTaken vh "ValueError.__new__"=true
 o_Full:PySem.W.excIn K a.aFull vh "ValueError.__new__"=true
 o_NoMark:PySem.W.excIn K a.aNoMark vh "ValueError.__new__"=true
 o_NoHand:PySem.W.excIn K a.aNoHand vh "ValueError.__new__"=true
 o_Same:PySem.W.excIn K a.aSame vh "ValueError.__new__"=true
 o_BadRise:PySem.W.excIn K a.aBadRise vh "ValueError.__new__"=true
 o_NoRun:PySem.W.excIn K a.aNoRun vh "ValueError.__new__"=true
 o_BadNumber:PySem.W.excIn K a.aBadNumber vh "ValueError.__new__"=true
structure Fc(K:qo)(mg:Str->Option Value)(A:gK):Prop where
 cls:nP K A.fen
 n_kept:dF K A.fen "kept"
 n_books:dF K A.fen "books"
 n_undone:dF K A.fen "undone"
 m_Fen:mg "Fen"=some (.ref A.fen)
theorem zfX(F:bZ K "_law_same" "_law_same" Ji f fd)(hm:mg "_law_same"=some (.ref f))(hb:Binds K fd ["_law_found","_law_due_here"] [])(T:Bt mg) :∀n,aM P w K mg base cR (1+n) f fd ["_law_found","_law_due_here"] (dh K 2 (xf n))
 |0=>⟨λvs H Q E ⟨β,G,ds,_,_,_,h,_⟩=>h,λA outer s H args us vs Q E _ _ _ _ ⟨β,G,ds,_,_,_,_,P,z,_⟩=>z.elim⟩
 |n+1=>by
  have cSelf:fG P w K mg base "_law_same" (1+n) ["_law_found","_law_due_here"] (dh K 2 (xf n)):=fG.of F (zfX F hm hb T n) hm hb;exact j8 (N:=["_law_found","_law_due_here"]) (k:=1+n) F λ_ _=>
   (bO (bM (DW.dt (w_or (uc (t7 (dv 1))) (wQ (uc (t7 (dv 1)))))) (bO (bM (DW.dt (w_or (tH (t7 (dv 0)) (t7 (dv 1))) (wQ (tH (t7 (dv 0)) (t7 (dv 1)))))) (bG (cj Ka)) fW)
  (bG (cj (Dk (j0 (kh (aB (dv 0) aK)) (kh (aB (dv 1) aK))) (Bb (zsz (aB (DF.de (nR (Nc:=["_law_one","_law_other"]) (.tp 2 (.cons (.nm 0) (.cons (.nm 1) .nil))) (zui (dv 0) (dv 1)) (pX (n:=2) rfl (gj (gn 0) (gj (gn 1) pO))) qR (cI cSelf (aB (dv 0) (aB (dv 1) aK))))) aK))))))) fW)
  (bO (bM (DW.dt (w_or (zp0 (dv 0)) (wQ (zp0 (dv 1))))) (bG (cj (Dk (zt9 (dv 0)) (Bb (zt9 (dv 1)))))) fW)
  (bO (bM (DW.dt (w_or (tH (t7 (dv 0)) (t7 (dv 1))) (wQ (tH (t7 (dv 0)) (t7 (dv 1)))))) (bG (cj Ka)) fW)
  (bG (cj (Dk (j0 (t7 (dv 0)) (t7 (dv 1))) (Bb (j0 (dv 0) (dv 1)))))))))
variable{f:Addr}{fd:FuncData}
variable(A:gK)(T:Bt mg)(T2:Bd mg)(fc:Fc K mg A)(xk:sW K mg "FenError" NTx ur)(xv:mg "ValueError"=none)(gA:rm P w K mg "ACTIONS" (zH A))(tb:gU P w K mg base 4 2 (jY A)){fI:Addr}{fdI:FuncData}(mkI:Mk K A.fen fI)(okI:aM P w K mg base (dj P w) 2 fI fdI ["self"] (kZ K mg 1 (zcc A)))(bI:Binds K fdI ["self"] []){t_HIGHEST_RISE:Tok}{t_LETTERS:Tok}{t_LONGEST_NAME:Tok}{t_MOST_FALSE:Tok}{t_MOST_HANDS:Tok}{t_MOST_RUNS:Tok}{t_MOST_STANDS:Tok}(g_HIGHEST_RISE:mg "HIGHEST_RISE"=some (.int 1000000000 t_HIGHEST_RISE))(g_LETTERS:mg "LETTERS"=some (.str "abcdefghijklmnopqrstuvwxyz" t_LETTERS))(g_LONGEST_NAME:mg "LONGEST_NAME"=some (.int 8 t_LONGEST_NAME))(g_MOST_FALSE:mg "MOST_FALSE"=some (.int 3 t_MOST_FALSE))(g_MOST_HANDS:mg "MOST_HANDS"=some (.int 10 t_MOST_HANDS))(g_MOST_RUNS:mg "MOST_RUNS"=some (.int 40 t_MOST_RUNS))(g_MOST_STANDS:mg "MOST_STANDS"=some (.int 12 t_MOST_STANDS)){xa:Xa}(xh:Xh K mg xa)(og:fG P w K mg base "_law_take" 1 ["_law_box_here","_law_many"] (dh K 2 dg))(oP:fG P w K mg base "_law_names" 2 ["_law_box_here","_law_many"] (dh K 2 Km))(oQ:fG P w K mg base "empty_book" 1 [] (dh K 0 CQ))(oR:fG P w K mg base "_law_model" 1 [] (dh K 0 zc3))(oi:fG P w K mg base "_law_turns" 1 ["_law_model_here","_law_name"] (dh K 2 tO))(om:fG P w K mg base "_law_place" 2 ["_law_model_here","_law_name"] (dh K 2 uQ))(o6:fG P w K mg base "_law_done" 3 ["_law_model_here","_law_deed"] (dh K 2 Gg))(o7:fG P w K mg base "_law_same" (1+6) ["_law_found","_law_due_here"] (dh K 2 (xf 6)))(oh:fG P w K mg base "with_entry" 1 ["book","word","value"] (dh K 3 rF))(oy:fG P w K mg base "turns_of" 1 ["stands","name"] (dh K 2 Bj))(oS:fG P w K mg base "next_stand" 2 ["stands","name"] (dh K 2 zc7))(oo:gZ P w K mg base "with_new_stand" 3 ["book","name"] (dC K mg 2 GR))(oU:fG P w K mg base "is_made_of" 1 ["text","signs","longest"] (dh K 3 Hr))(oM:fG P w K mg base "is_name" 2 ["text"] (dh K 1 BJ))(ow:gZ P w K mg base "last_stand" 2 ["stands","name"] (dC K mg 2 CG))(o8:gZ P w K mg base "need_hand" 1 ["book","name"] (dC K mg 2 zdc))(oC:gZ P w K mg base "need_rise" 1 ["rise"] (dC K mg 1 J3))(oF:gZ P w K mg base "need_run" 1 ["book","number"] (dC K mg 2 Hu))(oN:gZ P w K mg base "book_behind" 5 ["book","row"] (dC K mg 2 (Ij A)))(m_now:Met P w K mg base cR A.fen "now" 1 ["self"] (jo K 1 (qU A)))(m_deed:Met P w K mg base (dj P w) A.fen "deed" 6 ["self","row"] (kZ K mg 2 (zR A)))(oG:fG P w K mg base "_law_due_told" 1 ["_law_model_here","_law_deed"] (dh K 2 HB))(oz:gZ P w K mg base "_law_step" 8 ["_law_fen","_law_model_here","_law_deed"] (kZ K mg 3 (wB A)))(oj:fG P w K mg base "_law_marks" 1 ["_law_model_here"] (dh K 1 v6))(oH:fG P w K mg base "_law_truth" 1 ["_law_place_here"] (dh K 1 Gp))(oq:fG P w K mg base "_law_run_deed" 3 ["_law_box_here","_law_model_here"] (dh K 2 Ef))(oV:gZ P w K mg base "_law_begun" 9 ["_law_box_here","_law_most_marks","_law_most_hands","_law_most_runs"] (kZ K mg 4 (zc6 A)))(oI:fG P w K mg base "_law_run_word" 2 ["_law_model_here","_law_deed"] (dh K 2 zbX))(oW:fG P w K mg base "_law_named" 1 ["_law_word_here"] (dh K 1 HX))(oJ:fG P w K mg base "_law_new_word" 2 ["_law_model_here","_law_deed"] (dh K 2 Kg))(o9:fG P w K mg base "_law_word" 3 ["_law_model_here","_law_deed"] (dh K 2 Fe))(oX:uI P w K mg base 1 "_law_kinds" ur zdd)(oY:gZ P w K mg base "_law_tried" 7 ["_law_fen","_law_deed"] (kZ K mg 2 (Ko A)))(oO:gZ P w K mg base "_law_judged" 9 ["_law_fen","_law_model_here","_law_deed"] (kZ K mg 3 (GC A)))(oE:fG P w K mg base "_law_bent_deed" 2 ["_law_box_here","_law_model_here","_law_pool","_law_deed"] (dh K 4 zbL))(qd:fG P w K mg base "marks_of" 1 ["stands"] (dh K 1 zey))(m_marks:Met P w K mg base cR A.fen "marks" 2 ["self"] (jo K 1 (zdE A)))(m_hands:Met P w K mg base cR A.fen "hands" 2 ["self"] (jo K 1 (zdR A)))(m_asides:Met P w K mg base cR A.fen "asides" 2 ["self"] (jo K 1 (zda A)))(m_stands:Met P w K mg base cR A.fen "stands" 2 ["self"] (jo K 1 (zc5 A)))(m_allowed:Met P w K mg base cR A.fen "allowed" 2 ["self"] (jo K 1 (zcD A)))(m_runs:Met P w K mg base cR A.fen "runs" 2 ["self"] (jo K 1 (zeA A)))(oA:fG P w K mg base "rows_that_count" 1 ["book"] (dh K 1 zbt))(m_counting:Met P w K mg base cR A.fen "counting" 2 ["self"] (jo K 1 (zcd A)))(m_deeds:Met P w K mg base cR A.fen "deeds" 1 ["self"] (jo K 1 (zdM A)))(qc:fG P w K mg base "_law_seen" 3 ["_law_fen"] (jo K 1 (zdT A)))(oK:fG P w K mg base "_law_counted" 1 ["_law_model_here"] (dh K 1 zce))(qe:fG P w K mg base "_law_due" 2 ["_law_model_here"] (dh K 1 zex))(oZ:fG P w K mg base "_law_right" 8 ["_law_fen","_law_model_here"] (jo K 2 (Em A)))
noncomputable def zh3(F:bZ K "_law_names" "_law_names" GZ f fd):aM P w K mg base cR 2 f fd ["_law_box_here","_law_many"] (dh K 2 Km):=
 j8 (N:=["_law_box_here","_law_many","_law_letters","_law_size","_law_place_here","_law_like","_law_first","_law_rows","_law_k","_law_row"]) F λ_ _=>
 (bO (dW 2 aV)
  (bO (dW 3 (d9 aQ (cI og (aB (dv 0) (aB aQ aK)))))
  (bO (dW 4 (cI og (aB (dv 0) (aB (dv 3) aK))))
  (bO (dW 5 (j0 (cI og (aB (dv 0) (aB aQ aK))) aQ))
  (bO (zmg 6 (Nc:=["_law_k","_law_box_here"]) (.nm 0) (yU (dv 3)) (gn 0) qR (cI og (aB (dv 1) (aB aQ aK))))
  (bO (zpr 7 (gf aK))
  (bO (zsr (.nm 8) (yU (dv 1)) (gn 8) (bO (zpr 9 (zlh (dv 6)))
  (bO (bM (yS (uc (dv 5))) (bG (zrq 9 (Nc:=["_law_step_here","_law_box_here"]) (.nm 0) (yU (d9 (d9 (dv 4) aQ) (cI og (aB (dv 0) (aB (xM (dv 3) (dv 4)) aK))))) (gn 0) qR (cI og (aB (dv 1) (aB aQ aK))))) fW)
  (bO (zv2 9 (zrF (d9 (b7 (dv 6) (dv 4)) (zsx aQ (dv 8))) aQ) (dv 4))
  (bG (zpR 9 (zsA 7 (ztS aV (DF.de (nR (Nc:=["_law_one","_law_letters"]) (.nm 0) (mj (dv 9)) (gn 0) qR (b7 (dv 1) (dv 0))))))))))))
  (bG (zpR 7 (cj (dv 7)))))))))))
def zh6(F:bZ K "empty_book" "empty_book" Hw f fd):aM P w K mg base cR 1 f fd [] (dh K 0 CQ):=
 j8 (N:=[]) F λ_ _=>
 (bG (cj (zqT (uf (jc aK) (uf (jc aK) (uf (jc aK) (uf (jc aK) (uf aQ (uf aQ zrg)))))))))
noncomputable def zgz(F:bZ K "__init__" "Fen.__init__" Kl f fd):aM P w K mg base (dj P w) 2 f fd ["self"] (kZ K mg 1 (zcc A)):=
 Cr (N:=["self"]) F λY hY _ _=>
 (gW (zh1 0 (λqj M G1=>(gf aK)) fc.cls fc.n_kept)
  (gW (zh1 0 (λqj M G1=>(gf (aB (zoY oQ) aK))) fc.cls fc.n_books)
  (pL (zh1 0 (λqj M G1=>(gf aK)) fc.cls fc.n_undone))))
def zir(F:bZ K "_law_model" "_law_model" Kw f fd):aM P w K mg base cR 1 f fd [] (dh K 0 zc3):=
 j8 (N:=[]) F λ_ _=>
 (bG (cj (zqT (uf (DF.de (gf aK)) (uf zsJ (uf (DF.de (gf aK)) (uf aQ (uf aQ (uf (DF.de (gf aK)) zrg)))))))))
noncomputable def zid(F:bZ K "_law_turns" "_law_turns" Gy f fd):aM P w K mg base cR 1 f fd ["_law_model_here","_law_name"] (dh K 2 tO):=
 j8 (N:=["_law_model_here","_law_name"]) F λ_ _=>
 (bG (cj (kh (aB (DF.de (nR (Nc:=["_law_place_here","_law_name"]) (.nm 0) (mj (dD (dv 0) aV)) (gn 0) (vm (du (b7 (dv 0) aQ) (dv 1))) (dv 0))) aK))))
def ziJ(F:bZ K "_law_place" "_law_place" Fq f fd):aM P w K mg base cR 2 f fd ["_law_model_here","_law_name"] (dh K 2 uQ):=
 j8 (N:=["_law_model_here","_law_name"]) F λ_ _=>
 (bG (cj (zuP (dD (dv 0) aV) (jc (aB (dv 1) (aB (cI oi (aB (dv 0) (aB (dv 1) aK))) aK))))))
noncomputable def zjp(F:bZ K "_law_done" "_law_done" Iz f fd):aM P w K mg base cR 3 f fd ["_law_model_here","_law_deed"] (dh K 2 Gg):=
 j8 (N:=["_law_model_here","_law_deed","_law_word_here","_law_heeded","_law_row","_law_rows"]) F λ_ _=>
 (bO (zvJ 0 (dv 0))
  (bO (zX 0 (d9 (pY 0 aV) (DF.de (gf (aB (dv 1) aK)))) aV)
  (bO (dW 2 (b7 (dv 1) aQ))
  (bO (bM (DW.dt (w_or (du (dv 2) aV) (wQ (du (dv 2) aV)))) (bG (zX 0 (d9 (pY 0 aV) (DF.de (gf (aB (jc (aB (b7 (dv 1) aQ) (aB (d9 (zoX 0 oi (aB (b7 (dv 1) aQ) aK)) aQ) aK))) aK)))) aV)) (bG (bM (IV (dv 2) (jc (aB aV (aB aV (aB aV aK))))) (zws 3 (pY 0 aV) (d_ne (dv 2) aV) (b7 (dv 1) aQ)
  (bG (zX 0 (dv 3) aV))) (bG (bM (du (dv 2) aV) (bO (ztU 0 aV aQ)
  (bO (dW 4 (d9 (jc (aB (pY 0 aV) (aB (zoX 0 om (aB (b7 (dv 1) aQ) aK)) (aB (zoX 0 om (aB (b7 (dv 1) aQ) aK)) aK)))) (wC (dv 1) (vR aQ) wj)))
  (bG (zX 0 (d9 (pY 0 aV) (DF.de (gf (aB (dv 4) aK)))) aV)))) (bG (bM (du (dv 2) aV) (bG (zX 0 (DF.de (nR (Nc:=["_law_row","_law_deed"]) (.nm 0) (mj (pY 0 aV)) (gn 0) (vm (tH (b7 (dv 0) aQ) (b7 (dv 1) aQ))) (dv 0))) aV)) (bG (bM (du (dv 2) aV) (bO (zpr 5 (gf aK))
  (bO (zsr (.nm 4) (mj (pY 0 aV)) (gn 4) (bG (zsA 5 (b7 (DF.de (gf (aB (dv 4) (aB (d9 (wC (dv 4) wj (vR aQ)) (jc (aB (b7 (dv 1) aQ) (aB (b7 (dv 4) aQ) aK)))) aK)))) (v5 (aB (j0 (b7 (dv 4) aQ) (b7 (dv 1) aQ)) aK))))))
  (bG (zpR 5 (zX 0 (dv 5) aV))))) (bG (zX 0 (b7 (dv 1) aQ) aV)))))))))))
  (bG (zve 0))))))
noncomputable def ziT(F:bZ K "with_entry" "with_entry" Gn f fd):aM P w K mg base cR 1 f fd ["book","word","value"] (dh K 3 rF):=
 j8 (N:=["book","word","value","fresh"]) F λ_ _=>
 (zut 0 1 2 3 (x:="fresh") (nb:="book") (nw:="word") (nv:="value") (hb:=(lU (i:=0) (x:="book") rfl (.inl rfl))) (hw:=(lU (i:=1) (x:="word") rfl (.inl rfl))) (hv:=(lU (i:=2) (x:="value") rfl (.inl rfl))))
noncomputable def zk6(F:bZ K "turns_of" "turns_of" Ii f fd):aM P w K mg base cR 1 f fd ["stands","name"] (dh K 2 Bj):=
 j8 (N:=["stands","name"]) F λ_ _=>
 (bG (cj (kh (aB (DF.de (nR (Nc:=["each","turn","name"]) (.tp 2 (.cons (.nm 0) (.cons (.nm 1) .nil))) (mj (dv 0)) (pX (n:=2) rfl (gj (gn 0) (gj (gn 1) pO))) (vm (du (dv 0) (dv 2))) (dv 1))) aK))))
def ziE(F:bZ K "next_stand" "next_stand" Hi f fd):aM P w K mg base cR 2 f fd ["stands","name"] (dh K 2 zc7):=
 j8 (N:=["stands","name"]) F λ_ _=>
 (bG (cj (jc (aB (dv 1) (aB (d9 (cI oy (aB (dv 0) (aB (dv 1) aK))) aQ) aK)))))
noncomputable def zfI(F:bZ K "with_new_stand" "with_new_stand" J0 f fd):aM P w K mg base (dj P w) 3 f fd ["book","name"] (dC K mg 2 GR):=
 tM (N:=["book","name","stands"]) F λY hY _ _=>
 (bO (DS.nox (dW 2 (dD (dv 0) aV)))
  (bO (bM (DT.nox (xZ (kh (aB (dv 2) aK)) (Cv g_MOST_STANDS))) (bG (tV (aB aV aK) (λ_ _ _ _ _ _ _ _ I t m y=>sZ I m (hY _ _ _ _ y xh.m_Full t)) xh.o_Full xh.m_Full)) fW)
  (bG (DS.nox (cj (cI oh (aB (dv 0) (aB aV (aB (d9 (dv 2) (jc (aB (cI oS (aB (dv 2) (aB (dv 1) aK))) aK))) aK)))))))))
noncomputable def ziM(F:bZ K "is_made_of" "is_made_of" Jb f fd):aM P w K mg base cR 1 f fd ["text","signs","longest"] (dh K 3 Hr):=
 j8 (N:=["text","signs","longest"]) F λ_ _=>
 (bG (cj (Dk (zl9 aQ (kh (aB (dv 0) aK)) (dv 2)) (Bb (zsz (aB (DF.de (nR (Nc:=["sign","signs"]) (.nm 0) (mj (dv 0)) (gn 0) qR (ztq (dv 0) (dv 1)))) aK))))))
def zmV(F:bZ K "is_name" "is_name" Gr f fd):aM P w K mg base cR 2 f fd ["text"] (dh K 1 BJ):=
 j8 (N:=["text"]) F λ_ _=>
 (bG (cj (cI oU (aB (dv 0) (aB (ztz g_LETTERS) (aB (Cv g_LONGEST_NAME) aK))))))
noncomputable def zgs(F:bZ K "mark_entered" "mark_entered" Gm f fd):aM P w K mg base (dj P w) 4 f fd ["book","row"] (dC K mg 2 zcV):=
 tM (N:=["book","row","word","name"]) F λY hY _ _=>
 (bO (DS.nox (uW (.tp 2 (.cons (.nm 2) (.cons (.nm 3) .nil))) (dv 1) (pX (n:=2) rfl (gj (gn 2) (gj (gn 3) pO)))))
  (bO (bM (DT.nox (yS (uc (cI oM (aB (dv 3) aK))))) (bG (tV (aB aV aK) (λ_ _ _ _ _ _ _ _ I t m y=>sZ I m (hY _ _ _ _ y xh.m_BadName t)) xh.o_BadName xh.m_BadName)) fW)
  (bO (bM (DT.nox (xn (cI oy (aB (dD (dv 0) aV) (aB (dv 3) aK))) aQ)) (bG (tV (aB aV aK) (λ_ _ _ _ _ _ _ _ I t m y=>sZ I m (hY _ _ _ _ y xh.m_Taken t)) xh.o_Taken xh.m_Taken)) fW)
  (bG (cj (v7 oo (DA.nox (aB (dv 0) (aB (dv 3) aK))) (uO hY)))))))
noncomputable def zhc(F:bZ K "hand_entered" "hand_entered" Ia f fd):aM P w K mg base (dj P w) 3 f fd ["book","row"] (dC K mg 2 zcJ):=
 tM (N:=["book","row","word","name","hands"]) F λY hY _ _=>
 (bO (DS.nox (uW (.tp 2 (.cons (.nm 2) (.cons (.nm 3) .nil))) (dv 1) (pX (n:=2) rfl (gj (gn 2) (gj (gn 3) pO)))))
  (bO (DS.nox (dW 4 (dD (dv 0) aV)))
  (bO (bM (DT.nox (yS (uc (cI oM (aB (dv 3) aK))))) (bG (tV (aB aV aK) (λ_ _ _ _ _ _ _ _ I t m y=>sZ I m (hY _ _ _ _ y xh.m_BadName t)) xh.o_BadName xh.m_BadName)) fW)
  (bO (bM (DT.nox (IV (dv 3) (dv 4))) (bG (tV (aB aV aK) (λ_ _ _ _ _ _ _ _ I t m y=>sZ I m (hY _ _ _ _ y xh.m_Taken t)) xh.o_Taken xh.m_Taken)) fW)
  (bO (bM (DT.nox (xZ (kh (aB (dv 4) aK)) (Cv g_MOST_HANDS))) (bG (tV (aB aV aK) (λ_ _ _ _ _ _ _ _ I t m y=>sZ I m (hY _ _ _ _ y xh.m_Full t)) xh.o_Full xh.m_Full)) fW)
  (bG (DS.nox (cj (cI oh (aB (dv 0) (aB aV (aB (d9 (dv 4) (jc (aB (dv 3) aK))) aK))))))))))))
noncomputable def zhZ(F:bZ K "last_stand" "last_stand" Ju f fd):aM P w K mg base (dj P w) 2 f fd ["stands","name"] (dC K mg 2 CG):=
 tM (N:=["stands","name","turns"]) F λY hY _ _=>
 (bO (DS.nox (dW 2 (cI oy (aB (dv 0) (aB (dv 1) aK)))))
  (bO (bM (DT.nox (du (dv 2) aQ)) (bG (tV (aB aV aK) (λ_ _ _ _ _ _ _ _ I t m y=>sZ I m (hY _ _ _ _ y xh.m_NoMark t)) xh.o_NoMark xh.m_NoMark)) fW)
  (bG (DS.nox (cj (jc (aB (dv 1) (aB (dv 2) aK))))))))
noncomputable def zjK(F:bZ K "need_hand" "need_hand" Jw f fd):aM P w K mg base (dj P w) 1 f fd ["book","name"] (dC K mg 2 zdc):=
 tM (N:=["book","name"]) F λY hY _ _=>
 (bG (bM (DT.nox (ziI (dv 1) (dD (dv 0) aV))) (bG (tV (aB aV aK) (λ_ _ _ _ _ _ _ _ I t m y=>sZ I m (hY _ _ _ _ y xh.m_NoHand t)) xh.o_NoHand xh.m_NoHand)) fW))
noncomputable def zjb(F:bZ K "need_rise" "need_rise" Ig f fd):aM P w K mg base (dj P w) 1 f fd ["rise"] (dC K mg 1 J3):=
 tM (N:=["rise"]) F λY hY _ _=>
 (bG (bM (DT.nox (xn (zwc (aB (dv 0) aK)) (Cv g_HIGHEST_RISE))) (bG (tV (aB aV aK) (λ_ _ _ _ _ _ _ _ I t m y=>sZ I m (hY _ _ _ _ y xh.m_BadRise t)) xh.o_BadRise xh.m_BadRise)) fW))
noncomputable def zhr(F:bZ K "run_entered" "run_entered" Jj f fd):aM P w K mg base (dj P w) 3 f fd ["book","row"] (dC K mg 2 zdk):=
 tM (N:=["book","row","word","one","other","rise","hand","start","start_turn","end","end_turn","number","run"]) F λY hY _ _=>
 (bO (DS.nox (uW (.tp 5 (.cons (.nm 2) (.cons (.nm 3) (.cons (.nm 4) (.cons (.nm 5) (.cons (.nm 6) .nil)))))) (dv 1) (pX (n:=5) rfl (gj (gn 2) (gj (gn 3) (gj (gn 4) (gj (gn 5) (gj (gn 6) pO))))))))
  (bO (uW (.tp 2 (.cons (.nm 7) (.cons (.nm 8) .nil))) (v7 ow (DA.nox (aB (dD (dv 0) aV) (aB (dv 3) aK))) (uO hY)) (pX (n:=2) rfl (gj (gn 7) (gj (gn 8) pO))))
  (bO (uW (.tp 2 (.cons (.nm 9) (.cons (.nm 10) .nil))) (v7 ow (DA.nox (aB (dD (dv 0) aV) (aB (dv 4) aK))) (uO hY)) (pX (n:=2) rfl (gj (gn 9) (gj (gn 10) pO))))
  (bO (bM (DT.nox (du (dv 3) (dv 4))) (bG (tV (aB aV aK) (λ_ _ _ _ _ _ _ _ I t m y=>sZ I m (hY _ _ _ _ y xh.m_Same t)) xh.o_Same xh.m_Same)) fW)
  (bO (Gk (v7 o8 (DA.nox (aB (dv 0) (aB (dv 6) aK))) (uO hY)))
  (bO (Gk (v7 oC (DA.nox (aB (dv 5) aK)) (uO hY)))
  (bO (bM (DT.nox (xZ (kh (aB (dD (dv 0) aV) aK)) (Cv g_MOST_RUNS))) (bG (tV (aB aV aK) (λ_ _ _ _ _ _ _ _ I t m y=>sZ I m (hY _ _ _ _ y xh.m_Full t)) xh.o_Full xh.m_Full)) fW)
  (bO (DS.nox (dW 11 (d9 (dD (dv 0) aV) aQ)))
  (bO (DS.nox (dW 12 (jc (aB (dv 11) (aB (dv 7) (aB (dv 8) (aB (dv 9) (aB (dv 10) (aB (dv 5) (aB (dv 6) aK))))))))))
  (bG (DS.nox (cj (cI oh (aB (cI oh (aB (dv 0) (aB aV (aB (dv 11) aK)))) (aB aV (aB (d9 (dD (dv 0) aV) (jc (aB (dv 12) aK))) aK))))))))))))))))
noncomputable def zkN(F:bZ K "need_run" "need_run" Fp f fd):aM P w K mg base (dj P w) 1 f fd ["book","number"] (dC K mg 2 Hu):=
 tM (N:=["book","number"]) F λY hY _ _=>
 (bG (bM (DT.nox (ziI (dv 1) (DF.de (nR (Nc:=["run"]) (.nm 0) (mj (dD (dv 0) aV)) (gn 0) qR (b7 (dv 0) aQ))))) (bG (tV (aB aV aK) (λ_ _ _ _ _ _ _ _ I t m y=>sZ I m (hY _ _ _ _ y xh.m_NoRun t)) xh.o_NoRun xh.m_NoRun)) fW))
noncomputable def zh2(F:bZ K "run_struck" "run_struck" Hy f fd):aM P w K mg base (dj P w) 2 f fd ["book","row"] (dC K mg 2 zdF):=
 tM (N:=["book","row","word","number"]) F λY hY _ _=>
 (bO (DS.nox (uW (.tp 2 (.cons (.nm 2) (.cons (.nm 3) .nil))) (dv 1) (pX (n:=2) rfl (gj (gn 2) (gj (gn 3) pO)))))
  (bO (Gk (v7 oF (DA.nox (aB (dv 0) (aB (dv 3) aK))) (uO hY)))
  (bG (DS.nox (cj (cI oh (aB (dv 0) (aB aV (aB (znn (aB (DF.de (nR (Nc:=["run","number"]) (.nm 0) (mj (dD (dv 0) aV)) (gn 0) (vm (tH (b7 (dv 0) aQ) (dv 1))) (dv 0))) aK)) aK)))))))))
noncomputable def ziB(F:bZ K "run_mended" "run_mended" G6 f fd):aM P w K mg base (dj P w) 2 f fd ["book","row"] (dC K mg 2 zdK):=
 tM (N:=["book","row","word","number","rise","mended"]) F λY hY _ _=>
 (bO (DS.nox (uW (.tp 3 (.cons (.nm 2) (.cons (.nm 3) (.cons (.nm 4) .nil)))) (dv 1) (pX (n:=3) rfl (gj (gn 2) (gj (gn 3) (gj (gn 4) pO))))))
  (bO (Gk (v7 oF (DA.nox (aB (dv 0) (aB (dv 3) aK))) (uO hY)))
  (bO (Gk (v7 oC (DA.nox (aB (dv 4) aK)) (uO hY)))
  (bO (DS.nox (zmg 5 (Nc:=["run","number","rise"]) (.nm 0) (mj (dD (dv 0) aV)) (gn 0) qR (d_if (du (b7 (dv 0) aQ) (dv 1)) (d9 (wC (dv 0) wj (vR aQ)) (jc (aB (dv 2) (aB (b7 (dv 0) aQ) aK)))) (dv 0))))
  (bG (DS.nox (cj (cI oh (aB (dv 0) (aB aV (aB (znn (aB (dv 5) aK)) aK)))))))))))
noncomputable def zgN(F:bZ K "mark_settled" "mark_settled" JH f fd):aM P w K mg base (dj P w) 4 f fd ["book","row"] (dC K mg 2 zcM):=
 tM (N:=["book","row","word","name","settling","turn"]) F λY hY _ _=>
 (bO (DS.nox (uW (.tp 2 (.cons (.nm 2) (.cons (.nm 3) .nil))) (dv 1) (pX (n:=2) rfl (gj (gn 2) (gj (gn 3) pO)))))
  (bO (uW (.tp 2 (.cons (.nm 4) (.cons (.nm 5) .nil))) (v7 ow (DA.nox (aB (dD (dv 0) aV) (aB (dv 3) aK))) (uO hY)) (pX (n:=2) rfl (gj (gn 4) (gj (gn 5) pO))))
  (bG (cj (v7 oo (DA.nox (aB (dv 0) (aB (dv 4) aK))) (uO hY))))))
noncomputable def zfT(F:bZ K "number_allowed" "number_allowed" Kf f fd):aM P w K mg base (dj P w) 2 f fd ["book","row"] (dC K mg 2 zbu):=
 tM (N:=["book","row","word","many"]) F λY hY _ _=>
 (bO (DS.nox (uW (.tp 2 (.cons (.nm 2) (.cons (.nm 3) .nil))) (dv 1) (pX (n:=2) rfl (gj (gn 2) (gj (gn 3) pO)))))
  (bO (bM (DT.nox (DW.dt (w_or (Bg (dv 3) aQ) (wQ (xn (dv 3) (Cv g_MOST_FALSE)))))) (bG (tV (aB aV aK) (λ_ _ _ _ _ _ _ _ I t m y=>sZ I m (hY _ _ _ _ y xh.m_BadNumber t)) xh.o_BadNumber xh.m_BadNumber)) fW)
  (bG (DS.nox (cj (cI oh (aB (dv 0) (aB aV (aB (dv 3) aK)))))))))
noncomputable def zhn(F:bZ K "book_behind" "book_behind" JT f fd):aM P w K mg base (dj P w) 5 f fd ["book","row"] (dC K mg 2 (Ij A)):=
 tM (N:=["book","row","action"]) F λY hY _ _=>
 (bO (DS.nox (dW 2 (zwv gA (b7 (dv 1) aQ))))
  (bG (cj (zse (tb.at ‹_›) (DA.nox (aB (dv 0) (aB (dv 1) aK))) (uO hY)))))
def zmX(F:bZ K "now" "Fen.now" Hl f fd):aM P w K mg base cR 1 f fd ["self"] (jo K 1 (qU A)):=
 vo (N:=["self"]) F λqj _ _=>
 (bG (cj (zwp 0 (yP aQ) nZ fc.cls fc.n_books)))
noncomputable def zks(F:bZ K "deed" "Fen.deed" FQ f fd):aM P w K mg base (dj P w) 6 f fd ["self","row"] (kZ K mg 2 (zR A)):=
 Cr (N:=["self","row","book"]) F λY hY _ _=>
 (gW (JP 2 (zrE oN (jR (eF λqj M G1=>(DE.nox (pU m_now zqY))) (jR (eF λqj M G1=>(DE.nox (dv 1))) vC)) (zvI hY)))
  (gW (zrm 0 (λqj M G1=>(dv 1)) fc.cls fc.n_kept)
  (gW (zrm 0 (λqj M G1=>(dv 2)) fc.cls fc.n_books)
  (gW (zh1 0 (λqj M G1=>(gf aK)) fc.cls fc.n_undone)
  (gW (jD λqj M G1=>(DS.nox (bM (du (b7 (dv 1) aQ) aV) (bG (cj (dD (dv 2) aV))) fW)))
  (pL (jD λqj M G1=>(DS.nox (cj Ao)))))))))
noncomputable def zge(F:bZ K "_law_due_told" "_law_due_told" Gf f fd):aM P w K mg base cR 1 f fd ["_law_model_here","_law_deed"] (dh K 2 HB):=
 j8 (N:=["_law_model_here","_law_deed"]) F λ_ _=>
 (bG (cj (b7 (DF.de (gf (aB Ao (aB (d9 (dD (dv 0) aV) aQ) aK)))) (v5 (aB (j0 (b7 (dv 1) aQ) aV) aK)))))
noncomputable def zjD(F:bZ K "_law_step" "_law_step" J7 f fd):aM P w K mg base (dj P w) 8 f fd ["_law_fen","_law_model_here","_law_deed"] (kZ K mg 3 (wB A)):=
 Cr (N:=["_law_fen","_law_model_here","_law_deed"]) F λY hY _ _=>
 (pq.nox (gW (zqM (zq0 o7 (jR (zuj m_deed (λqj M G1=>dv 0) (jR (eF λqj M G1=>(dv 2)) vC) yZ) (jR (eF λqj M G1=>(cI oG (aB (dv 1) (aB (dv 2) aK)))) vC))) (pL (jD λqj M G1=>(cj Ao))) DN)
  (pL (jD λqj M G1=>(cj (cI o6 (aB (dv 1) (aB (dv 2) aK))))))))
noncomputable def zij(F:bZ K "_law_marks" "_law_marks" Kp f fd):aM P w K mg base cR 1 f fd ["_law_model_here"] (dh K 1 v6):=
 j8 (N:=["_law_model_here"]) F λ_ _=>
 (bG (cj (DF.de (nR (Nc:=["_law_name","_law_turn"]) (.tp 2 (.cons (.nm 0) (.cons (.nm 1) .nil))) (mj (dD (dv 0) aV)) (pX (n:=2) rfl (gj (gn 0) (gj (gn 1) pO))) (vm (du (dv 1) aQ)) (dv 0)))))
def ziR(F:bZ K "_law_truth" "_law_truth" Jk f fd):aM P w K mg base cR 1 f fd ["_law_place_here"] (dh K 1 Gp):=
 j8 (N:=["_law_place_here"]) F λ_ _=>
 (bG (cj (xM (zrF (zsx (zsx (dv 0) (dv 0)) aQ) aQ) (dv 0))))
noncomputable def zgg(F:bZ K "_law_run_deed" "_law_run_deed" JB f fd):aM P w K mg base cR 3 f fd ["_law_box_here","_law_model_here"] (dh K 2 Ef):=
 j8 (N:=["_law_box_here","_law_model_here","_law_marks_here","_law_hands","_law_at","_law_one","_law_other","_law_rise"]) F λ_ _=>
 (bO (dW 2 (cI oj (aB (dv 1) aK)))
  (bO (dW 3 (DF.de (znd (dD (dv 1) aV))))
  (bO (bM (DW.dt (w_or (Bg (kh (aB (dv 2) aK)) aQ) (w_or (du (dv 3) (DF.de (gf aK))) (wQ (xZ (kh (aB (dD (dv 1) aV) aK)) aQ))))) (bG (cj Ao)) fW)
  (bO (dW 4 (cI og (aB (dv 0) (aB (kh (aB (dv 2) aK)) aK))))
  (bO (zv3 5 6 (b7 (dv 2) (dv 4)) (b7 (dv 2) (zrF (d9 (d9 (dv 4) aQ) (cI og (aB (dv 0) (aB (xM (kh (aB (dv 2) aK)) aQ) aK)))) (kh (aB (dv 2) aK)))))
  (bO (dW 7 (xM (cI oH (aB (cI om (aB (dv 1) (aB (dv 6) aK))) aK)) (cI oH (aB (cI om (aB (dv 1) (aB (dv 5) aK))) aK))))
  (bO (bM (du (cI og (aB (dv 0) (aB aQ aK))) aQ) (bG (dW 7 (b7 (DF.de (gf (aB (d9 (dv 7) aQ) (aB (xM (dv 7) aQ) (aB (cI og (aB (dv 0) (aB aQ aK))) (aB (yP aQ) aK)))))) (cI og (aB (dv 0) (aB aQ aK)))))) fW)
  (bG (cj (jc (aB aV (aB (dv 5) (aB (dv 6) (aB (dv 7) (aB (b7 (dv 3) (cI og (aB (dv 0) (aB (kh (aB (dv 3) aK)) aK)))) aK)))))))))))))))
noncomputable def zhT(F:bZ K "_law_begun" "_law_begun" HW f fd):aM P w K mg base (dj P w) 9 f fd ["_law_box_here","_law_most_marks","_law_most_hands","_law_most_runs"] (kZ K mg 4 (zc6 A)):=
 Cr (N:=["_law_box_here","_law_most_marks","_law_most_hands","_law_most_runs","_law_pool","_law_fen","_law_model_here","_law_deeds","_law_deed","_law_k"]) F λY hY _ _=>
 (pq.nox (gW (jD λqj M G1=>(dW 4 (cI oP (aB (dv 0) (aB aQ aK)))))
  (gW (JP 5 (zt5 mkI okI fc.m_Fen bI yZ))
  (gW (jD λqj M G1=>(dW 6 (zoY oR)))
  (gW (jD λqj M G1=>(zrq 7 (Nc:=["_law_k","_law_pool"]) (.nm 0) (yU (d9 aQ (cI og (aB (dv 0) (aB (dv 1) aK))))) (gn 0) qR (jc (aB aV (aB (b7 (dv 1) (dv 0)) aK)))))
  (gW (jD λqj M G1=>(zpR 7 (zpr 7 (zv7 (dv 7) (DF.de (nR (Nc:=["_law_k","_law_pool"]) (.nm 0) (yU (d9 aQ (cI og (aB (dv 0) (aB (dv 2) aK))))) (gn 0) qR (jc (aB aV (aB (b7 (dv 1) (xM aQ (dv 0))) aK)))))))))
  (gW (jD λqj M G1=>(zsA 7 (jc (aB aV (aB (cI og (aB (dv 0) (aB aQ aK))) aK)))))
  (gW (zuk 7 (znZ (.nm 8) (λqj M G1=>(mj (dv 7))) (gn 8) (pL (zpj (λqj M G1=>(zoy (dv 6))) (pL (JP 6 (Dd oz (jR (eF λqj M G1=>(dv 5)) (jR (eF λqj M G1=>(dv 6)) (jR (eF λqj M G1=>(dv 8)) vC))) yZ))) DN))))
  (gW (znZ (.nm 9) (λqj M G1=>(yU (cI og (aB (dv 0) (aB (d9 (dv 3) aQ) aK))))) (gn 9) (pL (zpj (λqj M G1=>(zoy (dv 6))) (gW (jD λqj M G1=>(dW 8 (cI oq (aB (dv 0) (aB (dv 6) aK)))))
  (pL (zpj (λqj M G1=>(zoy (dv 8))) (pL (JP 6 (Dd oz (jR (eF λqj M G1=>(dv 5)) (jR (eF λqj M G1=>(dv 6)) (jR (eF λqj M G1=>(dv 8)) vC))) yZ))) DN))) DN)))
  (pL (jD λqj M G1=>(cj (jc (aB (dv 5) (aB (dv 6) (aB (dv 4) aK))))))))))))))))
noncomputable def zgb(F:bZ K "_law_run_word" "_law_run_word" Hn f fd):aM P w K mg base cR 2 f fd ["_law_model_here","_law_deed"] (dh K 2 zbX):=
 j8 (N:=["_law_model_here","_law_deed","_law_word_here","_law_one","_law_other","_law_rise","_law_hand"]) F λ_ _=>
 (bO (uW (.tp 5 (.cons (.nm 2) (.cons (.nm 3) (.cons (.nm 4) (.cons (.nm 5) (.cons (.nm 6) .nil)))))) (dv 1) (pX (n:=5) rfl (gj (gn 2) (gj (gn 3) (gj (gn 4) (gj (gn 5) (gj (gn 6) pO)))))))
  (bO (bM (DW.dt (w_or (du (cI oi (aB (dv 0) (aB (dv 3) aK))) aQ) (wQ (du (cI oi (aB (dv 0) (aB (dv 4) aK))) aQ)))) (bG (cj aV)) fW)
  (bO (bM (du (dv 3) (dv 4)) (bG (cj aV)) fW)
  (bO (bM (zlR (dv 6) (dD (dv 0) aV)) (bG (cj aV)) fW)
  (bO (bM (yS (zuT (yP aQ) (dv 5) aQ)) (bG (cj aV)) fW)
  (bG (cj (b7 (DF.de (gf (aB aV (aB aV aK)))) (v5 (aB (j0 (kh (aB (dD (dv 0) aV) aK)) aQ) aK))))))))))
noncomputable def zio(F:bZ K "_law_named" "_law_named" HJ f fd):aM P w K mg base cR 1 f fd ["_law_word_here"] (dh K 1 HX):=
 j8 (N:=["_law_word_here"]) F λ_ _=>
 (bG (cj (Dk (zl9 aQ (kh (aB (dv 0) aK)) aQ) (Bb (zsz (aB (DF.de (nR (Nc:=["_law_sign"]) (.nm 0) (mj (dv 0)) (gn 0) qR (ztq (dv 0) aV))) aK))))))
noncomputable def zgd(F:bZ K "_law_new_word" "_law_new_word" Gx f fd):aM P w K mg base cR 2 f fd ["_law_model_here","_law_deed"] (dh K 2 Kg):=
 j8 (N:=["_law_model_here","_law_deed"]) F λ_ _=>
 (bO (bM (yS (uc (cI oW (aB (b7 (dv 1) aQ) aK)))) (bG (cj aV)) fW)
  (bO (bM (du (b7 (dv 1) aQ) aV) (bO (bM (zwf (b7 (dv 1) aQ) (dD (dv 0) aV)) (bG (cj aV)) fW)
  (bG (cj (b7 (DF.de (gf (aB aV (aB aV aK)))) (v5 (aB (j0 (zte (dD (dv 0) aV)) aQ) aK)))))) fW)
  (bO (bM (xn (cI oi (aB (dv 0) (aB (b7 (dv 1) aQ) aK))) aQ) (bG (cj aV)) fW)
  (bG (cj (b7 (DF.de (gf (aB aV (aB aV aK)))) (v5 (aB (j0 (kh (aB (dD (dv 0) aV) aK)) aQ) aK))))))))
noncomputable def zjZ(F:bZ K "_law_word" "_law_word" KN f fd):aM P w K mg base cR 3 f fd ["_law_model_here","_law_deed"] (dh K 2 Fe):=
 j8 (N:=["_law_model_here","_law_deed"]) F λ_ _=>
 (bO (bM (du (b7 (dv 1) aQ) aV) (bG (cj (cI oI (aB (dv 0) (aB (dv 1) aK))))) fW)
  (bO (bM (IV (b7 (dv 1) aQ) (jc (aB aV (aB aV aK)))) (bG (cj (cI oJ (aB (dv 0) (aB (dv 1) aK))))) fW)
  (bO (bM (du (b7 (dv 1) aQ) aV) (bO (bM (du (cI oi (aB (dv 0) (aB (b7 (dv 1) aQ) aK))) aQ) (bG (cj aV)) fW)
  (bG (cj (b7 (DF.de (gf (aB aV (aB aV aK)))) (v5 (aB (j0 (kh (aB (dD (dv 0) aV) aK)) aQ) aK)))))) fW)
  (bO (bM (IV (b7 (dv 1) aQ) (jc (aB aV (aB aV aK)))) (bO (bM (yS (uc (zwu (aB (DF.de (nR (Nc:=["_law_row","_law_deed"]) (.nm 0) (mj (dD (dv 0) aV)) (gn 0) qR (j0 (b7 (dv 0) aQ) (b7 (dv 1) aQ)))) aK)))) (bG (cj aV)) fW)
  (bG (cj (b7 (DF.de (gf (aB aV (aB aV aK)))) (v5 (aB (Dk (j0 (b7 (dv 1) aQ) aV) (Bb (ztQ (zl9 (yP aQ) (b7 (dv 1) aQ) aQ)))) aK)))))) fW)
  (bO (bM (du (b7 (dv 1) aQ) aV) (bG (cj (b7 (DF.de (gf (aB aV (aB aV aK)))) (v5 (aB (zl9 aQ (b7 (dv 1) aQ) aQ) aK))))) fW)
  (bO (bM (zlR (b7 (dv 1) aQ) (dD (dv 0) aV)) (bG (cj aV)) fW)
  (bO (bM (du (b7 (dv 1) aQ) aV) (bG (cj (b7 (DF.de (gf (aB aV (aB aV aK)))) (v5 (aB (dD (dD (dv 0) aV) (b7 (dv 1) aQ)) aK))))) fW)
  (bG (cj (b7 (DF.de (gf (aB aV (aB aV aK)))) (v5 (aB (dD (dD (dv 0) aV) (b7 (dv 1) aQ)) aK))))))))))))
noncomputable def zh8(F:bZ K "_law_kinds" "_law_kinds" HF f fd)(hm:mg "_law_kinds"=some (.ref f))(hb:Binds K fd ["_law_e"] []):uI P w K mg base 1 "_law_kinds" ur zdd:=
 zv0 (N:=["_law_e","_law_h","_law_w"]) F hm hb λnm ea C oe _ hn hmn hoc h=>
 (bO (dW 1 (DF.de (gf (aB (pA xk (dv 0) gw hoc hn hmn) (aB (pA xk (dv 0) gw hoc hn hmn) (aB (pA xk (dv 0) gw hoc hn hmn) (aB (pA xk (dv 0) gw hoc hn hmn) aK)))))))
  (bO (dW 1 (d9 (dv 1) (DF.de (gf (aB (pA xk (dv 0) gw hoc hn hmn) (aB (pA xk (dv 0) gw hoc hn hmn) (aB (pA xk (dv 0) gw hoc hn hmn) (aB (pA xk (dv 0) gw hoc hn hmn) aK))))))))
  (bO (dW 1 (d9 (dv 1) (DF.de (gf (aB (pA xk (dv 0) gw hoc hn hmn) (aB (pA xk (dv 0) gw hoc hn hmn) (aB (pA xk (dv 0) gw hoc hn hmn) (aB (pA xk (dv 0) gw hoc hn hmn) aK))))))))
  (bO (dW 1 (d9 (dv 1) (DF.de (gf (aB (pA xk (dv 0) gw hoc hn hmn) (aB (pA xk (dv 0) gw hoc hn hmn) (aB (pA xk (dv 0) gw hoc hn hmn) (aB (pA xk (dv 0) gw hoc hn hmn) aK))))))))
  (bO (dW 1 (d9 (dv 1) (DF.de (gf (aB (pA xk (dv 0) gw hoc hn hmn) (aB (pA xk (dv 0) gw hoc hn hmn) (aB (ztQ (zwj xk (dv 0) gw hoc hn hmn xv)) aK)))))))
  (bO (dW 2 aV)
  (bO (dW 2 (zrA (d9 (dv 2) aV) aV))
  (bG (cj (DF.de (znv (Nc:=["_law_at","_law_w","_law_h"]) (.nm 0) h (kh (aB (dv 2) aK)) (gn 0) (vm (uc (b7 (dv 2) (dv 0)))) (b7 (dv 1) (dv 0)) T.range)))))))))))
noncomputable def ziw(F:bZ K "_law_tried" "_law_tried" GK f fd):aM P w K mg base (dj P w) 7 f fd ["_law_fen","_law_deed"] (kZ K mg 2 (Ko A)):=
 Cr (N:=["_law_fen","_law_deed","_law_found","_law_kinds_here","_law_e"]) F λY hY _ _=>
 (pq.nox (gW (jD λqj M G1=>(dW 2 Ao))
  (gW (jD λqj M G1=>(dW 3 (DF.de (gf aK))))
  (gW (zr9 2 4 3 m_deed oX xk zqm (λqj M G1=>dv 0) (jR (eF λqj M G1=>(dv 1)) vC))
  (pL (jD λqj M G1=>(cj (jc (aB (dv 2) (aB (dv 3) aK))))))))))
noncomputable def zhq(F:bZ K "_law_judged" "_law_judged" Hj f fd):aM P w K mg base (dj P w) 9 f fd ["_law_fen","_law_model_here","_law_deed"] (kZ K mg 3 (GC A)):=
 Cr (N:=["_law_fen","_law_model_here","_law_deed","_law_word_here"]) F λY hY _ _=>
 (pq.nox (gW (jD λqj M G1=>(dW 3 (cI o9 (aB (dv 1) (aB (dv 2) aK)))))
  (gW (zpj (λqj M G1=>(du (dv 3) aV)) (pL (zu5 (Dd oz (jR (eF λqj M G1=>(dv 0)) (jR (eF λqj M G1=>(dv 1)) (jR (eF λqj M G1=>(dv 2)) vC))) yZ))) DN)
  (gW (zqM (zq0 o7 (jR (Dd oY (jR (eF λqj M G1=>(dv 0)) (jR (eF λqj M G1=>(dv 2)) vC)) yZ) (jR (eF λqj M G1=>(jc (aB Ao (aB (DF.de (gf (aB (dv 3) aK))) aK)))) vC))) (pL (jD λqj M G1=>(cj Ao))) DN)
  (pL (jD λqj M G1=>(cj (dv 1))))))))
noncomputable def zfQ(F:bZ K "_law_bent_deed" "_law_bent_deed" Kq f fd):aM P w K mg base cR 2 f fd ["_law_box_here","_law_model_here","_law_pool","_law_deed"] (dh K 4 zbL):=
 j8 (N:=["_law_box_here","_law_model_here","_law_pool","_law_deed","_law_at","_law_bad","_law_some","_law_thing"]) F λ_ _=>
 (bO (dW 4 (d9 aQ (cI og (aB (dv 0) (aB (xM (kh (aB (dv 3) aK)) aQ) aK)))))
  (bO (bM (uc (t7 (b7 (dv 3) (dv 4)))) (bO (dW 5 (DF.de (gf (aB aV (aB (d9 (b7 (dv 2) aQ) (zuC (wC (b7 (dv 2) aQ) wj (vR aQ)) aQ)) (aB (d9 (wC (b7 (dv 2) aQ) wj (vR aQ)) aV) (aB (d9 (wC (b7 (dv 2) aQ) wj (vR aQ)) aV) (aB aV aK))))))))
  (bO (dW 6 (d9 (d9 (d9 (dv 2) (cI oj (aB (dv 1) aK))) (DF.de (znd (dD (dv 1) aV)))) (dv 5)))
  (bG (dW 7 (b7 (dv 6) (cI og (aB (dv 0) (aB (kh (aB (dv 6) aK)) aK)))))))) (bO (dW 6 (DF.de (gf (aB aQ (aB (yP aQ) (aB aQ (aB aQ (aB aQ (aB aQ (aB aQ (aB (yP aQ) (aB (yP aQ) (aB (zt2 aQ aQ) (aB (yP (zt2 aQ aQ)) aK))))))))))))))
  (bG (dW 7 (b7 (d9 (dv 6) (DF.de (gf (aB (dD (dv 1) aV) (aB (d9 (dD (dv 1) aV) aQ) aK))))) (cI og (aB (dv 0) (aB (d9 (kh (aB (dv 6) aK)) aQ) aK))))))))
  (bG (cj (d9 (d9 (wC (dv 3) wj (vR (dv 4))) (jc (aB (dv 7) aK))) (wC (dv 3) (vR (d9 (dv 4) aQ)) wj))))))
noncomputable def zku(F:bZ K "marks_of" "marks_of" Jo f fd):aM P w K mg base cR 1 f fd ["stands"] (dh K 1 zey):=
 j8 (N:=["stands"]) F λ_ _=>
 (bG (cj (DF.de (nR (Nc:=["name","turn"]) (.tp 2 (.cons (.nm 0) (.cons (.nm 1) .nil))) (mj (dv 0)) (pX (n:=2) rfl (gj (gn 0) (gj (gn 1) pO))) (vm (du (dv 1) aQ)) (dv 0)))))
def zjM(F:bZ K "marks" "Fen.marks" Kz f fd):aM P w K mg base cR 2 f fd ["self"] (jo K 1 (zdE A)):=
 vo (N:=["self"]) F λqj _ _=>
 (bG (cj (cI qd (aB (dD (pU m_now nZ) aV) aK))))
def zjX(F:bZ K "hands" "Fen.hands" Fl f fd):aM P w K mg base cR 2 f fd ["self"] (jo K 1 (zdR A)):=
 vo (N:=["self"]) F λqj _ _=>
 (bG (cj (DF.de (zlh (dD (pU m_now nZ) aV)))))
noncomputable def zh9(F:bZ K "asides" "Fen.asides" Ip f fd):aM P w K mg base cR 2 f fd ["self"] (jo K 1 (zda A)):=
 vo (N:=["self","book"]) F λqj _ _=>
 (bO (dW 1 (pU m_now nZ))
  (bG (cj (DF.de (nR (Nc:=["hand","book"]) (.nm 0) (mj (dD (dv 1) aV)) (gn 0) (vm (IV (dv 0) (dD (dv 1) aV))) (dv 0))))))
def zh5(F:bZ K "stands" "Fen.stands" Hf f fd):aM P w K mg base cR 2 f fd ["self"] (jo K 1 (zc5 A)):=
 vo (N:=["self"]) F λqj _ _=>
 (bG (cj (DF.de (zlh (dD (pU m_now nZ) aV)))))
def zho(F:bZ K "allowed" "Fen.allowed" Jf f fd):aM P w K mg base cR 2 f fd ["self"] (jo K 1 (zcD A)):=
 vo (N:=["self"]) F λqj _ _=>
 (bG (cj (dD (pU m_now nZ) aV)))
def zkL(F:bZ K "runs" "Fen.runs" Kr f fd):aM P w K mg base cR 2 f fd ["self"] (jo K 1 (zeA A)):=
 vo (N:=["self"]) F λqj _ _=>
 (bG (cj (DF.de (zlh (dD (pU m_now nZ) aV)))))
def zfr(F:bZ K "rows_that_count" "rows_that_count" Ht f fd):aM P w K mg base cR 1 f fd ["book"] (dh K 1 zbt):=
 j8 (N:=["book"]) F λ_ _=>
 (bG (cj (DF.de (nR (Nc:=["run","book"]) (.nm 0) (mj (dD (dv 0) aV)) (gn 0) (vm (ziI (b7 (dv 0) aQ) (dD (dv 1) aV))) (dv 0)))))
def zgD(F:bZ K "counting" "Fen.counting" JX f fd):aM P w K mg base cR 2 f fd ["self"] (jo K 1 (zcd A)):=
 vo (N:=["self"]) F λqj _ _=>
 (bG (cj (DF.de (nR (Nc:=["run"]) (.nm 0) (mj (cI oA (aB (pU m_now nZ) aK))) (gn 0) qR (b7 (dv 0) aQ)))))
def zi1(F:bZ K "deeds" "Fen.deeds" Fo f fd):aM P w K mg base cR 1 f fd ["self"] (jo K 1 (zdM A)):=
 vo (N:=["self"]) F λqj _ _=>
 (bG (cj (DF.de (zvw 0 nZ fc.cls fc.n_kept))))
noncomputable def zjg(F:bZ K "_law_seen" "_law_seen" Im f fd):aM P w K mg base cR 3 f fd ["_law_fen"] (jo K 1 (zdT A)):=
 vo (N:=["_law_fen","_law_found"]) F λqj _ _=>
 (bO (dW 1 (DF.de (gf (aB (pU m_marks nZ) (aB (pU m_hands nZ) (aB (pU m_asides nZ) (aB (pU m_stands nZ) (aB (pU m_allowed nZ) (aB (pU m_runs nZ) (aB (pU m_counting nZ) aK))))))))))
  (bG (cj (d9 (dv 1) (DF.de (gf (aB (pU m_deeds nZ) aK)))))))
noncomputable def zgr(F:bZ K "_law_counted" "_law_counted" Jd f fd):aM P w K mg base cR 1 f fd ["_law_model_here"] (dh K 1 zce):=
 j8 (N:=["_law_model_here"]) F λ_ _=>
 (bG (cj (DF.de (nR (Nc:=["_law_row","_law_model_here"]) (.nm 0) (mj (dD (dv 0) aV)) (gn 0) (vm (uc (dD (dD (dv 1) aV) (b7 (dv 0) aQ)))) (dv 0)))))
noncomputable def zkF(F:bZ K "_law_due" "_law_due" uU f fd):aM P w K mg base cR 2 f fd ["_law_model_here"] (dh K 1 zex):=
 j8 (N:=["_law_model_here","_law_places","_law_rows","_law_asides","_law_found"]) F λ_ _=>
 (bO (dW 1 (dD (dv 0) aV))
  (bO (zmg 2 (Nc:=["_law_row","_law_places"]) (.nm 0) (mj (dD (dv 0) aV)) (gn 0) qR (d9 (d9 (d9 (jc (aB (b7 (dv 0) aQ) aK)) (b7 (dv 1) (b7 (dv 0) aQ))) (b7 (dv 1) (b7 (dv 0) aQ))) (wC (dv 0) (vR aQ) wj)))
  (bO (zmg 3 (Nc:=["_law_hand","_law_model_here"]) (.nm 0) (zuK (dD (dv 0) aV)) (gn 0) (vm (yS (uc (dD (dD (dv 1) aV) (dv 0))))) (dv 0))
  (bO (dW 4 (DF.de (gf (aB (cI oj (aB (dv 0) aK)) (aB (DF.de (znd (dD (dv 0) aV))) (aB (dv 3) (aB (dv 1) (aB (dD (dv 0) aV) (aB (dv 2) aK)))))))))
  (bG (cj (d9 (dv 4) (DF.de (gf (aB (DF.de (nR (Nc:=["_law_row"]) (.nm 0) (mj (cI oK (aB (dv 0) aK))) (gn 0) qR (b7 (dv 0) aQ))) (aB (dD (dv 0) aV) aK)))))))))))
noncomputable def zit(F:bZ K "_law_right" "_law_right" Gs f fd):aM P w K mg base cR 8 f fd ["_law_fen","_law_model_here"] (jo K 2 (Em A)):=
 vo (N:=["_law_fen","_law_model_here"]) F λqj _ _=>
 (bG (cj (cI o7 (aB (znK qc (aB (dv 0) aK) nZ) (aB (cI qe (aB (dv 1) aK)) aK)))))
noncomputable def zvh(F:bZ K "law" "law" tL f fd)(cB:fG P w K mg base "_law_box" 1 ["_law_script"] (Fen.zsh K))(hw:xQ 10 (J9 A)):aM P w K mg base cR 10 f fd ["_law_script"] (Ir K):=by
 refine zsT (N:=["_law_fen","_law_model_here","_law_pool","_law_k","_law_way","_law_number","_law_marks_here","_law_one","_law_deed","_law_turn"]) (k:=9) F rfl cB (λ_ _=>?_) hw;unfold J9;exact(gW (zvn (.tp 3 (.cons (.nm 2) (.cons (.nm 3) (.cons (.nm 4) .nil)))) (Dd oV (jR (eF λqj M G1=>(dv 1)) (jR (eF λqj M G1=>aQ) (jR (eF λqj M G1=>aQ) (jR (eF λqj M G1=>(b7 (DF.de (gf (aB aQ (aB aQ aK)))) (cI og (aB (dv 1) (aB aQ aK))))) vC)))) yZ) (pX (n:=3) rfl (gj (gn 2) (gj (gn 3) (gj (gn 4) pO)))))
  (gW (jD λqj M G1=>(bM (zp0 (dv 3)) (bG (cj Ka)) fW))
  (gW (znZ (.nm 5) (λqj M G1=>(yU (d9 aQ (cI og (aB (dv 1) (aB aQ aK)))))) (gn 5) (gW (jD λqj M G1=>(dW 6 (cI og (aB (dv 1) (aB aQ aK)))))
  (gW (jD λqj M G1=>(dW 7 (cI og (aB (dv 1) (aB (d9 (dD (dv 3) aV) aQ) aK)))))
  (gW (jD λqj M G1=>(dW 8 (d9 (cI oj (aB (dv 3) aK)) (wC (dv 4) wj (vR aQ)))))
  (gW (jD λqj M G1=>(dW 9 (b7 (dv 8) (cI og (aB (dv 1) (aB (kh (aB (dv 8) aK)) aK))))))
  (gW (jD λqj M G1=>(dW 10 (jc (aB aV (aB (dv 9) (aB (b7 (dv 8) (cI og (aB (dv 1) (aB (kh (aB (dv 8) aK)) aK)))) (aB (xM (cI og (aB (dv 1) (aB aQ aK))) aQ) (aB (b7 (dv 4) aQ) aK))))))))
  (gW (jD λqj M G1=>(bM (Bg (dv 6) aQ) (bG (dW 10 (zwt (cI oq (aB (dv 1) (aB (dv 3) aK))) (Bb (dv 10))))) (bG (bM (du (dv 6) aQ) (bG (dW 10 (jc (aB aV (aB (dv 7) aK))))) (bG (bM (du (dv 6) aQ) (bG (dW 10 (jc (aB aV (aB (dv 7) (aB (xM (cI og (aB (dv 1) (aB aQ aK))) aQ) aK)))))) fW))))))
  (gW (jD λqj M G1=>(bM (DW.dt (zwg (du (dv 6) aQ) (ztX (du (cI og (aB (dv 1) (aB aQ aK))) aQ)))) (bG (dW 10 (jc (aB aV (aB (dv 9) aK))))) fW))
  (gW (jD λqj M G1=>(zsr (.nm 11) (yU (b7 (DF.de (gf (aB aQ (aB aQ (aB aQ (aB aQ aK)))))) (cI og (aB (dv 1) (aB aQ aK))))) (gn 11) (bG (dW 10 (cI oE (aB (dv 1) (aB (dv 3) (aB (dv 4) (aB (dv 10) aK)))))))))
  (gW (JP 3 (Dd oO (jR (eF λqj M G1=>(dv 2)) (jR (eF λqj M G1=>(dv 3)) (jR (eF λqj M G1=>(dv 10)) vC))) yZ))
  (pL (jD λqj M G1=>(bM (DW.dt (w_or (zp0 (dv 3)) (wQ (yS (uc (znK oZ (aB (dv 2) (aB (dv 3) aK)) zqY)))))) (bG (cj Ka)) fW)))))))))))))
  (pL (jD λqj M G1=>(cj Ka))))))
end
end Fd
namespace Hd
open PySem L2 Fen PySem.W PySem.Calls PyProof.Rows
noncomputable section
noncomputable abbrev dE(P:Params)(k:Str)(n:Nat)(v:Value):DictEntry:=⟨PyData.keyHash P k,.str k n,v⟩
noncomputable def dN:Stmt->Str
 |.FunctionDef x ..=>x
 |_ => ""
noncomputable abbrev cO(s:Stmt)(a:Nat)(l:Int)(lt:Nat)(n:Int)(v:Addr)(g h:Value)(q:Addr)(d:Nat):Obj:=⟨.type "code",none,.fields #[.str (dN s) a,.str (dN s) (a+1),.str "/claim/cut.py" (a+2),.int l lt,.int n 0,.int 0 0,.int 0 0,.int 3 0,.ref v,.bool true,.int 181 0,.ref (v+1),.none,g,h,.ref q,.int (d-1) 0,.int l lt,.str "/claim/cut.py" d],#[]⟩
noncomputable abbrev cQ(s:Stmt)(u:Str)(a:Nat)(l:Int)(lt:Nat)(n:Int)(v:Addr)(g h:Value)(q:Addr)(d:Nat):Obj:=⟨.type "code",none,.fields #[.str (dN s) a,.str u (a+1),.str "/claim/cut.py" (a+2),.int l lt,.int n 0,.int 0 0,.int 0 0,.int 3 0,.ref v,.bool true,.int 181 0,.ref (v+1),.none,g,h,.ref q,.int (d-1) 0,.int l lt,.str "/claim/cut.py" d],#[]⟩
noncomputable abbrev cP(s:Stmt)(a:Nat)(l:Int)(lt:Nat)(n:Int)(v:Addr)(d:Nat):Obj:=cO s a l lt n v .none .none (v+2) d
noncomputable abbrev fD(x:Str)(s:Stmt)(m:Str)(t:Nat)(c:Addr):FuncData:=PySem.W.fnOf x x (uZ s) (nW s) (gC s) .none .none .none (.str m t) none (.ref c) .none
noncomputable abbrev fO(s:Stmt)(m:Str)(t:Nat)(c:Addr):Obj:=⟨.type "function",none,.func (fD (dN s) s m t c),#[]⟩
noncomputable abbrev fI(s:Stmt):Obj:=⟨.none,none,.func ⟨dN s,dN s,uZ s,.stmts (nW s),gC s,0,[],.none,.none,.none,.none,none,.none,.none,0⟩,#[]⟩
noncomputable abbrev fQ(s:Stmt)(u m:Str)(t:Nat)(c:Addr):Obj:=⟨.type "function",none,.func (PySem.W.fnOf (dN s) u (uZ s) (nW s) (gC s) .none .none .none (.str m t) none (.ref c) .none),#[]⟩
noncomputable abbrev fJ(s:Stmt)(u:Str):Obj:=⟨.none,none,.func ⟨dN s,u,uZ s,.stmts (nW s),gC s,0,[],.none,.none,.none,.none,none,.none,.none,0⟩,#[]⟩
noncomputable abbrev cT:Obj:=⟨.type "tuple",none,.seq #[] 0,#[]⟩
noncomputable abbrev cF:Obj:=⟨.none,none,.fields #[],#[]⟩
noncomputable def tS:Nat->List Str->List Value
 |_,[]=>[]
 |n,x::l=>.str x n::tS (n+1) l
noncomputable abbrev cN(n:Nat)(l:List Str):Obj:=⟨.type "tuple",none,.seq (tS n l).toArray 0,#[]⟩
noncomputable def cV:List (Int×Nat×Nat)->List Value
 |[]=>[]
 | (l,t,c)::r=>.int l t::.int 0 0::.ref c::cV r
noncomputable def bT(f:Nat->Obj)(n:Nat):Nat->Nat->Nat->BT
 |0,_,_=>.nil
 |k+1,a,b=>match Nat.blt b n with
  |true=>.node (f b) (bT f n k (Nat.mul 2 a) (Nat.add a b)) (bT f n k (Nat.mul 2 a) (Nat.add (Nat.mul 2 a) b))
  |false=>.nil
noncomputable abbrev kP:Obj:=⟨.type "builtin_function_or_method",none,.fields #[.builtin "type.__prepare__",.type "type"],#[]⟩
noncomputable abbrev kD(P:Params)(m:Str)(n:Nat)(x:Str)(l:Int)(t:Nat)(r:Addr):Obj:=⟨.type "dict",none,.dict #[dE P "__module__" t (.str m n),dE P "__qualname__" (t+2) (.str x (t+1)),dE P "__firstlineno__" (t+4) (.int l (t+3)),dE P "__static_attributes__" (t+5) (.ref r)] 4,#[]⟩
noncomputable abbrev kE(P:Params)(m:Str)(n:Nat)(l:Int)(t:Nat)(r:Addr):Obj:=⟨.type "dict",none,.dict #[dE P "__module__" t (.str m n),dE P "__firstlineno__" (t+4) (.int l (t+3)),dE P "__static_attributes__" (t+5) (.ref r),dE P "__doc__" (t+6) (.none)] 2,#[]⟩
noncomputable abbrev kC(x:Str)(l:Int)(t:Nat)(v:Addr):Obj:=⟨.type "code",none,.fields #[.str x t,.str x (t+1),.str "/claim/cut.py" (t+2),.int l 0,.int 0 0,.int 0 0,.int 0 0,.int 0 0,.ref v,.bool false,.int 181 0,.ref (v+1),.none,.none,.none,.none,.int (t+3:Nat) 0,.int l 0,.str "/claim/cut.py" (t+4)],#[]⟩
noncomputable abbrev kF(a b:Addr)(m:Str)(n:Nat):Obj:=⟨.type "frame",none,.plain,#[some (.ref a),some (.ref 3),some (.ref b),none,some (.str m n),none,some (.ref 0)]⟩
noncomputable abbrev kT(x:Str)(b s d q:Addr)(u v:Nat):Obj:=⟨.type "type",none,.cls ⟨x,[.ref b],[.ref s,.ref b,.type "ValueError",.type "Exception",.type "BaseException",.type "object"],d,x,true,[],[],false,none,false⟩,#[some (.ref q),none,some (.str x u),some (.str x v),some (.builtin "ValueError.__new__"),some (.bool true)]⟩
noncomputable abbrev kS(s:Addr):Obj:=⟨.type "super",none,.fields #[.ref s,.ref s,.ref s],#[]⟩
noncomputable abbrev kI(s:Addr):Obj:=⟨.type "builtin_function_or_method",none,.fields #[.builtin "object.__init_subclass__",.ref s],#[]⟩
noncomputable abbrev kQ(s:Addr):Obj:=⟨.type "tuple",none,.seq #[.ref s] 0,#[]⟩
noncomputable abbrev u0:Str:="__main__"
noncomputable abbrev u1:Str:="fenlevel.errors"
noncomputable abbrev u2:Str:="fenlevel.names"
noncomputable abbrev u3:Str:="fenlevel.stand"
noncomputable abbrev u4:Str:="fenlevel.deeds"
noncomputable abbrev u5:Str:="fenlevel.fen"
noncomputable abbrev u6:Str:="law_fenlevel_k26_runs_entered_struck_and_men"
noncomputable def c0(P:Params)(d c:Obj):List Obj:=[PySem.W.boot_o_0 P,PySem.W.boot_o_1 P,PySem.W.boot_o_2 P,d,PySem.W.boot_o_4 P,PySem.W.boot_o_5 P,PySem.W.boot_o_6 P,PySem.W.boot_o_7 P,PySem.W.boot_o_8 P,PySem.W.boot_o_9 P,PySem.W.boot_o_10 P,cT,c,kC "<module>" 1 182 11,kF 13 3 u0 164,cT,cF,cN 190 ["k"],cT,fI zrT,cO zrT 187 1 0 1 15 (.ref 17) (.ref 18) 19 192,fO zrT u0 164 20,⟨.type "tuple",none,.seq #[.type "ValueError"] 0,#[]⟩,kP]
noncomputable def c1(P:Params):List Obj:=[kD P u1 194 "FenError" 5 203 29,cT,cF,kC "FenError" 5 198 25,kF 27 24 u1 194,cT,⟨.type "dict",none,.dict #[dE P "__module__" 203 (.str "fenlevel.errors" 194),dE P "__firstlineno__" 207 (.int 5 206),dE P "__static_attributes__" 208 (.ref 29),dE P "__weakref__" 210 (.ref 32),dE P "__doc__" 211 (.none)] 3,#[]⟩,⟨.type "type",none,.cls ⟨"FenError",[.type "ValueError"],[.ref 31,.type "ValueError",.type "Exception",.type "BaseException",.type "object"],30,"FenError",true,[],[.ref 44,.ref 56,.ref 68,.ref 80,.ref 92,.ref 104,.ref 116,.ref 128,.ref 140,.ref 152,.ref 164,.ref 176,.ref 188,.ref 200,.ref 212,.ref 224,.ref 236,.ref 255],false,none,false⟩,#[some (.ref 22),none,some (.str "FenError" 196),some (.str "FenError" 204),some (.builtin "ValueError.__new__"),some (.bool true)]⟩,⟨.type "getset_descriptor",none,.fields #[.str "__weakref__" 209,.ref 31,.builtin "ExceptionGroup.__weakref__",.none],#[]⟩,kS 31,kI 31,kQ 31,kP,kD P u1 194 "BadName" 7 221 42,cT,cF,kC "BadName" 7 216 38,kF 40 37 u1 194,cT,kE P u1 194 7 221 42,kT "BadName" 31 44 43 35 214 222,kS 44,kI 44,kQ 31]
noncomputable def c2(P:Params):List Obj:=[kP,kD P u1 194 "Taken" 9 237 54,cT,cF,kC "Taken" 9 232 50,kF 52 49 u1 194,cT,kE P u1 194 9 237 54,kT "Taken" 31 56 55 47 230 238,kS 56,kI 56,kQ 31,kP,kD P u1 194 "Full" 11 253 66,cT,cF,kC "Full" 11 248 62,kF 64 61 u1 194,cT,kE P u1 194 11 253 66,kT "Full" 31 68 67 59 246 254,kS 68,kI 68,kQ 31]
noncomputable def c3(P:Params):List Obj:=[kP,kD P u1 194 "NoMark" 13 269 78,cT,cF,kC "NoMark" 13 264 74,kF 76 73 u1 194,cT,kE P u1 194 13 269 78,kT "NoMark" 31 80 79 71 262 270,kS 80,kI 80,kQ 31,kP,kD P u1 194 "NoHand" 15 285 90,cT,cF,kC "NoHand" 15 280 86,kF 88 85 u1 194,cT,kE P u1 194 15 285 90,kT "NoHand" 31 92 91 83 278 286,kS 92,kI 92,kQ 31]
noncomputable def c4(P:Params):List Obj:=[kP,kD P u1 194 "Same" 17 301 102,cT,cF,kC "Same" 17 296 98,kF 100 97 u1 194,cT,kE P u1 194 17 301 102,kT "Same" 31 104 103 95 294 302,kS 104,kI 104,kQ 31,kP,kD P u1 194 "BadRise" 19 317 114,cT,cF,kC "BadRise" 19 312 110,kF 112 109 u1 194,cT,kE P u1 194 19 317 114,kT "BadRise" 31 116 115 107 310 318,kS 116,kI 116,kQ 31]
noncomputable def c5(P:Params):List Obj:=[kP,kD P u1 194 "NoRun" 21 333 126,cT,cF,kC "NoRun" 21 328 122,kF 124 121 u1 194,cT,kE P u1 194 21 333 126,kT "NoRun" 31 128 127 119 326 334,kS 128,kI 128,kQ 31,kP,kD P u1 194 "Aside" 23 349 138,cT,cF,kC "Aside" 23 344 134,kF 136 133 u1 194,cT,kE P u1 194 23 349 138,kT "Aside" 31 140 139 131 342 350,kS 140,kI 140,kQ 31]
noncomputable def c6(P:Params):List Obj:=[kP,kD P u1 194 "NotAside" 25 365 150,cT,cF,kC "NotAside" 25 360 146,kF 148 145 u1 194,cT,kE P u1 194 25 365 150,kT "NotAside" 31 152 151 143 358 366,kS 152,kI 152,kQ 31,kP,kD P u1 194 "BadNumber" 27 381 162,cT,cF,kC "BadNumber" 27 376 158,kF 160 157 u1 194,cT,kE P u1 194 27 381 162,kT "BadNumber" 31 164 163 155 374 382,kS 164,kI 164,kQ 31]
noncomputable def c7(P:Params):List Obj:=[kP,kD P u1 194 "NothingLeft" 29 397 174,cT,cF,kC "NothingLeft" 29 392 170,kF 172 169 u1 194,cT,kE P u1 194 29 397 174,kT "NothingLeft" 31 176 175 167 390 398,kS 176,kI 176,kQ 31,kP,kD P u1 194 "Steady" 31 413 186,cT,cF,kC "Steady" 31 408 182,kF 184 181 u1 194,cT,kE P u1 194 31 413 186,kT "Steady" 31 188 187 179 406 414,kS 188,kI 188,kQ 31]
noncomputable def c8(P:Params):List Obj:=[kP,kD P u1 194 "NoDeed" 33 429 198,cT,cF,kC "NoDeed" 33 424 194,kF 196 193 u1 194,cT,kE P u1 194 33 429 198,kT "NoDeed" 31 200 199 191 422 430,kS 200,kI 200,kQ 31,kP,kD P u1 194 "Known" 35 445 210,cT,cF,kC "Known" 35 440 206,kF 208 205 u1 194,cT,kE P u1 194 35 445 210,kT "Known" 31 212 211 203 438 446,kS 212,kI 212,kQ 31]
noncomputable def c9(P:Params):List Obj:=[kP,kD P u1 194 "NoFen" 37 461 222,cT,cF,kC "NoFen" 37 456 218,kF 220 217 u1 194,cT,kE P u1 194 37 461 222,kT "NoFen" 31 224 223 215 454 462,kS 224,kI 224,kQ 31,kP,kD P u1 194 "Settled" 39 477 234,cT,cF,kC "Settled" 39 472 230,kF 232 229 u1 194,cT,kE P u1 194 39 477 234,kT "Settled" 31 236 235 227 470 478,kS 236,kI 236,kQ 31]
noncomputable def c10(P:Params):List Obj:=[kP,⟨.type "dict",none,.dict #[dE P "__module__" 493 (.str "fenlevel.errors" 194),dE P "__qualname__" 495 (.str "NoPage" 494),dE P "__firstlineno__" 497 (.int 41 496),dE P "__init__" 505 (.ref 252),dE P "__static_attributes__" 507 (.ref 253)] 5,#[]⟩,cT,⟨.none,none,.fields #[.int 43 0,.int 4 0,.ref 251],#[]⟩,kC "NoPage" 41 488 242,kF 244 241 u1 194,cT,cF,cN 501 ["self","row"],cT,fJ zct "NoPage.__init__",cQ zct "NoPage.__init__" 498 43 0 2 246 (.ref 248) (.ref 249) 250 504,fQ zct "NoPage.__init__" u1 194 251,cN 506 ["row"],⟨.type "dict",none,.dict #[dE P "__module__" 493 (.str "fenlevel.errors" 194),dE P "__firstlineno__" 497 (.int 41 496),dE P "__init__" 505 (.ref 252),dE P "__static_attributes__" 507 (.ref 253),dE P "__doc__" 508 (.none)] 2,#[]⟩,kT "NoPage" 31 255 254 239 486 494,kS 255,kI 255,cT,cF,fI Jb,cP Jb 517 48 0 3 258 521,fO Jb u2 511 261,cT]
noncomputable def c11(P:Params):List Obj:=[cF,cN 526 ["text"],cT,fI Gr,cO Gr 523 50 0 1 263 (.ref 265) (.ref 266) 267 528,fO Gr u2 511 268,cT,cF,fI Jo,cP Jo 532 53 0 1 270 536,fO Jo u3 530 273,cT,cF,fI Ii,cP Ii 538 55 0 2 275 542,fO Ii u3 530 278,cT,cF,cN 547 ["stands","name"],cT,fI Hi,cO Hi 544 57 0 2 280 (.ref 282) (.ref 283) 284 550,fO Hi u3 530 285,cT]
noncomputable def c12(P:Params):List Obj:=[cF,cN 555 ["stands","name","turns"],cT,fI Ju,cO Ju 552 59 0 2 287 (.ref 289) (.ref 290) 291 559,fO Ju u3 530 292,cT,cF,cT,cT,fI Hw,cO Hw 573 70 0 0 294 (.ref 296) (.ref 297) 298 577,fO Hw u4 561 299,cT,cF,cN 582 ["book","word","value","fresh"],cT,fI Gn,cO Gn 579 72 0 3 301 (.ref 303) (.ref 304) 305 587,fO Gn u4 561 306,cT,cF,cN 592 ["book","name","stands"],cT]
noncomputable def c13(P:Params):List Obj:=[fI J0,cO J0 589 76 0 2 308 (.ref 310) (.ref 311) 312 596,fO J0 u4 561 313,cT,cF,cN 601 ["book","name"],cT,fI Jw,cO Jw 598 81 0 2 315 (.ref 317) (.ref 318) 319 604,fO Jw u4 561 320,cT,cF,cN 609 ["rise"],cT,fI Ig,cO Ig 606 84 0 1 322 (.ref 324) (.ref 325) 326 611,fO Ig u4 561 327,cT,cF,fI Fp,cP Fp 613 87 0 2 329 617,fO Fp u4 561 332,cT,cF]
noncomputable def c14(P:Params):List Obj:=[cN 622 ["book","row","word","name"],cT,fI Gm,cO Gm 619 90 0 2 334 (.ref 336) (.ref 337) 338 627,fO Gm u4 561 339,cT,cF,cN 632 ["book","row","word","name","hands"],cT,fI Ia,cO Ia 629 97 0 2 341 (.ref 343) (.ref 344) 345 638,fO Ia u4 561 346,cT,cF,cN 643 ["book","row","word","one","other","rise","hand","start","start_turn","end","end_turn","number","run"],cT,fI Jj,cO Jj 640 107 0 2 348 (.ref 350) (.ref 351) 352 657,fO Jj u4 561 353,cT,cF,fI Hy,cP Hy 659 120 0 2 355 663,fO Hy u4 561 358]
noncomputable def c15(P:Params):List Obj:=[cT,cF,fI G6,cP G6 665 124 0 2 360 669,fO G6 u4 561 363,cT,cF,cN 674 ["book","row","word","name","settling","turn"],cT,fI JH,cO JH 671 130 0 2 365 (.ref 367) (.ref 368) 369 681,fO JH u4 561 370,cT,cF,cN 686 ["book","row","word","hand"],cT,fI zdO,cO zdO 683 134 0 2 372 (.ref 374) (.ref 375) 376 691,fO zdO u4 561 377,cT,cF,fI zeL,cP zeL 693 140 0 2 379 697,fO zeL u4 561 382]
noncomputable def c16(P:Params):List Obj:=[cT,cF,cN 702 ["book","row","word","many"],cT,fI Kf,cO Kf 699 146 0 2 384 (.ref 386) (.ref 387) 388 707,fO Kf u4 561 389,⟨.type "dict",none,.dict #[dE P "mark" 709 (.ref 340),dE P "hand" 710 (.ref 347),dE P "run" 711 (.ref 354),dE P "strike" 712 (.ref 359),dE P "mend" 713 (.ref 364),dE P "settle" 714 (.ref 371),dE P "aside" 715 (.ref 378),dE P "heed" 716 (.ref 383),dE P "allow" 717 (.ref 390)] 9,#[]⟩,cT,cF,cN 731 ["book","row","action"],cT,fI JT,cO JT 728 152 0 2 392 (.ref 394) (.ref 395) 396 735,fO JT u4 561 397,cT,cF,fI Ht,cP Ht 739 156 0 1 399 743,fO Ht u5 737 402,cT,kP,⟨.type "dict",none,.dict #[dE P "__module__" 752 (.str "fenlevel.fen" 737),dE P "__qualname__" 754 (.str "Fen" 753),dE P "__firstlineno__" 756 (.int 158 755),dE P "__init__" 763 (.ref 417),dE P "now" 770 (.ref 424),dE P "mark" 778 (.ref 431),dE P "hand" 786 (.ref 438),dE P "run" 797 (.ref 445),dE P "strike" 805 (.ref 452),dE P "mend" 814 (.ref 459),dE P "settle" 822 (.ref 466),dE P "aside" 830 (.ref 473),dE P "heed" 838 (.ref 480),dE P "allow" 846 (.ref 487),dE P "deed" 855 (.ref 494),dE P "back" 862 (.ref 501),dE P "again" 871 (.ref 508),dE P "deeds" 878 (.ref 515),dE P "twin" 885 (.ref 522),dE P "marks" 892 (.ref 529),dE P "hands" 899 (.ref 536),dE P "asides" 905 (.ref 541),dE P "stands" 912 (.ref 548),dE P "allowed" 919 (.ref 555),dE P "runs" 926 (.ref 562),dE P "counting" 932 (.ref 567),dE P "height" 941 (.ref 574),dE P "paper" 950 (.ref 581),dE P "readings" 959 (.ref 588),dE P "sank" 967 (.ref 595),dE P "false_sets" 974 (.ref 602),dE P "least" 981 (.ref 609),dE P "groups" 988 (.ref 616),dE P "parting" 997 (.ref 623),dE P "foe" 1006 (.ref 630),dE P "__static_attributes__" 1010 (.ref 631)] 36,#[]⟩,cT]
noncomputable def c17(P:Params):List Obj:=[⟨.none,none,.fields #[.int 160 0,.int 4 0,.ref 416,.int 165 0,.int 4 0,.ref 423,.int 168 0,.int 4 0,.ref 430,.int 171 0,.int 4 0,.ref 437,.int 174 0,.int 4 0,.ref 444,.int 177 0,.int 4 0,.ref 451,.int 180 0,.int 4 0,.ref 458,.int 183 0,.int 4 0,.ref 465,.int 186 0,.int 4 0,.ref 472,.int 189 0,.int 4 0,.ref 479,.int 192 0,.int 4 0,.ref 486,.int 195 0,.int 4 0,.ref 493,.int 204 0,.int 4 0,.ref 500,.int 209 0,.int 4 0,.ref 507,.int 216 0,.int 4 0,.ref 514,.int 219 0,.int 4 0,.ref 521,.int 222 0,.int 4 0,.ref 528,.int 225 0,.int 4 0,.ref 535,.int 228 0,.int 4 0,.ref 540,.int 232 0,.int 4 0,.ref 547,.int 235 0,.int 4 0,.ref 554,.int 238 0,.int 4 0,.ref 561,.int 241 0,.int 4 0,.ref 566,.int 244 0,.int 4 0,.ref 573,.int 247 0,.int 4 0,.ref 580,.int 250 0,.int 4 0,.ref 587,.int 253 0,.int 4 0,.ref 594,.int 256 0,.int 4 0,.ref 601,.int 259 0,.int 4 0,.ref 608,.int 262 0,.int 4 0,.ref 615,.int 265 0,.int 4 0,.ref 622,.int 268 0,.int 4 0,.ref 629],#[]⟩,kC "Fen" 158 747 407,kF 409 406 u5 737,cT,cF,cN 760 ["self"],cT,fJ Kl "Fen.__init__",cQ Kl "Fen.__init__" 757 160 0 1 411 (.ref 413) (.ref 414) 415 762,fQ Kl "Fen.__init__" u5 737 416,cT,cF,cN 767 ["self"],cT,fJ Hl "Fen.now",cQ Hl "Fen.now" 764 165 0 1 418 (.ref 420) (.ref 421) 422 769,fQ Hl "Fen.now" u5 737 423,cT,cF,cN 774 ["self","name"],cT,fJ zhg "Fen.mark",cQ zhg "Fen.mark" 771 168 0 2 425 (.ref 427) (.ref 428) 429 777,fQ zhg "Fen.mark" u5 737 430]
noncomputable def c18(P:Params):List Obj:=[cT,cF,cN 782 ["self","name"],cT,fJ zgI "Fen.hand",cQ zgI "Fen.hand" 779 171 0 2 432 (.ref 434) (.ref 435) 436 785,fQ zgI "Fen.hand" u5 737 437,cT,cF,cN 790 ["self","one","other","rise","hand"],cT,fJ zia "Fen.run",cQ zia "Fen.run" 787 174 0 5 439 (.ref 441) (.ref 442) 443 796,fQ zia "Fen.run" u5 737 444,cT,cF,cN 801 ["self","number"],cT,fJ zeS "Fen.strike",cQ zeS "Fen.strike" 798 177 0 2 446 (.ref 448) (.ref 449) 450 804,fQ zeS "Fen.strike" u5 737 451,cT,cF,cN 809 ["self","number","rise"]]
noncomputable def c19(P:Params):List Obj:=[cT,fJ zgO "Fen.mend",cQ zgO "Fen.mend" 806 180 0 3 453 (.ref 455) (.ref 456) 457 813,fQ zgO "Fen.mend" u5 737 458,cT,cF,cN 818 ["self","name"],cT,fJ zeT "Fen.settle",cQ zeT "Fen.settle" 815 183 0 2 460 (.ref 462) (.ref 463) 464 821,fQ zeT "Fen.settle" u5 737 465,cT,cF,cN 826 ["self","hand"],cT,fJ zfK "Fen.aside",cQ zfK "Fen.aside" 823 186 0 2 467 (.ref 469) (.ref 470) 471 829,fQ zfK "Fen.aside" u5 737 472,cT,cF,cN 834 ["self","hand"],cT,fJ zg8 "Fen.heed",cQ zg8 "Fen.heed" 831 189 0 2 474 (.ref 476) (.ref 477) 478 837]
noncomputable def c20(P:Params):List Obj:=[fQ zg8 "Fen.heed" u5 737 479,cT,cF,cN 842 ["self","many"],cT,fJ zfL "Fen.allow",cQ zfL "Fen.allow" 839 192 0 2 481 (.ref 483) (.ref 484) 485 845,fQ zfL "Fen.allow" u5 737 486,cT,cF,cN 850 ["self","row","book"],cT,fJ FQ "Fen.deed",cQ FQ "Fen.deed" 847 195 0 2 488 (.ref 490) (.ref 491) 492 854,fQ FQ "Fen.deed" u5 737 493,cT,cF,cN 859 ["self"],cT,fJ zgV "Fen.back",cQ zgV "Fen.back" 856 204 0 1 495 (.ref 497) (.ref 498) 499 861,fQ zgV "Fen.back" u5 737 500,cT,cF]
noncomputable def c21(P:Params):List Obj:=[cN 866 ["self","row","book"],cT,fJ zfz "Fen.again",cQ zfz "Fen.again" 863 209 0 1 502 (.ref 504) (.ref 505) 506 870,fQ zfz "Fen.again" u5 737 507,cT,cF,cN 875 ["self"],cT,fJ Fo "Fen.deeds",cQ Fo "Fen.deeds" 872 216 0 1 509 (.ref 511) (.ref 512) 513 877,fQ Fo "Fen.deeds" u5 737 514,cT,cF,cN 882 ["self"],cT,fJ zgR "Fen.twin",cQ zgR "Fen.twin" 879 219 0 1 516 (.ref 518) (.ref 519) 520 884,fQ zgR "Fen.twin" u5 737 521,cT,cF,cN 889 ["self"],cT,fJ Kz "Fen.marks"]
noncomputable def c22(P:Params):List Obj:=[cQ Kz "Fen.marks" 886 222 0 1 523 (.ref 525) (.ref 526) 527 891,fQ Kz "Fen.marks" u5 737 528,cT,cF,cN 896 ["self"],cT,fJ Fl "Fen.hands",cQ Fl "Fen.hands" 893 225 0 1 530 (.ref 532) (.ref 533) 534 898,fQ Fl "Fen.hands" u5 737 535,cT,cF,fJ Ip "Fen.asides",cQ Ip "Fen.asides" 900 228 0 1 537 (.none) (.none) 539 904,fQ Ip "Fen.asides" u5 737 540,cT,cF,cN 909 ["self"],cT,fJ Hf "Fen.stands",cQ Hf "Fen.stands" 906 232 0 1 542 (.ref 544) (.ref 545) 546 911,fQ Hf "Fen.stands" u5 737 547,cT,cF,cN 916 ["self"]]
noncomputable def c23(P:Params):List Obj:=[cT,fJ Jf "Fen.allowed",cQ Jf "Fen.allowed" 913 235 0 1 549 (.ref 551) (.ref 552) 553 918,fQ Jf "Fen.allowed" u5 737 554,cT,cF,cN 923 ["self"],cT,fJ Kr "Fen.runs",cQ Kr "Fen.runs" 920 238 0 1 556 (.ref 558) (.ref 559) 560 925,fQ Kr "Fen.runs" u5 737 561,cT,cF,fJ JX "Fen.counting",cQ JX "Fen.counting" 927 241 0 1 563 (.none) (.none) 565 931,fQ JX "Fen.counting" u5 737 566,cT,cF,cN 936 ["self","one","other"],cT,fJ zeO "Fen.height",cQ zeO "Fen.height" 933 244 0 3 568 (.ref 570) (.ref 571) 572 940,fQ zeO "Fen.height" u5 737 573,cT]
noncomputable def c24(P:Params):List Obj:=[cF,cN 945 ["self","one","other"],cT,fJ zfw "Fen.paper",cQ zfw "Fen.paper" 942 247 0 3 575 (.ref 577) (.ref 578) 579 949,fQ zfw "Fen.paper" u5 737 580,cT,cF,cN 954 ["self","one","other"],cT,fJ zdQ "Fen.readings",cQ zdQ "Fen.readings" 951 250 0 3 582 (.ref 584) (.ref 585) 586 958,fQ zdQ "Fen.readings" u5 737 587,cT,cF,cN 963 ["self","name"],cT,fJ zgY "Fen.sank",cQ zgY "Fen.sank" 960 253 0 2 589 (.ref 591) (.ref 592) 593 966,fQ zgY "Fen.sank" u5 737 594,cT,cF,cN 971 ["self"],cT]
noncomputable def c25(P:Params):List Obj:=[fJ zcE "Fen.false_sets",cQ zcE "Fen.false_sets" 968 256 0 1 596 (.ref 598) (.ref 599) 600 973,fQ zcE "Fen.false_sets" u5 737 601,cT,cF,cN 978 ["self"],cT,fJ zfN "Fen.least",cQ zfN "Fen.least" 975 259 0 1 603 (.ref 605) (.ref 606) 607 980,fQ zfN "Fen.least" u5 737 608,cT,cF,cN 985 ["self"],cT,fJ zeV "Fen.groups",cQ zeV "Fen.groups" 982 262 0 1 610 (.ref 612) (.ref 613) 614 987,fQ zeV "Fen.groups" u5 737 615,cT,cF,cN 992 ["self","one","other"],cT,fJ zd9 "Fen.parting",cQ zd9 "Fen.parting" 989 265 0 3 617 (.ref 619) (.ref 620) 621 996,fQ zd9 "Fen.parting" u5 737 622]
noncomputable def c26(P:Params):List Obj:=[cT,cF,cN 1001 ["self","one","other"],cT,fJ zih "Fen.foe",cQ zih "Fen.foe" 998 268 0 3 624 (.ref 626) (.ref 627) 628 1005,fQ zih "Fen.foe" u5 737 629,cN 1007 ["books","kept","undone"],⟨.type "dict",none,.dict #[dE P "__module__" 752 (.str "fenlevel.fen" 737),dE P "__firstlineno__" 756 (.int 158 755),dE P "__init__" 763 (.ref 417),dE P "now" 770 (.ref 424),dE P "mark" 778 (.ref 431),dE P "hand" 786 (.ref 438),dE P "run" 797 (.ref 445),dE P "strike" 805 (.ref 452),dE P "mend" 814 (.ref 459),dE P "settle" 822 (.ref 466),dE P "aside" 830 (.ref 473),dE P "heed" 838 (.ref 480),dE P "allow" 846 (.ref 487),dE P "deed" 855 (.ref 494),dE P "back" 862 (.ref 501),dE P "again" 871 (.ref 508),dE P "deeds" 878 (.ref 515),dE P "twin" 885 (.ref 522),dE P "marks" 892 (.ref 529),dE P "hands" 899 (.ref 536),dE P "asides" 905 (.ref 541),dE P "stands" 912 (.ref 548),dE P "allowed" 919 (.ref 555),dE P "runs" 926 (.ref 562),dE P "counting" 932 (.ref 567),dE P "height" 941 (.ref 574),dE P "paper" 950 (.ref 581),dE P "readings" 959 (.ref 588),dE P "sank" 967 (.ref 595),dE P "false_sets" 974 (.ref 602),dE P "least" 981 (.ref 609),dE P "groups" 988 (.ref 616),dE P "parting" 997 (.ref 623),dE P "foe" 1006 (.ref 630),dE P "__static_attributes__" 1010 (.ref 631),dE P "__dict__" 1012 (.ref 634),dE P "__weakref__" 1014 (.ref 635),dE P "__doc__" 1015 (.none)] 4,#[]⟩,⟨.type "type",none,.cls ⟨"Fen",[.type "object"],[.ref 633,.type "object"],632,"Fen",true,[],[],false,none,false⟩,#[none,none,some (.str "Fen" 745),some (.str "Fen" 753),some (.builtin "object.__new__"),some (.bool true)]⟩,⟨.type "getset_descriptor",none,.fields #[.str "__dict__" 1011,.ref 633,.builtin "function.__dict__",.builtin "function.__dict__#set"],#[]⟩,⟨.type "getset_descriptor",none,.fields #[.str "__weakref__" 1013,.ref 633,.builtin "ExceptionGroup.__weakref__",.none],#[]⟩,kS 633,kI 633,cT,cF,cN 1023 ["_law_script"],cT,fI tY,cO tY 1020 271 0 1 638 (.ref 640) (.ref 641) 642 1025,fO tY u6 1018 643,cT,cF,cN 1030 ["_law_box_here","_law_many","_law_rest","_law_cell","_law_seed"]]
noncomputable def c27(P:Params):List Obj:=[cT,fI Af,cO Af 1027 273 0 2 645 (.ref 647) (.ref 648) 649 1036,fO Af u6 1018 650,cT,cF,fI Ji,cP Ji 1038 289 0 2 652 1042,fO Ji u6 1018 655,cT,cF,fI GZ,cP GZ 1044 299 0 2 657 1048,fO GZ u6 1018 660,cT,cF,cT,cT,fI Kw,cO Kw 1050 313 0 0 662 (.ref 664) (.ref 665) 666 1054,fO Kw u6 1018 667,cT,cF,fI Gy]
noncomputable def c28(P:Params):List Obj:=[cP Gy 1056 315 0 2 669 1060,fO Gy u6 1018 672,cT,cF,cN 1065 ["_law_model_here","_law_name"],cT,fI Fq,cO Fq 1062 317 0 2 674 (.ref 676) (.ref 677) 678 1068,fO Fq u6 1018 679,cT,cF,fI Kp,cP Kp 1070 319 0 1 681 1074,fO Kp u6 1018 684,cT,cF,fI Jd,cP Jd 1076 321 0 1 686 1080,fO Jd u6 1018 689,cT,cF,fI Iz,cP Iz 1082 323 0 2 691 1086,fO Iz u6 1018 694]
noncomputable def c29(P:Params):List Obj:=[cT,cF,cN 1091 ["_law_model_here","_law_deed"],cT,fI Gf,cO Gf 1088 347 0 2 696 (.ref 698) (.ref 699) 700 1094,fO Gf u6 1018 701,cT,cF,cN 1099 ["_law_fen","_law_model_here","_law_deed"],cT,fI J7,cO J7 1096 349 0 3 703 (.ref 705) (.ref 706) 707 1103,fO J7 u6 1018 708,cT,cF,cN 1108 ["_law_fen","_law_found"],cT,fI Im,cO Im 1105 353 0 1 710 (.ref 712) (.ref 713) 714 1111,fO Im u6 1018 715,cT,cF,fI uU]
noncomputable def c30(P:Params):List Obj:=[cP uU 1113 356 0 1 717 1117,fO uU u6 1018 720,cT,cF,cN 1122 ["_law_fen","_law_model_here"],cT,fI Gs,cO Gs 1119 362 0 2 722 (.ref 724) (.ref 725) 726 1125,fO Gs u6 1018 727,cT,cF,cN 1130 ["_law_place_here"],cT,fI Jk,cO Jk 1127 364 0 1 729 (.ref 731) (.ref 732) 733 1132,fO Jk u6 1018 734,cT,cF,cN 1137 ["_law_box_here","_law_model_here","_law_marks_here","_law_hands","_law_at","_law_one","_law_other","_law_rise"],cT,fI JB,cO JB 1134 366 0 2 736 (.ref 738) (.ref 739) 740 1146,fO JB u6 1018 741,cT]
noncomputable def c31(P:Params):List Obj:=[cF,fI HW,cP HW 1148 377 0 4 743 1152,fO HW u6 1018 746,cT,cF,fI HF,cP HF 1154 393 0 1 748 1158,fO HF u6 1018 751,cT,cF,cN 1163 ["_law_fen","_law_deed","_law_found","_law_kinds_here","_law_e"],cT,fI GK,cO GK 1160 402 0 2 753 (.ref 755) (.ref 756) 757 1169,fO GK u6 1018 758,cT,cF,fI HJ,cP HJ 1171 410 0 1 760 1175,fO HJ u6 1018 763,cT,cF,cN 1180 ["_law_model_here","_law_deed"]]
noncomputable def c32(P:Params):List Obj:=[cT,fI Gx,cO Gx 1177 412 0 2 765 (.ref 767) (.ref 768) 769 1183,fO Gx u6 1018 770,cT,cF,cN 1188 ["_law_model_here","_law_deed","_law_word_here","_law_one","_law_other","_law_rise","_law_hand"],cT,fI Hn,cO Hn 1185 422 0 2 772 (.ref 774) (.ref 775) 776 1196,fO Hn u6 1018 777,cT,cF,fI KN,cP KN 1198 433 0 2 779 1202,fO KN u6 1018 782,cT,cF,cN 1207 ["_law_fen","_law_model_here","_law_deed","_law_word_here"],cT,fI Hj,cO Hj 1204 453 0 3 784 (.ref 786) (.ref 787) 788 1212,fO Hj u6 1018 789,cT]
noncomputable def c33(P:Params):List Obj:=[cF,cN 1217 ["_law_box_here","_law_model_here","_law_pool","_law_deed","_law_at","_law_bad","_law_some","_law_thing"],cT,fI Kq,cO Kq 1214 460 0 4 791 (.ref 793) (.ref 794) 795 1226,fO Kq u6 1018 796,cT,cF,cN 1231 ["_law_script","_law_box_here","_law_fen","_law_model_here","_law_pool","_law_k","_law_way","_law_number","_law_marks_here","_law_one","_law_deed","_law_turn"],cT,fI tL,cO tL 1228 470 0 1 798 (.ref 800) (.ref 801) 802 1244,fO tL u6 1018 803]
noncomputable def oB(P:Params)(d c:Obj):List Obj:=c0 P d c++(c1 P++(c2 P++(c3 P++(c4 P++(c5 P++(c6 P++(c7 P++(c8 P++(c9 P++(c10 P++(c11 P++(c12 P++(c13 P++(c14 P++(c15 P++(c16 P++(c17 P++(c18 P++(c19 P++(c20 P++(c21 P++(c22 P++(c23 P++(c24 P++(c25 P++(c26 P++(c27 P++(c28 P++(c29 P++(c30 P++(c31 P++(c32 P++(c33 P)))))))))))))))))))))))))))))))))
noncomputable def e3(P:Params):List DictEntry:=[dE P "__doc__" 166 (.none),dE P "__package__" 167 (.none),dE P "__loader__" 168 (.builtin "__main__.__loader__#opaque"),dE P "__spec__" 169 (.none),dE P "__annotations__" 170 (.ref 6),dE P "__builtins__" 171 (.ref 4),dE P "__file__" 173 (.str "/claim/cut.py" 172),dE P "__cached__" 174 (.none),dE P "_wall" 193 (.ref 21),dE P "FenError" 213 (.ref 31),dE P "BadName" 229 (.ref 44),dE P "Taken" 245 (.ref 56),dE P "Full" 261 (.ref 68),dE P "NoMark" 277 (.ref 80),dE P "NoHand" 293 (.ref 92),dE P "Same" 309 (.ref 104),dE P "BadRise" 325 (.ref 116),dE P "NoRun" 341 (.ref 128),dE P "Aside" 357 (.ref 140),dE P "NotAside" 373 (.ref 152),dE P "BadNumber" 389 (.ref 164),dE P "NothingLeft" 405 (.ref 176),dE P "Steady" 421 (.ref 188),dE P "NoDeed" 437 (.ref 200),dE P "Known" 453 (.ref 212),dE P "NoFen" 469 (.ref 224),dE P "Settled" 485 (.ref 236),dE P "NoPage" 510 (.ref 255),dE P "LETTERS" 514 (.str "abcdefghijklmnopqrstuvwxyz" 513),dE P "LONGEST_NAME" 516 (.int 8 515),dE P "is_made_of" 522 (.ref 262),dE P "is_name" 529 (.ref 269),dE P "marks_of" 537 (.ref 274),dE P "turns_of" 543 (.ref 279),dE P "next_stand" 551 (.ref 286),dE P "last_stand" 560 (.ref 293),dE P "MOST_STANDS" 564 (.int 12 563),dE P "MOST_HANDS" 566 (.int 10 565),dE P "MOST_RUNS" 568 (.int 40 567),dE P "MOST_FALSE" 570 (.int 3 569),dE P "HIGHEST_RISE" 572 (.int 1000000000 571),dE P "empty_book" 578 (.ref 300),dE P "with_entry" 588 (.ref 307),dE P "with_new_stand" 597 (.ref 314),dE P "need_hand" 605 (.ref 321),dE P "need_rise" 612 (.ref 328),dE P "need_run" 618 (.ref 333),dE P "mark_entered" 628 (.ref 340),dE P "hand_entered" 639 (.ref 347),dE P "run_entered" 658 (.ref 354),dE P "run_struck" 664 (.ref 359),dE P "run_mended" 670 (.ref 364),dE P "mark_settled" 682 (.ref 371),dE P "hand_set_aside" 692 (.ref 378),dE P "hand_heeded" 698 (.ref 383),dE P "number_allowed" 708 (.ref 390),dE P "ACTIONS" 727 (.ref 391),dE P "book_behind" 736 (.ref 398),dE P "rows_that_count" 744 (.ref 403),dE P "Fen" 1017 (.ref 633),dE P "_law_box" 1026 (.ref 644),dE P "_law_take" 1037 (.ref 651),dE P "_law_same" 1043 (.ref 656),dE P "_law_names" 1049 (.ref 661),dE P "_law_model" 1055 (.ref 668),dE P "_law_turns" 1061 (.ref 673),dE P "_law_place" 1069 (.ref 680),dE P "_law_marks" 1075 (.ref 685),dE P "_law_counted" 1081 (.ref 690),dE P "_law_done" 1087 (.ref 695),dE P "_law_due_told" 1095 (.ref 702),dE P "_law_step" 1104 (.ref 709),dE P "_law_seen" 1112 (.ref 716),dE P "_law_due" 1118 (.ref 721),dE P "_law_right" 1126 (.ref 728),dE P "_law_truth" 1133 (.ref 735),dE P "_law_run_deed" 1147 (.ref 742),dE P "_law_begun" 1153 (.ref 747),dE P "_law_kinds" 1159 (.ref 752),dE P "_law_tried" 1170 (.ref 759),dE P "_law_named" 1176 (.ref 764),dE P "_law_new_word" 1184 (.ref 771),dE P "_law_run_word" 1197 (.ref 778),dE P "_law_word" 1203 (.ref 783),dE P "_law_judged" 1213 (.ref 790),dE P "_law_bent_deed" 1227 (.ref 797),dE P "law" 1245 (.ref 804)]
noncomputable def d3(P:Params)(x:Str)(t k:Nat):Obj:=⟨.type "dict",none,.dict (dE P "__name__" 165 (.str x t)::(e3 P).take k).toArray (k+1),#[]⟩
noncomputable def v4:List Value:=cV [(1,0,20),(5,0,27),(7,0,40),(9,0,52),(11,0,64),(13,0,76),(15,0,88),(17,0,100),(19,0,112),(21,0,124),(23,0,136),(25,0,148),(27,0,160),(29,0,172),(31,0,184),(33,0,196),(35,0,208),(37,0,220),(39,0,232),(41,0,244),(48,0,261),(50,0,268),(53,0,273),(55,0,278),(57,0,285),(59,0,292),(70,0,299),(72,0,306),(76,0,313),(81,0,320),(84,0,327),(87,0,332),(90,0,339),(97,0,346),(107,0,353),(120,0,358),(124,0,363),(130,0,370),(134,0,377),(140,0,382),(146,0,389),(152,0,397),(156,0,402),(158,0,409),(271,0,643),(273,0,650),(289,0,655),(299,0,660),(313,0,667),(315,0,672),(317,0,679),(319,0,684),(321,0,689),(323,0,694),(347,0,701),(349,0,708),(353,0,715),(356,0,720),(362,0,727),(364,0,734),(366,0,741),(377,0,746),(393,0,751),(402,0,758),(410,0,763),(412,0,770),(422,0,777),(433,0,782),(453,0,789),(460,0,796),(470,0,803)]
noncomputable def d4(k:Nat):Obj:=⟨.none,none,.fields (v4.take k).toArray,#[]⟩
noncomputable def bE:List Stmt:=PySem.W.behindTheImports PySem.Challenge.pw_fenlevel_k26_runs_entered_struck_and_men
noncomputable def eN:PySem.Env:={scope:=(PySem.Challenge.pw_fenlevel_k26_runs_entered_struck_and_men).main.scope,locals:=mainNs,globals:=mainNs,cells:=[],code:=.ref 13,frame:=some 14}
noncomputable def cB:Code:=.body bE eN
noncomputable def fB:List Frame:=[topFrame ⟨0,0,0,0⟩]
noncomputable def sA(w:PySem.World)(os:OsState):Shared:=⟨⟨⟨(oB w.params (d3 w.params "__main__" 164 8) (d4 0)).take 15⟩,{}⟩,#[],{},187,os⟩
noncomputable abbrev sX(x:Str)(a b c n k t:Nat)(w:PySem.World)(os:OsState):SharedT:=⟨bT (λi=>(oB w.params (d3 w.params x a b) (d4 c)).getD i cT) n k 1 0,n,{},#[],{},t,os⟩
noncomputable def sB0:=sX u0 164 8 0 15 12 187
noncomputable def x31(n:Nat):Obj:=⟨.type "type",none,.cls ⟨"FenError",[.type "ValueError"],[.ref 31,.type "ValueError",.type "Exception",.type "BaseException",.type "object"],30,"FenError",true,[],(([.ref 44,.ref 56,.ref 68,.ref 80,.ref 92,.ref 104,.ref 116,.ref 128,.ref 140,.ref 152,.ref 164,.ref 176,.ref 188,.ref 200,.ref 212,.ref 224,.ref 236,.ref 255]:List Value).take n),false,none,false⟩,#[some (.ref 22),none,some (.str "FenError" 196),some (.str "FenError" 204),some (.builtin "ValueError.__new__"),some (.bool true)]⟩
noncomputable abbrev sY(j:Nat)(x:Str)(a b c n k t:Nat)(w:PySem.World)(os:OsState):SharedT:=⟨bT (λi=>bif Nat.beq i 31 then x31 j else(oB w.params (d3 w.params x a b) (d4 c)).getD i cT) n k 1 0,n,{},#[],{},t,os⟩
noncomputable def sB1:=sY 0 u1 194 10 6 35 12 214
noncomputable def sB2:=sY 1 u1 194 11 9 47 12 230
noncomputable def sB3:=sY 2 u1 194 12 12 59 12 246
noncomputable def sB4:=sY 3 u1 194 13 15 71 12 262
noncomputable def sB5:=sY 4 u1 194 14 18 83 12 278
noncomputable def sB6:=sY 5 u1 194 15 21 95 12 294
noncomputable def sB7:=sY 6 u1 194 16 24 107 12 310
noncomputable def sB8:=sY 7 u1 194 17 27 119 12 326
noncomputable def sB9:=sY 8 u1 194 18 30 131 12 342
noncomputable def Fz:=sY 9 u1 194 19 33 143 12 358
noncomputable def Il:=sY 10 u1 194 20 36 155 12 374
noncomputable def JL:=sY 11 u1 194 21 39 167 12 390
noncomputable def Ja:=sY 12 u1 194 22 42 179 12 406
noncomputable def Hm:=sY 13 u1 194 23 45 191 12 422
noncomputable def JW:=sY 14 u1 194 24 48 203 12 438
noncomputable def Jq:=sY 15 u1 194 25 51 215 12 454
noncomputable def Gh:=sY 16 u1 194 26 54 227 12 470
noncomputable def Ib:=sY 17 u1 194 27 57 239 12 486
noncomputable def Jv:=sX u3 530 34 72 280 12 544
noncomputable def Hh:=sX u4 561 50 105 355 12 659
noncomputable def uG:=sX u4 561 56 123 391 12 709
noncomputable def vJ:=sX u4 561 57 123 392 12 728
noncomputable def J1:=sX u5 737 59 129 404 12 745
noncomputable def Hs:=sX u5 737 60 132 638 12 1018
noncomputable def G9:=sX u6 1018 73 171 717 12 1113
noncomputable def HD:=sX u6 1018 86 210 798 12 1228
noncomputable def Ku:=sX u6 1018 87 213 805 12 1246
noncomputable def hE(P:Params):Heap:=⟨⟨oB P (d3 P "law_fenlevel_k26_runs_entered_struck_and_men" 1018 87) (d4 213)⟩,{}⟩
noncomputable def St0:Prop:=∀(w:PySem.World)(os:OsState),topGo treeTable PySem.Challenge.pw_fenlevel_k26_runs_entered_struck_and_men w 11 (some (.ref 6)) 12 ⟨PySem.W.boot_heap w.params,Array.mk [],PySem.W.boot_drawn,PySem.W.boot_toks,os⟩ (topStub PySem.Challenge.pw_fenlevel_k26_runs_entered_struck_and_men)=some (sA w os,⟨denote treeTable cB,cB,⟨0,0,0,0⟩,fB⟩)
noncomputable def St1:Prop:=∀(w:PySem.World)(os:OsState),segRun treeTable PySem.Challenge.pw_fenlevel_k26_runs_entered_struck_and_men w 11 (some (.ref 6)) 1 1 (sA w os) (blockOf bE eN cB ⟨0,0,0,0⟩ fB)=some (.next,(sB0 w os).abs,cB,⟨0,0,0,0⟩)
noncomputable abbrev Sg(n a k:Nat)(s s':PySem.World->OsState->SharedT)(p q:Pos):Prop:=∀(w:PySem.World)(os:OsState),segRunT treeTable PySem.Challenge.pw_fenlevel_k26_runs_entered_struck_and_men w 11 (some (.ref 6)) 1 n (s w os) (piecesOf ((bE.drop a).take k) eN cB p fB)=some (.next,s' w os,cB,q)
noncomputable def St2:Prop:=Sg 225 0 3 sB0 sB1 ⟨0,0,0,0⟩ ⟨5,0,6,8⟩
noncomputable def St3:Prop:=Sg 214 3 1 sB1 sB2 ⟨5,0,6,8⟩ ⟨7,0,8,8⟩
noncomputable def St4:Prop:=Sg 214 4 1 sB2 sB3 ⟨7,0,8,8⟩ ⟨9,0,10,8⟩
noncomputable def St5:Prop:=Sg 214 5 1 sB3 sB4 ⟨9,0,10,8⟩ ⟨11,0,12,8⟩
noncomputable def St6:Prop:=Sg 214 6 1 sB4 sB5 ⟨11,0,12,8⟩ ⟨13,0,14,8⟩
noncomputable def St7:Prop:=Sg 214 7 1 sB5 sB6 ⟨13,0,14,8⟩ ⟨15,0,16,8⟩
noncomputable def St8:Prop:=Sg 214 8 1 sB6 sB7 ⟨15,0,16,8⟩ ⟨17,0,18,8⟩
noncomputable def St9:Prop:=Sg 214 9 1 sB7 sB8 ⟨17,0,18,8⟩ ⟨19,0,20,8⟩
noncomputable def St10:Prop:=Sg 214 10 1 sB8 sB9 ⟨19,0,20,8⟩ ⟨21,0,22,8⟩
noncomputable def St11:Prop:=Sg 214 11 1 sB9 Fz ⟨21,0,22,8⟩ ⟨23,0,24,8⟩
noncomputable def St12:Prop:=Sg 214 12 1 Fz Il ⟨23,0,24,8⟩ ⟨25,0,26,8⟩
noncomputable def St13:Prop:=Sg 214 13 1 Il JL ⟨25,0,26,8⟩ ⟨27,0,28,8⟩
noncomputable def St14:Prop:=Sg 214 14 1 JL Ja ⟨27,0,28,8⟩ ⟨29,0,30,8⟩
noncomputable def St15:Prop:=Sg 214 15 1 Ja Hm ⟨29,0,30,8⟩ ⟨31,0,32,8⟩
noncomputable def St16:Prop:=Sg 214 16 1 Hm JW ⟨31,0,32,8⟩ ⟨33,0,34,8⟩
noncomputable def St17:Prop:=Sg 214 17 1 JW Jq ⟨33,0,34,8⟩ ⟨35,0,36,8⟩
noncomputable def St18:Prop:=Sg 214 18 1 Jq Gh ⟨35,0,36,8⟩ ⟨37,0,38,8⟩
noncomputable def St19:Prop:=Sg 214 19 1 Gh Ib ⟨37,0,38,8⟩ ⟨39,0,40,8⟩
noncomputable def St20:Prop:=Sg 389 20 9 Ib Jv ⟨39,0,40,8⟩ ⟨55,0,56,63⟩
noncomputable def St21:Prop:=Sg 398 29 17 Jv Hh ⟨55,0,56,63⟩ ⟨107,0,119,89⟩
noncomputable def St22:Prop:=Sg 177 46 6 Hh uG ⟨107,0,119,89⟩ ⟨146,0,150,44⟩
noncomputable def St23f:Prop:=∀(w:PySem.World)(os:OsState),segRunT treeTable PySem.Challenge.pw_fenlevel_k26_runs_entered_struck_and_men (w.withFollow "special-get-raises" false) 11 (some (.ref 6)) 1 155 (uG (w.withFollow "special-get-raises" false) os) (piecesOf ((bE.drop 52).take 1) eN cB ⟨146,0,150,44⟩ fB)=some (.next,vJ (w.withFollow "special-get-raises" false) os,cB,⟨151,0,151,7⟩)
noncomputable def St23t:Prop:=∀(w:PySem.World)(os:OsState),segRunT treeTable PySem.Challenge.pw_fenlevel_k26_runs_entered_struck_and_men (w.withFollow "special-get-raises" true) 11 (some (.ref 6)) 1 155 (uG (w.withFollow "special-get-raises" true) os) (piecesOf ((bE.drop 52).take 1) eN cB ⟨146,0,150,44⟩ fB)=some (.next,vJ (w.withFollow "special-get-raises" true) os,cB,⟨151,0,151,7⟩)
noncomputable def St24:Prop:=Sg 67 53 3 vJ J1 ⟨151,0,151,7⟩ ⟨156,0,157,71⟩
noncomputable def St25:Prop:=Sg 1207 56 1 J1 Hs ⟨156,0,157,71⟩ ⟨158,0,269,16⟩
noncomputable def St26:Prop:=Sg 377 57 14 Hs G9 ⟨158,0,269,16⟩ ⟨353,0,355,42⟩
noncomputable def St27:Prop:=Sg 392 71 13 G9 HD ⟨353,0,355,42⟩ ⟨460,0,469,72⟩
noncomputable def St28:Prop:=Sg 41 84 1 HD Ku ⟨460,0,469,72⟩ ⟨470,0,494,15⟩
noncomputable def St29:Prop:=∀(w:PySem.World)(os:OsState),topRun treeTable PySem.Challenge.pw_fenlevel_k26_runs_entered_struck_and_men w 11 (some (.ref 6)) 2 (Ku w os).abs ⟨doneF .next,cB,⟨470,0,494,15⟩,fB⟩=some ⟨hE w.params,#[],{},1246,os⟩
noncomputable def vw:Program:={PySem.Challenge.pw_fenlevel_k26_runs_entered_struck_and_men with main:={(PySem.Challenge.pw_fenlevel_k26_runs_entered_struck_and_men).main with body:=[top 0,top 2,top 3,top 4,top 5,top 6,top 7,top 8,top 9,top 10,top 11,top 12,top 13,top 14,top 15,top 16,top 17,top 18,top 19,top 20,top 22,top 23,top 24,top 25,top 27,top 28,top 29,top 30,top 32,top 33,top 34,top 35,top 36,top 37,top 38,top 39,top 40,top 41,top 42,top 43,top 44,top 45,top 46,top 47,top 48,top 49,top 50,top 51,top 52,top 53,top 55,top 56,top 58,top 59,top 60,top 61,top 62,top 63,top 64,top 65,top 66,top 67,top 68,top 69,top 70,top 71,top 72,top 73,top 74,top 75,top 76,top 77,top 78,top 79,top 80,top 81,top 82,top 83,top 84]}}
noncomputable def hA:List Addr:=[3,261,262,268,269,273,274,278,279,285,286,292,293,299,300,306,307,313,314,320,321,327,328,332,333,339,340,346,347,353,354,358,359,363,364,370,371,389,390,397,398,402,403,643,644,650,651,655,656,660,661,667,668,672,673,679,680,684,685,689,690,694,695,701,702,708,709,715,716,720,721,727,728,734,735,741,742,746,747,751,752,758,759,763,764,770,771,777,778,782,783,789,790,796,797,803,804,416,417,423,424,493,494,514,515,528,529,535,536,540,541,547,548,554,555,561,562,566,567,24,30,31,37,43,44,49,55,56,61,67,68,73,79,80,85,91,92,97,103,104,109,115,116,121,127,128,133,139,140,145,151,152,157,163,164,169,175,176,181,187,188,193,199,200,205,211,212,217,223,224,229,235,236,241,254,255,391,406,632,633]
noncomputable def hK(P:Params):List (Nat×Obj):=hA.map λa=>(a,(oB P (d3 P "law_fenlevel_k26_runs_entered_struck_and_men" 1018 87) (d4 213)).getD a cT)
noncomputable def hH:PySem.W.Hook:=kHook hK hA (λ_=>by kernel_rfl)
noncomputable def xT(s:Shared):Bool:=xlAt vw [] s&&recOk (RowW.records (PySem.Challenge.rw_fenlevel_k26_runs_entered_struck_and_men).row.toRowW) s
noncomputable def StZ:Prop:=∀w:PySem.World,((PySem.W.boot_heap w.params).isNs mainGlobals&&(Array.mk []:Array GenState).size==0,(PySem.W.boot_heap w.params).objs.size,(PySem.W.boot_heap w.params).nsMap mainGlobals "__annotations__")=(true,11,some (.ref 6))
noncomputable def StA:Prop:=∀(w:PySem.World)(os:OsState),(staticsOk (importedModules (PySem.Challenge.pw_fenlevel_k26_runs_entered_struck_and_men).main.body) (PySem.W.boot_heap w.params) (hE w.params)&&namesBound PySem.Challenge.pw_fenlevel_k26_runs_entered_struck_and_men (hE w.params)&&gensDone ⟨hE w.params,#[],{},1246,os⟩&&laidKept (PySem.W.boot_heap w.params) (hE w.params))=true
noncomputable def StB0:Prop:=∀(w:PySem.World)(os:OsState),seen (List.map (λx=>x.name) (recsOf vw)) (ownsOf vw) [] {heap:=(⟨hE w.params,#[],{},1246,os⟩:Shared).heap,drawn:=(⟨hE w.params,#[],{},1246,os⟩:Shared).drawn,toks:=(⟨hE w.params,#[],{},1246,os⟩:Shared).toks,os:=(⟨hE w.params,#[],{},1246,os⟩:Shared).os}=expectedOf vw
noncomputable def StB1:Prop:=∀(w:PySem.World)(os:OsState),(⟨hE w.params,#[],{},1246,os⟩:Shared).heap.bltView=bltViewBooted
noncomputable def StB2:Prop:=∀(w:PySem.World)(os:OsState),((⟨hE w.params,#[],{},1246,os⟩:Shared).heap.keysOk (looseW vw ["ACTIONS"]) (List.map (λx=>x.name) (recsOf vw)) (List.map (λx=>x.fst) (litsOf vw)) (List.map (λx=>x.name) (clssOf vw (looseW vw ["ACTIONS"])))&&(⟨hE w.params,#[],{},1246,os⟩:Shared).heap.accountedOkI (importedModules (PySem.Challenge.pw_fenlevel_k26_runs_entered_struck_and_men).main.body)&&(⟨hE w.params,#[],{},1246,os⟩:Shared).heap.isNs mainGlobals&&(⟨hE w.params,#[],{},1246,os⟩:Shared).heap.isNs builtinsNs&&tablesOk vw (⟨hE w.params,#[],{},1246,os⟩:Shared).heap&&xT (⟨hE w.params,#[],{},1246,os⟩:Shared)&&if true=true then(⟨hE w.params,#[],{},1246,os⟩:Shared).gens.size==0 else !leftWithCleanup (⟨hE w.params,#[],{},1246,os⟩:Shared).gens)=true
noncomputable def StB3:Prop:=∀(w:PySem.World)(os:OsState),tabsOk vw (⟨hE w.params,#[],{},1246,os⟩:Shared)=true
noncomputable def StB4:Prop:=∀(w:PySem.World)(os:OsState),pinSeenD vw (drecsOf vw) (⟨hE w.params,#[],{},1246,os⟩:Shared)=pinGoodD (drecsOf vw)
noncomputable def StB5:Prop:=∀(w:PySem.World)(os:OsState),plainSeenE vw (looseW vw ["ACTIONS"]) (⟨hE w.params,#[],{},1246,os⟩:Shared)=plainGoodE vw (looseW vw ["ACTIONS"])
noncomputable def StB6:Prop:=∀(w:PySem.World)(os:OsState),plainSeenD vw ["ACTIONS"] (⟨hE w.params,#[],{},1246,os⟩:Shared)=plainGoodD vw ["ACTIONS"]
noncomputable def StB7:Prop:=∀(w:PySem.World)(os:OsState),wideSeen vw (⟨hE w.params,#[],{},1246,os⟩:Shared)=wideGood vw
noncomputable def StB8:Prop:=∀(w:PySem.World)(os:OsState),clsSeenW vw ["ACTIONS"] (⟨hE w.params,#[],{},1246,os⟩:Shared)=clsGoodW vw ["ACTIONS"]
noncomputable def StC:Prop:=∀(w:PySem.World)(os:OsState),hH.obs ⟨hE w.params,#[],{},1246,os⟩=hH.val w
def pr0:(Function.const Prop true (St0/\St1/\St2/\St3/\St4/\St5/\St6/\St7/\St8/\St9/\St10/\St11/\St12/\St13/\St14/\St15/\St16/\St17/\St18/\St19/\St20/\St21/\St22/\St23f/\St23t/\St24/\St25/\St26/\St27/\St28/\St29/\StZ/\StA/\StC/\StB0/\StB1/\StB2/\StB3/\StB4/\StB5/\StB6/\StB7/\StB8))=true:=by k_qdec
def th0:St0:=PySem.W.Fast.te937873346748051313.mpr (λ_ _=>by kernel_rfl)
def th1:St1:=PySem.W.Fast.te13982121027552719780.mpr (λ_ _=>by kernel_rfl)
def th2:St2:=PySem.W.Fast.te10105581574835445100.mpr (λ_ _=>by kernel_rfl)
def th3:St3:=PySem.W.Fast.te16437609458486848278.mpr (λ_ _=>by kernel_rfl)
def th4:St4:=PySem.W.Fast.te13904560402631476566.mpr (λ_ _=>by kernel_rfl)
def th5:St5:=PySem.W.Fast.te6988618110474044161.mpr (λ_ _=>by kernel_rfl)
def th6:St6:=PySem.W.Fast.te18292254230441717836.mpr (λ_ _=>by kernel_rfl)
def th7:St7:=PySem.W.Fast.te529641759280289813.mpr (λ_ _=>by kernel_rfl)
def th8:St8:=PySem.W.Fast.te7437064661015581292.mpr (λ_ _=>by kernel_rfl)
def th9:St9:=PySem.W.Fast.te4606531515639888929.mpr (λ_ _=>by kernel_rfl)
def th10:St10:=PySem.W.Fast.te15510853610054682074.mpr (λ_ _=>by kernel_rfl)
def th11:St11:=PySem.W.Fast.te5240782450552466234.mpr (λ_ _=>by kernel_rfl)
def th12:St12:=PySem.W.Fast.te7108782601475264861.mpr (λ_ _=>by kernel_rfl)
def th13:St13:=PySem.W.Fast.te17593090959831443907.mpr (λ_ _=>by kernel_rfl)
def th14:St14:=PySem.W.Fast.te17107273594779919526.mpr (λ_ _=>by kernel_rfl)
def th15:St15:=PySem.W.Fast.te17243388535409573341.mpr (λ_ _=>by kernel_rfl)
def th16:St16:=PySem.W.Fast.te14404611098126276643.mpr (λ_ _=>by kernel_rfl)
def th17:St17:=PySem.W.Fast.te5912113124307076037.mpr (λ_ _=>by kernel_rfl)
def th18:St18:=PySem.W.Fast.te9202431027644133851.mpr (λ_ _=>by kernel_rfl)
def th19:St19:=PySem.W.Fast.te1298850943296278361.mpr (λ_ _=>by kernel_rfl)
def th20:St20:=PySem.W.Fast.te423298498317574896.mpr (λ_ _=>by kernel_rfl)
def th21:St21:=PySem.W.Fast.te4749471772407743023.mpr (λ_ _=>by kernel_rfl)
def th22:St22:=PySem.W.Fast.te18414147907704405220.mpr (λ_ _=>by kernel_rfl)
def zv5:St23f:=PySem.W.Fast.te1065193176661006034.mpr (λ_ _=>by kernel_rfl)
def zww:St23t:=PySem.W.Fast.te1617264949379656403.mpr (λ_ _=>by kernel_rfl)
def th24:St24:=PySem.W.Fast.te5501303934203520444.mpr (λ_ _=>by kernel_rfl)
def th25:St25:=PySem.W.Fast.te15091059926794672290.mpr (λ_ _=>by kernel_rfl)
def th26:St26:=PySem.W.Fast.te18199379131982608850.mpr (λ_ _=>by kernel_rfl)
def th27:St27:=PySem.W.Fast.te10612502952372261059.mpr (λ_ _=>by kernel_rfl)
def th28:St28:=PySem.W.Fast.te13313099552810353380.mpr (λ_ _=>by kernel_rfl)
def th29:St29:=PySem.W.Fast.te28573087831060645.mpr (λ_ _=>by kernel_rfl)
def thZ:StZ:=PySem.W.Fast.te16988565736444548789.mpr (λ_=>by kernel_rfl)
def thA:StA:=PySem.W.Fast.te17744963595637626835.mpr (λ_ _=>by kernel_rfl)
def thC:StC:=PySem.W.Fast.te1647357278597937641.mpr (λ_ _=>by kernel_rfl)
def thB0:StB0:=PySem.W.Fast.te16712540127745682568.mpr (λ_ _=>by kernel_rfl)
def thB1:StB1:=PySem.W.Fast.te9537947621804818233.mpr (λ_ _=>by kernel_rfl)
def thB2:StB2:=PySem.W.Fast.te6993315812243800469.mpr (λ_ _=>by kernel_rfl)
def thB3:StB3:=PySem.W.Fast.te11528826059950916358.mpr (λ_ _=>by kernel_rfl)
def thB4:StB4:=PySem.W.Fast.te10105630229643876845.mpr (λ_ _=>by kernel_rfl)
def thB5:StB5:=PySem.W.Fast.te14736738506286536821.mpr (λ_ _=>by kernel_rfl)
def thB6:StB6:=PySem.W.Fast.te7690871981798463819.mpr (λ_ _=>by kernel_rfl)
def thB7:StB7:=PySem.W.Fast.te7594569300429222660.mpr (λ_ _=>by kernel_rfl)
def thB8:StB8:=PySem.W.Fast.te15082058975717902005.mpr (λ_ _=>by kernel_rfl)
def th23:∀(w:PySem.World)(os:OsState),segRunT treeTable PySem.Challenge.pw_fenlevel_k26_runs_entered_struck_and_men w 11 (some (.ref 6)) 1 155 (uG w os) (piecesOf ((bE.drop 52).take 1) eN cB ⟨146,0,150,44⟩ fB)=some (.next,vJ w os,cB,⟨151,0,151,7⟩):=λw=>byRow2 "special-get-raises" (P:=λw=>∀os:OsState,segRunT treeTable PySem.Challenge.pw_fenlevel_k26_runs_entered_struck_and_men w 11 (some (.ref 6)) 1 155 (uG w os) (piecesOf ((bE.drop 52).take 1) eN cB ⟨146,0,150,44⟩ fB)=some (.next,vJ w os,cB,⟨151,0,151,7⟩)) (λw=>zv5 w) (λw=>zww w) w
def gr{tb:String->Option Builtin}{p:Program}{w:PySem.World}{n₀:Nat}{ann:Option Value}{env:PySem.Env}{q:Pos}{n N:Nat}{s s' r:Shared}{c:Code}{pos p':Pos}(l:List Stmt)(a k:Nat)(h:segRun tb p w n₀ ann 1 n s (piecesOf ((l.drop a).take k) env c pos [topFrame q])=some (.next,s',c,p'))
  (z:topRun tb p w n₀ ann N s' (restOf (l.drop (a+k)) env c p' [topFrame q])=some r):topRun tb p w n₀ ann (n+N) s (restOf (l.drop a) env c pos [topFrame q])=some r:=by
 have:=piece_app (rest:=(l.drop a).drop k) h (by rw[List.drop_drop];exact z)
 rwa[List.take_append_drop]at this
def zst:bE.drop 85=[]:=by kernel_rfl
def zrN:∀(w:PySem.World)(os:OsState),topRun treeTable PySem.Challenge.pw_fenlevel_k26_runs_entered_struck_and_men w 11 (some (.ref 6)) (12+(1+(225+(214+(214+(214+(214+(214+(214+(214+(214+(214+(214+(214+(214+(214+(214+(214+(214+(214+(389+(398+(177+(155+(67+(1207+(377+(392+(41+2))))))))))))))))))))))))))))) ⟨PySem.W.boot_heap w.params,Array.mk [],PySem.W.boot_drawn,PySem.W.boot_toks,os⟩ (topStub PySem.Challenge.pw_fenlevel_k26_runs_entered_struck_and_men)=some ⟨hE w.params,#[],{},1246,os⟩:=λw os=>
 go_top (th0 w os) (piece_block (th1 w os) (gr bE 0 3 (YAS (th2 w os)) (gr bE 3 1 (YAS (th3 w os)) (gr bE 4 1 (YAS (th4 w os)) (gr bE 5 1 (YAS (th5 w os)) (gr bE 6 1 (YAS (th6 w os)) (gr bE 7 1 (YAS (th7 w os)) (gr bE 8 1 (YAS (th8 w os)) (gr bE 9 1 (YAS (th9 w os)) (gr bE 10 1 (YAS (th10 w os)) (gr bE 11 1 (YAS (th11 w os)) (gr bE 12 1 (YAS (th12 w os)) (gr bE 13 1 (YAS (th13 w os)) (gr bE 14 1 (YAS (th14 w os)) (gr bE 15 1 (YAS (th15 w os)) (gr bE 16 1 (YAS (th16 w os)) (gr bE 17 1 (YAS (th17 w os)) (gr bE 18 1 (YAS (th18 w os)) (gr bE 19 1 (YAS (th19 w os)) (gr bE 20 9 (YAS (th20 w os)) (gr bE 29 17 (YAS (th21 w os)) (gr bE 46 6 (YAS (th22 w os)) (gr bE 52 1 (YAS (th23 w os)) (gr bE 53 3 (YAS (th24 w os)) (gr bE 56 1 (YAS (th25 w os)) (gr bE 57 14 (YAS (th26 w os)) (gr bE 71 13 (YAS (th27 w os)) (gr bE 84 1 (YAS (th28 w os)) (by rw[zst];exact piece_nil (th29 w os))))))))))))))))))))))))))))))
def Aj:LeftO PySem.Challenge.pw_fenlevel_k26_runs_entered_struck_and_men vw ["ACTIONS"] xT hH.obs hH.val 14204:=
 LeftO.of_pieces (boot_open (by kernel_rfl) (by kernel_rfl) (λ_=>by kernel_rfl)) thZ zrN (by kernel_rfl) λw=>funext λos=>looks_pair (thA w os) (looks_pair (show openSeen vw ["ACTIONS"] (importedModules (PySem.Challenge.pw_fenlevel_k26_runs_entered_struck_and_men).main.body) xT true ⟨hE w.params,#[],{},1246,os⟩=openGood vw ["ACTIONS"]from congr (congrArg Prod.mk (thB0 w os)) (congr (congrArg Prod.mk (thB1 w os)) (congr (congrArg Prod.mk (thB2 w os)) (congr (congrArg Prod.mk (thB3 w os)) (congr (congrArg Prod.mk (thB4 w os)) (congr (congrArg Prod.mk (thB5 w os)) (congr (congrArg Prod.mk (thB6 w os)) (congr (congrArg Prod.mk (thB7 w os)) (thB8 w os))))))))) (thC w os))
end
end Hd
namespace Fd
open PySem L2 Fen Hd
def us0{p:List Value->Prop}(k:p []):∀us:List Value,us.length=0->p us
 |[],_=>k
def usS{p:List Value->Prop}{n:Nat}(k:∀(a:Value) (us:List Value),us.length=n->p (a::us)):∀us:List Value,us.length=n+1->p us
 |a::us,h=>k a us (Nat.succ.inj h)
noncomputable def fdOf(P:Params)(f:Addr):FuncData:=match List.lookup f (hK P)with
 |some ⟨_,_,.func d,_⟩=>d
 |_=>fD "" (.Pass ⟨0,0,0,0⟩) "" 0 0
noncomputable def Kd(P:Params)(f:Addr):Addr:=match (fdOf P f).code with
 |.ref c=>c
 |_=>0
noncomputable def fmOf(P:Params)(f:Addr):Value:=(fdOf P f).pyModule
noncomputable abbrev fE(P:Params)(x u:Str)(s:Stmt)(f:Addr):FuncData:=PySem.W.fnOf x u (uZ s) (nW s) (gC s) .none .none .none (fmOf P f) none (.ref (Kd P f)) .none
def fF{P:Params}(x u:Str)(s:Stmt)(f:Addr)(l:List.lookup f (hK P)=some ⟨.type "function",none,.func (fE P x u s f),#[]⟩:=by kernel_rfl)(y:PySem.W.codeIn (hK P) (.ref (Kd P f)) u=true:=by kernel_rfl):bZ (hK P) x u s f (fE P x u s f):=⟨⟨_,_,_,_,_,_,_,_,_,rfl,l,y⟩,by simp only[PySem.W.keepIn,l]⟩
def wA{w:PySem.World}{x u:Str}{s:Stmt}{f:Addr}{ps:List Str}(F:bZ (hK w.params) x u s f (fE w.params x u s f))(b:∀(kV doc pm:Value) (an:Option Addr) (cdv ct:Value) (us:List Value),us.length=ps.length->bindArgs (PySem.W.fnOf x u (uZ s) (nW s) (gC s) .none kV doc pm an cdv ct) ⟨us,[]⟩=pure (ps.zip us):=by(intro _ _ _ _ _ _;repeat (first|exact us0 rfl|refine usS λ_=>?_))):Binds (hK w.params) (fE w.params x u s f) ps []:=F.binds b
def mkC{P:Program}{w:PySem.World}{base h:Heap}{mg:Str->Option Value}(X:PySem.W.Frag.In (hK w.params) h)(G:h.Ns mainGlobals mg){k:Nat}{ps:List Str}{sp:Sp}(x:Str)(s:Stmt)(f:Addr)(ok:∀{fd:FuncData},bZ (hK w.params) x x s f fd->aM P w (hK w.params) mg base cR k f fd ps sp)
  (F:bZ (hK w.params) x x s f (fE w.params x x s f):=by exact fF _ _ _ _) (m:PySem.W.nsIn (hK w.params) mainGlobals x=some (some (.ref f)):=by kernel_rfl)
  (b:∀(kV doc pm:Value)(an:Option Addr)(cdv ct:Value)(us:List Value),us.length=ps.length->bindArgs (PySem.W.fnOf x x (uZ s) (nW s) (gC s) .none kV doc pm an cdv ct) ⟨us,[]⟩=pure (ps.zip us):=by(intro _ _ _ _ _ _;repeat (first|exact us0 rfl|refine usS λ_=>?_))):fG P w (hK w.params) mg base x k ps sp:=
 fG.of F (ok F) (YAY X G m) (F.binds b)
def mkX{P:Program}{w:PySem.World}{base h:Heap}{mg:Str->Option Value}(X:PySem.W.Frag.In (hK w.params) h)(G:h.Ns mainGlobals mg){k:Nat}{ps:List Str}{sp:Sp}(x:Str)(s:Stmt)(f:Addr)(ok:∀{fd:FuncData},bZ (hK w.params) x x s f fd->aM P w (hK w.params) mg base (dj P w) k f fd ps sp)
  (F:bZ (hK w.params) x x s f (fE w.params x x s f):=by exact fF _ _ _ _) (m:PySem.W.nsIn (hK w.params) mainGlobals x=some (some (.ref f)):=by kernel_rfl)
  (b:∀(kV doc pm:Value)(an:Option Addr)(cdv ct:Value)(us:List Value),us.length=ps.length->bindArgs (PySem.W.fnOf x x (uZ s) (nW s) (gC s) .none kV doc pm an cdv ct) ⟨us,[]⟩=pure (ps.zip us):=by(intro _ _ _ _ _ _;repeat (first|exact us0 rfl|refine usS λ_=>?_))):gZ P w (hK w.params) mg base x k ps sp:=
 gZ.of F (ok F) (YAY X G m) (F.binds b)
def mkM{P:Program}{w:PySem.World}{base:Heap}{mg:Str->Option Value}{CX:mO}{C:Addr}(c:nP (hK w.params) C){k:Nat}{ps:List Str}{sp:Sp}(x u:Str)(s:Stmt)(f:Addr)(ok:∀{fd:FuncData},bZ (hK w.params) x u s f fd->aM P w (hK w.params) mg base CX k f fd ps sp)
  (m:PySem.W.findIn (hK w.params) (.ref C) x=some (some (.ref f)):=by kernel_rfl) (i:PySem.W.isFn (hK w.params) (.ref f)=true:=by kernel_rfl) (F:bZ (hK w.params) x u s f (fE w.params x u s f):=by exact fF _ _ _ _)
  (b:∀(kV doc pm:Value)(an:Option Addr)(cdv ct:Value)(us:List Value),us.length=ps.length->bindArgs (PySem.W.fnOf x u (uZ s) (nW s) (gC s) .none kV doc pm an cdv ct) ⟨us,[]⟩=pure (ps.zip us):=by(intro _ _ _ _ _ _;repeat (first|exact us0 rfl|refine usS λ_=>?_))):Met P w (hK w.params) mg base CX C x k ps sp:=
 ⟨f,_,ok F,c,⟨m,i,F.kp⟩,F.binds b⟩
abbrev aD:gK:=⟨633,340,347,354,359,364,371,378,383,390⟩
def all_mk{l:PySem.W.OpenLaw}{w:PySem.World}{h:Heap}{mg:Str->Option Value}{fa:Addr}(X:PySem.W.Frag.In (hK w.params) h)(G:h.Ns mainGlobals mg)(hfa:mg "law"=some (.ref fa)) :
  ∃fd:FuncData,(∀(s:Shared)(v:Value),BindsTo s fd ⟨[v],[]⟩ [("_law_script",v)])/\∀base:Heap,PySem.W.Frag.In (hK w.params) base->base.Ns mainGlobals mg->aM l.prog w (hK w.params) mg base cR 10 fa fd ["_law_script"] (Ir (hK w.params)):=by
 have e:=hfa.symm.trans (YAY X G (v:=.ref 804) (by kernel_rfl));cases e;have qg:∀{x:Str},PySem.W.nsIn (hK w.params) mainGlobals x=some none->mg x=none:=PySem.W.mg_none_of X G;have T:Bt mg:=by constructor<;>exact qg (by kernel_rfl)
 have T2:Bd mg:=by constructor<;>exact qg (by kernel_rfl)
 have cls:nP (hK w.params) aD.fen:=⟨by kernel_rfl,by kernel_rfl,by kernel_rfl,by kernel_rfl⟩;have fc:Fc (hK w.params) mg aD:=⟨cls,(show PySem.W.findIn (hK w.params) (.ref 633) "kept"=some none by kernel_rfl),(show PySem.W.findIn (hK w.params) (.ref 633) "books"=some none by kernel_rfl),(show PySem.W.findIn (hK w.params) (.ref 633) "undone"=some none by kernel_rfl),YAY X G (by kernel_rfl)⟩;have xh:Xh (hK w.params) mg ⟨44,56,68,80,92,104,116,128,164⟩:=by constructor<;>first|exact YAY X G (by kernel_rfl)|kernel_rfl
 have mgo:∀{x:Str}{v:Value},PySem.W.nsIn (hK w.params) mainGlobals x=some (some v)->mg x=some v:=YAY X G;have xv:mg "ValueError"=none:=qg (by kernel_rfl);have xk:sW (hK w.params) mg "FenError" NTx ur:=ztV (fe:=31) [("BadName",44),("Taken",56),("Full",68),("NoMark",80),("NoHand",92),("Same",104),("BadRise",116),("NoRun",128),("Aside",140),("NotAside",152),("BadNumber",164),("NothingLeft",176),("Steady",188),("NoDeed",200),("Known",212),("NoFen",224),("Settled",236),("NoPage",255)] [("BadName",44),("Taken",56),("Full",68),("NoMark",80),("NoHand",92),("Same",104),("BadRise",116),("NoRun",128),("BadNumber",164)] rfl rfl (by simp only[xY,lB,yp,zF,yq];and_intros<;>exact mgo (by kernel_rfl)) (by simp only[xY,lB,yp,zF,yq];and_intros<;>exact mgo (by kernel_rfl)) (mgo (by kernel_rfl)) (by simp only[xY,lB,yp,zF,yq];and_intros<;>kernel_rfl) (by simp only[xY,lB,yp,zF,yq];and_intros<;>first|kernel_rfl|(constructor<;>kernel_rfl));have g_MOST_STANDS:mg "MOST_STANDS"=some (.int 12 563):=YAY X G (by kernel_rfl);have g_LONGEST_NAME:mg "LONGEST_NAME"=some (.int 8 515):=YAY X G (by kernel_rfl);have g_LETTERS:mg "LETTERS"=some (.str "abcdefghijklmnopqrstuvwxyz" 513):=YAY X G (by kernel_rfl);have g_MOST_HANDS:mg "MOST_HANDS"=some (.int 10 565):=YAY X G (by kernel_rfl);have g_HIGHEST_RISE:mg "HIGHEST_RISE"=some (.int 1000000000 571):=YAY X G (by kernel_rfl);have g_MOST_RUNS:mg "MOST_RUNS"=some (.int 40 567):=YAY X G (by kernel_rfl);have g_MOST_FALSE:mg "MOST_FALSE"=some (.int 3 569):=YAY X G (by kernel_rfl);have gA:rm l.prog w (hK w.params) mg "ACTIONS" (zH aD):=zv1 (ps:=[("mark",709,.ref 340),("hand",710,.ref 347),("run",711,.ref 354),("strike",712,.ref 359),("mend",713,.ref 364),("settle",714,.ref 371),("aside",715,.ref 378),("heed",716,.ref 383),("allow",717,.ref 390)]) (a:=391) (n:=9) X G (by kernel_rfl) (show List.lookup 391 (hK w.params)=_ by kernel_rfl) (show lz (hK w.params) _ (zH aD) by unfold zH;exact(.cons xx (.cons xx (.cons xx (.cons xx (.cons xx (.cons xx (.cons xx (.cons xx (.cons xx .nil)))))))))) (by decide) (by simp only[dZ,rT];decide +kernel);have F:=fF (P:=w.params) "law" "law" tL 804;refine⟨fE w.params "law" "law" tL 804,λs v=>.of_eq rfl,λbase _ _=>?_⟩;have M:=@mkC l.prog w base h mg X G;have MX:=@mkX l.prog w base h mg X G;have MM:=@mkM l.prog w base mg;have cB:=M "_law_box" tY 644 λF=>Fen.ztt F ⟨T.list,T.len,T.range⟩;have og:=M "_law_take" Af 651 λF=>zkD F T;have oP:=M "_law_names" GZ 661 λF=>zh3 T og F;have oQ:=M "empty_book" Hw 300 λF=>zh6 F;have FI:=fF (P:=w.params) "__init__" "Fen.__init__" Kl 417;have okI:=zgz (P:=l.prog) (w:=w) (base:=base) aD fc oQ FI;have bI:=wA (ps:=["self"]) FI;have mkI:Mk (hK w.params) aD.fen 417:=⟨by kernel_rfl,by kernel_rfl,by kernel_rfl,by kernel_rfl⟩;have oR:=M "_law_model" Kw 668 λF=>zir F;have oi:=M "_law_turns" Gy 673 λF=>zid T F;have om:=M "_law_place" Fq 680 λF=>ziJ oi F;have o6:=M "_law_done" Iz 695 λF=>zjp T T2 oi om F;have F__law_same:=fF (P:=w.params) "_law_same" "_law_same" Ji 656;have b__law_same:=wA (ps:=["_law_found","_law_due_here"]) F__law_same;have m__law_same:mg "_law_same"=_:=YAY X G (v:=.ref 656) (by kernel_rfl);have r__law_same:=zfX (P:=l.prog) (w:=w) (base:=base) F__law_same m__law_same b__law_same T;have oh:=M "with_entry" Gn 307 λF=>ziT T2 F;have oy:=M "turns_of" Ii 279 λF=>zk6 T F;have oS:=M "next_stand" Hi 286 λF=>ziE oy F;have oo:=MX "with_new_stand" J0 314 λF=>zfI T g_MOST_STANDS xh oh oS F;have oU:=M "is_made_of" Jb 262 λF=>ziM T F;have oM:=M "is_name" Gr 269 λF=>zmV g_LETTERS g_LONGEST_NAME oU F;have F_mark_entered:=fF (P:=w.params) "mark_entered" "mark_entered" Gm 340;have o_mark_entered:=zgs (P:=l.prog) (w:=w) (base:=base) xh oy oo oM F_mark_entered;have b_mark_entered:=wA (ps:=["book","row"]) F_mark_entered;have F_hand_entered:=fF (P:=w.params) "hand_entered" "hand_entered" Ia 347;have o_hand_entered:=zhc (P:=l.prog) (w:=w) (base:=base) T g_MOST_HANDS xh oh oM F_hand_entered;have b_hand_entered:=wA (ps:=["book","row"]) F_hand_entered;have ow:=MX "last_stand" Ju 293 λF=>zhZ xh oy F;have o8:=MX "need_hand" Jw 321 λF=>zjK xh F;have oC:=MX "need_rise" Ig 328 λF=>zjb T2 g_HIGHEST_RISE xh F;have F_run_entered:=fF (P:=w.params) "run_entered" "run_entered" Jj 354;have o_run_entered:=zhr (P:=l.prog) (w:=w) (base:=base) T g_MOST_RUNS xh oh ow o8 oC F_run_entered;have b_run_entered:=wA (ps:=["book","row"]) F_run_entered;have oF:=MX "need_run" Fp 333 λF=>zkN xh F;have F_run_struck:=fF (P:=w.params) "run_struck" "run_struck" Hy 359;have o_run_struck:=zh2 (P:=l.prog) (w:=w) (base:=base) T oh oF F_run_struck;have b_run_struck:=wA (ps:=["book","row"]) F_run_struck;have F_run_mended:=fF (P:=w.params) "run_mended" "run_mended" G6 364;have o_run_mended:=ziB (P:=l.prog) (w:=w) (base:=base) T oh oC oF F_run_mended;have b_run_mended:=wA (ps:=["book","row"]) F_run_mended;have F_mark_settled:=fF (P:=w.params) "mark_settled" "mark_settled" JH 371;have o_mark_settled:=zgN (P:=l.prog) (w:=w) (base:=base) oo ow F_mark_settled;have b_mark_settled:=wA (ps:=["book","row"]) F_mark_settled;have F_number_allowed:=fF (P:=w.params) "number_allowed" "number_allowed" Kf 390;have o_number_allowed:=zfT (P:=l.prog) (w:=w) (base:=base) g_MOST_FALSE xh oh F_number_allowed;have b_number_allowed:=wA (ps:=["book","row"]) F_number_allowed;have tb:gU l.prog w (hK w.params) mg base 4 2 (jY aD):=by unfold jY;exact(gU.cons F_mark_entered o_mark_entered b_mark_entered (gU.cons F_hand_entered o_hand_entered b_hand_entered (gU.cons F_run_entered o_run_entered b_run_entered (gU.cons F_run_struck o_run_struck b_run_struck (gU.cons F_run_mended o_run_mended b_run_mended (gU.cons F_mark_settled o_mark_settled b_mark_settled (gU.cons F_number_allowed o_number_allowed b_number_allowed gU.nil)))))))
 have oN:=MX "book_behind" JT 398 λF=>zhn aD gA tb F;have m_now:=MM (C:=aD.fen) cls "now" "Fen.now" Hl 424 λF=>zmX aD fc F;have m_deed:=MM (C:=aD.fen) cls "deed" "Fen.deed" FQ 494 λF=>zks aD fc oN m_now F;have oG:=M "_law_due_told" Gf 702 λF=>zge T F;have oz:=MX "_law_step" J7 709 λF=>zjD aD o6 (fG.of F__law_same (r__law_same 6) m__law_same b__law_same) m_deed oG F;have oj:=M "_law_marks" Kp 685 λF=>zij F;have oH:=M "_law_truth" Jk 735 λF=>ziR F;have oq:=M "_law_run_deed" JB 742 λF=>zgg T og om oj oH F;have oV:=MX "_law_begun" HW 747 λF=>zhT aD T fc mkI okI bI og oP oR oz oq F;have oI:=M "_law_run_word" Hn 778 λF=>zgb T oi F;have oW:=M "_law_named" HJ 764 λF=>zio T F;have oJ:=M "_law_new_word" Gx 771 λF=>zgd T oi oW F;have o9:=M "_law_word" KN 783 λF=>zjZ T oi oI oJ F;have F__law_kinds:=fF (P:=w.params) "_law_kinds" "_law_kinds" HF 752;have b__law_kinds:=wA (ps:=["_law_e"]) F__law_kinds;have m__law_kinds:mg "_law_kinds"=_:=YAY X G (v:=.ref 752) (by kernel_rfl);have oX:=zh8 (P:=l.prog) (w:=w) (base:=base) T xk xv F__law_kinds m__law_kinds b__law_kinds;have oY:=MX "_law_tried" GK 759 λF=>ziw aD xk m_deed oX F;have oO:=MX "_law_judged" Hj 790 λF=>zhq aD (fG.of F__law_same (r__law_same 6) m__law_same b__law_same) oz o9 oY F;have oE:=M "_law_bent_deed" Kq 797 λF=>zfQ T og oj F;have qd:=M "marks_of" Jo 274 λF=>zku F;have m_marks:=MM (C:=aD.fen) cls "marks" "Fen.marks" Kz 529 λF=>zjM aD m_now qd F;have m_hands:=MM (C:=aD.fen) cls "hands" "Fen.hands" Fl 536 λF=>zjX aD T m_now F;have m_asides:=MM (C:=aD.fen) cls "asides" "Fen.asides" Ip 541 λF=>zh9 aD m_now F;have m_stands:=MM (C:=aD.fen) cls "stands" "Fen.stands" Hf 548 λF=>zh5 aD T m_now F;have m_allowed:=MM (C:=aD.fen) cls "allowed" "Fen.allowed" Jf 555 λF=>zho aD m_now F;have m_runs:=MM (C:=aD.fen) cls "runs" "Fen.runs" Kr 562 λF=>zkL aD T m_now F;have oA:=M "rows_that_count" Ht 403 λF=>zfr F;have m_counting:=MM (C:=aD.fen) cls "counting" "Fen.counting" JX 567 λF=>zgD aD m_now oA F;have m_deeds:=MM (C:=aD.fen) cls "deeds" "Fen.deeds" Fo 515 λF=>zi1 aD T fc F;have qc:=M "_law_seen" Im 716 λF=>zjg aD m_marks m_hands m_asides m_stands m_allowed m_runs m_counting m_deeds F;have oK:=M "_law_counted" Jd 690 λF=>zgr F;have qe:=M "_law_due" uU 721 λF=>zkF T oj oK F;have oZ:=M "_law_right" Gs 728 λF=>zit aD (fG.of F__law_same (r__law_same 6) m__law_same b__law_same) qc qe F;exact zvh aD T og oj oq oV oO oE oZ F cB (zsH aD)
def walk{l:PySem.W.OpenLaw}{q:Program}{loose:List Str}{XP:(Str->Option Value)->Heap->Prop}{YP:PySem.World->Heap->Prop}{d:DefRec}{K:Params->qo}(hn:l.most=some 63)(hdf:d.params.defaults=[])
  (hY:∀(w:PySem.World)(h:Heap),YP w h->(K w.params).In h)
  (F:∀(w:PySem.World)(mg:Str->Option Value)(fa:Addr)(h:Heap),(K w.params).In h->h.Ns mainGlobals mg->mg d.name=some (.ref fa) ->
   ∃fd:FuncData,(∀(s:Shared)(u:Value),BindsTo s fd ⟨[u],[]⟩ [("_law_script",u)])/\∀base:Heap,(K w.params).In base->base.Ns mainGlobals mg->aM l.prog w (K w.params) mg base cR 10 fa fd ["_law_script"] (Ir (K w.params))) :
  PySem.W.WalkO q loose XP YP l.row.toRowW d [] (λf vs=>PySem.call f vs):=
 L2.zsd (n:=63) (k:=10) (x:="_law_script") (CX:=λ_=>cR) (sp:=λw=>Ir (K w.params)) hn (by decide) hdf ⟨rfl,by decide,by decide⟩ hY F (λ_ _ a ns hl _ hS=>⟨a,ns,rfl,hS,hl,λ_=>rfl⟩) λ_ _ _ _ _ z=>z
end Fd
open PySem PySem.W PyProof.Rows
set_option maxRecDepth 100000 in
theorem PySem.Challenge.cw_fenlevel_k26_runs_entered_struck_and_men_holds : PySem.Challenge.rw_fenlevel_k26_runs_entered_struck_and_men.Holds := by
 w_on;o_law
 refine holds_open (q:=Hd.vw) (loose:=["ACTIONS"]) (Xt:=Hd.xT) (XP:=XL Hd.vw []) (Yf:=Hd.hH.obs) (Ya:=Hd.hH.val) (YP:=Hd.hH.says) (N:=14204) Hd.Aj Hd.hH.of Hd.hH.keeps (λs e=>xl_of s (YCv.mp e).1) XL.keeps (by rfl) (by rfl) (by rfl) (λs e=>recFacts_of (YCv.mp e).2) (by rfl) (by first|assumption|decide +kernel) (by decide +kernel) ⟨rfl,rfl,rfl,rfl,rfl,by decide +kernel⟩ ?hw ?hc
 (case hw=>w_witness2)
 exact Fd.walk (l:=PySem.Challenge.rw_fenlevel_k26_runs_entered_struck_and_men) rfl rfl (λw h Y=>PySem.W.kIn_of Y) (λw mg fa h KX G hmg=>Fd.all_mk KX G hmg)
