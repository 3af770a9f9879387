import PyProof.Rows.All
import Wide.All
import OpenK.AllK
import Wide.FinOn
import Lean
import PyProof.EqAt
import PyProof.EqKinds
import PyProof.TupleCall
import PyProof.SetKind
import PyProof.Rows.SortShell
import PyProof.SetRoads
import PyProof.ListNew
import PyProof.CollectWalk
import PyProof.Rows.SetFrom
import PyProof.NeKinds
import PyProof.IsiHeapPairs
import PyProof.IsiNone
import PyProof.IsiPairs
import PyProof.ZipIter
import PyProof.Draws
import PyProof.WalksMore
import PyProof.EnumMake
import PyProof.EnumFor
import PyProof.ListRange
import PyProof.RangeFor
import PyProof.DictUpdate
import PyProof.DictItemsLoops
import PyProof.DictWalks
import PyProof.DictIter
import PyProof.P3Eq
import PyProof.P3In
import PyProof.NeData
import KE.KTryMore
import PyProof.ExcArgsOwn
import PyProof.StrOps2
import PyProof.TupleKey
import PyProof.DictFindH
import PyProof.MeetsDict
import PyProof.Rows.RuleN_abs
import PySem.Challenge.RW_fenlevel_k44_fens_of_refused_deeds
set_option maxHeartbeats 0
abbrev qo:=PySem.W.Frag
set_option compiler.extract_closed false
noncomputable section
set_option linter.all false
def aL:=@PySem.wpAny_bind
def b8:=@List.length_map
def dX:=@PySem.Heap.get?_push_of_some
def bV:=@PySem.wpAny_pure
def jC:=@List.getElem?_eq_some_iff
def gC:=@List.mem_cons_self
def jB:=@List.getElem?_eq_getElem
def gU:=@List.length_append
def dB:=@PySem.Heap.lt_size
def jL:=@List.getElem?_set_self
def d7:=@List.map_cons
def jG:=@List.getElem?_set_ne
def jD:=@PySem.Heap.get?_push_size
def dG:=@Nat.le_refl
def gY:=@decide_eq_false
def gB:=@decide_eq_true
def kj:=@List.mem_cons_of_mem
def jA:=@Nat.lt_of_lt_of_le
def ju:=@List.size_toArray
def fX:=@Nat.ne_of_lt
def jV:=@List.getElem?_map
def km:=@of_decide_eq_true
def iU:=@List.mem_cons
def lC:=@List.mem_singleton
def lz:=@List.not_mem_nil
def rO:=@List.getElem?_cons_succ
def YAA:=@Bool.and_eq_true
def YAB:=@Nat.le_trans
def rG:=@List.mem_append_right
def YAD:=@List.mem_map
def YAE:=@List.length_cons
def YAF:=@PySem.wpAny_field
def YAG:=@List.forall_mem_cons
def YAH:=@PySem.wpAny_callSpecial?_slot
def YAI:=@PySem.wpAny_newObj_type
def YAJ:=@List.mem_append
def YAK:=@List.append_nil
def YAL:=@PySem.Heap.get?_update_other
def YAM:=@Ne.symm
def YAN:=@List.getD_eq_getElem?_getD
def qT:=@List.map_append
def YAP:=@Int.eq_ofNat_of_zero_le
def YAQ:=@List.filterMap_cons
def YAR:=@List.map_map
def YAS:=@List.lookup_cons
def YAT:=@PyProof.Rows.slot_tuple_getitem
def YAU:=@PySem.Heap.get?_update_self
def YAV:=@PySem.W.segRun_of
def YAW:=@beq_eq_false_iff_ne
def qx:=@PySem.wpAny_holding
def YAY:=@PySem.W.mg_of
def YAZ:=@List.mem_filter
def lD:=@PySem.wpAny_mono
def Ce:=@List.getElem?_append_left
def v9:=@PySem.wpAny_Call_Name_kw
def nO:=@PySem.sizeLine_eq
def zR:=@List.contains_iff_mem
def vJ:=@PySem.wpAny_call_entry
def wj:=@PySem.wpAny_truthy_bool
def yC:=@Int.emod_lt_of_pos
def yZ:=@PySem.mem_of_lookup
def rZ:=@List.map_nil
def yw:=@decide_eq_true_eq
def Jp:=@PySem.F.slot_dict_keyiterator_next
def uO:=@Nat.lt_irrefl
def zQ:=@Bool.false_ne_true
def wG:=@List.nodup_cons
def CJ:=@List.mem_append_left
def Cq:=@Array.length_toList
def BW:=@List.replicate_succ
def wz:=@PySem.wpAny_seqItems
def Hr:=@Array.getElem?_eq_getElem
def vZ:=@false_implies
def yz:=@List.length_zip
def xO:=@Int.emod_nonneg
def CG:=@List.mem_filterMap
def BJ:=@Bool.false_eq_true
def Al:=@PySem.wpAny_setField_rec
def yQ:=@List.all_eq_true
def YBr:=@PySem.wpAny_typeNameOfWhole_keyiter
def yL:=@List.getElem_mem
def Ed:=@Decidable.of_not_not
def Gq:=@List.getElem?_replicate
def xm:=@PySem.Heap.size_push
def vP:=@implies_true
def BV:=@List.flatten_cons
def YBy:=@PyProof.Rows.callWith_type1
def Hn:=@PyProof.Rows.boot_list
def YBA:=@List.getElem?_append_right
def YBB:=@PySem.F.slot_tuple_iterator_next
def YBC:=@Array.getElem?_eq_some_iff
def Av:=@List.length_take
def wy:=@Nat.ne_of_gt
def Fj:=@PySem.Obj.data_mapFields
def El:=@List.map_singleton
def Jj:=@List.length_filter_le
def zO:=@PySem.wpAny_setField
def YBJ:=@List.drop_eq_getElem_cons
def YBK:=@Option.isSome_iff_exists
def wY:=@Nat.min_self
def v6:=@Nat.zero_le
def zA:=@PySem.wpAny_attempt
def YBO:=@PySem.F.plainAttrs_list
def JN:=@List.map_congr_left
def YBQ:=@List.take_of_length_le
def G7:=@PySem.W.callWith_K
def Di:=@PySem.wpAny_execs_nil
def Fo:=@List.find?_cons
def YBU:=@PySem.Obj.isFreed_of_fields
def Dg:=@PySem.F.slot_zip_next
def Ht:=@Int.toNat_natCast
def Ax:=@List.any_cons
def FT:=@PySem.wpAny_pyIter_list
def JL:=@PySem.wpAny_isInstance
def KZ:=@Nat.le_add_right
def YB1:=@PySem.Heap.SameBut.update
def YB2:=@PySem.F.args_tuple_add_2
def YB3:=@PySem.F.slot_list_append
def YB4:=@PySem.F.type_list_append
def Ji:=@PySem.wpAny_passesOwn
def YB6:=@PySem.F.entry_tuple_add
def uM:=@if_false
def Io:=@List.length_set
def YB9:=@PySem.tupleKind_room_in1
def YCa:=@decide_eq_false_iff_not
def uL:=@or_false
def YCc:=@PySem.W.cellsFrom_some
def YCd:=@PySem.F.slot_tuple_add
def YCe:=@List.range_succ_eq_map
def YCf:=@PyProof.Rows.boot_dict
def zW:=@PySem.wpAny_rule
def yV:=@beq_iff_eq
def YCi:=@List.append_assoc
def YCj:=@PySem.Obj.cls_mapFields
def YCk:=@Nat.lt_succ_of_lt
def vp:=@and_true
def Fw:=@PySem.codeAny_mono
def YCn:=@List.length_singleton
def YCo:=@Array.getElem?_toList
def YCp:=@List.take_append_drop
def YCq:=@PySem.wpAny_execs_cons
def YCr:=@Nat.lt_succ_self
def YCs:=@Nat.min_le_right
def YCt:=@List.length_drop
def YCu:=@List.filter_cons
def YCv:=@Bool.not_eq_true
def YCw:=@PySem.wpAny_updateSeq_pair
def YCx:=@Bool.and_eq_true_iff
def YCy:=@Bool.or_eq_false_iff
def Gk:=@PySem.wpAny_standAt
def JF:=@PySem.wpAny_onRaise
def CV:=@PySem.call_meets
def YCC:=@PySem.W.plainGet_of
def YCD:=@PySem.W.callWith_K0
def YCE:=@List.of_mem_zip
def uP:=@if_true
def YCG:=@List.forIn_cons
def YCH:=@ne_true_of_eq_false
def YCI:=@Nat.min_eq_left
def YCJ:=@PyProof.Rows.assignInOrder_cons
def HX:=@PySem.wpAny_typeOf
def YCL:=@PySem.F.args_str_split_2
def YCM:=@PySem.isSubtype_stop
def YCN:=@PySem.boot_len
def Ez:=@PySem.wpAny_Name
def Dr:=@PySem.wpAny_call
def Fl:=@PySem.typeIs_str
def YCR:=@Option.isSome_map
def YCS:=@PySem.F.args_zip_next_1
def YCT:=@Option.some.injEq
def YCU:=@PySem.F.entry_str_split
def YCV:=@PySem.wpAny_dictEntries
def YCW:=@PySem.noFill_tuple_add
def YCX:=@List.zipIdx_cons
def YCY:=@PySem.F.entry_zip_next
def YCZ:=@List.drop_length
def YC0:=@PySem.F.slot_str_split
def YC1:=@List.nil_append
def YC2:=@List.length_nil
def YC3:=@PySem.wpAny_specialOf
def YC4:=@List.zipIdx_nil
def YC5:=@Option.map_some
def YC6:=@PySem.wpAny_dictEpoch
def YC7:=@PySem.wpAny_updateSeq
def YC8:=@Int.ediv_nonneg
def YC9:=@List.forIn_nil
def YDa:=@Nat.mul_le_mul
def YDb:=@List.nodup_nil
def YDc:=@PySem.wpAny_letGo
set_option Elab.async false
set_option linter.all false
set_option maxRecDepth 100000
namespace L2
open PySem PySem.Spec PyProof.Rows
abbrev Key:=Sum Int Str
def CK:Key->Value->Bool
 |.inl k,v=>Value.isInt k v
 |.inr x,v=>Value.isStrOf x v
def keyH(w:World):Key->Int
 |.inl k=>hashInt k
 |.inr x=>hashStr w x
def ww:∀{k:Key}{v:Value},CK k v=true->(∃i t,k=Sum.inl i/\v=Value.int i t)\/(∃x t,k=Sum.inr x/\v=Value.str x t)
 |.inl i,v,h=>by
  obtain⟨t,e⟩:=Value.isInt_shape (k:=i) (v:=v) h;exact .inl ⟨i,t,rfl,e⟩
 |.inr x,v,h=>by
  obtain⟨t,e⟩:=Value.isStrOf_shape (x:=x) (v:=v) h;exact .inr ⟨x,t,rfl,e⟩
def zo6(i:Int)(t:Tok):CK (.inl i) (.int i t)=true:=by simp[CK,Value.isInt]
def zgU(x:Str)(t:Tok):CK (.inr x) (.str x t)=true:=by simp[CK,Value.isStrOf]
def zuV(a b:Int):decide ((Sum.inl a:Key)=Sum.inl b)=(a==b):=by
 by_cases e:a=b
 .subst e;simp
 .have h:¬ (Sum.inl a:Key)=Sum.inl b:=λq=>e (Sum.inl.inj q);rw[gY h];exact(YAW.mpr e).symm
def zvf(a b:Str):decide ((Sum.inr a:Key)=Sum.inr b)=decide (a=b):=by
 by_cases e:a=b
 .subst e;simp
 .have h:¬ (Sum.inr a:Key)=Sum.inr b:=λq=>e (Sum.inr.inj q);rw[gY h,gY e]
def zt8(a:Int)(b:Str):decide ((Sum.inl a:Key)=Sum.inr b)=false:=gY (λq=>nomatch q)
def zud(a:Str)(b:Int):decide ((Sum.inr a:Key)=Sum.inl b)=false:=gY (λq=>nomatch q)
noncomputable def lG(prog:Program)(w:World):PySem.KeyKind prog w Key where
 is:=CK
 hash:=keyH w
 inj:=λv a b ha hb=>by
  rcases ww ha with⟨i,t,rfl,rfl⟩|⟨x,t,rfl,rfl⟩
  .rcases ww hb with⟨j,u,rfl,e⟩|⟨y,u,rfl,e⟩
   .injection e with e1 _;rw[e1]
   .exact nomatch e
  .rcases ww hb with⟨j,u,rfl,e⟩|⟨y,u,rfl,e⟩
   .exact nomatch e
   .injection e with e1 _;rw[e1]
 byValue:=λk v h=>by
  rcases ww h with⟨i,t,rfl,rfl⟩|⟨x,t,rfl,rfl⟩<;>rfl
 pyHash:=λhv h=>by
  rcases ww hv with⟨i,t,rfl,rfl⟩|⟨x,t,rfl,rfl⟩
  .exact wpAny_pyHash_int h
  .exact wpAny_pyHash_str h
 eqBool:=λhu hv h=>by
  rcases ww hu with⟨i,t,rfl,rfl⟩|⟨x,t,rfl,rfl⟩
  .rcases ww hv with⟨j,u,rfl,rfl⟩|⟨y,u,rfl,rfl⟩
   .rw[zuV]at h;exact wpAny_eqBool_int h
   .rw[zt8]at h;exact SeqAt.EqAt.int_str i t y u _ _ _ _ h
  .rcases ww hv with⟨j,u,rfl,rfl⟩|⟨y,u,rfl,rfl⟩
   .rw[zud]at h;exact SeqAt.EqAt.str_int x t j u _ _ _ _ h
   .rw[zvf]at h;exact wpAny_eqBool_str h
 «strs»:=λk x t v h=>by
  rcases ww h with⟨i,u,rfl,e⟩|⟨y,u,rfl,e⟩
  .exact nomatch e
  .injection e with e1 _
   subst e1;cases v<;>rfl
def zlp(prog:Program)(w:World)(i:Int)(t:Tok):(lG prog w).is (.inl i) (.int i t)=true:=zo6 i t
def zkQ(prog:Program)(w:World)(x:Str)(t:Tok):(lG prog w).is (.inr x) (.str x t)=true:=zgU x t
inductive V where
 |non|bl (b:Bool)|int (i:Int)|str (x:Str)|byt (b:Array UInt8)|flt (b:UInt64)|ref (a:Addr)|ty (n:String)
 deriving DecidableEq
def RelV:V->Value->Prop
 |.non,u=>u=Value.none
 |.bl b,u=>u=Value.bool b
 |.int i,u=>∃t,u=Value.int i t
 |.str x,u=>∃t,u=Value.str x t
 |.byt b,u=>∃t,u=Value.bytes b t
 |.flt b,u=>∃t,u=Value.float b t
 |.ref a,u=>u=Value.ref a
 |.ty n,u=>u=Value.type n
abbrev Vals:List V->List Value->Prop:=Paired RelV
theorem Vals.length{xs:List V}{us:List Value}(r:Vals xs us):xs.length=us.length:=Paired.length r
theorem Vals.get:∀{xs:List V}{us:List Value}{i:Nat}{x:V},Vals xs us->xs[i]?=some x->∃u,us[i]?=some u/\RelV x u
 |_,_,_,_,.nil,e=>by simp at e
 |_,_,0,_,.cons r _,e=>by simp at e;subst e;exact⟨_,rfl,r⟩
 |_,_,i+1,x,.cons _ t,e=>by
  obtain⟨u,h1,h2⟩:=Vals.get (i:=i) (x:=x) t (by simpa using e);exact⟨u,by simpa using h1,h2⟩
theorem Vals.set(r:RelV x u):∀{xs:List V}{us:List Value}(i:Nat),Vals xs us->Vals (xs.set i x) (us.set i u)
 |_,_,_,.nil=>.nil
 |_,_,0,.cons _ t=>.cons r t
 |_,_,i+1,.cons q t=>.cons q (Vals.set r i t)
theorem Vals.append:∀{xs ys:List V}{us ws:List Value},Vals xs us->Vals ys ws->Vals (xs++ys) (us++ws)
 |_,_,_,_,.nil,s=>s
 |_,_,_,_,.cons r t,s=>.cons r (Vals.append t s)
theorem Vals.take:∀{xs:List V}{us:List Value}(n:Nat),Vals xs us->Vals (xs.take n) (us.take n)
 |_,_,0,_=>.nil
 |_,_,_+1,.nil=>.nil
 |_,_,n+1,.cons r t=>.cons r (Vals.take n t)
theorem Vals.drop:∀{xs:List V}{us:List Value}(n:Nat),Vals xs us->Vals (xs.drop n) (us.drop n)
 |_,_,0,r=>r
 |_,_,_+1,.nil=>.nil
 |_,_,n+1,.cons _ t=>Vals.drop n t
def iu:Option V->Option Value->Prop
 |some v,some u=>RelV v u
 |none,none=>True
 |_,_=>False
def KV{κ:Type}:List (κ×V)->List (κ×Value)->Prop:=Paired λ(p:κ×V) (q:κ×Value)=>p.1=q.1/\RelV p.2 q.2
def kV:Key->V
 |.inl i=>.int i
 |.inr x=>.str x
inductive HO where
 /-- a list -/
 |lst (xs:List V)
 /-- a tuple (never changes) -/
 |tup (xs:List V)
 /-- a dict whose keys are ints and texts;one whose keys are tuples of ints and texts (the empty one is both) -/
 |dK (kvs:List (Key×V))|dT (kvs:List (List Key×V))
 /-- a set of ints: its members,its size -/
 |set (qh:Int->Bool) (n:Nat)
 /-- an instance of the class at C,its dict at dx,its attributes -/
 |ins (C dx:Addr) (fs:List (Str×V))
 /-- the dict of the instance at x -/
 |own (x:Addr)
 /-- the dict of an exception -/
 |xd (fs:List (Str×V))
 /-- a bound method,f of x -/
 |met (f x:Addr)
 /-- a range object lo,lo + 1,.. below hi -/
 |rng (lo hi:Int)
 /-- a thing that is known to the object (the script;a dict while a loop walks it): read,never written while it is so -/
 |jl (o:Obj) (u:HO)
 /-- a code object's table -/
 |tbl (ps:Array Value)
 /-- any qf thing,by what is true of its one object (a def of one's own: SetO a qh n:=HO.ext λh=>..) -/
 |ext (φ:Heap->Prop)
abbrev Hp:=Addr->Option HO
def upd(H:Hp)(a:Addr)(o:HO):Hp:=λb=>if b=a then some o else H b
def cJ:upd H a o a=some o:=by unfold upd;rw[if_pos rfl]
def au(h:b≠a):upd H a o b=H b:=by unfold upd;rw[if_neg h]
def zlf:upd (upd H a o) a u=upd H a u:=by
 funext b;unfold upd;split<;>rfl
def zwF{H:Hp}{a b:Addr}{o u:HO}(h:H a=some o)(h':H b=some u)(d:o≠u):a≠b:=by
 intro e;subst e;rw[h]at h';exact d (Option.some.inj h')
def lO{H:Hp}{a b:Addr}{o:HO}(h:H a=some o)(h':H b=none):a≠b:=by
 intro e;subst e;rw[h]at h';cases h'
section
variable(P:Program)(w:World)
noncomputable def cu(H:Hp)(h:Heap)(a:Addr):HO->Prop
 |.lst xs=>xs.length<=sizeLine/\∃(its:List Value)(n:Nat),Vals xs its/\h.get? a=some {cls:=.type "list",data:=.seq its.toArray n}
 |.tup xs=>xs.length<=sizeLine/\∃its:List Value,Vals xs its/\IsTup h a its.toArray
 |.dK kvs=>kvs.length<=sizeLine/\(a==sysModules)=false/\∃vs,KV kvs vs/\h.DictOf (lG P w) a vs
 |.dT kvs=>kvs.length<=sizeLine/\(a==sysModules)=false/\∃xs:List (List Key×Addr×Value),
   Paired (λ(p:List Key×V) (q:List Key×Addr×Value)=>p.1=q.1/\H q.2.1=some (.tup (p.1.map kV))/\RelV p.2 q.2.2) kvs xs /\
   ∃o es ep,h.get? a=some o/\o.ExactDict/\o.data=.dict es ep/\es.toList=xs.map (entryOfKey (tupleKind (lG P w)))/\(xs.map (·.1)).Nodup
 |.set qh n=>h.SetOf (intKind P w) a qh n
 |.ins C dx fs=>H dx=some (.own a)/\fs.length<=1000/\dx≠a/\h.get? a=some (PySem.W.instObj C dx) /\
   ∃mA,h.Ns1 dx mA/\(∀f,iu (fs.lookup f) (mA f))/\PySem.Within mA (fs.map (·.1))
 |.own _=>∃o,h.get? a=some o
 |.xd fs=>∃mA,h.Ns1 a mA/\∀f,iu (fs.lookup f) (mA f)
 |.rng lo hi=>∃t u v,h.get? a=some {cls:=.type "range",data:=.fields #[.int lo t,.int hi u,.int 1 v]}
 |.jl o u=>h.get? a=some o/\cu H h a u
 |.tbl ps=>h.get? a=some {cls:=.none,data:=.fields ps}
 |.met f x=>h.get? a=some (PySem.W.methodObj (.ref f) (.ref x))
 |.ext φ=>φ h/\(∃o,h.get? a=some o)/\∀h1 h2:Heap,φ h1->(∀o,h1.get? a=some o->h2.get? a=some o)->φ h2
def iW(H:Hp)(h:Heap):Prop:=∀a o,H a=some o->cu P w H h a o
end
section
variable{P:Program}{w:World}{H H':Hp}{h h':Heap}{a:Addr}{o:HO}
theorem cu.lt(x:cu P w H h a o):a<h.objs.size:=by
 cases o with
 |lst xs=>obtain⟨_,_,_,_,e⟩:=x;exact dB e
 |tup xs=>obtain⟨_,_,_,p⟩:=x;exact p.lt
 |dK kvs=>obtain⟨_,_,_,_,o,_,_,e,_⟩:=x;exact dB e
 |dT kvs=>obtain⟨_,_,_,_,o,_,_,e,_⟩:=x;exact dB e
 |set qh n=>obtain⟨o,_,_,_,e,_⟩:=x;exact dB e
 |ins C dx fs=>obtain⟨_,_,_,e,_⟩:=x;exact dB e
 |own y=>obtain⟨_,e⟩:=x;exact dB e
 |xd fs=>obtain⟨_,⟨_,_,_,e,_⟩,_⟩:=x;exact dB e
 |rng lo hi=>obtain⟨_,_,_,e⟩:=x;exact dB e
 |jl ob u=>obtain⟨e,_⟩:=x;exact dB e
 |tbl ps=>exact dB (show h.get? a=some _ from x)
 |met f y=>exact dB (show h.get? a=some _ from x)
 |ext φ=>obtain⟨_,⟨_,e⟩,_⟩:=x;exact dB e
theorem Paired.mapP{α β:Type}{F G:α->β->Prop}:∀{l₁:List α}{l₂:List β},Paired F l₁ l₂->(∀a b,F a b->G a b)->Paired G l₁ l₂
 |_,_,.nil,_=>.nil
 |_,_,.cons r t,f=>.cons (f _ _ r) (Paired.mapP t f)
def cu.stay(x:cu P w H h a o)(k:∀b u,(b=a\/H b=some (.own a))->h.get? b=some u->h'.get? b=some u)
  (ho:∀b,H b=some (.own a)->H' b=some (.own a)) (ht:∀b xs,H b=some (.tup xs)->H' b=some (.tup xs)):cu P w H' h' a o:=by
 induction o with
 |lst xs=>obtain⟨z,its,n,r,e⟩:=x;exact⟨z,its,n,r,k _ _ (.inl rfl) e⟩
 |tup xs=>obtain⟨z,its,r,ob,e,c⟩:=x;exact⟨z,its,r,ob,k _ _ (.inl rfl) e,c⟩
 |dK kvs=>obtain⟨z,y,vs,r,ob,es,ep,e,c⟩:=x;exact⟨z,y,vs,r,ob,es,ep,k _ _ (.inl rfl) e,c⟩
 |dT kvs=>
  obtain⟨z,y,xs,r,ob,es,ep,e,c⟩:=x;exact⟨z,y,xs,Paired.mapP r λp q z=>⟨z.1,ht _ _ z.2.1,z.2.2⟩,ob,es,ep,k _ _ (.inl rfl) e,c⟩
 |set qh n=>obtain⟨ob,es,ep,t,e,c⟩:=x;exact⟨ob,es,ep,t,k _ _ (.inl rfl) e,c⟩
 |ins C dx fs=>
  obtain⟨d,z,ne,e,mA,⟨od,es,ep,e2,c⟩,r⟩:=x;exact⟨ho _ d,z,ne,k _ _ (.inl rfl) e,mA,⟨od,es,ep,k _ _ (.inr d) e2,c⟩,r⟩
 |own y=>obtain⟨ob,e⟩:=x;exact⟨ob,k _ _ (.inl rfl) e⟩
 |xd fs=>obtain⟨mA,⟨od,es,ep,e,c⟩,r⟩:=x;exact⟨mA,⟨od,es,ep,k _ _ (.inl rfl) e,c⟩,r⟩
 |rng lo hi=>obtain⟨t,u,v,e⟩:=x;exact⟨t,u,v,k _ _ (.inl rfl) e⟩
 |jl ob u ih=>obtain⟨e,q⟩:=x;exact⟨k _ _ (.inl rfl) e,ih q⟩
 |tbl ps=>
  have e:h.get? a=some {cls:=.none,data:=.fields ps}:=x;show h'.get? a=some {cls:=.none,data:=.fields ps};exact k a _ (.inl rfl) e
 |met f y=>
  have e:h.get? a=some (PySem.W.methodObj (.ref f) (.ref y)):=x;show h'.get? a=some (PySem.W.methodObj (.ref f) (.ref y));exact k a _ (.inl rfl) e
 |ext φ=>obtain⟨p,⟨o,e⟩,st⟩:=x;exact⟨st _ _ p λo q=>k _ _ (.inl rfl) q,⟨o,k _ _ (.inl rfl) e⟩,st⟩
theorem iW.lt(x:iW P w H h)(e:H a=some o):a<h.objs.size:=(x a o e).lt
def iW.fresh(x:iW P w H h)(e:h.objs.size<=a):H a=none:=by
 cases q:H a with
 |none=>rfl
 |some u=>exact absurd (jA (x.lt q) e) (uO _)
def iW.kept(x:iW P w H h)(k:∀b u,h.get? b=some u->h'.get? b=some u):iW P w H h':=λa o e=>
 (x a o e).stay (λb u _ q=>k b u q) (λ_ q=>q) λ_ _ q=>q
def iW.laid(x:iW P w H h)(k:∀b u,h.get? b=some u->h'.get? b=some u)(hp:h.objs.size<=a)(new:cu P w (upd H a o) h' a o):iW P w (upd H a o) h':=λb u e=>by
 have hn:=x.fresh hp;by_cases hb:b=a
 .subst hb;rw[cJ]at e;cases e;exact new
 .rw[au hb]at e;exact(x b u e).stay (λc v _ q=>k c v q) (λc q=>by rw[au (lO q hn)];exact q) λc xs q=>by rw[au (lO q hn)];exact q
end
def Rd(H:Hp)(a:Addr)(u:HO):Prop:=H a=some u\/∃o,H a=some (.jl o u)
def Rd.ok{P:Program}{w:World}{H:Hp}{h:Heap}{a:Addr}{u:HO}(r:Rd H a u)(x:iW P w H h):cu P w H h a u:=by
 rcases r with r|⟨o,r⟩
 .exact x a u r
 .obtain⟨_,q⟩:=x a _ r;exact q
def Ke:Option HO->Prop
 |some (.lst _)=>True
 |some (.dK _)=>True
 |some (.dT _)=>True
 |some (.set _ _)=>True
 |some (.ins _ _ _)=>True
 |some (.ext _)=>True
 |_=>False
section
variable{P:Program}{w:World}{H:Hp}{h h':Heap}{x e:Addr}{o':HO}
def iW.write(ok:iW P w H h)(mu:Ke (H x))(he:e=x\/H e=some (.own x))(k:∀b u,b≠e->h.get? b=some u->h'.get? b=some u)(heo:∃u,h'.get? e=some u)
  (new:cu P w (upd H x o') h' x o'):iW P w (upd H x o') h':=λb u q=>by
 have nown:∀c y,H c=some (.own y)->c≠x:=λc y r z=>by subst z;rw[r]at mu;exact mu
 have ntup:∀c xs,H c=some (.tup xs)->c≠x:=λc xs r z=>by subst z;rw[r]at mu;exact mu
 by_cases hb:b=x
 .subst hb;rw[cJ]at q;cases q;exact new
 .rw[au hb]at q;by_cases hbe:b=e
  .have q':H b=some (.own x):=by
    rcases he with z|z
    .exact absurd (hbe.trans z) hb
    .rw[hbe];exact z
   rw[q]at q';cases q';obtain⟨v,hv⟩:=heo;exact⟨v,by rw[hbe];exact hv⟩
  .refine(ok b u q).stay (λc v hc r=>k c v ?_ r) (λc r=>by rw[au (nown c b r)];exact r) λc xs r=>by rw[au (ntup c xs r)];exact r
   rcases hc with rfl|hc
   .exact hbe
   .rintro rfl;rcases he with z|z
    .exact nown c b hc z
    .rw[hc]at z;cases z;exact hb rfl
end
structure Un(fs ex:List Addr)(H H':Hp)(h h':Heap):Prop where
 keep:∀b o,h.get? b=some o->H b=none->b∉fs->b∉ex->h'.get? b=some o
 slot:∀b o,h.get? b=some o->H b=none->b∈fs->b∉ex->∃sl,h'.get? b=some {o with slots:=sl}
 free:∀b o,h.get? b=some o->H b=none->b∉ex->H' b=none
 there:∀b o,h.get? b=some o->b∉ex->∃o',h'.get? b=some o'
 tups:∀b xs,H b=some (.tup xs)->H' b=some (.tup xs)
 frzs:∀b o u,H b=some (.jl o u)->H' b=some (.jl o u)
 tbls:∀b ps,H b=some (.tbl ps)->∃more,H' b=some (.tbl (ps++more))
section
variable{fs fs' ex ex':List Addr}{H H1 H2:Hp}{h h1 h2 h':Heap}{a x e:Addr}{o:HO}
def Un.any(u:Un fs ex H H1 h h1){b:Addr}{ob:Obj}(q:h.get? b=some ob)(n:H b=none)(hx:b∉ex):∃sl,h1.get? b=some {ob with slots:=sl}:=by
 by_cases hb:b∈fs
 .exact u.slot b ob q n hb hx
 .exact⟨ob.slots,u.keep b ob q n hb hx⟩
def Un.kept(k:∀b u,h.get? b=some u->h'.get? b=some u):Un fs ex H H h h':=
 ⟨λb ob q _ _ _=>k b ob q,λb ob q _ _ _=>⟨ob.slots,k b ob q⟩,λ_ _ _ n _=>n,λb ob q _=>⟨ob,k b ob q⟩,λ_ _ q=>q,λ_ _ _ q=>q,λ_ ps q=>⟨#[],by rw[q];simp⟩⟩
def Un.refl:Un fs ex H H h h:=Un.kept λ_ _ q=>q
def Un.laid(k:∀b u,h.get? b=some u->h'.get? b=some u)(hp:h.objs.size<=a)(hn:H a=none):Un fs ex H (upd H a o) h h' where
 keep:=λb u q _ _ _=>k b u q
 slot:=λb u q _ _ _=>⟨u.slots,k b u q⟩
 free:=λb u q n _=>by rw[au (fX (jA (dB q) hp))];exact n
 there:=λb u q _=>⟨u,k b u q⟩
 tups:=λb xs q=>by rw[au (lO q hn)];exact q
 frzs:=λb u xs q=>by rw[au (lO q hn)];exact q
 tbls:=λb ps q=>⟨#[],by rw[au (lO q hn),q];simp⟩
def Un.write(mu:Ke (H x))(he:e=x\/H e=some (.own x))(k:∀b u,b≠e->h.get? b=some u->h'.get? b=some u)(heo:∃u,h'.get? e=some u):Un fs ex H (upd H x o) h h':=by
 have hx:∀b,H b=none->b≠x:=λb n z=>by subst z;rw[n]at mu;exact mu
 have hb:∀b,H b=none->b≠e:=λb n z=>by
  subst z;rcases he with r|r
  .exact hx b n r
  .rw[n]at r;cases r
 have hm:∀b u,H b=some u->¬ Ke (some u)->b≠x:=λb u q nm z=>by subst z;rw[q]at mu;exact nm mu
 refine⟨λb u q n _ _=>k b u (hb b n) q,λb u q n _ _=>⟨u.slots,k b u (hb b n) q⟩,λb u q n _=>by rw[au (hx b n)];exact n,λb u q _=>?_,
  λb xs q=>by rw[au (hm b _ q λz=>z)];exact q,λb u xs q=>by rw[au (hm b _ q λz=>z)];exact q,λb ps q=>⟨#[],by rw[au (hm b _ q λz=>z),q];simp⟩⟩
 by_cases hbe:b=e
 .subst hbe;exact heo
 .exact⟨u,k b u hbe q⟩
end
def vH(h:Heap)(H:Hp):List Addr:=(List.range h.objs.size).filter λa=>(H a).isSome
def mD(h:Heap)(H:Hp):Heap:=PySem.W.hideAll h (vH h H)
def zpw(h:Heap)(H:Hp):(mD h H).objs.size=h.objs.size:=PySem.W.hideAll_size _ _
def zpD{h:Heap}{H:Hp}{b:Addr}{o:Obj}(e:h.get? b=some o)(n:H b=none):(mD h H).get? b=some o:=
 PySem.W.hideAll_get _ e λhm=>by
  have q:(H b).isSome=true:=(YAZ.mp hm).2;rw[n]at q;simp at q
def zsG{h:Heap}{H:Hp}{b:Addr}{o:Obj}(e:(mD h H).get? b=some o):h.get? b=some o/\H b=none:=by
 have e':h.get? b=some o:=PySem.W.of_hideAll (vH h H) e;refine⟨e',?_⟩;cases q:H b with
 |none=>rfl
 |some x=>
  have hm:b∈vH h H:=YAZ.mpr ⟨List.mem_range.mpr (dB e'),by simp[q]⟩;have z:(mD h H).get? b=none:=PySem.W.hideAll_none (vH h H) hm;rw[z]at e;cases e
structure Mod(K:qo)(mg:Str->Option Value)(base:Heap):Prop where
 kin:K.In base
 glob:base.Ns mainGlobals mg
 blt:∃mb,base.Ns builtinsNs mb/\∀x:Str,x≠"__name__" -> mb x=bootBuiltins x
 nolimit:base.NoLimit
structure Cx where
 prog:Program
 w:World
 K:qo
 mg:Str->Option Value
 base:Heap
 A:Around
 N:List Str
 s₀:Shared
 H₀:Hp
 env:Env
 outer:List Env
 stack:List Env
 ex:List Addr
 fn:Str->Bool
 calm:Bool
 pn:List (Addr×Obj)
 xe:Value->Shared->Prop
def frs(l:List Env):List Addr:=l.filterMap (·.frame)
abbrev Cx.fs(X:Cx):List Addr:=frs X.outer
def Dh(sc:Scope)(x:Str):Prop:=sc.names.lookup x=some .local\/sc.names.lookup x=some .cell\/sc.names.lookup x=some .free
def Loc(sc:Scope)(x:Str):Prop:=sc.names.lookup x=some .local\/sc.names.lookup x=some .cell
def Look(env:Env)(h:Heap)(m:Str->Option Value)(x:Str)(u:Value):Prop:=
 (env.kindOf x=some .local/\m x=some u)\/((env.kindOf x=some .cell\/env.kindOf x=some .free)/\∃c,env.cells.lookup x=some c/\h.IsCell c (some u))
structure Cx.Ok(X:Cx):Prop where
 mod:Mod X.K X.mg X.base
 kind:X.env.scope.kind=.function
 glob:X.env.globals=mainGlobals
 blt:X.env.builtins=builtinsNs
 above:X.s₀.heap.objs.size<=X.env.locals
 inj:∀x y c,X.env.cells.lookup x=some c->X.env.cells.lookup y=some c->x=y
 has:∀x,(X.env.kindOf x=some .cell\/X.env.kindOf x=some .free)->∃c,X.env.cells.lookup x=some c
 cab:∀x c,X.fn x=true->X.env.cells.lookup x=some c->X.s₀.heap.objs.size<=c
 hd:X.calm=true->X.A.handled=none
 frames:X.A.frames=some X.stack
 stk:X.stack=X.outer\/(X.stack=X.env::X.outer/\X.env.frame=some X.env.locals)
 exf:∀b∈X.ex,b≠X.env.locals/\∀x c,X.env.cells.lookup x=some c->c≠b
 bs:∀b o,X.base.get? b=some o->X.s₀.heap.get? b=some o/\X.H₀ b=none
 bsz:X.base.objs.size<=X.s₀.heap.objs.size
 noex:∀b o,X.base.get? b=some o->b∉X.ex
 exfs:∀b∈X.ex,b∉X.fs
 funs:X.s₀.heap.FunFrames X.base X.outer
 frf:∀b∈X.fs,X.H₀ b=none
structure Inv(X:Cx)(aa:List (Addr×Obj))(Z:List (Option V))(H:Hp)(s:Shared):Prop where
 ok:X.Ok
 os:s.os=X.s₀.os
 bare:AllBare s.gens
 base:Un X.fs X.ex X.H₀ H X.s₀.heap s.heap
 loc:∃m,s.heap.Ns X.env.locals m/\∀(i:Nat)(x:Str)(v:V),X.N[i]?=some x->Z[i]?=some (some v)->Dh X.env.scope x->∃u,RelV v u/\Look X.env s.heap m x u
 cell:∀x c,X.env.cells.lookup x=some c->∃v,s.heap.IsCell c v
 free:H X.env.locals=none
 freeC:∀x c,X.env.cells.lookup x=some c->H c=none
 pin:∀p∈X.pn++aa,s.heap.get? p.1=some p.2/\H p.1=none/\p.1≠X.env.locals/\p.1∉X.fs/\∀v,p.2.data≠.cell v
 hok:iW X.prog X.w H s.heap
 len:Z.length=X.N.length
section
variable{X:Cx}{aa:List (Addr×Obj)}{Z:List (Option V)}{H H':Hp}{s:Shared}{h':Heap}
def Cx.Ok.nofr(ok:X.Ok)(e:X.base.get? b=some o):b∉X.fs:=λhb=>by
 have:=(ok.funs.mem hb).1
 rw[e]at this;cases this
theorem Inv.bs(I:Inv X aa Z H s):∀b o,X.base.get? b=some o->s.heap.get? b=some o/\H b=none:=λb o e=>
 ⟨I.base.keep b o (I.ok.bs b o e).1 (I.ok.bs b o e).2 (I.ok.nofr e) (I.ok.noex b o e),I.base.free b o (I.ok.bs b o e).1 (I.ok.bs b o e).2 (I.ok.noex b o e)⟩
def Inv.bk(I:Inv X aa Z H s):∀b o,X.base.get? b=some o->s.heap.get? b=some o:=λb o e=>(I.bs b o e).1
theorem Inv.mod(I:Inv X aa Z H s):Mod X.K X.mg X.base:=I.ok.mod
def Inv.kIn(I:Inv X aa Z H s):X.K.In s.heap:=I.ok.mod.kin.keeps I.bk
theorem Inv.lt(I:Inv X aa Z H s):X.env.locals<s.heap.objs.size:=let⟨_,hn,_⟩:=I.loc;hn.lt
def Inv.sz(I:Inv X aa Z H s):X.s₀.heap.objs.size<=s.heap.objs.size:=YAB I.ok.above (Nat.le_of_lt I.lt)
def Inv.nofs(I:Inv X aa Z H s)(h:s.heap.objs.size<=a):a∉X.fs:=λhb=>by
 obtain⟨_,o,ho,_⟩:=I.ok.funs.mem hb;exact absurd (jA (dB ho) (YAB I.sz h)) (uO _)
def Inv.cne(I:Inv X aa Z H s):∀x c,X.env.cells.lookup x=some c->c≠X.env.locals:=λx c e z=>by
 obtain⟨v,o,ho,hd⟩:=I.cell x c e;obtain⟨m,⟨o',es,ep,ho',hd',_⟩,_⟩:=I.loc;rw[z,ho']at ho;cases ho;rw[hd']at hd;cases hd
theorem Inv.funs(I:Inv X aa Z H s):s.heap.FunFrames X.base X.outer:=by
 have all:∀(l:List Env),(∀b∈frs l,b∈X.fs)->X.s₀.heap.FunFrames X.base l->s.heap.FunFrames X.base l:=by
  intro l
  induction l with
  |nil=>intro _ _;trivial
  |cons env r ih=>
   intro hs hl;obtain⟨hk,⟨L,o,hf,hn,ho,hd⟩,hr⟩:=hl;have hL:L∈X.fs:=hs L (by unfold frs;rw[YAQ,hf];exact gC);obtain⟨sl,e⟩:=I.base.slot L o ho (I.ok.frf L hL) hL λz=>I.ok.exfs L z hL;exact⟨hk,⟨L,_,hf,hn,e,hd⟩,ih (λb hb=>hs b (by unfold frs;rw[YAQ,hf];exact kj _ hb)) hr⟩
 exact all X.outer (λ_ hb=>hb) I.ok.funs
theorem Inv.stack(I:Inv X aa Z H s):s.heap.FunFrames X.base X.stack:=by
 rcases I.ok.stk with e|⟨e,hf⟩
 .rw[e];exact I.funs
 .rw[e];obtain⟨m,hn,_⟩:=I.loc;refine .cons (by rw[I.ok.kind];decide) hf hn ?_ I.funs;exact Heap.get?_none_of_le (YAB I.ok.bsz I.ok.above)
def Inv.stkSub(I:Inv X aa Z H s):∀b∈frs X.stack,b∈X.env.locals::X.fs:=λb hb=>by
 rcases I.ok.stk with e|⟨e,hf⟩
 .rw[e]at hb;exact kj _ hb
 .rw[e]at hb;unfold frs at hb;rw[YAQ,hf]at hb;exact hb
def Inv.stkFree(I:Inv X aa Z H s):∀b∈frs X.stack,H b=none:=λb hb=>by
 rcases iU.mp (I.stkSub b hb)with e|hb
 .rw[e];exact I.free
 .obtain⟨_,o,ho,_⟩:=I.ok.funs.mem hb;exact I.base.free b o ho (I.ok.frf b hb) λz=>I.ok.exfs b z hb
def Inv.step{g':Array GenState}{t':Nat}{d':Drawn}{ch:List Addr}(I:Inv X aa Z H s)
  (hch:∀b∈ch,(b∈X.ex\/X.s₀.heap.objs.size<=b)/\b≠X.env.locals/\(∀x c,X.env.cells.lookup x=some c->c≠b)/\∀p∈X.pn++aa,p.1≠b)
  (keep:∀b o,b≠X.env.locals->b∉X.fs->b∉ch->s.heap.get? b=some o->H b=none->h'.get? b=some o)
  (slot:∀b o,b≠X.env.locals->b∈X.fs->b∉ch->s.heap.get? b=some o->H b=none->∃sl,h'.get? b=some {o with slots:=sl}) (free:∀b o,b∉ch->s.heap.get? b=some o->H b=none->H' b=none)
  (there:∀b o,b∉ch->s.heap.get? b=some o->∃o',h'.get? b=some o')
  (tups:∀b xs,H b=some (.tup xs)->H' b=some (.tup xs)) (frzs:∀b o u,H b=some (.jl o u)->H' b=some (.jl o u)) (tbls:∀b ps,H b=some (.tbl ps)->∃more,H' b=some (.tbl (ps++more)))
  (ns:∀m,s.heap.Ns X.env.locals m->h'.Ns X.env.locals m) (hok:iW X.prog X.w H' h') (hg:AllBare g') :
  Inv X aa Z H' {s with heap:=h',gens:=g',drawn:=d',toks:=t'}:=by
 have neL:∀b o,X.s₀.heap.get? b=some o->b≠X.env.locals:=λb o e=>fX (jA (dB e) I.ok.above);have neC:∀b o,X.s₀.heap.get? b=some o->b∉X.ex->b∉ch:=λb o e hx hb=>by
  rcases(hch b hb).1 with z|z
  .exact hx z
  .exact absurd (jA (dB e) z) (uO _)
 have cellK:∀x c,X.env.cells.lookup x=some c->∀v,s.heap.IsCell c v->h'.IsCell c v:=λx c e v ⟨o,ho,hd⟩=>by
  have nch:c∉ch:=λz=>(hch c z).2.2.1 x c e rfl;by_cases hc:c∈X.fs
  .obtain⟨sl,q⟩:=slot c o (I.cne x c e) hc nch ho (I.freeC x c e);exact⟨_,q,hd⟩
  .exact⟨o,keep c o (I.cne x c e) hc nch ho (I.freeC x c e),hd⟩
 refine⟨I.ok,I.os,hg,⟨λb o e n hb hx=>?_,λb o e n hb hx=>?_,λb o e n hx=>?_,λb o e hx=>?_,λb xs e=>tups b xs (I.base.tups b xs e),λb o xs e=>frzs b o xs (I.base.frzs b o xs e),λb ps e=>?_⟩,?_,λx c e=>?_,?_,λx c e=>?_,λp hp=>?_,hok,I.len⟩
 .exact keep b o (neL b o e) hb (neC b o e hx) (I.base.keep b o e n hb hx) (I.base.free b o e n hx)
 .obtain⟨sl,e1⟩:=I.base.slot b o e n hb hx;obtain⟨sl',e2⟩:=slot b _ (neL b o e) hb (neC b o e hx) e1 (I.base.free b o e n hx);exact⟨sl',e2⟩
 .obtain⟨o',e1⟩:=I.base.there b o e hx;exact free b o' (neC b o e hx) e1 (I.base.free b o e n hx)
 .obtain⟨o',e1⟩:=I.base.there b o e hx;exact there b o' (neC b o e hx) e1
 .obtain⟨m1,e1⟩:=I.base.tbls b ps e;obtain⟨m2,e2⟩:=tbls b _ e1;exact⟨m1++m2,by rw[e2,Array.append_assoc]⟩
 .obtain⟨m,hn,hl⟩:=I.loc;refine⟨m,ns m hn,λi x v e1 e2 e3=>?_⟩;obtain⟨u,r,l⟩:=hl i x v e1 e2 e3;refine⟨u,r,?_⟩;rcases l with l|⟨k,c,e,z⟩
  .exact .inl l
  .exact .inr ⟨k,c,e,cellK x c e _ z⟩
 .obtain⟨v,z⟩:=I.cell x c e;exact⟨v,cellK x c e v z⟩
 .obtain⟨m,⟨o,_,_,ho,_⟩,_⟩:=I.loc;exact free _ o (λz=>(hch _ z).2.1 rfl) ho I.free
 .obtain⟨v,o,ho,hd⟩:=I.cell x c e;exact free c o (λz=>(hch c z).2.2.1 x c e rfl) ho (I.freeC x c e)
 .obtain⟨e,n,ne,nf,d⟩:=I.pin p hp;have nch:p.1∉ch:=λz=>(hch p.1 z).2.2.2 p hp rfl;exact⟨keep p.1 p.2 ne nf nch e n,free p.1 p.2 nch e n,ne,nf,d⟩
def Inv.un{t':Nat}(I:Inv X aa Z H s)(u:Un X.fs [] H H' s.heap h')(hok:iW X.prog X.w H' h'):Inv X aa Z H' {s with heap:=h',toks:=t'}:=by
 obtain⟨m,⟨o,es,ep,ho,r⟩,_⟩:=id I.loc;obtain⟨sl,hL⟩:=u.any ho I.free (by simp);exact I.step (g':=s.gens) (d':=s.drawn) (ch:=[]) (λ_ z=>nomatch z) (λb o _ hb _ e n=>u.keep b o e n hb (by simp)) (λb o _ hb _ e n=>u.slot b o e n hb (by simp)) (λb o _ e n=>u.free b o e n (by simp)) (λb o _ e=>u.there b o e (by simp)) u.tups u.frzs u.tbls (λm' hm=>by
  obtain⟨o',es',ep',ho',r'⟩:=hm;rw[ho]at ho';cases ho';exact⟨_,es',ep',hL,r'⟩) hok I.bare
def Inv.call{g':Array GenState}{t':Nat}{d':Drawn}{ch:List Addr}(I:Inv X aa Z H s)(u:Un (frs X.stack) ch H H' s.heap h')(hok:iW X.prog X.w H' h')(hg:AllBare g')
  (hch:∀b∈ch,(b∈X.ex\/X.s₀.heap.objs.size<=b)/\b≠X.env.locals/\(∀x c,X.env.cells.lookup x=some c->c≠b)/\∀p∈X.pn++aa,p.1≠b) :
  Inv X aa Z H' {s with heap:=h',gens:=g',drawn:=d',toks:=t'}:=by
 obtain⟨m,⟨o,es,ep,ho,r⟩,_⟩:=id I.loc;obtain⟨sl,hL⟩:=u.any ho I.free λz=>(hch _ z).2.1 rfl;exact I.step (ch:=ch) hch (λb o hL hb hc e n=>u.keep b o e n (λz=>(iU.mp (I.stkSub b z)).elim hL hb) hc) (λb o _ _ hc e n=>u.any e n hc) (λb o hc e n=>u.free b o e n hc) (λb o hc e=>u.there b o e hc) u.tups u.frzs u.tbls (λm' hm=>by
  obtain⟨o',es',ep',ho',r'⟩:=hm;rw[ho]at ho';cases ho';exact⟨_,es',ep',hL,r'⟩) hok hg
def Inv.turned{t':Nat}{it:Addr}(I:Inv X aa Z H s)(k:∀b o,b≠it->s.heap.get? b=some o->h'.get? b=some o)(hn:H it=none)(hL:it≠X.env.locals)
  (h1:it∈X.ex\/X.s₀.heap.objs.size<=it) (h2:∀x c,X.env.cells.lookup x=some c->c≠it) (h3:∀p∈X.pn++aa,p.1≠it):Inv X aa Z H {s with heap:=h',toks:=t'}:=by
 have nit:∀b u,H b=some u->b≠it:=λb u e z=>by rw[z,hn]at e;cases e
 refine I.step (g':=s.gens) (d':=s.drawn) (ch:=[it]) (λb hb=>?_) (λb o _ _ hc e _=>k b o (λz=>hc (by simp[z])) e) (λb o _ _ hc e _=>⟨o.slots,k b o (λz=>hc (by simp[z])) e⟩) (λ_ _ _ _ n=>n)
  (λb o hc e=>⟨o,k b o (λz=>hc (by simp[z])) e⟩) (λ_ _ e=>e) (λ_ _ _ e=>e) (λb ps e=>⟨#[],by rw[e];simp⟩) (λm hm=>?_) (λb u e=>?_) I.bare
 .have e:b=it:=by simpa using hb
  subst e;exact⟨h1,hL,h2,h3⟩
 .obtain⟨o,es,ep,ho,r⟩:=hm;exact⟨o,es,ep,k _ o (YAM hL) ho,r⟩
 .refine(I.hok b u e).stay (λc v hc q=>k c v ?_ q) (λ_ q=>q) λ_ _ q=>q;rcases hc with z|z
  .rw[z];exact nit b u e
  .exact nit c _ z
def Inv.tok(I:Inv X aa Z H s)(t:Nat):Inv X aa Z H {s with toks:=t}:=I.un (h':=s.heap) (t':=t) Un.refl I.hok
theorem Inv.kept{t':Nat}(I:Inv X aa Z H s)(k:∀b u,s.heap.get? b=some u->h'.get? b=some u):Inv X aa Z H {s with heap:=h',toks:=t'}:=I.un (Un.kept k) (I.hok.kept k)
theorem Inv.laid{a:Addr}{o:HO}{t':Nat}(I:Inv X aa Z H s)(k:∀b u,s.heap.get? b=some u->h'.get? b=some u)(hp:s.heap.objs.size<=a)(new:cu X.prog X.w (upd H a o) h' a o) :
  Inv X aa Z (upd H a o) {s with heap:=h',toks:=t'}:=I.un (Un.laid k hp (I.hok.fresh hp)) (I.hok.laid k hp new)
theorem Inv.write{x e:Addr}{o:HO}{t':Nat}(I:Inv X aa Z H s)(mu:Ke (H x))(he:e=x\/H e=some (.own x))(k:∀b u,b≠e->s.heap.get? b=some u->h'.get? b=some u)(heo:∃u,h'.get? e=some u)
  (new:cu X.prog X.w (upd H x o) h' x o):Inv X aa Z (upd H x o) {s with heap:=h',toks:=t'}:=I.un (Un.write mu he k heo) (I.hok.write mu he k heo new)
def Inv.weak(I:Inv X aa Z H s)(hl:Z'.length=Z.length)(w:∀(i:Nat) v,Z'[i]?=some (some v)->Z[i]?=some (some v)):Inv X aa Z' H s:=
 ⟨I.ok,I.os,I.bare,I.base,let⟨m,hn,hl'⟩:=I.loc;⟨m,hn,λi x v e1 e2 e3=>hl' i x v e1 (w i v e2) e3⟩,I.cell,I.free,I.freeC,I.pin,I.hok,hl.trans I.len⟩
def Inv.pins_of(I:Inv X aa Z H s)(h:∀p∈pins',s.heap.get? p.1=some p.2/\H p.1=none/\p.1≠X.env.locals/\p.1∉X.fs/\∀v,p.2.data≠.cell v):Inv X pins' Z H s:=
 ⟨I.ok,I.os,I.bare,I.base,I.loc,I.cell,I.free,I.freeC,λp hp=>(YAJ.mp hp).elim (λz=>I.pin p (CJ _ z)) (h p),I.hok,I.len⟩
def ziO{N:List Str}(hN:N.Nodup){i j:Nat}{x:Str}(a:N[i]?=some x)(b:N[j]?=some x):i=j:=by
 obtain⟨h1,e1⟩:=jC.mp a;obtain⟨h2,e2⟩:=jC.mp b;exact(List.getElem_inj hN).mp (e1.trans e2.symm)
def zjb{M:Model}{A:Around}{E:Value->Shared->Prop}{i:Nat}{x:Str}{v:V}{u:Value}{Q:Unit->Shared->Prop}(I:Inv X aa Z H s)(hN:X.N.Nodup)(hi:X.N[i]?=some x)(hx:Loc X.env.scope x)(r:RelV v u)
  (h:∀s',Inv X aa (Z.set i (some v)) H s'->(∃a,Heap.SameBut a s.heap s'.heap/\(a=X.env.locals\/X.env.cells.lookup x=some a))->Q () s') (hf:X.fn x=true\/X.env.scope.names.lookup x=some .local:=by first|exact .inl rfl|exact .inr rfl|assumption):wpAny M A (storeName X.env x u) Q E s:=by
 obtain⟨m,hn,hl⟩:=id I.loc;have hcls:(X.env.scope.kind==.class || (X.env.scope.kind==.module&&X.env.locals != X.env.globals))=false:=by rw[I.ok.kind];rfl
 have hiσ:i<Z.length:=by rw[I.len];exact(jC.mp hi).1
 have cne:=I.cne;have tracked:∀{a:Addr}{h':Heap},(∃o,s.heap.get? a=some o/\H a=none)->Heap.SameBut a s.heap h'->iW X.prog X.w H h':=λ{a h'} ha hs b ob e=>by
  obtain⟨_,_,hfree⟩:=ha;refine(I.hok b ob e).stay (λc w' hc q=>(hs.2 c ?_).trans q) (λ_ q=>q) λ_ _ q=>q;rintro rfl;rcases hc with rfl|hc
  .rw[hfree]at e;cases e
  .rw[hfree]at hc;cases hc
 rcases hx with hk|hk
 .refine wpAny_storeName_local hk hn (λh' hn' hs=>?_) hcls;obtain⟨oL,_,_,hoL,_⟩:=id hn;refine h _ ⟨I.ok,I.os,I.bare,⟨λb o e n hb hx=>?_,λb o e n hb hx=>?_,I.base.free,λb o e hx=>?_,I.base.tups,I.base.frzs,I.base.tbls⟩,⟨_,hn',λj y v' e1 e2 e3=>?_⟩,λy c e=>?_,I.free,I.freeC,λp hp=>?_,tracked ⟨oL,hoL,I.free⟩ hs,by simpa using I.len⟩ ⟨_,hs,.inl rfl⟩
  .exact(hs.2 b (fX (jA (dB e) I.ok.above))).trans (I.base.keep b o e n hb hx)
  .obtain⟨sl,e1⟩:=I.base.slot b o e n hb hx;exact⟨sl,(hs.2 b (fX (jA (dB e) I.ok.above))).trans e1⟩
  .obtain⟨o',e1⟩:=I.base.there b o e hx;exact⟨o',(hs.2 b (fX (jA (dB e) I.ok.above))).trans e1⟩
  .by_cases hj:j=i
   .subst hj;rw[hi]at e1;cases e1;rw[jL hiσ]at e2;cases e2;exact⟨u,r,.inl ⟨hk,by simp⟩⟩
   .rw[jG (YAM hj)]at e2;obtain⟨u',r',q⟩:=hl j y v' e1 e2 e3;refine⟨u',r',?_⟩;rcases q with⟨k,e⟩|⟨k,c,e,z⟩
    .refine .inl ⟨k,?_⟩
     have:y≠x:=λe=>hj (ziO hN e1 (e▸hi))
     simp[this,e]
    .exact .inr ⟨k,c,e,z.sameBut hs (cne y c e)⟩
  .obtain⟨w',z⟩:=I.cell y c e;exact⟨w',z.sameBut hs (cne y c e)⟩
  .obtain⟨e,n,ne,nf,d⟩:=I.pin p hp;exact⟨(hs.2 p.1 ne).trans e,n,ne,nf,d⟩
 .have hfn:X.fn x=true:=by
   rcases hf with z|z
   .exact z
   .rw[z]at hk;cases hk
  obtain⟨c,hc⟩:=I.ok.has x (.inl hk);obtain⟨w',z⟩:=I.cell x c hc;refine wpAny_storeName_cell I.ok.kind hk hc z (λh' hc' hs=>?_);obtain⟨oc,hoc,hocd⟩:=id z;refine h {s with heap:=h'} ⟨I.ok,I.os,I.bare,⟨λb o e n hb hx=>?_,λb o e n hb hx=>?_,I.base.free,λb o e hx=>?_,I.base.tups,I.base.frzs,I.base.tbls⟩,⟨m,hn.sameBut hs (YAM (cne x c hc)),λj y v' e1 e2 e3=>?_⟩,λy c' e=>?_,I.free,I.freeC,λp hp=>?_,tracked ⟨oc,hoc,I.freeC x c hc⟩ hs,by simpa using I.len⟩ ⟨c,hs,.inr hc⟩
  .exact(hs.2 b (fX (jA (dB e) (I.ok.cab x c hfn hc)))).trans (I.base.keep b o e n hb hx)
  .obtain⟨sl,e1⟩:=I.base.slot b o e n hb hx;exact⟨sl,(hs.2 b (fX (jA (dB e) (I.ok.cab x c hfn hc)))).trans e1⟩
  .obtain⟨o',e1⟩:=I.base.there b o e hx;exact⟨o',(hs.2 b (fX (jA (dB e) (I.ok.cab x c hfn hc)))).trans e1⟩
  .by_cases hj:j=i
   .subst hj;rw[hi]at e1;cases e1;rw[jL hiσ]at e2;cases e2;exact⟨u,r,.inr ⟨.inl hk,c,hc,hc'⟩⟩
   .rw[jG (YAM hj)]at e2;obtain⟨u',r',q⟩:=hl j y v' e1 e2 e3;refine⟨u',r',?_⟩;rcases q with q|⟨k,c',e,z'⟩
    .exact .inl q
    .refine .inr ⟨k,c',e,z'.sameBut hs ?_⟩;rintro rfl;exact hj (ziO hN e1 (I.ok.inj _ _ _ e hc▸hi))
  .by_cases hcc:c'=c
   .subst hcc;exact⟨_,hc'⟩
   .obtain⟨w2,z2⟩:=I.cell y c' e;exact⟨w2,z2.sameBut hs hcc⟩
  .obtain⟨e,n,ne,nf,d⟩:=I.pin p hp;refine⟨(hs.2 p.1 ?_).trans e,n,ne,nf,d⟩;intro q;rw[q,hoc]at e;have q':oc=p.2:=Option.some.inj e;exact d w' (by rw[<-q'];exact hocd)
def Ff{M:Model}{A:Around}{E:Value->Shared->Prop}{i:Nat}{x:Str}{v:V}{u:Value}{Q:Unit->Shared->Prop}(I:Inv X aa Z H s)(hN:X.N.Nodup)(hi:X.N[i]?=some x)(hx:Loc X.env.scope x)(r:RelV v u)
  (h:∀s',Inv X aa (Z.set i (some v)) H s'->Q () s') (hf:X.fn x=true\/X.env.scope.names.lookup x=some .local:=by first|exact .inl rfl|exact .inr rfl|assumption):wpAny M A (storeName X.env x u) Q E s:=
 zjb I hN hi hx r (λs' I' _=>h s' I') hf
def Inv.call'(I:Inv X aa Z H s)(ho:s'.os=s.os)(u:Un (frs X.stack) ch H H' s.heap s'.heap)(hok:iW X.prog X.w H' s'.heap)(hg:AllBare s'.gens)
  (hch:∀b∈ch,(b∈X.ex\/X.s₀.heap.objs.size<=b)/\b≠X.env.locals/\(∀x c,X.env.cells.lookup x=some c->c≠b)/\∀p∈X.pn++aa,p.1≠b):Inv X aa Z H' s':=by
 obtain⟨h',g',d',t',o'⟩:=s';have e:o'=s.os:=ho;subst e;exact I.call (g':=g') (t':=t') (d':=d') u hok hg hch
end
abbrev XK:=Value->Option Addr->Hp->Prop
abbrev St:=List (Option V)
abbrev VK:=V->Hp->Prop
abbrev TE:=St->Hp->VK->Prop
abbrev TT:=St->Hp->(Bool->Hp->Prop)->Prop
abbrev TA:=St->Hp->(List V->Hp->Prop)->Prop
structure Ends where
 nx:St->Hp->Prop
 rt:VK
 bk:St->Hp->Prop:=λ_ _=>False
 ct:St->Hp->Prop:=λ_ _=>False
abbrev TS:=Ends->St->Hp->Prop
def EP(X:Cx)(aa:List (Addr×Obj))(Z:St)(Q:VK)(u:Value)(s':Shared):Prop:=∃v H',Inv X aa Z H' s'/\RelV v u/\Q v H'
def TP(X:Cx)(aa:List (Addr×Obj))(Z:St)(Q:Bool->Hp->Prop)(b:Bool)(s':Shared):Prop:=∃H',Inv X aa Z H' s'/\Q b H'
def AP(X:Cx)(aa:List (Addr×Obj))(Z:St)(Q:List V->Hp->Prop)(us:List Value)(s':Shared):Prop:=∃vs H',Inv X aa Z H' s'/\Vals vs us/\Q vs H'
noncomputable def SP(X:Cx)(aa:List (Addr×Obj))(D:Ends)(f:Flow)(s':Shared):Prop:=
 match f with
 |.next=>∃ Z' H',Inv X aa Z' H' s'/\D.nx Z' H'
 |.brk=>∃ Z' H',Inv X aa Z' H' s'/\D.bk Z' H'
 |.cont=>∃ Z' H',Inv X aa Z' H' s'/\D.ct Z' H'
 |.ret u=>∃v Z' H',Inv X aa Z' H' s'/\RelV v u/\D.rt v H'
def PE(X:Cx)(e:Expr)(t:TE):Prop:=
 ∀(aa:List (Addr×Obj))(s:Shared)(Z:St)(H:Hp)(Q:VK),Inv X aa Z H s->t Z H Q->wpAny (model X.prog X.w) X.A (eval e X.env) (EP X aa Z Q) X.xe s
def PT(X:Cx)(e:Expr)(t:TT):Prop:=
 ∀(aa:List (Addr×Obj))(s:Shared)(Z:St)(H:Hp)(Q:Bool->Hp->Prop),Inv X aa Z H s->t Z H Q->wpAny (model X.prog X.w) X.A (isTrue e X.env (eval e X.env)) (TP X aa Z Q) X.xe s
def PW(X:Cx)(e:Expr)(t:TT):Prop:=
 ∀(whole:Sem Value)(aa:List (Addr×Obj))(s:Shared)(Z:St)(H:Hp)(Q:Bool->Hp->Prop),Inv X aa Z H s->t Z H Q->wpAny (model X.prog X.w) X.A (isTrue e X.env whole) (TP X aa Z Q) X.xe s
def PW.pt{X:Cx}{e:Expr}{t:TT}(h:PW X e t):PT X e t:=h _
def PA(X:Cx)(es:List Expr)(t:TA):Prop:=
 ∀(pos:Pos)(aa:List (Addr×Obj))(s:Shared)(Z:St)(H:Hp)(Q:List V->Hp->Prop),Inv X aa Z H s->t Z H Q->wpAny (model X.prog X.w) X.A (spliced (backTo pos (starEach es X.env))) (AP X aa Z Q) X.xe s
def PS(X:Cx)(st:Stmt)(t:TS):Prop:=
 ∀(aa:List (Addr×Obj))(s:Shared)(Z:St)(H:Hp)(D:Ends),Inv X aa Z H s->t D Z H->wpAny (model X.prog X.w) X.A (exec st X.env) (SP X aa D) X.xe s
def lH(X:Cx)(st:List Stmt)(t:TS):Prop:=
 ∀(aa:List (Addr×Obj))(s:Shared)(Z:St)(H:Hp)(D:Ends),Inv X aa Z H s->t D Z H->wpAny (model X.prog X.w) X.A (execs st X.env) (SP X aa D) X.xe s
def bH{α:Type}{t:Sem α}{Q Q':α->Shared->Prop}{M:Model}{A:Around}{E:Value->Shared->Prop}{s:Shared}(h:wpAny M A t Q E s)(hQ:∀a s,Q a s->Q' a s):wpAny M A t Q' E s:=lD h hQ λ_ _ x=>x
section
variable{X:Cx}
def tE(i:Nat):TE:=λZ H Q=>∃v,Z[i]?=some (some v)/\Q v H
def tC(v:V):TE:=λ_ H Q=>Q v H
def kO(hN:X.N[i]?=some x)(hv:Dh X.env.scope x)(hd:(x==("__debug__":Str))=false:=by decide)(hcd:(x==("__classdict__":Str))=false:=by decide):PE X (.Name x pos) (tE i):=by
 intro aa s Z H Q I h;obtain⟨v,e,h⟩:=h;obtain⟨m,hn,hl⟩:=I.loc;obtain⟨u,r,l⟩:=hl i x v hN e hv;have fin:EP X aa Z Q u s:=⟨v,H,I,r,h⟩;rcases l with⟨hk,hm⟩|⟨hk,c,hc,hcell⟩
 .exact Ez (wpAny_loadName_local I.ok.kind hk hn hm fin) hd
 .rcases hk with hk|hk
  .exact Ez (wpAny_loadName_cell I.ok.kind hk hc hcell fin) hd
  .exact Ez (wpAny_loadName_free I.ok.kind hk hc hcell fin hcd) hd
def jo{i j pos}:PE X (.Constant (.int i) j pos) (tC (.int i)):=λ_ _ _ H _ I h=>wpAny_Constant_int ⟨.int i,H,I.tok _,⟨_,rfl⟩,h⟩
def zwC{b j pos}:PE X (.Constant (.bool b) j pos) (tC (.bl b)):=λ_ _ _ H _ I h=>Constant_bool ⟨.bl b,H,I,rfl,h⟩
def ztJ{j pos}:PE X (.Constant .none j pos) (tC .non):=λ_ _ _ H _ I h=>Constant_none ⟨.non,H,I,rfl,h⟩
def zra{x j pos}:PE X (.Constant (.str x) j pos) (tC (.str x)):=λ_ _ _ H _ I h=>Calls.Constant_str ⟨.str x,H,I.tok _,⟨_,rfl⟩,h⟩
def Gl(X:Cx)(x:Str):Prop:=X.env.kindOf x=some .globalImplicit
def xX{E:Value->Shared->Prop}{aa:List (Addr×Obj)}{s:Shared}{Z:St}{H:Hp}{x:Str}{u:Value}{pos:Pos}{Q:Value->Shared->Prop}(I:Inv X aa Z H s)(hg:Gl X x)(hm:X.mg x=some u)(h:Q u s)
  (hd:(x==("__debug__":Str))=false:=by decide):wpAny (model X.prog X.w) X.A (eval (.Name x pos) X.env) Q E s:=
 Calls.Name_function_global I.ok.kind hg (Calls.loadGlobal_global (by rw[I.ok.glob];exact I.mod.glob.keeps I.bk) hm h) hd
def Fi{E:Value->Shared->Prop}{aa:List (Addr×Obj)}{s:Shared}{Z:St}{H:Hp}{x:Str}{u:Value}{pos:Pos}{Q:Value->Shared->Prop}(I:Inv X aa Z H s)(hg:Gl X x)(hm:X.mg x=none)(hv:bootBuiltins x=some u)(h:Q u s)
  (hn:x≠"__name__":=by decide) (hd:(x==("__debug__":Str))=false:=by decide):wpAny (model X.prog X.w) X.A (eval (.Name x pos) X.env) Q E s:=by
 obtain⟨mb,h1,h2⟩:=I.mod.blt;exact Calls.Name_function_global I.ok.kind hg (Calls.loadGlobal_builtin (by rw[I.ok.glob];exact I.mod.glob.keeps I.bk) hm (by rw[I.ok.blt];exact h1.keeps I.bk) ((h2 x hn).trans hv) h) hd
def zkV(hg:Gl X x)(hm:X.mg x=some u)(r:RelV v u)(hd:(x==("__debug__":Str))=false:=by decide):PE X (.Name x pos) (tC v):=
 λ_ _ _ H _ I h=>xX I hg hm ⟨v,H,I,r,h⟩ hd
def zn0(hg:Gl X x)(hm:X.mg x=none)(hv:bootBuiltins x=some u)(r:RelV v u)(hn:x≠"__name__":=by decide)(hd:(x==("__debug__":Str))=false:=by decide):PE X (.Name x pos) (tC v):=
 λ_ _ _ H _ I h=>Fi I hg hm hv ⟨v,H,I,r,h⟩ hn hd
variable{a b:Expr}{ta tb:TE}{pos:Pos}
noncomputable def PC(X:Cx)(op:CmpOp)(a b:Expr)(t:TE):Prop:=
 ∀(aa:List (Addr×Obj))(s:Shared)(Z:St)(H:Hp)(Q:VK),Inv X aa Z H s->t Z H Q ->
  wpAny (model X.prog X.w) X.A (eval a X.env) (λv s₁=>wpAny (model X.prog X.w) X.A (eval b X.env) (λu s₂=>wpAny (model X.prog X.w) X.A (compareOp op v u) (EP X aa Z Q) X.xe s₂) X.xe s₁) X.xe s
def zmt(b:Expr){op:CmpOp}(h:op≠.In)(h2:op≠.NotIn):behindInMarks op b=false:=by
 have e1:(op==CmpOp.In)=false:=by cases op<;>first|rfl|exact absurd rfl h
 have e2:(op==CmpOp.NotIn)=false:=by cases op<;>first|rfl|exact absurd rfl h2
 cases b<;>simp[behindInMarks,e1,e2]
def tIsN(ta:TE):TE:=λZ H Q=>ta Z H λx H1=>Q (.bl (decide (x=.non))) H1
def RelV.none_iff{x:V}{v:Value}(r:RelV x v):(v==Value.none)=decide (x=.non):=by
 cases x with
 |non=>cases r;rfl
 |bl _=>cases r;rfl
 |int _=>obtain⟨t,rfl⟩:=r;rfl
 |str _=>obtain⟨t,rfl⟩:=r;rfl
 |byt _=>obtain⟨t,rfl⟩:=r;rfl
 |flt _=>obtain⟨t,rfl⟩:=r;rfl
 |ref _=>cases r;rfl
 |ty _=>cases r;rfl
def zrT{j pos'}(ha:PE X a ta):PC X .Is a (.Constant .none j pos') (tIsN ta):=by
 intro aa s Z H Q I h;refine bH (ha aa s Z H _ I h) λv s1 ⟨x,H1,I1,r1,q1⟩=>?_;exact Constant_none (is_none_gen ⟨.bl _,H1,I1,by rw[r1.none_iff];rfl,q1⟩)
def tB(t:TE):TT:=λZ H Q=>t Z H λx H1=>∃c,x=.bl c/\Q c H1
def zvB(h:PC X op a b t)(h1:behindInMarks op b=false:=by first|exact zmt _ (by decide) (by decide)|rfl):PE X (.Compare a [op] [b] pos) t:=λaa s Z H Q I hw=>wpAny_Compare1 (h aa s Z H Q I hw) h1
def zoy{op:CmpOp}{t:TE}(h:PC X op a b t)(h1:behindInMarks op b=false:=by first|exact zmt _ (by decide) (by decide)|rfl):PT X (.Compare a [op] [b] pos) (tB t):=by
 intro aa s Z H Q I hw;refine wpAny_isTrue_Compare1 (bH (h aa s Z H _ I hw) λv s1 h1=>bH h1 λu s2 h2=>bH h2 λc s3 ⟨x,H1,I1,r1,q1⟩=>?_) h1;obtain⟨d,rfl,q⟩:=q1;cases r1;exact wj ⟨H1,I1,q⟩
variable{tA tB':TT}{rest:List Expr}
def tAnd(t u:TT):TT:=λZ H Q=>t Z H λc H1=>if c=true then u Z H1 Q else Q false H1
def tOr(t u:TT):TT:=λZ H Q=>t Z H λc H1=>if c=true then Q true H1 else u Z H1 Q
def tNot(t:TT):TT:=λZ H Q=>t Z H λc H1=>Q (!c) H1
def zs7(ha:PT X a tA):PW X (.BoolOp .And [a] pos) tA:=by
 intro wh aa s Z H Q I h;refine isTrue_and (bH (ha aa s Z H Q I h) λc s1 e=>?_);cases c with
 |true=>exact isTrue_and_nil e
 |false=>exact e
def zuW(ha:PT X a tA):PW X (.BoolOp .Or [a] pos) tA:=by
 intro wh aa s Z H Q I h;refine isTrue_or (bH (ha aa s Z H Q I h) λc s1 e=>?_);cases c with
 |false=>exact isTrue_or_nil e
 |true=>exact e
def zt9(ha:PT X a tA)(hb:PW X (.BoolOp .And (b::rest) pos) tB'):PW X (.BoolOp .And (a::b::rest) pos) (tAnd tA tB'):=by
 intro wh aa s Z H Q I h;refine isTrue_and (bH (ha aa s Z H _ I h) λc s1 ⟨H1,I1,q1⟩=>?_);cases c with
 |true=>exact hb wh aa s1 Z H1 Q I1 q1
 |false=>exact⟨H1,I1,q1⟩
def zwd(ha:PT X a tA)(hb:PW X (.BoolOp .Or (b::rest) pos) tB'):PW X (.BoolOp .Or (a::b::rest) pos) (tOr tA tB'):=by
 intro wh aa s Z H Q I h;refine isTrue_or (bH (ha aa s Z H _ I h) λc s1 ⟨H1,I1,q1⟩=>?_);cases c with
 |true=>exact⟨H1,I1,q1⟩
 |false=>exact hb wh aa s1 Z H1 Q I1 q1
def zrJ(ha:PT X a tA):PT X (.UnaryOp .Not a pos) (tNot tA):=by
 intro aa s Z H Q I h;exact isTrue_not (ha aa s Z H (λc H1=>Q (!c) H1) I h)
def zwa(ta tb:TE):TE:=λZ H Q=>ta Z H λx H1=>∃c,x=.bl c/\if c=true then tb Z H1 Q else Q (.bl false) H1
def zwe(ta:TE):TE:=λZ H Q=>ta Z H λx H1=>∃c,x=.bl c/\Q (.bl (!c)) H1
def zuv{op}(h:PE X a t):PE X (.BoolOp op [a] pos) t:=λaa s Z H Q I hw=>BoolOp_one (h aa s Z H Q I hw)
def zuL(ha:PE X a ta)(hb:PE X (.BoolOp .And (b::rest) pos) tb):PE X (.BoolOp .And (a::b::rest) pos) (zwa ta tb):=by
 intro aa s Z H Q I h;refine BoolOp_and (bH (ha aa s Z H _ I h) λv s1 ⟨x,H1,I1,r1,q1⟩=>?_);obtain⟨c,rfl,q1⟩:=q1;cases r1;refine wj ?_;cases c with
 |true=>exact hb aa s1 Z H1 Q I1 q1
 |false=>exact⟨.bl false,H1,I1,rfl,q1⟩
def zue(ha:PE X a ta):PE X (.UnaryOp .Not a pos) (zwe ta):=by
 intro aa s Z H Q I h;refine UnaryOp_ (bH (ha aa s Z H _ I h) λv s1 ⟨x,H1,I1,r1,q1⟩=>?_);obtain⟨c,rfl,q1⟩:=q1;cases r1;exact not_of (wj ⟨.bl (!c),H1,I1,rfl,q1⟩)
def tIf(t:TT)(ta tb:TE):TE:=λZ H Q=>t Z H λc H1=>if c=true then ta Z H1 Q else tb Z H1 Q
def zqe{c:Expr}(hc:PT X c tA)(ha:PE X a ta)(hb:PE X b tb):PE X (.IfExp c a b pos) (tIf tA ta tb):=by
 intro aa s Z H Q I h;refine wpAny_IfExp (bH (hc aa s Z H _ I h) λd s1 ⟨H1,I1,q1⟩=>?_);cases d with
 |true=>exact ha aa s1 Z H1 Q I1 q1
 |false=>exact hb aa s1 Z H1 Q I1 q1
end
def cz(K:qo)(H:Hp)(a:Addr)(xs:List V):Prop:=
 Rd H a (.lst xs) \/
  ∃(o:Obj)(its:Array Value)(n:Nat),K.lookup a=some o/\o.cls=.type "list" /\ o.dict=none/\o.data=.seq its n/\its.size<=sizeLine/\Vals xs its.toList
def fY(K:qo)(H:Hp)(a:Addr)(xs:List V):Prop:=
 Rd H a (.tup xs) \/
  ∃(o:Obj)(its:Array Value)(n:Nat),K.lookup a=some o/\o.cls=.type "tuple" /\ o.data=.seq its n/\its.size<=sizeLine/\Vals xs its.toList
def absV:Value->Option V
 |.none=>some .non
 |.bool b=>some (.bl b)
 |.int i _=>some (.int i)
 |.str x _=>some (.str x)
 |.bytes b _=>some (.byt b)
 |.float b _=>some (.flt b)
 |.ref a=>some (.ref a)
 |.type n=>some (.ty n)
 |_=>none
def RelV.abs(r:RelV x u):absV u=some x:=by
 cases x with
 |non=>cases r;rfl
 |bl _=>cases r;rfl
 |int _=>obtain⟨t,rfl⟩:=r;rfl
 |str _=>obtain⟨t,rfl⟩:=r;rfl
 |byt _=>obtain⟨t,rfl⟩:=r;rfl
 |flt _=>obtain⟨t,rfl⟩:=r;rfl
 |ref _=>cases r;rfl
 |ty _=>cases r;rfl
theorem RelV.inj{x y:V}{u:Value}(r:RelV x u)(q:RelV y u):x=y:=Option.some.inj (r.abs.symm.trans q.abs)
theorem Vals.inj:∀{xs ys:List V}{us:List Value},Vals xs us->Vals ys us->xs=ys
 |_,_,_,.nil,.nil=>rfl
 |_,_,_,.cons r t,.cons r' t'=>by rw[r.inj r',Vals.inj t t']
section
variable{X:Cx}{aa:List (Addr×Obj)}{Z:St}{H:Hp}{s:Shared}{a:Addr}{xs ys:List V}
def cz.of{K:qo}(h:H a=some (.lst xs)):cz K H a xs:=.inl (.inl h)
def fY.of{K:qo}(h:H a=some (.tup xs)):fY K H a xs:=.inl (.inl h)
def Inv.list(I:Inv X aa Z H s)(h:cz X.K H a xs):∃its:List Value,Vals xs its/\PlainL s.heap a its.toArray/\xs.length<=sizeLine:=by
 rcases h with h|⟨o,its,n,hk,hc,hd,hs,hz,r⟩
 .obtain⟨z,its,n,r,e⟩:=h.ok I.hok;exact⟨its,r,⟨_,n,e,rfl,rfl,rfl⟩,z⟩
 .refine⟨its.toList,r,⟨o,n,I.kIn a o hk,hc,hd,by simpa using hs⟩,?_⟩;have e:=r.length;simp only[Cq]at e;omega
def Inv.tuple(I:Inv X aa Z H s)(h:fY X.K H a xs):∃its:List Value,Vals xs its/\IsTup s.heap a its.toArray/\xs.length<=sizeLine:=by
 rcases h with h|⟨o,its,n,hk,hc,hs,hz,r⟩
 .obtain⟨z,its,r,p⟩:=h.ok I.hok;exact⟨its,r,p,z⟩
 .refine⟨its.toList,r,⟨o,I.kIn a o hk,hc,n,by simpa using hs⟩,?_⟩;have e:=r.length;simp only[Cq]at e;omega
def Inv.list_inj(I:Inv X aa Z H s)(h:cz X.K H a xs)(h':cz X.K H a ys):xs=ys:=by
 obtain⟨its,r,⟨o,n,e,_,_,d⟩,_⟩:=I.list h;obtain⟨its',r',⟨o',n',e',_,_,d'⟩,_⟩:=I.list h';rw[e]at e';cases e';rw[d]at d';injection d' with d1 _
 have:its=its':=by simpa using congrArg Array.toList d1
 subst this;exact r.inj r'
def Inv.tuple_inj(I:Inv X aa Z H s)(h:fY X.K H a xs)(h':fY X.K H a ys):xs=ys:=by
 obtain⟨its,r,⟨o,e,_,n,d⟩,_⟩:=I.tuple h;obtain⟨its',r',⟨o',e',_,n',d'⟩,_⟩:=I.tuple h';rw[e]at e';cases e';rw[d]at d';injection d' with d1 _
 have:its=its':=by simpa using congrArg Array.toList d1
 subst this;exact r.inj r'
end
abbrev Cx.wish(X:Cx)(E:Value->Shared->Prop):Cx:={X with xe:=E}
abbrev Cx.nox(X:Cx):Cx:=X.wish λ_ _=>False
theorem Cx.Ok.wish{X:Cx}(ok:X.Ok)(E:Value->Shared->Prop):(X.wish E).Ok:=
 ⟨ok.mod,ok.kind,ok.glob,ok.blt,ok.above,ok.inj,ok.has,ok.cab,ok.hd,ok.frames,ok.stk,ok.exf,ok.bs,ok.bsz,ok.noex,ok.exfs,ok.funs,ok.frf⟩
def Cx.Ok.unwish{X:Cx}{E:Value->Shared->Prop}(ok:(X.wish E).Ok):X.Ok:=
 ⟨ok.mod,ok.kind,ok.glob,ok.blt,ok.above,ok.inj,ok.has,ok.cab,ok.hd,ok.frames,ok.stk,ok.exf,ok.bs,ok.bsz,ok.noex,ok.exfs,ok.funs,ok.frf⟩
section
variable{X:Cx}{aa:List (Addr×Obj)}{Z:St}{H:Hp}{s:Shared}{E:Value->Shared->Prop}
theorem Inv.wish(I:Inv X aa Z H s)(E:Value->Shared->Prop):Inv (X.wish E) aa Z H s:=⟨I.ok.wish E,I.os,I.bare,I.base,I.loc,I.cell,I.free,I.freeC,I.pin,I.hok,I.len⟩
theorem Inv.unwish(I:Inv (X.wish E) aa Z H s):Inv X aa Z H s:=⟨I.ok.unwish,I.os,I.bare,I.base,I.loc,I.cell,I.free,I.freeC,I.pin,I.hok,I.len⟩
theorem SP.unwish(h:SP (X.wish E) aa D f s'):SP X aa D f s':=by
 cases f with
 |next=>obtain⟨Z',H',I,q⟩:=h;exact⟨Z',H',I.unwish,q⟩
 |brk=>obtain⟨Z',H',I,q⟩:=h;exact⟨Z',H',I.unwish,q⟩
 |cont=>obtain⟨Z',H',I,q⟩:=h;exact⟨Z',H',I.unwish,q⟩
 |ret u=>obtain⟨v,Z',H',I,r,q⟩:=h;exact⟨v,Z',H',I.unwish,r,q⟩
theorem PE.nox(h:PE X.nox e t):PE X e t:=λaa s Z H Q I hw=>
 lD (h aa s Z H Q (I.wish _) hw) (λ_ _ ⟨v,H',I',r,q⟩=>⟨v,H',I'.unwish,r,q⟩) λ_ _ z=>False.elim z
theorem PT.nox(h:PT X.nox e t):PT X e t:=λaa s Z H Q I hw=>
 lD (h aa s Z H Q (I.wish _) hw) (λ_ _ ⟨H',I',q⟩=>⟨H',I'.unwish,q⟩) λ_ _ z=>False.elim z
theorem lH.nox{st:List Stmt}{t:TS}(h:lH X.nox st t):lH X st t:=λaa s Z H D I hw=>
 lD (h aa s Z H D (I.wish _) hw) (λ_ _ q=>q.unwish) λ_ _ z=>False.elim z
end
section
variable{X:Cx}{st:Stmt}{rest:List Stmt}{t u:TS}{e:Expr}{te:TE}{pos:Pos}
def zvU:TS:=λD Z H=>D.nx Z H
def tSeq(t u:TS):TS:=λD Z H=>t {D with nx:=u D} Z H
def Lf:lH X [] zvU:=λ_ _ Z H _ I h=>Di ⟨Z,H,I,h⟩
def nH(h1:PS X st t)(h2:lH X rest u):lH X (st::rest) (tSeq t u):=by
 intro aa s Z H D I h;refine YCq (bH (h1 aa s Z H {D with nx:=u D} I h) λf s1 q=>?_);cases f with
 |next=>
  obtain⟨Z',H',I',q⟩:=q;exact h2 aa s1 Z' H' D I' q
 |ret v=>exact q
 |brk=>exact q
 |cont=>exact q
def zq(h1:PS X st t):lH X [st] t:=by
 intro aa s Z H D I h;refine YCq (bH (h1 aa s Z H D I h) λf s1 q=>?_);cases f with
 |next=>exact Di q
 |ret v=>exact q
 |brk=>exact q
 |cont=>exact q
def Inv.quiet{aa:List (Addr×Obj)}{Z:St}{H:Hp}{s:Shared}(I:Inv X aa Z H s):interactive X.env=false:=by simp[interactive,I.ok.kind]
def zwl(te:TE):TS:=λD Z H=>te Z H λ_ H1=>D.nx Z H1
def Jg(he:PE X e te)(hs:swapsWith e none pos.line X.env=pure false:=by rfl):PS X (.Expr e pos) (zwl te):=by
 intro aa s Z H D I h;exact wpAny_Expr_any (bH (he aa s Z H _ I h) λv s1 ⟨x,H1,I1,r1,q1⟩=>⟨Z,H1,I1,q1⟩) I.quiet hs
def tRet(te:TE):TS:=λD Z H=>te Z H D.rt
def yJ(he:PE X e te):PS X (.Return (some e) pos) (tRet te):=by
 intro aa s Z H D I h;exact wpAny_Return_some (bH (he aa s Z H _ I h) λv s1 ⟨x,H1,I1,r1,q1⟩=>⟨x,Z,H1,I1,r1,q1⟩)
def tIfS(c:TT)(t u:TS):TS:=λD Z H=>c Z H λb H1=>if b=true then t D Z H1 else u D Z H1
def Kf{c:Expr}{a b:List Stmt}{tc:TT}(hc:PT X c tc)(ha:lH X a t)(hb:lH X b u):PS X (.If c a b pos) (tIfS tc t u):=by
 intro aa s Z H D I h;refine wpAny_If (bH (hc aa s Z H _ I h) λd s1 ⟨H1,I1,q1⟩=>?_);cases d with
 |true=>exact ha aa s1 Z H1 D I1 q1
 |false=>exact hb aa s1 Z H1 D I1 q1
end
abbrev TG:=V->St->Hp->(St->Hp->Prop)->Prop
abbrev uG:=List V->St->Hp->(St->Hp->Prop)->Prop
def PG(X:Cx)(target:Expr)(t:TG):Prop:=
 ∀(aa:List (Addr×Obj))(s:Shared)(Z:St)(H:Hp)(v:V)(u:Value)(Q:St->Hp->Prop),Inv X aa Z H s->RelV v u->t v Z H Q ->
  wpAny (model X.prog X.w) X.A (assign target X.env u) (λ_ s'=>∃ Z' H',Inv X aa Z' H' s'/\Q Z' H') X.xe s
noncomputable def G6(X:Cx)(ts:List Expr)(t:uG):Prop:=
 ∀(aa:List (Addr×Obj))(s:Shared)(Z:St)(H:Hp)(vs:List V)(us:List Value)(Q:St->Hp->Prop),Inv X aa Z H s->Vals vs us->t vs Z H Q ->
  wpAny (model X.prog X.w) X.A (assignInOrder ((assignEach ts X.env).map (·.2)) us) (λ_ s'=>∃ Z' H',Inv X aa Z' H' s'/\Q Z' H') X.xe s
abbrev uZ:=V->V->V->Hp->(Hp->Prop)->Prop
def Aw(X:Cx)(t:uZ):Prop:=
 ∀(aa:List (Addr×Obj))(s:Shared)(Z:St)(H:Hp)(o i v:V)(ov iv u:Value)(Q:Hp->Prop),Inv X aa Z H s->RelV o ov->RelV i iv->RelV v u->t o i v H Q ->
  wpAny (model X.prog X.w) X.A (setItem ov iv u) (λ_ s'=>∃H',Inv X aa Z H' s'/\Q H') X.xe s
abbrev TIp:=V->V->Hp->VK->Prop
def PIp(X:Cx)(op:Operator)(t:TIp):Prop:=
 ∀(aa:List (Addr×Obj))(s:Shared)(Z:St)(H:Hp)(x y:V)(v u:Value)(Q:VK),Inv X aa Z H s->RelV x v->RelV y u->t x y H Q ->
  wpAny (model X.prog X.w) X.A (inplaceOp op v u) (EP X aa Z Q) X.xe s
section
variable{X:Cx}{pos:Pos}
def zJ(i:Nat):TG:=λv Z H Q=>Q (Z.set i (some v)) H
def zsS(hN:X.N.Nodup)(hi:X.N[i]?=some x)(hx:Loc X.env.scope x)(hf:X.fn x=true\/X.env.scope.names.lookup x=some .local:=by first|exact .inl rfl|exact .inr rfl|assumption):PG X (.Name x pos) (zJ i):=by
 intro aa s Z H v u Q I r h;exact wpAny_assign_Name (Ff I hN hi hx r (λs' I'=>⟨_,H,I',h⟩) hf)
def w6:uG:=λvs Z H Q=>vs=[]/\Q Z H
def zqH(t:TG)(u:uG):uG:=λvs Z H Q=>∃v r,vs=v::r/\t v Z H λZ' H'=>u r Z' H' Q
def pP:G6 X [] w6:=by
 intro aa s Z H vs us Q I r h;obtain⟨e,h⟩:=h;subst e;cases r;exact assignInOrder_nil ⟨Z,H,I,h⟩
def gf{e:Expr}{es:List Expr}{t:TG}{u:uG}(h1:PG X e t)(h2:G6 X es u)
  (hs:(assignEach (e::es) X.env).map (·.2)=assign e X.env::(assignEach es X.env).map (·.2):=by rfl):G6 X (e::es) (zqH t u):=by
 intro aa s Z H vs us Q I r h;obtain⟨v,vr,e1,h⟩:=h;subst e1;cases r with
 |cons r rr=>
  rw[hs];refine YCJ (bH (h1 aa s Z H _ _ _ I r h) λ_ s1 ⟨Z1,H1,I1,q1⟩=>?_);exact h2 aa s1 Z1 H1 _ _ Q I1 rr q1
def gTup(K:qo)(n:Nat)(t:uG):TG:=λv Z H Q=>∃a xs,v=.ref a/\fY K H a xs/\xs.length=n/\t xs Z H Q
def ztS(hc:X.calm=true)(h:G6 X es t)
  (hn:(assignEach es X.env).length=n:=by rfl) (hst:(assignEach es X.env).findIdx? (·.1)=none:=by rfl):PG X (.Tuple es k pos) (gTup X.K n t):=by
 intro aa s Z H v u Q I r hw;obtain⟨a,xs,e1,hq,hl,hw⟩:=hw;subst e1;cases r;obtain⟨its,rv,ht,hz⟩:=I.tuple hq;refine assign_Tuple_tuple (I.ok.hd hc) ht (by simp[hn,<-hl,rv.length]) hst λh' hx=>?_;have I1:Inv X aa Z H {s with heap:=h'}:=I.kept (t':=s.toks) λb o e=>hx b o (fX (dB e)) e;exact h aa _ Z H xs _ Q I1 (by simpa using rv) hw
def gSub(to ti:TE)(t:uZ):TG:=λv Z H Q=>to Z H λo H1=>ti Z H1 λi H2=>t o i v H2 λH3=>Q Z H3
def zlV{o i:Expr}{to ti:TE}{t:uZ}(ho:PE X o to)(hi:PE X i ti)(hs:Aw X t)
  (ha:∀v,assign (.Subscript o i pos) X.env v=(do
   let ov <-holding [v] (eval o X.env)
   let iv <-holding [v,ov] (eval i X.env)
   standAt pos
   holding [v,ov,iv] (setItem ov iv v)
   release [v,ov,iv] []):=by intro _;rfl):PG X (.Subscript o i pos) (gSub to ti t):=by
 intro aa s Z H v u Q I r h;rw[ha];refine aL (qx (bH (ho aa s Z H _ I h) λov s1 ⟨x,H1,I1,r1,q1⟩=>?_));refine aL (qx (bH (hi aa s1 Z H1 _ I1 q1) λiv s2 ⟨y,H2,I2,r2,q2⟩=>?_));refine aL (Gk (aL (qx (bH (hs aa s2 Z H2 x y v ov iv u _ I2 r1 r2 r q2) λ_ s3 ⟨H3,I3,q3⟩=>?_))));exact wpAny_release ⟨Z,H3,I3,q3⟩
def tX(te:TE)(g:TG):TS:=λD Z H=>te Z H λx H1=>g x Z H1 D.nx
def Jc{tg e:Expr}{te:TE}{g:TG}(he:PE X e te)(hg:PG X tg g)(hs:swapsWithSole [tg] e pos.line X.env=pure false:=by rfl)(hw:swappedStores [tg] e X.env=pure none:=by rfl)
  (h1:(assignEach [tg] X.env).map (·.2)=[assign tg X.env]:=by rfl):PS X (.Assign [tg] e pos) (tX te g):=by
 intro aa s Z H D I h;refine wpAny_Assign_stores (bH (he aa s Z H _ I h) λv s1 ⟨x,H1,I1,r1,q1⟩=>?_) hs hw;rw[h1];exact bH (hg aa s1 Z H1 x v _ I1 r1 q1) λ_ s2 q=>q
def uB{i:Nat}{x:Str}{e:Expr}{te:TE}{pos':Pos}(hN:X.N.Nodup)(hi:X.N[i]?=some x)(hx:Loc X.env.scope x)(he:PE X e te)(hs:swapsWith e (some (.Name x pos')) pos.line X.env=pure false:=by rfl)(hf:X.fn x=true\/X.env.scope.names.lookup x=some .local:=by first|exact .inl rfl|exact .inr rfl|assumption) :
  PS X (.Assign [.Name x pos'] e pos) (tX te (zJ i)):=by
 intro aa s Z H D I h;refine wpAny_Assign_Name (bH (he aa s Z H _ I h) λv s1 ⟨y,H1,I1,r1,q1⟩=>?_) hs;exact Ff I1 hN hi hx r1 (λs2 I2=>⟨_,H1,I2,q1⟩) hf
def tPar(i j:Nat)(ta:TA):TS:=λD Z H=>ta Z H λvs H1=>∃v w,vs=[v,w]/\D.nx ((Z.set i (some v)).set j (some w)) H1
def zuG{i j:Nat}{x y:Str}{a b:Expr}{ta:TA}{px py pt:Pos}{kt k2 pt2}(hc:X.calm=true)(hN:X.N.Nodup)(hi:X.N[i]?=some x)(hj:X.N[j]?=some y)(hij:i≠j)
  (hx:X.env.scope.names.lookup x=some .local) (hy:X.env.scope.names.lookup y=some .local) (ha:PA X [a,b] ta)
  (hw:swappedStores [.Tuple [.Name x px,.Name y py] kt pt] (.Tuple [a,b] k2 pt2) X.env=pure (some [x,y]))
  (hs:swapsWithSole [.Tuple [.Name x px,.Name y py] kt pt] (.Tuple [a,b] k2 pt2) pos.line X.env=pure false:=by rfl) :
  PS X (.Assign [.Tuple [.Name x px,.Name y py] kt pt] (.Tuple [a,b] k2 pt2) pos) (tPar i j ta):=by
 intro aa s Z H D I h;rw[exec_Assign_arm];refine aL (Gk ?_);rw[hs];refine aL (bV ?_);rw[if_neg (by decide)];refine aL (Tuple_ (bH (ha _ aa s Z H _ I h) λus s1 ⟨vs,H1,I1,r1,q1⟩=>?_));obtain⟨v,w,e1,q1⟩:=q1;subst e1;obtain⟨u1,u2,rfl,rv,rw'⟩:∃u1 u2,us=[u1,u2]/\RelV v u1/\RelV w u2:=by
  cases r1 with
  |cons p q=>
   cases q with
   |cons p' q'=>
    cases q';exact⟨_,_,rfl,p,p'⟩
 refine YAI ?_ (by show 2<=sizeLine;decide);have I2:Inv X aa Z H1 {s1 with heap:=s1.heap.push {cls:=.type "tuple",data:=.seq [u1,u2].toArray}}:=I1.kept (t':=s1.toks) λb o e=>dX _ e;rw[hw];refine aL (bV ?_);show wpAny (model X.prog X.w) X.A (do rule "assign.swapped-stores"; let items <-unpackItems (.ref s1.heap.objs.size) 2 none;assignInOrder [λv=>bindName X.env y v,λv=>bindName X.env x v] items.reverse;pure Flow.next) _ _ _;refine aL (zW (aL (unpackItems_tuple (items:=#[u1,u2]) (I.ok.hd hc) (IsTup.new s1.heap _) λh' hx'=>?_)));have I3:=I2.kept (h':=h') (t':=s1.toks) λb o e=>hx' b o (fX (dB e)) e;show wpAny _ _ (assignInOrder [λv=>bindName X.env y v,λv=>bindName X.env x v] [u2,u1] >>=λ_=>pure Flow.next) _ _ _;refine aL (YCJ (wpAny_bindName (Ff I3 hN hj (.inl hy) rw' (λs2 I4=>?_) (.inr hy))));refine YCJ (wpAny_bindName (Ff I4 hN hi (.inl hx) rv (λs3 I5=>assignInOrder_nil (bV ?_)) (.inr hx)));rw[List.set_comm _ _ (YAM hij)]at I5;exact⟨_,H1,I5,q1⟩
def zvK(to ti te:TE)(tget:V->V->Hp->VK->Prop)(tip:TIp)(tset:uZ):TS:=λD Z H=>to Z H λo H1=>ti Z H1 λi H2=>tget o i H2 λx H3=>te Z H3 λy H4=>tip x y H4 λz H5=>tset o i z H5 λH6=>D.nx Z H6
def Ib(X:Cx)(t:V->V->Hp->VK->Prop):Prop:=
 ∀(aa:List (Addr×Obj))(s:Shared)(Z:St)(H:Hp)(o i:V)(ov iv:Value)(Q:VK),Inv X aa Z H s->RelV o ov->RelV i iv->t o i H Q ->
  wpAny (model X.prog X.w) X.A (getItem ov iv) (EP X aa Z Q) X.xe s
def zsC{o i e:Expr}{to ti te:TE}{tget:V->V->Hp->VK->Prop}{tip:TIp}{tset:uZ}{op:Operator}{tpos:Pos}(ho:PE X o to)(hi:PE X i ti)(hg:Ib X tget)(he:PE X e te)(hp:PIp X op tip)(hs:Aw X tset)
  (ha:∀ov iv new,augStore i ov iv new=(do holding [new,ov,iv] (setItem ov iv new);release [new,ov,iv] [];pure .next):=by intros;rfl):PS X (.AugAssign (.Subscript o i tpos) op e pos) (zvK to ti te tget tip tset):=by
 intro aa s Z H D I h;refine wpAny_AugAssign_SubscriptAny (bH (ho aa s Z H _ I h) λov s1 ⟨x1,H1,I1,r1,q1⟩=>?_) ha;refine bH (hi aa s1 Z H1 _ I1 q1) λiv s2 ⟨x2,H2,I2,r2,q2⟩=>?_;refine bH (hg aa s2 Z H2 x1 x2 ov iv _ I2 r1 r2 q2) λold s3 ⟨x3,H3,I3,r3,q3⟩=>?_;refine bH (he aa s3 Z H3 _ I3 q3) λv s4 ⟨x4,H4,I4,r4,q4⟩=>?_;refine bH (hp aa s4 Z H4 x3 x4 old v _ I4 r3 r4 q4) λnew s5 ⟨x5,H5,I5,r5,q5⟩=>?_;exact bH (hs aa s5 Z H5 x1 x2 x5 ov iv new _ I5 r1 r2 r5 q5) λ_ s6 ⟨H6,I6,q6⟩=>⟨Z,H6,I6,q6⟩
def ipI(f:Int->Int->Int):TIp:=λx y H Q=>∃i j,x=.int i/\y=.int j/\Q (.int (f i j)) H
def zvo:PIp X .Add (ipI λi j=>i+j):=by
 intro aa s Z H x y v u Q I r1 r2 h;obtain⟨i,j,e1,e2,q⟩:=h;subst e1;subst e2;obtain⟨t,rfl⟩:=r1;obtain⟨t',rfl⟩:=r2;exact iadd_int ⟨.int _,H,I.tok _,⟨_,rfl⟩,q⟩
end
structure It where
 go:Nat->Hp->Prop
 yld:Nat->Hp->V->Hp->Prop
 stop:Nat->Hp->Prop
def iB(X:Cx)(aa:List (Addr×Obj))(H:Hp)(b:Addr):Prop:=
 H b=none/\b≠X.env.locals/\b∉X.fs/\(b∈X.ex\/X.s₀.heap.objs.size<=b)/\(∀x c,X.env.cells.lookup x=some c->c≠b)/\∀p∈X.pn++aa,p.1≠b
def Inv.fpOk{X:Cx}{aa:List (Addr×Obj)}{Z:St}{H H':Hp}{s:Shared}{b:Addr}(I:Inv X aa Z H s)(hb:s.heap.objs.size<=b)(hn:H' b=none):iB X aa H' b:=by
 refine⟨hn,wy (jA I.lt hb),I.nofs hb,.inr (YAB I.sz hb),λx c e z=>?_,λp hp z=>?_⟩
 .obtain⟨v,q⟩:=I.cell x c e;exact absurd (jA q.lt (by rw[z];exact hb)) (uO _)
 .exact absurd (jA (dB (I.pin p hp).1) (by rw[z];exact hb)) (uO _)
structure Turn(P:Program)(w:World)(K:qo)(tg:Expr)(J:It)(fp:List Addr)(it:Addr)(tn:Nat->Heap->Prop):Prop where
 mem:it∈fp
 obj:∀i h,tn i h->∀b∈fp,∃o,h.get? b=some o/\∀v,o.data≠.cell v
 keep:∀i h h',tn i h->(∀b∈fp,∀o,h.get? b=some o->h'.get? b=some o)->tn i h'
 item:∀(X:Cx),X.prog=P->X.w=w->X.K=K->X.calm=true->∀(i:Nat)(aa:List (Addr×Obj))(s:Shared)(Z:St)(H:Hp)(E:Value->Shared->Prop),Inv X aa Z H s->(∀b∈fp,iB X aa H b)->tn i s.heap->J.go i H ->
  wpAny (model P w) X.A (pyNext (.ref it)) (λr s1=>∃u,r=some u /\
   wpAny (model P w) X.A (letOwnedTupleGo tg (.ref it) u) (λ_ s2=>∃x H',Inv X aa Z H' s2/\RelV x u/\J.yld i H x H'/\tn (i+1) s2.heap/\∀b∈fp,H' b=none) E s1) E s
 done:∀(X:Cx),X.prog=P->X.w=w->X.K=K->X.calm=true->∀(i:Nat)(aa:List (Addr×Obj))(s:Shared)(Z:St)(H:Hp)(E:Value->Shared->Prop),Inv X aa Z H s->(∀b∈fp,iB X aa H b)->tn i s.heap->J.stop i H ->
  wpAny (model P w) X.A (pyNext (.ref it)) (λr s1=>r=none/\Inv X aa Z H s1) E s
 self:∀(A:Around)(i:Nat)(s:Shared)(Q:Value->Shared->Prop)(E:Value->Shared->Prop),tn i s.heap->Q (.ref it) s->wpAny (model P w) A (pyIter (.ref it)) Q E s
abbrev TI:=St->Hp->(It->Hp->Prop)->Prop
def PIE(X:Cx)(aa:List (Addr×Obj))(Z:St)(tg:Expr)(R:It->Hp->Prop)(itv:Value)(s2:Shared):Prop:=
 ∃(it:Addr)(fp:List Addr)(tn:Nat->Heap->Prop)(J:It)(H':Hp),itv=.ref it/\Inv X aa Z H' s2/\Turn X.prog X.w X.K tg J fp it tn/\tn 0 s2.heap/\(∀b∈fp,iB X aa H' b)/\R J H'
def PI(X:Cx)(tg iter:Expr)(wi:TI):Prop:=
 ∀(aa:List (Addr×Obj))(s:Shared)(Z:St)(H:Hp)(R:It->Hp->Prop),Inv X aa Z H s->wi Z H R ->
  wpAny (model X.prog X.w) X.A (eval iter X.env) (λv s1=>wpAny (model X.prog X.w) X.A (pyIter v) (PIE X aa Z tg R) X.xe s1) X.xe s
def Ey(ho:s.heap.get? it=some o)(hc:o.cls=.type n)(hd:o.data=.fields vs)
    (hn:["enumerate","zip","dict_itemiterator","dict_reverseitemiterator","odict_iterator","itertools.zip_longest","itertools.pairwise"].contains n=false) (hQ:Q () s):wpAny M A (letOwnedTupleGo tg (.ref it) u) Q E s:=by
  unfold letOwnedTupleGo;cases tg<;>first
    |exact bV hQ
    | (cases u<;>first
        |exact bV hQ
        | (refine aL (wpAny_load ho ?_)
           rw[hc,hd];show wpAny M A (if (["enumerate","zip","dict_itemiterator","dict_reverseitemiterator","odict_iterator","itertools.zip_longest","itertools.pairwise"].contains n&&vs[0]?==some (rawInt _))=true then _ else _) Q E s;rw[if_neg (by intro h;rw[hn,Bool.false_and]at h;cases h)];exact bV hQ))
def Itl(K:qo)(a:Addr):It:=
 ⟨λi H=>∃xs x,cz K H a xs/\xs[i]?=some x,λi H x H'=>H'=H/\∀xs,cz K H a xs->xs[i]?=some x,λi H=>∃xs,cz K H a xs/\xs.length<=i⟩
def Itt(K:qo)(a:Addr):It:=
 ⟨λi H=>∃xs x,fY K H a xs/\xs[i]?=some x,λi H x H'=>H'=H/\∀xs,fY K H a xs->xs[i]?=some x,λi H=>∃xs,fY K H a xs/\xs.length<=i⟩
def Eb(lo:Int)(n:Nat):It:=⟨λi _=>i<n,λi H x H'=>H'=H/\x=.int (lo+i),λi _=>n<=i⟩
def zpt{P:Program}{w:World}{K:qo}{tg:Expr}(a it:Addr):Turn P w K tg (Itl K a) [it] it (λi h=>h.IsListIter it a i)where
 mem:=by simp
 obj:=λi h st b hb=>by
  have e:b=it:=by simpa using hb
  subst e;obtain⟨o,e,c,d⟩:=st;exact⟨o,e,λv z=>by rw[d]at z;cases z⟩
 keep:=λi h h' st k=>st.at λo e=>k it (by simp) o e
 item:=by
  intro X hP hw hK hc i aa s Z H E I hf st hg;subst hP hw hK;obtain⟨xs,x,hq,hx⟩:=hg;obtain⟨its,rv,p,hz⟩:=I.list hq;obtain⟨u,hu,ru⟩:=rv.get hx;obtain⟨f0,f1,f2,f3,f4,f5⟩:=hf it (by simp);refine wpAny_pyNext_list_item st p.isList (x:=u) (by simpa using hu) λh' st' sb=>?_;have I1:Inv X aa Z H {s with heap:=h'}:=I.turned (t':=s.toks) (λb o hb e=>(sb.2 b hb).trans e) f0 f1 f3 f4 f5;obtain⟨o,e,c,d⟩:=id st';exact⟨u,rfl,Ey (s:={s with heap:=h'}) e c d (by decide) ⟨x,H,I1,ru,⟨rfl,λys hy=>by rw[I.list_inj hy hq];exact hx⟩,st',λb hb=>(hf b hb).1⟩⟩
 done:=by
  intro X hP hw hK hc i aa s Z H E I hf st hg;subst hP hw hK;obtain⟨xs,hq,hx⟩:=hg;obtain⟨its,rv,p,hz⟩:=I.list hq;obtain⟨f0,f1,f2,f3,f4,f5⟩:=hf it (by simp);have hl:=rv.length;exact wpAny_pyNext_list_end (I.ok.hd hc) st p.isList (by simp;omega) λh' eb=>⟨rfl,I.turned (t':=s.toks) (λb o hb e=>eb b o hb e) f0 f1 f3 f4 f5⟩
 self:=λ_ _ _ _ _ st h=>wpAny_pyIter_listiter st h
def zm3{P:Program}{w:World}{K:qo}{tg:Expr}(a it:Addr):Turn P w K tg (Itt K a) [it] it (λi h=>h.IsTupleIter it a i)where
 mem:=by simp
 obj:=λi h st b hb=>by
  have e:b=it:=by simpa using hb
  subst e;obtain⟨o,e,c,d⟩:=st;exact⟨o,e,λv z=>by rw[d]at z;cases z⟩
 keep:=λi h h' st k=>st.at λo e=>k it (by simp) o e
 item:=by
  intro X hP hw hK hc i aa s Z H E I hf st hg;subst hP hw hK;obtain⟨xs,x,hq,hx⟩:=hg;obtain⟨its,rv,p,hz⟩:=I.tuple hq;obtain⟨u,hu,ru⟩:=rv.get hx;obtain⟨f0,f1,f2,f3,f4,f5⟩:=hf it (by simp);refine wpAny_pyNext_tuple_item st (show s.heap.IsTuple a its.toArray from p) (x:=u) (by simpa using hu) λh' st' sb=>?_;have I1:Inv X aa Z H {s with heap:=h'}:=I.turned (t':=s.toks) (λb o hb e=>(sb.2 b hb).trans e) f0 f1 f3 f4 f5;obtain⟨o,e,c,d⟩:=id st';exact⟨u,rfl,Ey (s:={s with heap:=h'}) e c d (by decide) ⟨x,H,I1,ru,⟨rfl,λys hy=>by rw[I.tuple_inj hy hq];exact hx⟩,st',λb hb=>(hf b hb).1⟩⟩
 done:=by
  intro X hP hw hK hc i aa s Z H E I hf st hg;subst hP hw hK;obtain⟨xs,hq,hx⟩:=hg;obtain⟨its,rv,p,hz⟩:=I.tuple hq;obtain⟨f0,f1,f2,f3,f4,f5⟩:=hf it (by simp);have hl:=rv.length;exact wpAny_pyNext_tuple_end (I.ok.hd hc) st (show s.heap.IsTuple a its.toArray from p) (by simp;omega) λh' eb=>⟨rfl,I.turned (t':=s.toks) (λb o hb e=>eb b o hb e) f0 f1 f3 f4 f5⟩
 self:=λ_ _ _ _ _ st h=>wpAny_pyIter_tupleiter st h
def zhP{P:Program}{w:World}{K:qo}{tg:Expr}(it:Addr)(lo:Int)(n:Nat):Turn P w K tg (Eb lo n) [it] it (λi h=>IsRangeIter h it (lo+(i:Nat)*1) ((n:Int)-(i:Nat)) 1)where
 mem:=by simp
 obj:=λi h st b hb=>by
  have e:b=it:=by simpa using hb
  subst e;exact⟨_,st,λv z=>by
   have z':Data.fields _=Data.cell v:=z;cases z'⟩
 keep:=λi h h' st k=>k it (by simp) _ st
 item:=by
  intro X hP hw hK hc i aa s Z H E I hf st hg;subst hP hw hK;obtain⟨f0,f1,f2,f3,f4,f5⟩:=hf it (by simp);have W:=Walks.range (prog:=X.prog) (w:=X.w) (I.ok.hd hc) it lo 1 n;refine W.item i s _ _ hg st λv h' tk hv st' kk=>?_;obtain⟨t,rfl⟩:=hv;have I1:Inv X aa Z H {s with heap:=h',toks:=tk}:=I.turned (λb o hb e=>kk b o (by simpa using hb) e) f0 f1 f3 f4 f5;refine⟨_,rfl,Ey (s:={s with heap:=h',toks:=tk}) (n:="range_iterator") st' rfl rfl (by decide) ⟨.int (lo+i),H,I1,⟨t,?_⟩,⟨rfl,rfl⟩,st',λb hb=>(hf b hb).1⟩⟩;rw[Int.mul_one]
 done:=by
  intro X hP hw hK hc i aa s Z H E I hf st hg;subst hP hw hK;obtain⟨f0,f1,f2,f3,f4,f5⟩:=hf it (by simp);exact wpAny_pyNext_range_end (I.ok.hd hc) st (by have:n<=i:=hg;omega) λh' eb=>⟨rfl,I.turned (t':=s.toks) (λb o hb e=>eb b o hb e) f0 f1 f3 f4 f5⟩
 self:=λ_ _ _ _ _ st h=>wpAny_pyIter_rangeiter st h
section
variable{X:Cx}{tg:Expr}
def zqT{aa:List (Addr×Obj)}{Z:St}{H:Hp}{s:Shared}{R:It->Hp->Prop}{E:Value->Shared->Prop}{lo hi:Int}{t u v:Tok}{tk:Nat}(I:Inv X aa Z H s)(h1:-(2^62)<=lo)(h2:lo<2^62)(h3:-(2^62)<=hi)(h4:hi<2^62)
  (q:R (Eb lo (hi-lo).toNat) H):wpAny (model X.prog X.w) X.A (pyIter (.ref s.heap.objs.size)) (PIE X aa Z tg R) E {s with heap:=s.heap.push {cls:=.type "range",data:=.fields #[.int lo t,.int hi u,.int 1 v]},toks:=tk}:=by
 refine wpAny_pyIter_range (IsRange.new ..) (small_one h1 h2 h3 h4) ?_;have I1:Inv X aa Z H {s with heap:=s.heap.push {cls:=.type "range",data:=.fields #[.int lo t,.int hi u,.int 1 v]},toks:=tk}:=I.kept λb o e=>dX _ e;refine⟨(s.heap.push {cls:=.type "range",data:=.fields #[.int lo t,.int hi u,.int 1 v]}).objs.size,[(s.heap.push {cls:=.type "range",data:=.fields #[.int lo t,.int hi u,.int 1 v]}).objs.size],_,_,H,rfl,
  I1.kept (t':=tk) λb o e=>dX _ e,zhP _ lo (hi-lo).toNat,?_,λb hb=>?_,q⟩
 .have e1:lo+((0:Nat):Int)*1=lo:=by simp
  have e2:(((hi-lo).toNat:Nat):Int)-((0:Nat):Int)=Builtin.Range.rangeSize lo hi 1:=by rw[rangeSize_one];split<;>omega
  show IsRangeIter _ _ (lo+((0:Nat):Int)*1) ((((hi-lo).toNat:Nat):Int)-((0:Nat):Int)) 1;rw[e1,e2];exact jD _ rfl
 .have e:b=(s.heap.push {cls:=.type "range",data:=.fields #[.int lo t,.int hi u,.int 1 v]}).objs.size:=by simpa using hb
  subst e;exact I1.fpOk (dG _) (I1.hok.fresh (dG _))
def zuQ(ta:TA):TI:=λZ H R=>ta Z H λvs H1=>∃j:Int,vs=[.int j]/\-(2^62)<=j/\j<2^62/\R (Eb 0 j.toNat) H1
def znO{a:Expr}{ta:TA}{p pos:Pos}(hg:Gl X "range")(hm:X.mg "range"=none)(ha:PA X [a] ta)(hs:starEach [a] X.env=[(false,eval a X.env)]:=by rfl):PI X tg (.Call (.Name "range" p) [a] [] pos) (zuQ ta):=by
 intro aa s Z H R I h;refine Call_ (Fi I hg hm boot_range (YBy (bH (ha pos aa s Z H _ I h) λus s1 ⟨vs,H1,I1,r1,q1⟩=>?_) hs rfl));obtain⟨j,e,q1,q2,q⟩:=q1;subst e;cases r1 with
 |cons r rr=>
  cases rr;obtain⟨t,rfl⟩:=r;exact call_range_1 (zqT I1 (by omega) (by omega) q1 q2 (by simpa using q))
noncomputable def tFor(wi:TI)(g:TG)(tb:TS):TS:=λD Z H=>wi Z H λJ H1=>∃W:Nat->Nat->St->Hp->Prop,(∃m,W 0 m Z H1)/\∀i m Z H,W i m Z H ->
 (J.stop i H/\D.nx Z H)\/(J.go i H/\∃N:St->Hp->Prop,(∀ Z' H',N Z' H'->∃m',m'<m/\W (i+1) m' Z' H')/\∀x H',J.yld i H x H'->g x Z H' λZ2 H2=>tb {D with nx:=N,ct:=N,bk:=D.nx} Z2 H2)
def GC(fp:List Addr)(h:Heap):List (Addr×Obj):=fp.filterMap λb=>(h.get? b).map λo=>(b,o)
def zex{fp:List Addr}{h:Heap}{b:Addr}{o:Obj}(hb:b∈fp)(e:h.get? b=some o):(b,o)∈GC fp h:=CG.mpr ⟨b,hb,by rw[e];rfl⟩
def zoW(hp:p∈GC fp h):p.1∈fp/\h.get? p.1=some p.2:=by
 obtain⟨b,hb,e⟩:=CG.mp hp;cases q:h.get? b with
 |none=>rw[q]at e;cases e
 |some o=>
  rw[q]at e;have e':(b,o)=p:=Option.some.inj e;subst e';exact⟨hb,q⟩
def Inv.pinned{aa:List (Addr×Obj)}{Z:St}{H:Hp}{s:Shared}{fp:List Addr}(I:Inv X aa Z H s)(hf:∀b∈fp,iB X aa H b)(ho:∀b∈fp,∃o,s.heap.get? b=some o/\∀v,o.data≠.cell v):Inv X (aa++GC fp s.heap) Z H s:=
 I.pins_of λp hp=>(YAJ.mp hp).elim (λz=>I.pin p (rG _ z)) λz=>by
  obtain⟨hb,e⟩:=zoW z;obtain⟨f0,f1,f2,_⟩:=hf p.1 hb;obtain⟨o,e',d⟩:=ho p.1 hb;rw[e]at e';cases e';exact⟨e,f0,f1,f2,d⟩
def Inv.unpinned{aa pl:List (Addr×Obj)}{Z:St}{H:Hp}{s:Shared}(I:Inv X (aa++pl) Z H s):Inv X aa Z H s:=I.pins_of λp hp=>I.pin p (rG _ (CJ _ hp))
def zrD{iter:Expr}{body:List Stmt}{wi:TI}{g:TG}{tb:TS}{pos:Pos}(hp:PassesOwn (model X.prog X.w) X.A X.env X.xe)(hc:X.calm=true)(hi:PI X tg iter wi)(hg:PG X tg g)(hb:lH X body tb)
  (hs:∀x,foldedSetIterable iter X.env x=pure x:=by intro _;rfl):PS X (.For tg iter body [] pos) (tFor wi g tb):=by
 intro aa s Z H D I h;refine wpAny_For (bH (hi aa s Z H _ I h) λv s1 h1=>bH h1 λitv s2 h2=>?_) hs;obtain⟨it,fp,tn,J,H2,e,I2,T,st2,f2,W,⟨m0,w0⟩,turn⟩:=h2;subst e
 -- what stays true of the iterator's objects through the loop
 have stat:∀{H':Hp},(∀b∈fp,H' b=none)->∀b∈fp,iB X aa H' b:=λhn b hb=>⟨hn b hb,(f2 b hb).2⟩;refine codeAny_forLoop_any (λn s'=>∃i Z' H',Inv X aa Z' H' s'/\tn i s'.heap/\(∀b∈fp,H' b=none)/\W i n Z' H') ?_ m0 ⟨0,Z,H2,I2,st2,λb hb=>(f2 b hb).1,w0⟩;rintro n s3 ⟨i,Z3,H3,I3,st3,fr3,w3⟩;rcases turn i n Z3 H3 w3 with⟨stop,qn⟩|⟨go,N,hN,step⟩
 .refine Ji hp (bH (T.done X rfl rfl rfl hc i aa s3 Z3 H3 X.xe I3 (stat fr3) st3 stop) λr s4 ⟨hr,I4⟩=>?_);subst hr;exact Di ⟨Z3,H3,I4,qn⟩
 .refine Ji hp (bH (T.item X rfl rfl rfl hc i aa s3 Z3 H3 X.xe I3 (stat fr3) st3 go) λr s4 ⟨u,hr,h4⟩=>?_);subst hr;refine Ji hp (bH h4 λ_ s5 ⟨x,H5,I5,r5,y5,st5,fr5⟩=>?_);have I5':=I5.pinned (stat fr5) (T.obj _ _ st5);refine Ji hp (bH (hg _ s5 Z3 H5 x u _ I5' r5 (step x H5 y5)) λ_ s6 ⟨Z6,H6,I6,q6⟩=>?_);refine Ji hp (bH (hb _ s6 Z6 H6 _ I6 q6) λf s7 q7=>?_);have again:∀{Z7:St}{H7:Hp},Inv X (aa++GC fp s5.heap) Z7 H7 s7->N Z7 H7->∃m,m<n/\∃i Z' H',Inv X aa Z' H' s7/\tn i s7.heap/\(∀b∈fp,H' b=none)/\W i m Z' H':=λ{Z7 H7} I7 n7=>by
   obtain⟨m',hm,w7⟩:=hN Z7 H7 n7;refine⟨m',hm,i+1,Z7,H7,I7.unpinned,T.keep _ _ _ st5 λb hb o e=>(I7.pin (b,o) (rG _ (rG _ (zex hb e)))).1,λb hb=>?_,w7⟩;obtain⟨o,e,d⟩:=T.obj _ _ st5 b hb;exact(I7.pin (b,o) (rG _ (rG _ (zex hb e)))).2.1
  cases f with
  |next=>obtain⟨Z7,H7,I7,n7⟩:=q7;exact again I7 n7
  |cont=>obtain⟨Z7,H7,I7,n7⟩:=q7;exact again I7 n7
  |brk=>obtain⟨Z7,H7,I7,q7⟩:=q7;exact⟨Z7,H7,I7.unpinned,q7⟩
  |ret v=>obtain⟨x7,Z7,H7,I7,r7,q7⟩:=q7;exact⟨x7,Z7,H7,I7.unpinned,r7,q7⟩
end
abbrev R2:=V->V->Hp->VK->Prop
def fZ(X:Cx)(f:Value->Value->Sem Value)(r:R2):Prop:=
 ∀(aa:List (Addr×Obj))(s:Shared)(Z:St)(H:Hp)(x y:V)(v u:Value)(Q:VK),Inv X aa Z H s->RelV x v->RelV y u->r x y H Q ->
  wpAny (model X.prog X.w) X.A (f v u) (EP X aa Z Q) X.xe s
def UnR(X:Cx)(f:Value->Sem Value)(r:V->Hp->VK->Prop):Prop:=
 ∀(aa:List (Addr×Obj))(s:Shared)(Z:St)(H:Hp)(x:V)(v:Value)(Q:VK),Inv X aa Z H s->RelV x v->r x H Q ->
  wpAny (model X.prog X.w) X.A (f v) (EP X aa Z Q) X.xe s
def cY(X:Cx)(f:Value)(r:List V->Hp->VK->Prop):Prop:=
 ∀(aa:List (Addr×Obj))(s:Shared)(Z:St)(H:Hp)(xs:List V)(us:List Value)(Q:VK),Inv X aa Z H s->Vals xs us->r xs H Q ->
  wpAny (model X.prog X.w) X.A (call f us) (EP X aa Z Q) X.xe s
def TruR(X:Cx)(r:V->Hp->(Bool->Hp->Prop)->Prop):Prop:=
 ∀(aa:List (Addr×Obj))(s:Shared)(Z:St)(H:Hp)(x:V)(v:Value)(Q:Bool->Hp->Prop),Inv X aa Z H s->RelV x v->r x H Q ->
  wpAny (model X.prog X.w) X.A (truthy v) (TP X aa Z Q) X.xe s
def J2(r:R2)(ta tb:TE):TE:=λZ H Q=>ta Z H λx H1=>tb Z H1 λy H2=>r x y H2 Q
def tUn(r:V->Hp->VK->Prop)(ta:TE):TE:=λZ H Q=>ta Z H λx H1=>r x H1 Q
def rI(C:Int->Int->Prop)(g:Int->Int->V):R2:=λx y H Q=>∃i j,x=.int i/\y=.int j/\C i j/\Q (g i j) H
def vA(g:Int->Int->V):R2:=λx y H Q=>∃i j,x=.int i/\y=.int j/\Q (g i j) H
def rU(g:Int->V):V->Hp->VK->Prop:=λx H Q=>∃i,x=.int i/\Q (g i) H
section
variable{X:Cx}{a b c:Expr}{ta tb tc:TE}{pos:Pos}
def Ci(ha:PE X a ta)(hb:PE X b tb){aa:List (Addr×Obj)}{s:Shared}{Z:St}{H:Hp}{R:V->V->Hp->Prop}(I:Inv X aa Z H s)
  (h:ta Z H λx H1=>tb Z H1 λy H2=>R x y H2) {Q:Value->Shared->Prop} {f:Value->Value->Sem Value}
  (hf:∀v u s2 x y H2,Inv X aa Z H2 s2->RelV x v->RelV y u->R x y H2->wpAny (model X.prog X.w) X.A (f v u) Q X.xe s2) :
  wpAny (model X.prog X.w) X.A (eval a X.env) (λv s₁=>wpAny (model X.prog X.w) X.A (eval b X.env) (λu s₂=>wpAny (model X.prog X.w) X.A (f v u) Q X.xe s₂) X.xe s₁) X.xe s:=by
 refine bH (ha aa s Z H _ I h) λv s1 ⟨x,H1,I1,r1,q1⟩=>?_;refine bH (hb aa s1 Z H1 _ I1 q1) λu s2 ⟨y,H2,I2,r2,q2⟩=>?_;exact hf v u s2 x y H2 I2 r1 r2 q2
def pL{op:Operator}{r:R2}(ho:fZ X (binaryOp op) r)(ha:PE X a ta)(hb:PE X b tb):PE X (.BinOp a op b pos) (J2 r ta tb):=by
 intro aa s Z H Q I h;exact wpAny_BinOp (Ci ha hb I h λv u s2 x y H2 I2 rx ry q=>ho aa s2 Z H2 x y v u Q I2 rx ry q)
def zwm{op:UnaryOp}{r:V->Hp->VK->Prop}(ho:UnR X (unaryOp op) r)(ha:PE X a ta):PE X (.UnaryOp op a pos) (tUn r ta):=by
 intro aa s Z H Q I h;exact UnaryOp_ (bH (ha aa s Z H _ I h) λv s1 ⟨x,H1,I1,r1,q1⟩=>ho aa s1 Z H1 x v Q I1 r1 q1)
def GX{f:Value->Value->Sem Value}{C:Int->Int->Prop}{g:Int->Int->Int}
  (rule:∀(i j:Int)(t u:Tok)(s:Shared)(Q:Value->Shared->Prop)(E:Value->Shared->Prop),C i j->Q (.int (g i j) s.toks) {s with toks:=s.toks+1}->wpAny (model X.prog X.w) X.A (f (.int i t) (.int j u)) Q E s) :
  fZ X f (rI C λi j=>.int (g i j)):=by
 intro aa s Z H x y v u Q I rx ry h;obtain⟨i,j,rfl,rfl,hc,q⟩:=h;obtain⟨t,rfl⟩:=rx;obtain⟨t',rfl⟩:=ry;exact rule i j t t' s _ _ hc ⟨.int (g i j),H,I.tok _,⟨_,rfl⟩,q⟩
def Hc{f:Value->Value->Sem Value}{g:Int->Int->Int}
  (rule:∀(i j:Int)(t u:Tok)(s:Shared)(Q:Value->Shared->Prop)(E:Value->Shared->Prop),Q (.int (g i j) s.toks) {s with toks:=s.toks+1}->wpAny (model X.prog X.w) X.A (f (.int i t) (.int j u)) Q E s) :
  fZ X f (vA λi j=>.int (g i j)):=by
 intro aa s Z H x y v u Q I rx ry h;obtain⟨i,j,rfl,rfl,q⟩:=h;obtain⟨t,rfl⟩:=rx;obtain⟨t',rfl⟩:=ry;exact rule i j t t' s _ _ ⟨.int (g i j),H,I.tok _,⟨_,rfl⟩,q⟩
def xY{f:Value->Value->Sem Value}{g:Int->Int->Bool}
  (rule:∀(i j:Int)(t u:Tok)(s:Shared)(Q:Value->Shared->Prop)(E:Value->Shared->Prop),Q (.bool (g i j)) s->wpAny (model X.prog X.w) X.A (f (.int i t) (.int j u)) Q E s) :
  fZ X f (vA λi j=>.bl (g i j)):=by
 intro aa s Z H x y v u Q I rx ry h;obtain⟨i,j,rfl,rfl,q⟩:=h;obtain⟨t,rfl⟩:=rx;obtain⟨t',rfl⟩:=ry;exact rule i j t t' s _ _ ⟨.bl (g i j),H,I,rfl,q⟩
def CDiv(i j:Int):Prop:=0<j/\j<1073741824
def CPow(i j:Int):Prop:=0<=j/\j<=1000000/\i.natAbs<2^64
def vI(i j:Int):Prop:=(-(2^64)<i/\i<2^64)\/(-(2^64)<j/\j<2^64)
def vI.ok{i j:Int}(h:vI i j):IntMulOk i j:=by
 rcases h with⟨h1,h2⟩|⟨h1,h2⟩
 .exact .of_left (intBits_le_64 h1 h2)
 .exact .of_right (intBits_le_64 h1 h2)
def m9:fZ X (binaryOp .Add) (vA λi j=>.int (i+j)):=Hc λ_ _ _ _ _ _ _ q=>add_int q
def zvh:fZ X (binaryOp .Sub) (vA λi j=>.int (i-j)):=Hc λ_ _ _ _ _ _ _ q=>sub_int q
def qY:fZ X (binaryOp .Mult) (rI vI λi j=>.int (i*j)):=GX λ_ _ _ _ _ _ _ hc q=>mul_int q hc.ok
def ztk:fZ X (binaryOp .FloorDiv) (rI CDiv λi j=>.int (i / j)):=GX λi j _ _ _ _ _ hc q=>by
 have h1:(0:Int)<j:=hc.1;have h2:j<1073741824:=hc.2;exact floordiv_int (by omega) (by rw[Int.fdiv_eq_ediv_of_nonneg i (by omega)];exact q) (.inl (PyProof.noPylong_small (by omega)))
def Dv:fZ X (binaryOp .Mod) (rI (λ_ j=>0<j) λi j=>.int (i % j)):=GX λi j _ _ _ _ _ hc q=>by
 have h1:(0:Int)<j:=hc;exact mod_int' (by omega) (by rw[Int.fmod_eq_emod_of_nonneg i (by omega)];exact q)
def zrH:fZ X (binaryOp .Pow) (rI CPow λi j=>.int (i^j.toNat)):=GX λ_ _ _ _ _ _ _ hc q=>pow_int_small hc.1 hc.2.1 hc.2.2 q
def unI{f:Value->Sem Value}{g:Int->Int}
  (rule:∀(i:Int)(t:Tok)(s:Shared)(Q:Value->Shared->Prop)(E:Value->Shared->Prop),Q (.int (g i) s.toks) {s with toks:=s.toks+1}->wpAny (model X.prog X.w) X.A (f (.int i t)) Q E s) :
  UnR X f (rU λi=>.int (g i)):=by
 intro aa s Z H x v Q I rx h;obtain⟨i,rfl,q⟩:=h;obtain⟨t,rfl⟩:=rx;exact rule i t s _ _ ⟨.int (g i),H,I.tok _,⟨_,rfl⟩,q⟩
def zvG:UnR X (unaryOp .USub) (rU λi=>.int (-i)):=unI λ_ _ _ _ _ q=>neg_int q
end
section
variable{X:Cx}{a b c:Expr}{ta tb tc:TE}{pos:Pos}
def ztP(I:Inv X aa Z H s)(q:Q (.bl k) H)(e:k=k'):EP X aa Z Q (.bool k') s:=by
 subst e;exact⟨.bl k,H,I,rfl,q⟩
def ztQ:fZ X (compareOp .Lt) (vA λi j=>.bl (decide (i<j))):=xY λ_ _ _ _ _ _ _ q=>lt_int q
def zqM:fZ X (compareOp .LtE) (vA λi j=>.bl (decide (i<=j))):=xY λ_ _ _ _ _ _ _ q=>le_int q
def ztF:fZ X (compareOp .Gt) (vA λi j=>.bl (decide (j<i))):=xY λ_ _ _ _ _ _ _ q=>gt_int q
def zvx:fZ X (compareOp .GtE) (vA λi j=>.bl (decide (j<=i))):=xY λ_ _ _ _ _ _ _ q=>ge_int q
def zoY:fZ X (compareOp .In) (λx y H Q=>∃i j,x=.str i/\y=.str j/\Q (.bl (!(Builtin.Str.occurrences j i 0 j.length 1).isEmpty)) H):=by
 intro aa s Z H x y v u Q I rx ry h;obtain⟨i,j,rfl,rfl,q⟩:=h;obtain⟨t,rfl⟩:=rx;obtain⟨t',rfl⟩:=ry;exact in_str (ztP I q rfl)
def fZ.or{f:Value->Value->Sem Value}{r r':R2}(h:fZ X f r)(h':fZ X f r'):fZ X f (λx y H Q=>r x y H Q\/r' x y H Q):=by
 intro aa s Z H x y v u Q I rx ry q;rcases q with q|q
 .exact h aa s Z H x y v u Q I rx ry q
 .exact h' aa s Z H x y v u Q I rx ry q
def v8(b:Expr)(h:op≠.In:=by decide)(h2:op≠.NotIn:=by decide):behindInMarks op b=false:=by
 have e1:(op==CmpOp.In)=false:=by cases op<;>first|rfl|exact absurd rfl h
 have e2:(op==CmpOp.NotIn)=false:=by cases op<;>first|rfl|exact absurd rfl h2
 cases b<;>simp[behindInMarks,e1,e2]
def zsH(ho:fZ X (compareOp op) r)(ha:PE X a ta)(hb:PE X b tb)(hm:behindInMarks op b=false):PE X (.Compare a [op] [b] pos) (J2 r ta tb):=by
 intro aa s Z H Q I h;exact wpAny_Compare1 (Ci ha hb I h λv u s2 x y H2 I2 rx ry q=>ho aa s2 Z H2 x y v u Q I2 rx ry q) hm
def ztp(t:TE):TT:=λZ H Q=>t Z H λx H'=>∃k,x=.bl k/\Q k H'
def zh4{op:CmpOp}{r:R2}(ho:fZ X (compareOp op) r)(ha:PE X a ta)(hb:PE X b tb)(hm:behindInMarks op b=false):PT X (.Compare a [op] [b] pos) (ztp (J2 r ta tb)):=by
 intro aa s Z H Q I h;refine wpAny_isTrue_Compare1 (bH (ha aa s Z H _ I h) λv s1 ⟨x,H1,I1,r1,q1⟩=>bH (hb aa s1 Z H1 _ I1 q1) λu s2 ⟨y,H2,I2,r2,q2⟩=>
  bH (ho aa s2 Z H2 x y v u _ I2 r1 r2 q2) λc s3 ⟨z,H3,I3,r3,k,e,q3⟩=>?_) hm
 subst e;cases r3;exact wj ⟨H3,I3,q3⟩
def zoI(r r':R2)(ta tb tc:TE):TE:=λZ H Q=>ta Z H λx H1=>tb Z H1 λy H2=>r x y H2 λz H3=>∃k,z=.bl k /\
 (if k=true then tc Z H3 λw' H4=>r' y w' H4 Q else Q (.bl false) H3)
def zqk{op op':CmpOp}{r r':R2}(ho:fZ X (compareOp op) r)(ho':fZ X (compareOp op') r')(ha:PE X a ta)(hb:PE X b tb)(hc:PE X c tc)
  (hm:lastMarks [op,op'] [b,c]=false:=by with_unfolding_all rfl):PE X (.Compare a [op,op'] [b,c] pos) (zoI r r' ta tb tc):=by
 intro aa s Z H Q I h;refine Compare_chain (bH (ha aa s Z H _ I h) λv s1 ⟨x,H1,I1,r1,q1⟩=>chain_link (bH (hb aa s1 Z H1 _ I1 q1) λu s2 ⟨y,H2,I2,r2,q2⟩=>
  bH (ho aa s2 Z H2 x y v u _ I2 r1 r2 q2) λd s3 ⟨z,H3,I3,r3,k,e,q3⟩=>?_)) hm
 subst e;cases r3;refine wj ?_;cases k with
 |false=>exact ite_ff ⟨.bl false,H3,I3,rfl,q3⟩
 |true=>exact ite_tt (chain_last (bH (hc aa s3 Z H3 _ I3 q3) λw' s4 ⟨z',H4,I4,r4,q4⟩=>ho' aa s4 Z H4 y z' u w' Q I4 r2 r4 q4))
def zpQ{op op':CmpOp}{r r':R2}(ho:fZ X (compareOp op) r)(ho':fZ X (compareOp op') r')(ha:PE X a ta)(hb:PE X b tb)(hc:PE X c tc)
  (hm:lastMarks [op,op'] [b,c]=false:=by with_unfolding_all rfl):PT X (.Compare a [op,op'] [b,c] pos) (ztp (zoI r r' ta tb tc)):=by
 intro aa s Z H Q I h;refine isTrue_chain (bH (ha aa s Z H _ I h) λv s1 ⟨x,H1,I1,r1,q1⟩=>test_link (bH (hb aa s1 Z H1 _ I1 q1) λu s2 ⟨y,H2,I2,r2,q2⟩=>
  bH (ho aa s2 Z H2 x y v u _ I2 r1 r2 q2) λd s3 ⟨z,H3,I3,r3,k,e,q3⟩=>?_)) hm
 subst e;cases r3;refine wj ?_;cases k with
 |false=>
  obtain⟨k',e',q'⟩:=q3;cases e';exact ite_ff ⟨H3,I3,q'⟩
 |true=>
  refine ite_tt (test_last (bH (hc aa s3 Z H3 _ I3 q3) λw' s4 ⟨z',H4,I4,r4,q4⟩=>bH (ho' aa s4 Z H4 y z' u w' _ I4 r2 r4 q4) λd' s5 ⟨z2,H5,I5,r5,k2,e2,q5⟩=>?_));subst e2;cases r5;exact wj ⟨H5,I5,q5⟩
noncomputable def wR(K:qo)(x:V)(H:Hp)(k:Bool):Prop:=
 match x with
 |.non=>k=false
 |.bl b=>k=b
 |.int i=>k=(i != 0)
 |.str y=>y.length<=sizeLine/\k=((y.length:Int) != 0)
 |.byt y=>y.size<=sizeLine/\k=((y.size:Int) != 0)
 |.ref p=>(∃xs,cz K H p xs/\k = !xs.isEmpty)\/(∃xs,fY K H p xs/\k = !xs.isEmpty)\/∃kvs,H p=some (.dK kvs)/\k = !kvs.isEmpty
 |_=>False
def zmT{κ:Type}{kvs:List (κ×V)}{vs:List (κ×Value)}(r:KV kvs vs):(!vs.isEmpty) = !kvs.isEmpty:=by
 cases r<;>rfl
def zhR{xs:List V}{its:List Value}(r:Vals xs its):(!its.toArray.isEmpty) = !xs.isEmpty:=by
 cases r<;>simp
def yU:(sizeLine:Nat)<2^63:=by rw[nO];decide
def zrn:TruR X (λx H Q=>∃k,wR X.K x H k/\Q k H):=by
 intro aa s Z H x v Q I rx h;obtain⟨k,e,q⟩:=h;have hl:=yU;have hs:sizeLine=16777216:=nO;cases x with
 |non=>
  cases rx;have e':k=false:=e;subst e';exact truthy_none ⟨H,I,q⟩
 |bl b=>
  cases rx;have e':k=b:=e;subst e';exact wj ⟨H,I,q⟩
 |int i=>
  obtain⟨t,rfl⟩:=rx;have e':k=(i != 0):=e;subst e';exact PySem.P.truthy_int ⟨H,I,q⟩
 |str y=>
  obtain⟨t,rfl⟩:=rx;obtain⟨hy,e'⟩:y.length<=sizeLine/\k=((y.length:Int) != 0):=e;subst e';exact PySem.P.truthy_str (by omega) ⟨H,I.tok _,q⟩
 |byt y=>
  obtain⟨t,rfl⟩:=rx;obtain⟨hy,e'⟩:y.size<=sizeLine/\k=((y.size:Int) != 0):=e;subst e';exact PySem.W.truthy_bytes (by omega) ⟨H,I.tok _,q⟩
 |ref p=>
  cases rx;have e':(∃xs,cz X.K H p xs/\k = !xs.isEmpty)\/(∃xs,fY X.K H p xs/\k = !xs.isEmpty)\/∃kvs,H p=some (.dK kvs)/\k = !kvs.isEmpty:=e;rcases e' with⟨xs,hx,e'⟩|⟨xs,hx,e'⟩|⟨kvs,hx,e'⟩
  .subst e';obtain⟨its,r,pl,hz⟩:=I.list hx;have hlen:=r.length;exact wpAny_truthy_list pl.isList (by simp only[ju];omega) ⟨H,I.tok _,by rw[zhR r];exact q⟩
  .subst e';obtain⟨its,r,pl,hz⟩:=I.tuple hx;have hlen:=r.length;exact truthy_tuple pl (by simp only[ju];omega) ⟨H,I.tok _,by rw[zhR r];exact q⟩
  .subst e';obtain⟨hz,hS,vs,r,m⟩:kvs.length<=sizeLine/\(p==sysModules)=false/\∃vs,KV kvs vs/\s.heap.DictOf (lG X.prog X.w) p vs:=I.hok p _ hx;have hlen:kvs.length=vs.length:=Paired.length r;exact wpAny_truthy_dict hS m (by omega) ⟨H,I.tok _,by rw[zmT r];exact q⟩
 |_=>exact(show False from e).elim
def zlF(ha:PE X a ta)(he:∀whole,isTrue a X.env whole=(do let v <-whole;standAt a.pos;holding [v] (truthy v))) :
  PT X a (λZ H Q=>ta Z H λx H'=>∃k,wR X.K x H' k/\Q k H'):=by
 intro aa s Z H Q I h;exact isTrue_plain (bH (ha aa s Z H _ I h) λv s1 ⟨x,H1,I1,r1,q1⟩=>zrn aa s1 Z H1 x v Q I1 r1 q1) (he _)
def znb:fZ X (binaryOp .Add) (λx y H Q=>∃i j,x=.str i/\y=.str j/\i.length+j.length<=sizeLine/\Q (.str (i++j)) H):=by
 intro aa s Z H x y v u Q I rx ry h;obtain⟨i,j,rfl,rfl,hz,q⟩:=h;obtain⟨t,rfl⟩:=rx;obtain⟨t',rfl⟩:=ry;exact add_str (λt' tk=>⟨.str (i++j),H,I.tok _,⟨_,rfl⟩,q⟩) hz
def qQ(r:Vals [x] us):∃u,us=[u]/\RelV x u:=by
 cases r with
 |cons r1 r2=>cases r2;exact⟨_,rfl,r1⟩
def zsK(r:Vals [x,y] us):∃u w',us=[u,w']/\RelV x u/\RelV y w':=by
 cases r with
 |cons r1 r2=>
  cases r2 with
  |cons r3 r4=>cases r4;exact⟨_,_,rfl,r1,r3⟩
def um:cY X (.type "int") (λxs H Q=>(∃i,xs=[.int i]/\Q (.int i) H)\/∃k,xs=[.bl k]/\Q (.int (if k then 1 else 0)) H):=by
 intro aa s Z H xs us Q I r h;rcases h with⟨i,rfl,q⟩|⟨k,rfl,q⟩
 .obtain⟨u,rfl,t,rfl⟩:=qQ r;exact call_int_int ⟨.int i,H,I,⟨_,rfl⟩,q⟩
 .obtain⟨u,rfl,r1⟩:=qQ r;cases r1;exact call_int_bool ⟨.int (if k then 1 else 0),H,I.tok _,⟨_,rfl⟩,q⟩
end
structure qN(h:Heap)(x dx C:Addr)(mA:Str->Option Value):Prop where
 obj:h.get? x=some (PySem.W.instObj C dx)
 ns:h.Ns1 dx mA
 ne:dx≠x
def znZ{h:Heap}{dx:Addr}{mA:Str->Option Value}(n:h.Ns1 dx mA):∃od,h.get? dx=some od/\∀name,PySem.W.lookIn name od=some (mA name):=by
 obtain⟨o,es,ep,ho,hd,hk,_,hm⟩:=n;refine⟨o,ho,λname=>?_⟩;have e:=hm name;unfold nsFind findBy at e;rw[<-Array.find?_toList]at e;unfold PySem.W.lookIn;rw[hd];dsimp only;split
 .rename_i y q
  rw[q]at e;exact congrArg some e
 .rename_i q
  rw[q]at e;have a:es.toList.any (·.refKey)=false:=by
   rw[List.any_eq_false];intro y hy;obtain⟨z,t,hkey⟩:=hk y (Array.mem_toList_iff.mp hy);simp[DictEntry.refKey,hkey]
  have a':¬ es.toList.any (·.refKey)=true:=by rw[a];exact zQ
  rw[if_neg a'];exact congrArg some e
def qN.look(I:qN h x dx C mA):∃od,PySem.W.InstAt h x (PySem.W.instObj C dx) C (some od)/\∀name,PySem.W.lookIn name od=some (mA name):=
 let⟨od,ho,hl⟩:=znZ I.ns
 ⟨od,⟨I.obj,rfl,rfl,ho⟩,hl⟩
section
variable{prog:Program}{w:World}{A:Around}{E:Value->Shared->Prop}{s:Shared}{K:qo}{x dx C f:Addr}{mA:Str->Option Value}{name:Str}{v:Value}
def zsq(X:K.In s.heap)(I:qN s.heap x dx C mA)(hg:PySem.W.plainGet K C name=true)(hh:PySem.W.hasDictIn K C=true)
  (ha:PySem.W.findIn K (.ref C) name=some none) (hv:mA name=some v) (hv':PySem.W.handedIn v=true) (h:Q v {s with toks:=s.toks+1}) :
  wpAny (model prog w) A (getAttr (.ref x) name expr) Q E s:=by
 obtain⟨od,J,hl⟩:=I.look;exact PySem.W.get_value X J (YCC hg).1 (PySem.W.findObj_own hh ha rfl (by rw[hl,hv])) hv' h
def zpI(X:K.In s.heap)(I:qN s.heap x dx C mA)(hg:PySem.W.plainGet K C name=true)
  (hf:PySem.W.findIn K (.ref C) name=some (some (.ref f))) (ht:PySem.W.isFn K (.ref f)=true) (hv:mA name=none) (h:Q (.ref f,[.ref x]) s) :
  wpAny (model prog w) A (getMethod (.ref x) name pl) Q E s:=by
 obtain⟨od,J,hl⟩:=I.look;exact PySem.W.method_fn X J (YCC hg).1 (YCC hg).2 hf (yV.mp ht) (by show(PySem.W.lookIn name od).map (·.isSome)=some false;rw[hl,hv];rfl) h
def zsR(X:K.In s.heap)(I:qN s.heap x dx C mA)
  (hs:PySem.W.findIn K (.ref C) "__setattr__"=some (some (.builtin "object.__setattr__"))) (hp:PySem.W.plainOver K C=true) (ht:PySem.W.takerIn K C name=some none) (hh:PySem.W.hasDictIn K C=true)
  (hw:PySem.Within mA ns) (hsz:ns.length<=sizeLine)
  (h:∀h',qN h' x dx C (λy=>if y=name then some v else mA y)->Heap.SameBut dx s.heap h'->Q () {s with heap:=h',toks:=s.toks+2}) :
  wpAny (model prog w) A (setAttr (.ref x) name v) Q E s:=by
 obtain⟨od,J,hl⟩:=I.look;refine PySem.W.set_plain X J hs (PySem.W.osa_open (s:={s with toks:=s.toks+1}) (r:=none) X J hp ht λb=>?_);obtain⟨cd,hc,hd'⟩:=PySem.W.any_some hh;have hx:s.heap.get? x=some ⟨.ref C,some dx,.plain,#[]⟩:=I.obj;refine aL (bV (aL (aL (wpAny_loadPart hx (aL (PySem.W.Looks.here (s:={s with toks:=s.toks+1}) (PySem.W.looks_clsIn X hc) ?_))))));rw[hd'];refine bV (a:=some dx) (aL (bV (aL ?_)));refine wpAny_nsSet1 (s:={s with toks:=s.toks+1}) I.ns λh' hn2 hs2=>?_;obtain⟨oD,esD,epD,hoD,hdD,hcD⟩:=hn2.count (PySem.Within.cons name v hw);refine aL (wpAny_lookBehind hoD (by rw[hdD];exact pastItsLine_dict (YAB hcD (by rw[YAE];omega))) ?_);exact bV (h _ ⟨(hs2.2 _ (YAM I.ne)).trans I.obj,hn2,I.ne⟩ hs2)
def zqi(X:K.In s.heap)(hm:PySem.W.makesIn K C=true)
  (hi:PySem.W.findIn K (.ref C) "__init__"=some (some (.ref f))) (hf:PySem.W.typeIn K (.ref f)=some (.type "function"))
  (h:codeAny (model prog w) (A.under (.builtin "type.__call__" ⟨.ref C::vs,kw⟩)) (.call (.ref f) ⟨.ref (s.heap.objs.size+1)::vs,kw⟩) (PySem.W.InitBack (s.heap.objs.size+1) R)
   {s with heap:=(s.heap.push PySem.W.emptyDict).push (PySem.W.instObj C s.heap.objs.size)}) :
  codeAny (model prog w) A (.call (.ref C) ⟨vs,kw⟩) R s:=by
 obtain⟨hh,g,d,t,os⟩:=s;exact PySem.W.make_core (PySem.W.makes_of X hm) (PySem.W.looks_findIn X hi) (λself=>PySem.W.bind_fn X self hf) (.inl rfl) h
end
def gQ(f:Str)(v:V):List (Str×V)->List (Str×V)
 |[]=>[(f,v)]
 | (g,x)::r=>if g=f then(g,v)::r else(g,x)::gQ f v r
theorem zhe(f g:Str)(v:V):∀fs:List (Str×V),(gQ f v fs).lookup g=if g=f then some v else fs.lookup g
 |[]=>by
  show List.lookup g [(f,v)]=_;by_cases h:g=f
  .have hb:(g==f)=true:=yV.mpr h;simp only[List.lookup,hb,if_pos h]
  .have hb:(g==f)=false:=YAW.mpr h;simp only[List.lookup,hb,if_neg h]
 | (k,x)::r=>by
  have ih:=zhe f g v r;rw[show gQ f v ((k,x)::r)=(if k=f then(k,v)::r else(k,x)::gQ f v r)from rfl];by_cases hk:k=f
  .rw[if_pos hk];by_cases h:g=k
   .have hb:(g==k)=true:=yV.mpr h;simp only[List.lookup,hb,if_pos (h.trans hk)]
   .have hb:(g==k)=false:=YAW.mpr h;simp only[List.lookup,hb,if_neg (λe:g=f=>h (e.trans hk.symm))]
  .rw[if_neg hk];by_cases h:g=k
   .have hb:(g==k)=true:=yV.mpr h;simp only[List.lookup,hb,if_neg (λe:g=f=>hk (h.symm.trans e))]
   .have hb:(g==k)=false:=YAW.mpr h;simp only[List.lookup,hb];exact ih
theorem zhm(f:Str)(v:V):∀fs:List (Str×V),f∈(gQ f v fs).map (·.1)/\∀g,g∈fs.map (·.1)->g∈(gQ f v fs).map (·.1)
 |[]=>⟨by simp[gQ],λg h=>by simp at h⟩
 | (k,x)::r=>by
  obtain⟨i1,i2⟩:=zhm f v r;rw[show gQ f v ((k,x)::r)=(if k=f then(k,v)::r else(k,x)::gQ f v r)from rfl];by_cases hk:k=f
  .rw[if_pos hk];subst hk;exact⟨by simp,λg h=>by simpa using h⟩
  .rw[if_neg hk];refine⟨?_,λg h=>?_⟩
   .rw[d7];exact kj _ i1
   .rw[d7]at h ⊢;rcases iU.mp h with e|e
    .exact iU.mpr (.inl e)
    .exact kj _ (i2 g e)
theorem zgO(f:Str)(v:V):∀fs:List (Str×V),(gQ f v fs).length<=fs.length+1
 |[]=>by simp[gQ]
 | (k,x)::r=>by
  have ih:=zgO f v r;rw[show gQ f v ((k,x)::r)=(if k=f then(k,v)::r else(k,x)::gQ f v r)from rfl];by_cases hk:k=f
  .rw[if_pos hk,YAE,YAE];omega
  .rw[if_neg hk,YAE,YAE];omega
def iu.some_of(r:iu (some v) o):∃u,o=some u/\RelV v u:=by
 cases o with
 |none=>exact(show False from r).elim
 |some u=>exact⟨u,rfl,r⟩
def iu.none_of(r:iu none o):o=none:=by
 cases o with
 |none=>rfl
 |some u=>exact(show False from r).elim
def znA(r:RelV v u):PySem.W.handedIn u=true:=by
 cases v with
 |non=>cases (show u=Value.none from r);rfl
 |bl b=>cases (show u=Value.bool b from r);rfl
 |int i=>obtain⟨t,e⟩:=(show ∃t,u=Value.int i t from r);cases e;rfl
 |str x=>obtain⟨t,e⟩:=(show ∃t,u=Value.str x t from r);cases e;rfl
 |byt b=>obtain⟨t,e⟩:=(show ∃t,u=Value.bytes b t from r);cases e;rfl
 |flt b=>obtain⟨t,e⟩:=(show ∃t,u=Value.float b t from r);cases e;rfl
 |ref a=>cases (show u=Value.ref a from r);rfl
 |ty n=>cases (show u=Value.type n from r);rfl
section
variable{P:Program}{w:World}{H H':Hp}{h h':Heap}{a C dx:Addr}{fs fs':List (Str×V)}
def zk3(hok:iW P w H h)(e:H a=some (.ins C dx fs)):∃mA,qN h a dx C mA/\(∀f,iu (fs.lookup f) (mA f))/\PySem.Within mA (fs.map (·.1))/\fs.length<=1000/\H dx=some (.own a):=by
 obtain⟨d,z,ne,ob,mA,n,r,q⟩:=(show cu P w H h a (.ins C dx fs)from hok a _ e);exact⟨mA,⟨ob,n,ne⟩,r,q,z,d⟩
end
structure pK(K:qo)(C:Addr):Prop where
 pg:PySem.W.plainGet K C Str.empty=true
 hd:PySem.W.hasDictIn K C=true
 po:PySem.W.plainOver K C=true
 sa:PySem.W.findIn K (.ref C) "__setattr__"=some (some (.builtin "object.__setattr__"))
def pK.get{K:qo}{C:Addr}(c:pK K C)(f:Str):PySem.W.plainGet K C f=true:=c.pg
def dJ(K:qo)(C:Addr)(f:Str):Prop:=PySem.W.findIn K (.ref C) f=some none
def dJ.taker{K:qo}{C:Addr}{f:Str}(n:dJ K C f):PySem.W.takerIn K C f=some none:=by
 unfold PySem.W.takerIn;rw[show PySem.W.findIn K (.ref C) f=some none from n];rfl
structure Meth(K:qo)(C:Addr)(m:Str)(f:Addr):Prop where
 at_:PySem.W.findIn K (.ref C) m=some (some (.ref f))
 fn:PySem.W.isFn K (.ref f)=true
 kp:PySem.W.keepIn K (.ref f)=true
section
variable{X:Cx}{aa:List (Addr×Obj)}{Z:St}{H:Hp}{s:Shared}{a C dx:Addr}{fs:List (Str×V)}{f:Str}{v:V}{A:Around}{E:Value->Shared->Prop}
def zmE{b:Bool}{Q:Value->Shared->Prop}(I:Inv X aa Z H s)(e:H a=some (.ins C dx fs))(c:pK X.K C)(n:dJ X.K C f)(l:fs.lookup f=some v)
  (h:∀u s',Inv X aa Z H s'->RelV v u->Q u s'):wpAny (model X.prog X.w) A (getAttr (.ref a) f b) Q E s:=by
 obtain⟨mA,O,r,_,_,_⟩:=zk3 I.hok e;obtain⟨u,hu,ru⟩:=iu.some_of (v:=v) (o:=mA f) (by rw[<-l];exact r f);exact zsq I.kIn O (c.get f) c.hd n hu (znA ru) (h u _ (I.tok _) ru)
def zhK{m:Str}{g:Addr}{pl:Sem Bool}{Q:Value×List Value->Shared->Prop}(I:Inv X aa Z H s)(e:H a=some (.ins C dx fs))(c:pK X.K C)(k:Meth X.K C m g)(l:fs.lookup m=none)
  (h:Q (.ref g,[.ref a]) s):wpAny (model X.prog X.w) A (getMethod (.ref a) m pl) Q E s:=by
 obtain⟨mA,O,r,_,_,_⟩:=zk3 I.hok e;have hn:mA m=none:=iu.none_of (by rw[<-l];exact r m);exact zpI I.kIn O (c.get m) k.at_ k.fn hn h
def zne{y:V}{u:Value}{Q:Unit->Shared->Prop}(I:Inv X aa Z H s)(e:H a=some (.ins C dx fs))(c:pK X.K C)(n:dJ X.K C f)(hl:fs.length<1000)(ry:RelV y u)
  (h:∀s',Inv X aa Z (upd H a (.ins C dx (gQ f y fs))) s'->Q () s'):wpAny (model X.prog X.w) A (setAttr (.ref a) f u) Q E s:=by
 obtain⟨mA,O,r,wi,_,ho⟩:=zk3 I.hok e;have hz:(fs.map (·.1)).length<=sizeLine:=by rw[b8,nO];omega
 refine zsR I.kIn O c.sa c.po n.taker c.hd wi hz λh' O' sb=>h _ ?_;have hd:∃o,h'.get? dx=some o:=let⟨o,_,_,e',_⟩:=O'.ns;⟨o,e'⟩
 refine I.write (x:=a) (e:=dx) (by rw[e];exact True.intro) (.inr ho) (λb q hb z=>(sb.2 b hb).trans z) hd ?_;refine⟨by rw[au O.ne];exact ho,?_,O.ne,O'.obj,_,O'.ns,λg=>?_,λg hg=>?_⟩
 .have:=zgO f y fs;omega
 .show iu ((gQ f y fs).lookup g) (if g=f then some u else mA g);rw[zhe];by_cases q:g=f
  .rw[if_pos q,if_pos q];exact ry
  .rw[if_neg q,if_neg q];exact r g
 .by_cases q:g=f
  .rw[q];exact(zhm f y fs).1
  .refine(zhm f y fs).2 g (wi g λz=>hg ?_);show(if g=f then some u else mA g)=none;rw[if_neg q];exact z
def Inv.made(I:Inv X aa Z H s):Inv X aa Z (upd (upd H s.heap.objs.size (.own (s.heap.objs.size+1))) (s.heap.objs.size+1) (.ins C s.heap.objs.size []))
  {s with heap:=(s.heap.push PySem.W.emptyDict).push (PySem.W.instObj C s.heap.objs.size)}:=by
 have e1:(s.heap.push PySem.W.emptyDict).get? s.heap.objs.size=some PySem.W.emptyDict:=jD s.heap rfl;have e2:((s.heap.push PySem.W.emptyDict).push (PySem.W.instObj C s.heap.objs.size)).get? (s.heap.objs.size+1)=some (PySem.W.instObj C s.heap.objs.size):=by
  have:=jD (s.heap.push PySem.W.emptyDict) (o:=PySem.W.instObj C s.heap.objs.size) rfl
  rwa[xm]at this
 have e3:(s.heap.push PySem.W.emptyDict).Ns s.heap.objs.size (λ_=>none):=⟨PySem.W.emptyDict,#[],_,e1,rfl,(λe he=>absurd he (by simp)),λ_=>rfl⟩;have I1:=I.laid (a:=s.heap.objs.size) (o:=.own (s.heap.objs.size+1)) (h':=s.heap.push PySem.W.emptyDict) (t':=s.toks) (λb u q=>dX _ q) (dG _) ⟨_,e1⟩;refine I1.laid (a:=s.heap.objs.size+1) (o:=.ins C s.heap.objs.size []) (t':=s.toks) (λb u q=>dX _ q) (Nat.le_of_eq (xm _ _)) ?_;have ne:s.heap.objs.size≠s.heap.objs.size+1:=fX (YCr _);refine⟨by rw[au ne,cJ],v6 _,ne,e2,λ_=>none,(Heap.Ns1.of_empty e3).at λo q=>dX _ q,λ_=>True.intro,λy hy=>absurd rfl hy⟩
def zsJ{prog:Program}{w:World}{env:Env}{e:Expr}{f:Str}{pos:Pos}{s:Shared}{Q:Value->Shared->Prop}(hb:attributeBase e f env (eval e env)=eval e env)
  (h:wpAny (model prog w) A (eval e env) (λo s₁=>wpAny (model prog w) A (getAttr o f true) Q E s₁) E s):wpAny (model prog w) A (eval (.Attribute e f pos) env) Q E s:=
 Attribute_any_ h (by rw[arm_eval_Attribute,hb])
end
def tFld(K:qo)(ta:TE)(f:Str):TE:=λZ H Q=>ta Z H λx H1=>∃a C dx fs v,x=.ref a/\H1 a=some (.ins C dx fs)/\pK K C/\dJ K C f/\fs.lookup f=some v/\Q v H1
def sFld(K:qo)(ta tv:TE)(f:Str):TS:=λD Z H=>tv Z H λy H1=>ta Z H1 λx H2=>∃a C dx fs,x=.ref a/\H2 a=some (.ins C dx fs)/\pK K C/\dJ K C f/\fs.length<1000 /\
 D.nx Z (upd H2 a (.ins C dx (gQ f y fs)))
def Ig(X:Cx)(op:Operator)(rd:V->V->Hp->VK->Prop):Prop:=
 ∀(aa:List (Addr×Obj))(s:Shared)(Z:St)(H:Hp)(x y:V)(u v:Value)(Q:VK),Inv X aa Z H s->RelV x u->RelV y v->rd x y H Q->wpAny (model X.prog X.w) X.A (inplaceOp op u v) (EP X aa Z Q) X.xe s
section
variable{X:Cx}{o e value:Expr}{f:Str}{pos pos' tpos:Pos}{ta tv:TE}
def zoT(he:PE X e ta)(hb:attributeBase e f X.env (eval e X.env)=eval e X.env):PE X (.Attribute e f pos) (tFld X.K ta f):=by
 intro aa s Z H Q I h;refine zsJ hb (bH (he aa s Z H _ I h) λu s1 ⟨x,H1,I1,rx,a,C,dx,fs,v,ex,ea,c,n,l,q⟩=>?_);subst ex;obtain rfl:u=Value.ref a:=rx;exact zmE I1 ea c n l λu' s2 I2 ru=>⟨v,H1,I2,ru,q⟩
def zvm(ha:PE X o ta)(hv:PE X value tv)(hs:swapsWith value (some (.Attribute o f pos')) pos.line X.env=pure false):PS X (.Assign [.Attribute o f pos'] value pos) (sFld X.K ta tv f):=by
 intro aa s Z H D I h;refine plainObj_wpAny_Assign_Attribute (bH (hv aa s Z H _ I h) λu s1 ⟨y,H1,I1,ry,q⟩=>bH (ha aa s1 Z H1 _ I1 q) λov s2 ⟨x,H2,I2,rx,a,C,dx,fs,ex,ea,c,n,l,q2⟩=>?_) hs;subst ex;obtain rfl:ov=Value.ref a:=rx;exact zne I2 ea c n l ry λs3 I3=>⟨Z,_,I3,q2⟩
def rAdd:V->V->Hp->VK->Prop:=λx y H Q=>∃i j,x=.int i/\y=.int j/\Q (.int (i+j)) H
def zu2:Ig X .Add rAdd:=by
 rintro aa s Z H x y u v Q I rx ry ⟨i,j,rfl,rfl,q⟩;obtain⟨t,rfl⟩:=(show ∃t,u=Value.int i t from rx);obtain⟨t',rfl⟩:=(show ∃t',v=Value.int j t' from ry);exact PyProof.Rows.iadd_int ⟨.int (i+j),H,I.tok _,⟨_,rfl⟩,q⟩
end
structure bK(k:Nat)(A:Around):Prop where
 hd:A.handled=none
 dp:A.depth+3*k+5<recursionLimit
 un:A.units+16*k+200<cLine
def bK.mono(r:bK k A)(h:j<=k):bK j A:=⟨r.hd,by have:=r.dp;omega,by have:=r.un;omega⟩
theorem bK.deeper{k:Nat}{A:Around}(r:bK (k+1) A)(env:Env):bK k (A.deeper env):=
 ⟨r.hd,by have:=r.dp;show A.depth+1+3*k+5<_;omega,by have:=r.un;show A.units+3+16*k+200<_;omega⟩
def zmZ{A:Around}{C:Addr}{us:List Value}{kw:List (Str×Value)}:(A.under (.builtin "type.__call__" ⟨.ref C::us,kw⟩)).depth=A.depth+1:=by
 first|rfl|simp[Around.under,Code.weight,Code.isCreation,Code.isGuard,Code.isCaller,Code.frames,Code.isFrame,guardIds]
def zm4{A:Around}{C:Addr}{us:List Value}{kw:List (Str×Value)}:(A.under (.builtin "type.__call__" ⟨.ref C::us,kw⟩)).units=A.units+1:=by
 first|rfl|simp[Around.under,Code.cUnits,Code.frames,Code.isFrame]
def bK.make(r:bK (k+1) A)(C:Addr)(us:List Value)(kw:List (Str×Value)):bK k (A.under (.builtin "type.__call__" ⟨.ref C::us,kw⟩)):=
 ⟨r.hd,by have:=r.dp;rw[zmZ];omega,by have:=r.un;rw[zm4];omega⟩
theorem bK.depth{k:Nat}{A:Around}(r:bK k A):A.depth<recursionLimit:=by have:=r.dp;omega
theorem bK.units(r:bK k A):A.units+64<cLine:=by have:=r.un;omega
def xR:TA:=λ_ H Q=>Q [] H
def zwk(ta:TE)(tr:TA):TA:=λZ H Q=>ta Z H λx H1=>tr Z H1 λxs H2=>Q (x::xs) H2
section
variable{X:Cx}{e:Expr}{es:List Expr}{te:TE}{t:TA}{pos:Pos}
def jW:PA X [] xR:=λ_ _ _ _ H Q I h=>Calls.spliced_nil ⟨[],H,I,.nil,h⟩
def iI(ha:PE X e te)(hr:PA X es t)(hs:starEach (e::es) X.env=(false,eval e X.env)::starEach es X.env:=by rfl):PA X (e::es) (zwk te t):=by
 intro pos aa s Z H Q I h;rw[hs];show wpAny _ _ (spliced ((false,eval e X.env)::backTo pos (starEach es X.env))) _ _ s;refine Calls.spliced_cons (bH (ha aa s Z H _ I h) λu s1 ⟨x,H1,I1,r1,q1⟩=>?_);exact bH (hr pos aa s1 Z H1 _ I1 q1) λus s2 ⟨xs,H2,I2,r2,q2⟩=>⟨x::xs,H2,I2,.cons r1 r2,q2⟩
def tTup(t:TA):TE:=λZ H Q=>t Z H λxs H1=>xs.length<=sizeLine/\∀p,H1 p=none->Q (.ref p) (upd H1 p (.tup xs))
def tLst(t:TA):TE:=λZ H Q=>t Z H λxs H1=>xs.length<=sizeLine/\∀p,H1 p=none->Q (.ref p) (upd H1 p (.lst xs))
def zut{x1}(h:PA X es t):PE X (.Tuple es x1 pos) (tTup t):=by
 intro aa s Z H Q I hq;refine wpAny_Tuple_spliced (bH (h pos aa s Z H _ I hq) λus s1 ⟨xs,H1,I1,r,z,q⟩=>⟨by rw[<-r.length];exact z,?_⟩);have hf:H1 s1.heap.objs.size=none:=I1.hok.fresh (dG _);refine⟨.ref s1.heap.objs.size,upd H1 s1.heap.objs.size (.tup xs),I1.laid (t':=s1.toks) (λb u e=>dX _ e) (dG _) ?_,rfl,q _ hf⟩;exact⟨z,us,r,⟨_,jD _ rfl,rfl,_,rfl⟩⟩
def zrr(h:PA X es t):PE X (.List es pos) (tLst t):=by
 intro aa s Z H Q I hq;refine wpAny_List_spliced (bH (h pos aa s Z H _ I hq) λus s1 ⟨xs,H1,I1,r,z,q⟩=>⟨by rw[<-r.length];exact z,?_⟩);have hf:H1 s1.heap.objs.size=none:=I1.hok.fresh (dG _);refine⟨.ref s1.heap.objs.size,upd H1 s1.heap.objs.size (.lst xs),I1.laid (t':=s1.toks) (λb u e=>dX _ e) (dG _) ?_,rfl,q _ hf⟩;exact⟨z,us,0,r,jD _ rfl⟩
end
abbrev Sp:=List V->Hp->VK->XK->Prop
abbrev mO:=List Env->Hp->Shared->XK->Value->Shared->Prop
structure mH(P:Program)(w:World)(K:qo)(mg:Str->Option Value)(base:Heap)(A:Around)(outer:List Env)(s:Shared)(H:Hp):Prop where
 frames:A.frames=some outer
 mod:Mod K mg base
 bs:∀b o,base.get? b=some o->s.heap.get? b=some o/\H b=none
 bsz:base.objs.size<=s.heap.objs.size
 funs:s.heap.FunFrames base outer
 frf:∀b∈frs outer,H b=none
 hok:iW P w H s.heap
 bare:AllBare s.gens
def CE(outer:List Env)(P:Program)(w:World)(H:Hp)(s:Shared)(Q:VK)(u:Value)(s':Shared):Prop:=
 ∃v H',s'.os=s.os/\AllBare s'.gens/\Un (frs outer) [] H H' s.heap s'.heap/\iW P w H' s'.heap/\RelV v u/\Q v H'
def CR(CX:mO)(outer:List Env)(P:Program)(w:World)(H:Hp)(s:Shared)(Q:VK)(E:XK)(r:Result)(s':Shared):Prop:=
 match r with
 |.ok (.ret u)=>CE outer P w H s Q u s'
 |.ok _=>False
 |.error e=>CX outer H s E e s'
structure aN(P:Program)(w:World)(K:qo)(mg:Str->Option Value)(base:Heap)(CX:mO)(k:Nat)(f:Addr)(fd:FuncData)(ps:List Str)(sp:Sp):Prop where
 len:∀vs H Q E,sp vs H Q E->vs.length=ps.length
 run:∀(A:Around)(outer:List Env)(s:Shared)(H:Hp)(args:Args)(us:List Value)(vs:List V)(Q:VK)(E:XK),bK k A->mH P w K mg base A outer s H->BindsTo s fd args (ps.zip us)->Vals vs us->sp vs H Q E ->
  codeAny (model P w) A (.call (.ref f) args) (CR CX outer P w H s Q E) s
def aN.imp{P:Program}{w:World}{K:qo}{mg:Str->Option Value}{base:Heap}{CX:mO}{k:Nat}{f:Addr}{fd:FuncData}{ps:List Str}{sp sp':Sp}(F:aN P w K mg base CX k f fd ps sp)
  (h:∀vs H Q E,sp' vs H Q E->sp vs H Q E):aN P w K mg base CX k f fd ps sp':=
 ⟨λvs H Q E q=>F.len vs H Q E (h _ _ _ _ q),λA outer s H args us vs Q E hr he hb hv hs=>F.run A outer s H args us vs Q E hr he hb hv (h _ _ _ _ hs)⟩
def mH.make{P:Program}{w:World}{K:qo}{mg:Str->Option Value}{base:Heap}{A:Around}{outer:List Env}{s:Shared}{H:Hp}(e:mH P w K mg base A outer s H)(C:Addr)(us:List Value)(kw:List (Str×Value)) :
  mH P w K mg base (A.under (.builtin "type.__call__" ⟨.ref C::us,kw⟩)) outer s H:=⟨by first|exact e.frames|(simpa[Around.under,Code.envs,Code.isFrame,pushEnvs]using e.frames),e.mod,e.bs,e.bsz,e.funs,e.frf,e.hok,e.bare⟩
section
variable{X:Cx}{aa:List (Addr×Obj)}{Z:St}{H:Hp}{s s':Shared}
def Inv.env0(I:Inv X aa Z H s):mH X.prog X.w X.K X.mg X.base X.A X.stack s H:=
 ⟨I.ok.frames,I.ok.mod,I.bs,YAB I.ok.bsz I.sz,I.stack,I.stkFree,I.hok,I.bare⟩
def Inv.after(I:Inv X aa Z H s)(h:CE X.stack X.prog X.w H s Q u s'):EP X aa Z Q u s':=by
 obtain⟨v,H',os,bare,un,hok,r,q⟩:=h;obtain⟨hh,g,d,t,os'⟩:=s';obtain rfl:os'=s.os:=os;exact⟨v,H',I.call (h':=hh) (g':=g) (d':=d) (t':=t) (ch:=[]) un hok bare (λb z=>absurd z (by simp)),r,q⟩
end
def zqL(sp:Sp)(dvs:List V)(E:XK)(t:TA):TE:=λZ H Q=>t Z H λvs H1=>sp (vs++dvs) H1 Q E
def Jq(C:Addr)(m:Str)(sp:Sp)(dvs:List V)(E:XK)(ta:TE)(t:TA):TE:=λZ H Q=>ta Z H λx H1=>∃a dx fs,x=.ref a/\H1 a=some (.ins C dx fs)/\fs.lookup m=none /\
 t Z H1 λvs H2=>sp (x::(vs++dvs)) H2 Q E
def zvI(C:Addr)(sp:Sp)(dvs:List V)(E:XK)(t:TA):TE:=λZ H Q=>t Z H λvs H1=>∀x dx,H1 x=none->H1 dx=none->dx≠x ->
 sp (.ref x::(vs++dvs)) (upd (upd H1 dx (.own x)) x (.ins C dx [])) (λv H2=>v=.non/\Q (.ref x) H2) E
def Binds(K:qo)(fd:FuncData)(ps:List Str)(ds:List Value):Prop:=
 ∀(s:Shared)(us:List Value),K.In s.heap->(us++ds).length=ps.length->BindsTo s fd ⟨us,[]⟩ (ps.zip (us++ds))
def Binds.all{K:qo}{fd:FuncData}{ps:List Str}(h:∀us:List Value,us.length=ps.length->bindArgs fd ⟨us,[]⟩=pure (ps.zip us)):Binds K fd ps []:=λs us _ hl=>by
 rw[YAK]at hl ⊢;exact .of_eq (h us hl)
def nF(CX:mO)(X:Cx)(E:XK):Prop:=∀(aa:List (Addr×Obj))(Z:St)(H:Hp)(s:Shared)(e:Value)(s':Shared),Inv X aa Z H s->CX X.stack H s E e s'->X.xe e s'
section
variable{X:Cx}{CX:mO}{k:Nat}{f C:Addr}{fd:FuncData}{ps:List Str}{sp:Sp}{dvs:List V}{ds:List Value}{E:XK}{x m:Str}{p pos apos:Pos}{e o:Expr}{es:List Expr}{ta:TE}{t:TA}
def JC{aa:List (Addr×Obj)}{Z:St}{H:Hp}{s:Shared}{Q:VK}{us:List Value}{vs:List V}(F:aN X.prog X.w X.K X.mg X.base CX k f fd ps sp)(hr:bK k X.A)(hb:Binds X.K fd ps ds)(hd:Vals dvs ds)(hx:nF CX X E)
  (I:Inv X aa Z H s) (r:Vals vs us) (h:sp (vs++dvs) H Q E):wpAny (model X.prog X.w) X.A (call (.ref f) us) (EP X aa Z Q) X.xe s:=by
 have r2:Vals (vs++dvs) (us++ds):=r.append hd;have hl:(us++ds).length=ps.length:=by rw[<-r2.length];exact F.len _ _ _ _ h
 refine Dr (Fw (F.run X.A X.stack s H ⟨us,[]⟩ (us++ds) (vs++dvs) Q E hr I.env0 (hb s us I.kIn hl) r2 h) λr s' hq=>?_);cases r with
 |error e=>exact hx aa Z H s e s' I hq
 |ok fl=>
  cases fl with
  |ret u=>exact I.after hq
  |next=>exact False.elim hq
  |brk=>exact False.elim hq
  |cont=>exact False.elim hq
def wZ(F:aN X.prog X.w X.K X.mg X.base CX k f fd ps sp)(hr:bK k X.A)(hg:Gl X x)(hm:X.mg x=some (.ref f))(hk:PySem.W.keepIn X.K (.ref f)=true)(hb:Binds X.K fd ps ds)(hd:Vals dvs ds)(hx:nF CX X E)
  (ha:PA X (e::es) t) (hdb:(x==("__debug__":Str))=false:=by decide) (he:starEach (e::es) X.env=(false,eval e X.env)::starEach es X.env:=by rfl) (hpl:(backTo pos (starEach es X.env)).any (·.1)=false:=by rfl) :
  PE X (.Call (.Name x p) (e::es) [] pos) (zqL sp dvs E t):=by
 intro aa s Z H Q I h;refine v9 (xX I hg hm ?_ hdb);refine G7 (h₀:=X.base) I.ok.mod.kin hk (bH (ha pos aa s Z H _ I h) λus s1 ⟨vs,H1,I1,r,q⟩=>⟨I1.kIn,?_⟩) he hpl;exact JC F hr hb hd hx I1 r q
def zqE(F:aN X.prog X.w X.K X.mg X.base CX k f fd ps sp)(hr:bK k X.A)(hg:Gl X x)(hm:X.mg x=some (.ref f))(hk:PySem.W.keepIn X.K (.ref f)=true)(hb:Binds X.K fd ps ds)(hd:Vals dvs ds)(hx:nF CX X E)
  (hdb:(x==("__debug__":Str))=false:=by decide):PE X (.Call (.Name x p) [] [] pos) (zqL sp dvs E xR):=by
 intro aa s Z H Q I h;refine v9 (xX I hg hm ?_ hdb);exact YCD I.kIn hk (JC (us:=[]) F hr hb hd hx I .nil h)
def ztr(he:PE X o ta)(c:pK X.K C)(hm:Meth X.K C m f)(F:aN X.prog X.w X.K X.mg X.base CX k f fd ps sp)(hr:bK k X.A)(hb:Binds X.K fd ps ds)(hd:Vals dvs ds)(hx:nF CX X E)(ha:PA X (e::es) t)
  (hst:starEach (e::es) X.env=(false,eval e X.env)::starEach es X.env:=by rfl) (hpl:(backTo pos (starEach es X.env)).any (·.1)=false:=by rfl)
  (ht:eval (.Call (.Attribute o m apos) (e::es) [] pos) X.env=(do
   let ov <-eval o X.env
   standAt apos.atName
   let(f,first) <-holding [ov] (getMethod ov m pl)
   callWith pos f first (backTo pos (starEach (e::es) X.env)) (backToKw pos (keywordEach [] X.env))):=by rfl) :
  PE X (.Call (.Attribute o m apos) (e::es) [] pos) (Jq C m sp dvs E ta t):=by
 intro aa s Z H Q I h;refine PySem.W.methodCall_KW (pl:=pl) (bH (he aa s Z H _ I h) λu s1 ⟨x,H1,I1,rx,a,dx,fs,ex,ea,l,q⟩=>?_) ht;subst ex;obtain rfl:u=Value.ref a:=rx;refine zhK I1 ea c hm l ?_;refine G7 (first:=[.ref a]) (h₀:=X.base) I.ok.mod.kin hm.kp (bH (ha pos aa s1 Z H1 _ I1 q) λus s2 ⟨vs,H2,I2,r,q2⟩=>⟨I2.kIn,?_⟩) hst hpl;exact JC (us:=.ref a::us) (vs:=.ref a::vs) F hr hb hd hx I2 (.cons rfl r) q2
def zqm(he:PE X o ta)(c:pK X.K C)(hm:Meth X.K C m f)(F:aN X.prog X.w X.K X.mg X.base CX k f fd ps sp)(hr:bK k X.A)(hb:Binds X.K fd ps ds)(hd:Vals dvs ds)(hx:nF CX X E)
  (ht:eval (.Call (.Attribute o m apos) [] [] pos) X.env=(do
   let ov <-eval o X.env
   standAt apos.atName
   let(f,first) <-holding [ov] (getMethod ov m pl)
   callWith pos f first (backTo pos (starEach [] X.env)) (backToKw pos (keywordEach [] X.env))):=by rfl) :
  PE X (.Call (.Attribute o m apos) [] [] pos) (Jq C m sp dvs E ta xR):=by
 intro aa s Z H Q I h;refine PySem.W.methodCall_KW (pl:=pl) (bH (he aa s Z H _ I h) λu s1 ⟨x,H1,I1,rx,a,dx,fs,ex,ea,l,q⟩=>?_) ht;subst ex;obtain rfl:u=Value.ref a:=rx;refine zhK I1 ea c hm l ?_;exact YCD (first:=[.ref a]) I1.kIn hm.kp (JC (us:=[.ref a]) (vs:=[.ref a]) F hr hb hd hx I1 (.cons rfl .nil) q)
structure Mk(K:qo)(C f:Addr):Prop where
 makes:PySem.W.makesIn K C=true
 init:PySem.W.findIn K (.ref C) "__init__"=some (some (.ref f))
 fn:PySem.W.isFn K (.ref f)=true
 kp:PySem.W.keepIn K (.ref C)=true
def zp3(M:Mk X.K C f)(F:aN X.prog X.w X.K X.mg X.base CX k f fd ps sp)(hr:bK (k+1) X.A)(hb:Binds X.K fd ps ds)(hd:Vals dvs ds)
  (hx:nF CX X E) (I:Inv X aa Z H s) (r:Vals vs us)
  (h:∀x dx,H x=none->H dx=none->dx≠x->sp (.ref x::(vs++dvs)) (upd (upd H dx (.own x)) x (.ins C dx [])) (λv H2=>v=.non/\Q (.ref x) H2) E) :
  wpAny (model X.prog X.w) X.A (call (.ref C) us) (EP X aa Z Q) X.xe s:=by
 have hq:=h (s.heap.objs.size+1) s.heap.objs.size (I.hok.fresh (Nat.le_succ _)) (I.hok.fresh (dG _)) (fX (YCr _));have I2:=Inv.made (C:=C) I;have r2:Vals (V.ref (s.heap.objs.size+1)::(vs++dvs)) (Value.ref (s.heap.objs.size+1)::(us++ds)):=.cons rfl (r.append hd);have hl:(Value.ref (s.heap.objs.size+1)::us++ds).length=ps.length:=by
  have e:=r2.length;rw[F.len _ _ _ _ hq]at e;exact e.symm
 refine Dr (zqi (f:=f) I.kIn M.makes M.init (yV.mp M.fn) (Fw (F.run _ X.stack _ _ ⟨Value.ref (s.heap.objs.size+1)::us,[]⟩ (Value.ref (s.heap.objs.size+1)::(us++ds)) _ _ E (hr.make C us [])
  (I2.env0.make C us []) (hb _ (Value.ref (s.heap.objs.size+1)::us) I2.kIn hl) r2 hq) λr s' hq'=>?_))
 cases r with
 |error e=>exact hx aa Z _ _ e s' I2 hq'
 |ok fl=>
  cases fl with
  |ret u=>
   obtain⟨v,H',I3,rv,ev,q3⟩:=I2.after hq';subst ev;exact⟨rv,⟨V.ref (s.heap.objs.size+1),H',I3,rfl,q3⟩⟩
  |next=>exact False.elim hq'
  |brk=>exact False.elim hq'
  |cont=>exact False.elim hq'
def zpU(M:Mk X.K C f)(F:aN X.prog X.w X.K X.mg X.base CX k f fd ps sp)(hr:bK (k+1) X.A)(hg:Gl X x)(hm:X.mg x=some (.ref C))(hb:Binds X.K fd ps ds)(hd:Vals dvs ds)(hx:nF CX X E)
  (hdb:(x==("__debug__":Str))=false:=by decide):PE X (.Call (.Name x p) [] [] pos) (zvI C sp dvs E xR):=by
 intro aa s Z H Q I h;refine v9 (xX I hg hm ?_ hdb);exact YCD I.kIn M.kp (zp3 (us:=[]) M F hr hb hd hx I .nil h)
end
structure dh(N P:List Str)(sc:Scope):Prop where
 kind:sc.kind=.function
 co:sc.isCoroutine=false
 gen:sc.isGenerator=false
 nd:N.Nodup
 pre:N.take P.length=P
 par:∀x∈P,sc.names.lookup x=some .local\/sc.names.lookup x=some .cell
 nofree:∀y∈sc.names,y.2≠.free
theorem zj6{kindOf:Str->Option NameKind}{x:Str}:∀{binds:List (Str×Value)}{m:Str->Option Value},(∀v,(x,v)∉binds)->bindL kindOf binds m x=m x
 |[],_,_=>rfl
 | (n,v)::r,m,h=>by
  unfold bindL;rw[zj6 λw hw=>h w (kj _ hw)];split
  .have:x≠n:=by rintro rfl;exact h v gC
   simp[this]
  .rfl
theorem zjf{kindOf:Str->Option NameKind}{x:Str}:∀{binds:List (Str×Value)}{m:Str->Option Value},(∀v,(x,v)∉binds)->bindC kindOf binds m x=m x
 |[],_,_=>rfl
 | (n,v)::r,m,h=>by
  unfold bindC;rw[zjf λw hw=>h w (kj _ hw)];split
  .rfl
  .have:x≠n:=by rintro rfl;exact h v gC
   simp[this]
theorem zj9{kindOf:Str->Option NameKind}{x:Str}{v:Value}:∀{P:List Str}{vs:List Value}{i:Nat}{m:Str->Option Value},P.Nodup->P[i]?=some x->vs[i]?=some v->kindOf x=some .local ->
  bindL kindOf (P.zip vs) m x=some v
 |[],_,_,_,_,h,_,_=>by simp at h
 |_::_,[],_,_,_,_,h,_=>by simp at h
 |p::P,w::vs,0,m,nd,h1,h2,hk=>by
  simp at h1 h2;subst h1;subst h2;show bindL kindOf ((p,w)::P.zip vs) m p=_;unfold bindL;rw[zj6 λv hv=>(wG.mp nd).1 (YCE hv).1,if_pos hk]
  simp
 |p::P,w::vs,i+1,m,nd,h1,h2,hk=>by
  show bindL kindOf ((p,w)::P.zip vs) m x=_;unfold bindL;exact zj9 (i:=i) (wG.mp nd).2 (by simpa using h1) (by simpa using h2) hk
theorem zkk{kindOf:Str->Option NameKind}{x:Str}{v:Value}:∀{P:List Str}{vs:List Value}{i:Nat}{m:Str->Option Value},P.Nodup->P[i]?=some x->vs[i]?=some v->kindOf x≠some .local ->
  bindC kindOf (P.zip vs) m x=some v
 |[],_,_,_,_,h,_,_=>by simp at h
 |_::_,[],_,_,_,_,h,_=>by simp at h
 |p::P,w::vs,0,m,nd,h1,h2,hk=>by
  simp at h1 h2;subst h1;subst h2;show bindC kindOf ((p,w)::P.zip vs) m p=_;unfold bindC;rw[zjf λv hv=>(wG.mp nd).1 (YCE hv).1,if_neg hk]
  simp
 |p::P,w::vs,i+1,m,nd,h1,h2,hk=>by
  show bindC kindOf ((p,w)::P.zip vs) m x=_;unfold bindC;exact zkk (i:=i) (wG.mp nd).2 (by simpa using h1) (by simpa using h2) hk
def ni(N:List Str)(vs:List V):St:=vs.map some++List.replicate (N.length-vs.length) none
noncomputable def dj(CX:mO)(P:Program)(w:World)(K:qo)(mg:Str->Option Value)(base:Heap)(N:List Str)(qual:Str)(scope:Scope)(f:Addr)(cd:Value)(A:Around)(outer:List Env)(s:Shared)(H:Hp)(E:XK):Cx where
 prog:=P
 w:=w
 K:=K
 mg:=mg
 base:=base
 A:=A.deeper (envOfC qual scope s.heap.objs.size f cd)
 N:=N
 s₀:=s
 H₀:=H
 env:=envOfC qual scope s.heap.objs.size f cd
 outer:=outer
 stack:=envOfC qual scope s.heap.objs.size f cd::outer
 ex:=[]
 calm:=true
 fn:=λ_=>true
 pn:=[]
 xe:=λe s'=>wpAny (model P w) (A.deeper (envOfC qual scope s.heap.objs.size f cd)) (leaving (envOfC qual scope s.heap.objs.size f cd) e) (λ_ s''=>CX outer H s E e s'') (λe' s''=>CX outer H s E e' s'') s'
def zlL{sc:Scope}{n:Nat}{x:Str}(h:sc.names.lookup x=some .cell):∃c,(cellsFrom n sc.names []).lookup x=some c:=by
 have q:=YCc sc.names n [] (.inl h);exact YBK.mp q
def zjW{CX:mO}{P:Program}{w:World}{K:qo}{mg:Str->Option Value}{base:Heap}{N ps:List Str}{qual:Str}{scope:Scope}{f:Addr}{cd:Value}{A:Around}{outer:List Env}{s s1:Shared}{H:Hp}{E:XK}{us:List Value}{vs:List V}
  (qh:dh N ps scope) (hd:A.handled=none) (e0:mH P w K mg base A outer s H) (hl:vs.length=ps.length) (r:Vals vs us)
  (x:InCallC s s.heap.objs.size (bindL (envOfC qual scope s.heap.objs.size f cd).kindOf (ps.zip us) λ_=>none) (cellsFrom (s.heap.objs.size+1) scope.names []) (bindC (envOfC qual scope s.heap.objs.size f cd).kindOf (ps.zip us) λ_=>none) s1) :
  Inv (dj CX P w K mg base N qual scope f cd A outer s H E) [] (ni N vs) H s1:=by
 have hpl:ps.length<=N.length:=by have:=congrArg List.length qh.pre;rw[Av]at this;omega
 obtain⟨h1,tk,rfl,hk⟩:=x.done;have Br:∀b:Addr,b∉(dj CX P w K mg base N qual scope f cd A outer s H E).ex:=λb z=>absurd (show b∈([]:List Addr)from z) (by simp);refine⟨⟨e0.mod,qh.kind,rfl,rfl,dG _,λy z c h1 h2=>?_,λy hy=>?_,λy c _ h=>?_,λ_=>hd,Around.frames_deeper e0.frames,.inr ⟨rfl,rfl⟩,λb z=>absurd z (Br b),e0.bs,e0.bsz,λb _ _=>Br b,λb z=>absurd z (Br b),e0.funs,e0.frf⟩,
  rfl,e0.bare,Un.kept hk,⟨_,x.toInCall.ns,λi y v h1 h2 h3=>?_⟩,λy c h=>⟨_,x.cell y c h⟩,e0.hok.fresh (dG _),λy c h=>?_,λp hp=>absurd (show p∈([]:List (Addr×Obj))from hp) (by simp),e0.hok.kept hk,?_⟩
 .exact name_of_addr x.apart (yZ h1) (yZ h2)
 .have hy:scope.names.lookup y=some .cell\/scope.names.lookup y=some .free:=hy;rcases hy with hy|hy
  .exact zlL hy
  .exact absurd rfl (qh.nofree _ (yZ hy))
 .exact Nat.le_of_lt (x.above y c (yZ h))
 .have hi:i<vs.length:=by
   unfold ni at h2;by_cases hi:i<vs.length
   .exact hi
   .rw[YBA (by simpa using hi)]at h2;rw[Gq]at h2;split at h2<;>cases h2
  have ha:vs[i]?=some v:=by
   unfold ni at h2;rw[Ce (by simpa using hi),jV]at h2;cases e:vs[i]? with
   |none=>rw[e]at h2;cases h2
   |some a=>rw[e]at h2;cases h2;rfl
  obtain⟨u,hu,rv⟩:=r.get ha;have hp:ps[i]?=some y:=by
   rw[<-qh.pre,List.getElem?_take_of_lt (by omega)];exact h1
  have ndP:ps.Nodup:=by rw[<-qh.pre];exact qh.nd.sublist (List.take_sublist _ _)
  refine⟨u,rv,?_⟩;rcases qh.par y (List.mem_of_getElem? hp)with k|k
  .exact .inl ⟨k,zj9 ndP hp hu k⟩
  .obtain⟨c,e⟩:=zlL (n:=s.heap.objs.size+1) k;refine .inr ⟨.inl k,c,e,?_⟩;have q:=x.cell y c e;rw[zkk ndP hp hu (by show scope.names.lookup y≠_;rw[k];decide)]at q;exact q
 .exact e0.hok.fresh (Nat.le_of_lt (x.above y c (yZ h)))
 .unfold ni;show _=N.length;rw[gU,b8,List.length_replicate];omega
def zsp{CX:mO}{P:Program}{w:World}{K:qo}{mg:Str->Option Value}{base:Heap}{k:Nat}{f:Addr}{name qual:Str}{params:Arguments}{body:List Stmt}{scope:Scope}{dV kV doc pm cdv ct oc:Value}{an od:Option Addr}
  {osl:Array (Option Value)} {N ps:List Str} {sp:Sp} (lk:K.lookup f=some ⟨oc,od,.func (PySem.W.fnOf name qual params body scope dV kV doc pm an cdv ct),osl⟩) (hcd:PySem.W.codeIn K cdv qual=true) (qh:dh N ps scope)
  (len:∀vs H Q E,sp vs H Q E->vs.length=ps.length)
  (hbody:∀(A:Around)(outer:List Env)(s:Shared)(H:Hp)(vs:List V)(Q:VK)(E:XK),bK k (A.deeper (envOfC qual scope s.heap.objs.size f cdv))->sp vs H Q E ->
   ∃t,lH (dj CX P w K mg base N qual scope f cdv A outer s H E) body t/\t {nx:=λ_ H'=>Q .non H',rt:=Q} (ni N vs) H) :
  aN P w K mg base CX (k+1) f (PySem.W.fnOf name qual params body scope dV kV doc pm an cdv ct) ps sp:=by
 refine⟨len,λA outer s H args us vs Q E hr e0 hb r hsp=>?_⟩;have hl:=len _ _ _ _ hsp;have KX:K.In s.heap:=e0.mod.kin.keeps λb o e=>(e0.bs b o e).1;have lim:s.heap.NoLimit:=e0.mod.nolimit.keeps λb o e=>(e0.bs b o e).1;have hkind:∀y∈ps.zip us,scope.names.lookup y.1=some .local\/(scope.names.lookup y.1=some .cell/\((cellsFrom (s.heap.objs.size+1) scope.names []).lookup y.1).isSome=true):=λ⟨n,v⟩ hy=>by
  rcases qh.par n (YCE hy).1 with q|q
  .exact .inl q
  .exact .inr ⟨q,YCc _ _ _ (.inl q)⟩
 refine codeAny_call_function hr.depth (KX _ _ lk) rfl qh.co qh.gen rfl (PySem.W.codeRec_of KX hcd) (hb _ _ _ _ ?_);refine wpAny_newFunctionEnv_cells qh.kind hkind λenv he s1 x=>?_;subst he;refine⟨lim.keeps x.toInCall.keep,codeAny_func ?_⟩;obtain⟨t,ht,hq⟩:=hbody A outer s H vs Q E (hr.deeper _) hsp;have I:Inv (dj CX P w K mg base N qual scope f cdv A outer s H E) [] (ni N vs) H s1:=zjW qh hr.hd e0 hl r x;refine lD (ht [] s1 (ni N vs) H _ I hq) (λfl s' hs=>?_) λe s' hs=>hs;have fin:∀{Z':St}{H':Hp}{v:V}{u:Value},Inv (dj CX P w K mg base N qual scope f cdv A outer s H E) [] Z' H' s'->RelV v u->Q v H'->CE outer P w H s Q u s':=
  λ{Z' H' v u} J rv q=>⟨v,H',J.os,J.bare,J.base,J.hok,rv,q⟩
 cases fl with
 |ret u=>
  obtain⟨v,Z',H',J,rv,q⟩:=hs;exact fin J rv q
 |next=>
  obtain⟨Z',H',J,q⟩:=hs;exact fin (v:=V.non) (u:=Value.none) J rfl q
 |brk=>
  obtain⟨_,_,_,q⟩:=hs;exact False.elim q
 |cont=>
  obtain⟨_,_,_,q⟩:=hs;exact False.elim q
section
variable{X:Cx}{x:Str}{p pos:Pos}{e:Expr}{es:List Expr}{t:TA}{id T:String}{r:List V->Hp->VK->Prop}
def tCB(r:List V->Hp->VK->Prop)(t:TA):TE:=λZ H Q=>t Z H λvs H1=>r vs H1 Q
def Dz(hc:cY X (.builtin id) r)(hg:Gl X x)(hm:X.mg x=none)(hv:bootBuiltins x=some (.builtin id))(ha:PA X (e::es) t)(hn:x≠"__name__":=by decide)(hdb:(x==("__debug__":Str))=false:=by decide)
  (he:starEach (e::es) X.env=(false,eval e X.env)::starEach es X.env:=by rfl) (hpl:(backTo pos (starEach es X.env)).any (·.1)=false:=by rfl):PE X (.Call (.Name x p) (e::es) [] pos) (tCB r t):=by
 intro aa s Z H Q I h;refine v9 (Fi I hg hm hv ?_ hn hdb);exact PyProof.Rows.callWith_builtin1 (bH (ha pos aa s Z H _ I h) λus s1 ⟨vs,H1,I1,r1,q1⟩=>hc aa s1 Z H1 vs us Q I1 r1 q1) he hpl
def zu(hc:cY X (.type T) r)(hg:Gl X x)(hm:X.mg x=none)(hv:bootBuiltins x=some (.type T))(ha:PA X (e::es) t)(hn:x≠"__name__":=by decide)(hdb:(x==("__debug__":Str))=false:=by decide)
  (he:starEach (e::es) X.env=(false,eval e X.env)::starEach es X.env:=by rfl) (hpl:(backTo pos (starEach es X.env)).any (·.1)=false:=by rfl):PE X (.Call (.Name x p) (e::es) [] pos) (tCB r t):=by
 intro aa s Z H Q I h;refine v9 (Fi I hg hm hv ?_ hn hdb);exact YBy (bH (ha pos aa s Z H _ I h) λus s1 ⟨vs,H1,I1,r1,q1⟩=>hc aa s1 Z H1 vs us Q I1 r1 q1) he hpl
end
end L2
namespace HT
open PySem PyProof.Rows
section
variable{prog:Program}{w:World}{A:Around}{E:Value->Shared->Prop}{s:Shared}
def xg(ht:IsTup s.heap t vs.toArray)(hb:IsTup s.heap b ws.toArray)(hv:vs≠[])
  (h1:ws=[]->Q (.ref t) s) (h2:ws≠[]->Q (.ref s.heap.objs.size) {s with heap:=s.heap.push {cls:=.type "tuple",data:=.seq (vs++ws).toArray}})
  (hsz:vs.length+ws.length<=sizeLine):wpAny (model prog w) A (binaryOp .Add (.ref t) (.ref b)) Q E s:=by
 obtain⟨⟨cls,dd,data,sl⟩,ho,hc,n,hd⟩:=id ht;obtain⟨⟨cls2,dd2,data2,sl2⟩,ho2,hc2,n2,hd2⟩:=id hb;simp only at hc hd hc2 hd2;subst hc hd hc2 hd2;have e:vs.toArray++ws.toArray=(vs++ws).toArray:=by simp
 by_cases hw:ws=[]
 .exact concat_meets ⟨_,ho,rfl⟩ ⟨_,ho2,rfl⟩ YCW seq_tuple_add YCd YB6 (YB2 _ _)
   (tuple_addW1 t b vs.toArray ws.toArray n n2 dd dd2 sl sl2 (by simpa using hv) (by simp[hw])) ⟨ho,ho2,h1 hw⟩
 .refine concat_meets ⟨_,ho,rfl⟩ ⟨_,ho2,rfl⟩ YCW seq_tuple_add YCd YB6 (YB2 _ _)
   (tuple_addW2 t b vs.toArray ws.toArray n n2 dd dd2 sl sl2 (by simpa using hv) (by simpa using hw) (by rw[ju,ju];exact hsz)) ⟨ho,ho2,?_⟩
  rw[e];exact h2 hw
def cg(n d:Nat):Option Int->Nat
 |none=>d
 |some v=>if v<0 then(v+(n:Int)).toNat else min v.toNat n
def uW(n d:Nat):cg n d none=d:=rfl
def jw(n d k:Nat):cg n d (some (k:Int))=min k n:=by
 show(if (k:Int)<0 then((k:Int)+(n:Int)).toNat else min (k:Int).toNat n)=min k n;rw[if_neg (by omega),Ht]
def zmi(n d:Nat)(hd:d<=n)(o:Option Int):cg n d o<=n:=by
 cases o with
 |none=>exact hd
 |some v=>
  show(if v<0 then(v+(n:Int)).toNat else min v.toNat n)<=n;by_cases hv:v<0
  .rw[if_pos hv];omega
  .rw[if_neg hv];exact YCs _ _
def zpo(v:Int)(n d:Nat):(if v<0 then max (v+(n:Int)) 0 else min v (n:Int))=((cg n d (some v):Nat):Int):=by
 show(if v<0 then max (v+(n:Int)) 0 else min v (n:Int))=(((if v<0 then(v+(n:Int)).toNat else min v.toNat n):Nat):Int);by_cases hv:v<0
 .simp only[if_pos hv];omega
 .simp only[if_neg hv];omega
def znd(lo hi:Option Int)(n:Nat):Builtin.Slice.sliceAdjust lo hi 1 (n:Int)=(((cg n 0 lo:Nat):Int),((cg n n hi:Nat):Int)):=by
 have h1:¬ ((1:Int)<0):=by omega
 unfold Builtin.Slice.sliceAdjust;simp only[h1,uM];refine Prod.ext ?_ ?_
 .cases lo with
  |none=>rfl
  |some v=>exact zpo v n 0
 .cases hi with
  |none=>rfl
  |some v=>exact zpo v n n
def zna(i j:Nat):Builtin.Slice.slicePlaces (i:Int) (j:Int) 1=j-i:=by
 unfold Builtin.Slice.slicePlaces;have h1:(1:Int)>0:=by omega
 simp only[h1,uP,Int.ediv_one];split<;>omega
def zhN{v:Value}{o:Option Int}{Q:Option Int->Shared->Prop}(p:IsPart v o)(h:Q o s):wpAny (model prog w) A (Builtin.Slice.slicePartIndex v) Q E s:=by
 cases p with
 |none=>exact slicePart_none h
 |int i t=>exact slicePart_int h
def zd0{sl:Addr}{vl vu:Value}{lo hi:Option Int}{n:Nat}{Q:Int×Int×Nat->Shared->Prop}(hs:s.heap.IsSliceOf sl vl vu .none)(pl:IsPart vl lo)(pu:IsPart vu hi)
  (h:Q (((cg n 0 lo:Nat):Int),1,cg n n hi-cg n 0 lo) s):wpAny (model prog w) A (Builtin.Slice.sliceApplied (.ref sl) (pure (n:Int))) Q E s:=by
 obtain⟨os,hos,hcs,hds⟩:=id hs;unfold Builtin.Slice.sliceApplied Builtin.Slice.sliceFields;refine aL (aL (YAF hos hds (x:=vl) rfl (aL (YAF hos hds (x:=vu) rfl (aL (YAF hos hds (x:=.none) rfl (bV ?_)))))));refine aL (slicePart_none ?_);show wpAny _ _ (if ((1:Int)==0)=true then _ else _) _ _ s;rw[if_neg (by decide)];refine aL (zhN pl (aL (zhN pu (aL (bV ?_)))));show wpAny _ _ (match Builtin.Slice.sliceAdjust lo hi 1 (n:Int)with|(lo,hi)=>pure (lo,(1:Int),Builtin.Slice.slicePlaces lo hi 1)) _ _ s;rw[znd lo hi n];show wpAny _ _ (pure (((cg n 0 lo:Nat):Int),(1:Int),Builtin.Slice.slicePlaces ((cg n 0 lo:Nat):Int) ((cg n n hi:Nat):Int) 1)) _ _ s;rw[zna];exact bV h
def zpL(xs:Array Value)(i k:Nat):((List.range k).filterMap λ(m:Nat)=>xs[((i:Int)+(m:Int)*1).toNat]?).toArray=((xs.toList.drop i).take k).toArray:=by
 have e:(λ(m:Nat)=>xs[((i:Int)+(m:Int)*1).toNat]?)=λm=>xs[i+m]?:=by
  funext m
  have:((i:Int)+(m:Int)*1).toNat=i+m:=by omega
  rw[this]
 rw[e]
 have:=pick_run xs i k
 rw[List.filterMap_map]at this;have e2:((λx=>xs[x]?)∘λx=>i+x)=λm=>xs[i+m]?:=rfl;rw[e2]at this;rw[this]
def jy{t sl:Addr}{items:Array Value}{vl vu:Value}{lo hi:Option Int}{Q:Value->Shared->Prop}(ht:IsTup s.heap t items)(hs:s.heap.IsSliceOf sl vl vu .none)(pl:IsPart vl lo)(pu:IsPart vu hi)
  (hw:¬ (cg items.size 0 lo=0/\cg items.size items.size hi=items.size))
  (h:Q (.ref s.heap.objs.size) {s with heap:=s.heap.push {cls:=.type "tuple",data:=.seq ((items.toList.drop (cg items.size 0 lo)).take (cg items.size items.size hi-cg items.size 0 lo)).toArray}})
  (hsz:items.size<=sizeLine):wpAny (model prog w) A (getItem (.ref t) (.ref sl)) Q E s:=by
 have htake:sizeOk (.seq ((items.toList.drop (cg items.size 0 lo)).take (cg items.size items.size hi-cg items.size 0 lo)).toArray):=by
  show((items.toList.drop (cg items.size 0 lo)).take (cg items.size items.size hi-cg items.size 0 lo)).toArray.size<=sizeLine;rw[ju,Av,YCt,Cq];omega
 have hj:cg items.size items.size hi<=items.size:=zmi _ _ (dG _) hi;obtain⟨os,hos,hcs,hds⟩:=id hs;have hTs:s.TypeIs (.ref sl) "slice":=⟨os,hos,hcs⟩;unfold getItem
 try with_reducible refine qx ?_
 first|refine aL (bV ?_)|skip
 refine aL (wpAny_sequenceKey ht.typeIs (by decide) ?_);refine aL (YAH (name:=Str.ofString "__getitem__") ht.typeIs YAT
  (vJ YAT ht.typeIs entry_tuple_getitem ?_ (args_tuple_getitem _ _)))
 show wpAny _ _ (Builtin.Tuple.tupleItemsOf (.ref t) >>= _) _ _ s;refine aL (tupleItemsOf_ ht ?_);refine aL (HX hTs ?_);rw[if_pos (by decide)];refine aL (zd0 hs pl pu ?_);have hno:¬ ((((cg items.size 0 lo:Nat):Int)==0&&(1:Int)==1&&(cg items.size items.size hi-cg items.size 0 lo)==items.size)=true):=by
  intro q;rw[YAA,YAA]at q;have q1:((cg items.size 0 lo:Nat):Int)=0:=eq_of_beq q.1.1;have q2:cg items.size items.size hi-cg items.size 0 lo=items.size:=eq_of_beq q.2;exact hw ⟨by omega,by omega⟩
 show wpAny _ _ (if (((cg items.size 0 lo:Nat):Int)==0&&(1:Int)==1&&(cg items.size items.size hi-cg items.size 0 lo)==items.size)=true then _ else _) _ _ s;rw[if_neg hno,zpL];first
  |exact aL (m:=Builtin.Tuple.tupleExact _) (YAI (bV ⟨_,rfl,bV h⟩) htake)
  |exact aL (m:=Builtin.Tuple.tupleExact _) (YAI (aL (bV (bV ⟨_,rfl,bV h⟩))) htake)
  |exact aL (aL (m:=Builtin.Tuple.tupleExact _) (YAI (bV (bV ⟨_,rfl,bV h⟩)) htake))
  |exact aL (aL (m:=Builtin.Tuple.tupleExact _) (YAI (bV ⟨_,rfl,bV h⟩) htake))
end
end HT
namespace L2
open PySem PySem.Spec PyProof.Rows
abbrev TO:=St->Hp->(Option Int->Hp->Prop)->Prop
def PO(X:Cx)(e:Option Expr)(t:TO):Prop:=
 ∀(aa:List (Addr×Obj))(s:Shared)(Z:St)(H:Hp)(Q:Option Int->Hp->Prop),Inv X aa Z H s->t Z H Q ->
  wpAny (model X.prog X.w) X.A (evalPart e X.env) (λu s'=>∃o H',Inv X aa Z H' s'/\IsPart u o/\Q o H') X.xe s
def zti:TO:=λ_ H Q=>Q none H
def zvJ(t:TE):TO:=λZ H Q=>t Z H λx H1=>∃i,x=.int i/\Q (some i) H1
section
variable{X:Cx}{e:Expr}{te:TE}{lo hi:Option Expr}{tl th:TO}{pos p2:Pos}
def zn7:PO X none zti:=by
 intro aa s Z H Q I h;rw[evalPart_none];exact bV ⟨none,H,I,.none,h⟩
def znB(h:PE X e te):PO X (some e) (zvJ te):=by
 intro aa s Z H Q I hw;rw[evalPart_some];refine bH (h aa s Z H _ I hw) λu s1 ⟨x,H1,I1,r1,q1⟩=>?_;obtain⟨i,rfl,q⟩:=q1;obtain⟨t,rfl⟩:=r1;exact⟨some i,H1,I1,.int i t,q⟩
noncomputable def yG(X:Cx)(r:V->Option Int->Option Int->Hp->VK->Prop):Prop:=
 ∀(aa:List (Addr×Obj))(s:Shared)(Z:St)(H:Hp)(x:V)(v vl vu:Value)(lo hi:Option Int)(sl:Addr)(Q:VK),Inv X aa Z H s->RelV x v->s.heap.IsSliceOf sl vl vu .none->IsPart vl lo->IsPart vu hi->r x lo hi H Q ->
  ∃T id,typeLookup (.type T) "__getitem__"=pure (some (.builtin id))/\s.TypeIs v T/\wpAny (model X.prog X.w) X.A (getItem v (.ref sl)) (EP X aa Z Q) X.xe s
def yG.or{r r':V->Option Int->Option Int->Hp->VK->Prop}(h:yG X r)(h':yG X r'):yG X (λx lo hi H Q=>r x lo hi H Q\/r' x lo hi H Q):=by
 intro aa s Z H x v vl vu lo hi sl Q I rx hs pl pu q;rcases q with q|q
 .exact h aa s Z H x v vl vu lo hi sl Q I rx hs pl pu q
 .exact h' aa s Z H x v vl vu lo hi sl Q I rx hs pl pu q
def tSl(r:V->Option Int->Option Int->Hp->VK->Prop)(te:TE)(tl th:TO):TE:=λZ H Q=>te Z H λx H1=>tl Z H1 λl H2=>th Z H2 λu H3=>r x l u H3 Q
def zmp(hr:yG X r)(he:PE X e te)(hl:PO X lo tl)(hu:PO X hi th):PE X (.Subscript e (.Slice lo hi none p2) pos) (tSl r te tl th):=by
 intro aa s Z H Q I h;refine Subscript_ (bH (he aa s Z H _ I h) λv s1 ⟨x,H1,I1,r1,q1⟩=>?_);refine wpAny_Slice (bH (hl aa s1 Z H1 _ I1 q1) λvl s2 ⟨l,H2,I2,pl,q2⟩=>bH (hu aa s2 Z H2 _ I2 q2) λvu s3 ⟨u,H3,I3,pu,q3⟩=>?_);rw[evalPart_none];refine bV ?_;have I4:Inv X aa Z H3 {s3 with heap:=s3.heap.push {cls:=.type "slice",data:=.fields #[vl,vu,.none]}}:=I3.kept (t':=s3.toks) λb ob q=>dX _ q;obtain⟨T,id,hT,ht,hg⟩:=hr aa {s3 with heap:=s3.heap.push {cls:=.type "slice",data:=.fields #[vl,vu,.none]}} Z H3 x v vl vu l u s3.heap.objs.size Q I4 r1 (Heap.IsSliceOf.new ..) pl pu q3;show wpAny (model X.prog X.w) X.A (subscriptTail e (.Slice lo hi none p2) v (.ref s3.heap.objs.size)) (EP X aa Z Q) X.xe {s3 with heap:=s3.heap.push {cls:=.type "slice",data:=.fields #[vl,vu,.none]}};exact tail_any (ops:=[.ref s3.heap.objs.size,v]) ht hT hg (by with_unfolding_all rfl)
def jK(xs:List V)(lo hi:Option Int):List V:=(xs.drop (HT.cg xs.length 0 lo)).take (HT.cg xs.length xs.length hi-HT.cg xs.length 0 lo)
def zgJ(xs:List V)(lo hi:Option Int):(jK xs lo hi).length<=xs.length:=by
 unfold jK;rw[Av,YCt];omega
def rSlT(K:qo):V->Option Int->Option Int->Hp->VK->Prop:=λx lo hi H Q=>∃a xs,x=.ref a/\fY K H a xs /\
 ¬ (HT.cg xs.length 0 lo=0/\HT.cg xs.length xs.length hi=xs.length)/\∀p,H p=none->Q (.ref p) (upd H p (.tup (jK xs lo hi)))
def zuS:yG X (rSlT X.K):=by
 intro aa s Z H x v vl vu lo hi sl Q I rx hs pl pu h;obtain⟨a,xs,rfl,hx,hw,q⟩:=h;cases rx;obtain⟨its,r,ht,hz⟩:=I.tuple hx;have hlen:its.toArray.size=xs.length:=by rw[ju];exact r.length.symm
 refine⟨"tuple",_,YAT.lookup,ht.typeIs,?_⟩;refine HT.jy ht hs pl pu (by rw[hlen];exact hw) ?_ (by rw[hlen];exact hz);rw[hlen];refine⟨.ref s.heap.objs.size,_,I.laid (t':=s.toks) (o:=.tup (jK xs lo hi)) (λb ob q=>dX _ q) (dG _) ?_,rfl,q _ (I.hok.fresh (dG _))⟩;exact⟨YAB (zgJ xs lo hi) hz,_,(r.drop (HT.cg xs.length 0 lo)).take (HT.cg xs.length xs.length hi-HT.cg xs.length 0 lo),IsTup.new _ _⟩
def zwj(K:qo):R2:=λx y H Q=>∃a b xs ys,x=.ref a/\y=.ref b/\fY K H a xs/\fY K H b ys/\xs≠[]/\xs.length+ys.length<=sizeLine /\
 (ys=[]->Q (.ref a) H)/\(ys≠[]->∀p,H p=none->Q (.ref p) (upd H p (.tup (xs++ys))))
def Vals.nil_iff(r:Vals xs us):us=[]↔xs=[]:=by
 cases r with
 |nil=>simp
 |cons _ _=>simp
def zs1:fZ X (binaryOp .Add) (zwj X.K):=by
 intro aa s Z H x y v u Q I rx ry h;obtain⟨a,b,xs,ys,rfl,rfl,ha,hb,hx,hz,q1,q2⟩:=h;cases rx;cases ry;obtain⟨its,r1,p1,_⟩:=I.tuple ha;obtain⟨its2,r2,p2,_⟩:=I.tuple hb;refine HT.xg p1 p2 (λz=>hx (r1.nil_iff.mp z)) (λz=>⟨.ref a,H,I,rfl,q1 (r2.nil_iff.mp z)⟩) (λz=>?_) (by rw[<-r1.length,<-r2.length];exact hz);refine⟨.ref s.heap.objs.size,_,I.laid (t':=s.toks) (o:=.tup (xs++ys)) (λb ob q=>dX _ q) (dG _) ?_,rfl,q2 (λw=>z (r2.nil_iff.mpr w)) _ (I.hok.fresh (dG _))⟩;exact⟨by rw[gU];exact hz,_,r1.append r2,IsTup.new _ _⟩
end
def tH(n:Nat)(i:Int):Option Nat:=if 0<=i then(if i<n then some i.toNat else none)else if -(n:Int)<=i then some (i+n).toNat else none
def gO{α:Type}(xs:List α)(i:Int):Option α:=(tH xs.length i).bind λj=>xs[j]?
def znr(h:tH n i=some j):seqIndex? i n=some j/\j<n/\-(n:Int)<=i/\i<n:=by
 unfold tH at h;by_cases h0:0<=i
 .rw[if_pos h0]at h;by_cases h1:i<n
  .rw[if_pos h1]at h;have e:i.toNat=j:=Option.some.inj h;exact⟨by rw[seqIndex_of h0 h1,e],by omega,by omega,h1⟩
  .rw[if_neg h1]at h;cases h
 .rw[if_neg h0]at h;by_cases h1:-(n:Int)<=i
  .rw[if_pos h1]at h;have e:(i+n).toNat=j:=Option.some.inj h;exact⟨by rw[seqIndex_neg (by omega) h1,e],by omega,h1,by omega⟩
  .rw[if_neg h1]at h;cases h
def zlw{α:Type}{xs:List α}{i:Int}{v:α}(h:gO xs i=some v):∃j,seqIndex? i xs.length=some j/\xs[j]?=some v/\j<xs.length/\-(xs.length:Int)<=i/\i<xs.length:=by
 unfold gO at h;cases e:tH xs.length i with
 |none=>rw[e]at h;cases h
 |some j=>
  rw[e]at h;obtain⟨h1,h2,h3,h4⟩:=znr e;exact⟨j,h1,h,h2,h3,h4⟩
def fL{α:Type}{xs:List α}{j:Nat}{v:α}(h:xs[j]?=some v):gO xs (j:Int)=some v:=by
 have hj:j<xs.length:=(jC.mp h).1;have e:tH xs.length (j:Int)=some j:=by
  unfold tH;rw[if_pos (by omega),if_pos (by omega)];simp
 unfold gO;rw[e];exact h
def zio(b:Expr):Prop:=∀o i,subscripted b false o i=operate [o,i] (getItem o i)
noncomputable def yp(X:Cx)(r:R2):Prop:=
 ∀(value slice:Expr)(aa:List (Addr×Obj))(s:Shared)(Z:St)(H:Hp)(x y:V)(v u:Value)(Q:VK),Inv X aa Z H s->RelV x v->RelV y u->r x y H Q ->
  subscripted slice false v u=operate [v,u] (getItem v u)->wpAny (model X.prog X.w) X.A (subscriptTail value slice v u) (EP X aa Z Q) X.xe s
def JH(X:Cx)(id:String)(r:V->List V->Hp->VK->Prop):Prop:=
 ∀(aa:List (Addr×Obj))(s:Shared)(Z:St)(H:Hp)(x:V)(xs:List V)(v:Value)(us:List Value)(Q:VK),Inv X aa Z H s->RelV x v->Vals xs us->r x xs H Q ->
  wpAny (model X.prog X.w) X.A (call (.builtin id) (v::us)) (EP X aa Z Q) X.xe s
section
variable{X:Cx}{a b:Expr}{ta tb:TE}{pos:Pos}
def yp.or{r r':R2}(h:yp X r)(h':yp X r'):yp X (λx y H Q=>r x y H Q\/r' x y H Q):=by
 intro value slice aa s Z H x y v u Q I rx ry q hs;rcases q with q|q
 .exact h value slice aa s Z H x y v u Q I rx ry q hs
 .exact h' value slice aa s Z H x y v u Q I rx ry q hs
def uA(hr:yp X r)(ha:PE X a ta)(hb:PE X b tb)(hs:zio b):PE X (.Subscript a b pos) (J2 r ta tb):=by
 intro aa s Z H Q I h;exact Subscript_ (Ci ha hb I h λv u s2 x y H2 I2 rx ry q=>hr a b aa s2 Z H2 x y v u Q I2 rx ry q (hs _ _))
def Ko(K:qo):R2:=λx y H Q=>∃p xs i v,x=.ref p/\y=.int i/\cz K H p xs/\gO xs i=some v/\Q v H
def Hq(K:qo):R2:=λx y H Q=>∃p xs i v,x=.ref p/\y=.int i/\fY K H p xs/\gO xs i=some v/\Q v H
def Gu:R2:=λx y H Q=>∃z i c,x=.str z/\y=.int i/\z.length<=sizeLine/\gO z.cps.toList i=some c/\Q (.str ⟨#[c]⟩) H
def dR:yp X (Ko X.K):=by
 intro value slice aa s Z H x y v u Q I rx ry h hs;obtain⟨p,xs,i,z,rfl,rfl,hq,he,q⟩:=h;cases rx;obtain⟨t,rfl⟩:=ry;obtain⟨its,r,pl,hz⟩:=I.list hq;obtain⟨j,h1,h2,h3,h4,h5⟩:=zlw he;obtain⟨w,ew,rw'⟩:=r.get h2;have hl:=r.length;have hn:=yU;have fin:EP X aa Z Q w s:=⟨z,H,I,rw',q⟩;by_cases h0:0<=i
 .have hj:i.toNat=j:=by
   rw[seqIndex_of h0 h5]at h1;exact Option.some.inj h1
  exact item_listR pl.isList h0 (by omega) (by rw[hj];simpa using ew) fin hs
 .have hj:(i+(its.toArray.size:Int)).toNat=j:=by
   rw[seqIndex_neg (by omega) h4]at h1;rw[ju,<-hl];exact Option.some.inj h1
  exact subscriptTail_builtinR (x:=w) pl.isList.typeIs slot_list_getitem.lookup
   (wpAny_getItem_list_neg (Q:=λr s'=>r=w/\EP X aa Z Q r s') pl.isList (by omega) (by rw[ju]<;>omega) (by omega) (by rw[hj];simpa using ew) ⟨rfl,fin⟩) hs
def Ba:yp X (Hq X.K):=by
 intro value slice aa s Z H x y v u Q I rx ry h hs;obtain⟨p,xs,i,z,rfl,rfl,hq,he,q⟩:=h;cases rx;obtain⟨t,rfl⟩:=ry;obtain⟨its,r,pl,hz⟩:=I.tuple hq;obtain⟨j,h1,h2,h3,h4,h5⟩:=zlw he;obtain⟨w,ew,rw'⟩:=r.get h2;have hl:=r.length;have hn:=yU;have fin:EP X aa Z Q w s:=⟨z,H,I,rw',q⟩;exact subscriptTail_builtinR (x:=w) pl.typeIs slot_tuple_getitem.lookup
  (getItem_tuple (j:=j) (Q:=λr s'=>r=w/\EP X aa Z Q r s') pl (by omega) (by omega) (by rw[ju,<-hl];exact h1) (by simpa using ew) ⟨rfl,fin⟩) hs
def ztK:yp X Gu:=by
 intro value slice aa s Z H x y v u Q I rx ry h hs;obtain⟨z,i,c,rfl,rfl,hz,he,q⟩:=h;obtain⟨t,rfl⟩:=rx;obtain⟨t',rfl⟩:=ry;obtain⟨j,h1,h2,h3,h4,h5⟩:=zlw he;have hl:z.cps.toList.length=z.length:=by simp[Str.length]
 rw[hl]at h1 h4 h5;have hn:=yU;exact tail_any (Fl s z t) slot_str_getitem.lookup (getItem_str (c:=c) (by
  have e1:decide (i < -(2^63:Int))=false:=gY (by omega);have e2:decide (i ≥ 2^63)=false:=gY (by omega);rw[e1,e2,Bool.or_false]) (by rw[h1];simpa using h2) ⟨.str ⟨#[c]⟩,H,I.tok _,⟨_,rfl⟩,q⟩) hs
def rIx(K:qo):R2:=λx y H Q=>Ko K x y H Q\/Hq K x y H Q\/Gu x y H Q
def zoC:yp X (rIx X.K):=dR.or (Ba.or ztK)
def zm0(its:List Value)(n j:Nat)(u:Value):Obj.mapSeq (·.setIfInBounds j u) {cls:=.type "list",data:=.seq its.toArray n}={cls:=.type "list",data:=.seq (its.set j u).toArray n}:=by
 simp[Obj.mapSeq]
theorem Inv.lst{aa:List (Addr×Obj)}{Z:St}{H:Hp}{s:Shared}{p:Addr}{xs:List V}(I:Inv X aa Z H s)(h:H p=some (.lst xs)) :
  ∃(its:List Value)(n:Nat),Vals xs its/\s.heap.get? p=some {cls:=.type "list",data:=.seq its.toArray n}/\xs.length<=sizeLine:=by
 obtain⟨z,its,n,r,e⟩:=I.hok p _ h;exact⟨its,n,r,e,z⟩
def Inv.lstUpd{aa:List (Addr×Obj)}{Z:St}{H:Hp}{s:Shared}{p:Addr}{xs ys:List V}{its its':List Value}{n n':Nat}{f:Obj->Obj}(I:Inv X aa Z H s)(h:H p=some (.lst xs))
  (ho:s.heap.get? p=some {cls:=.type "list",data:=.seq its.toArray n}) (hf:f {cls:=.type "list",data:=.seq its.toArray n}={cls:=.type "list",data:=.seq its'.toArray n'}) (r:Vals ys its') (hz:ys.length<=sizeLine) (t:Nat) :
  Inv X aa Z (upd H p (.lst ys)) {s with heap:=s.heap.update p f,toks:=t}:=by
 have e:(s.heap.update p f).get? p=some {cls:=.type "list",data:=.seq its'.toArray n'}:=by
  rw[YAU f ho (by rw[hf]<;>rfl),hf]
 refine I.write (x:=p) (e:=p) (by rw[h];trivial) (.inl rfl) (λb u hb q=>(YAL _ _ (YAM hb)).trans q) ⟨_,e⟩ ?_;exact⟨hz,its',n',r,e⟩
def zv0:V->V->V->Hp->(Hp->Prop)->Prop:=λo i v H Q=>∃p xs k j,o=.ref p/\i=.int k/\H p=some (.lst xs)/\tH xs.length k=some j/\Q (upd H p (.lst (xs.set j v)))
def JB:Aw X zv0:=by
 intro aa s Z H o i v ov iv u Q I ro ri rv h;obtain⟨p,xs,k,j,rfl,rfl,hp,hj,q⟩:=h;cases ro;obtain⟨t,rfl⟩:=ri;obtain⟨its,n,r,ho,hz⟩:=I.lst hp;obtain⟨h1,h2,h3,h4⟩:=znr hj;have hl:=r.length;have hn:=yU;have I':Inv X aa Z (upd H p (.lst (xs.set j v))) {s with heap:=s.heap.update p (Obj.mapSeq (·.setIfInBounds j u))}:=
  I.lstUpd hp ho (zm0 its n j u) (r.set rv j) (by rw[Io];exact hz) s.toks
 by_cases h0:0<=k
 .have hk:k.toNat=j:=by
   rw[seqIndex_of h0 h4]at h1;exact Option.some.inj h1
  exact PySem.W.ki_setAt ho h0 (by omega) (by rw[ju,<-hl];exact h4) (by rw[hk];exact⟨_,I',q⟩)
 .have hk:(k+(its.toArray.size:Int)).toNat=j:=by
   rw[seqIndex_neg (by omega) h3]at h1;rw[ju,<-hl];exact Option.some.inj h1
  exact PySem.W.ki_setBack ho (by omega) (by rw[ju,<-hl];exact h3) (by omega) (by rw[hk];exact⟨_,I',q⟩)
def zki(lo hi:Option Int)(n:Nat):(sliceBounds lo hi none n).1=((HT.cg n 0 lo:Nat):Int)/\(sliceBounds lo hi none n).2.1=((HT.cg n n hi:Nat):Int)/\(sliceBounds lo hi none n).2.2=1:=by
 refine⟨?_,?_,rfl⟩
 .cases lo with
  |none=>simp[sliceBounds,HT.cg]
  |some i=>
   simp only[sliceBounds,HT.cg,Option.getD_none,show(1:Int)>0 by decide,uP];by_cases h:i<0
   .simp only[h,uP]<;>omega
   .simp only[h,uM]<;>omega
 .cases hi with
  |none=>simp[sliceBounds,HT.cg]
  |some i=>
   simp only[sliceBounds,HT.cg,Option.getD_none,show(1:Int)>0 by decide,uP];by_cases h:i<0
   .simp only[h,uP]<;>omega
   .simp only[h,uM]<;>omega
def zh8(its:List Value)(lo hi:Option Int):slicePick its.toArray lo hi none=((its.drop (HT.cg its.length 0 lo)).take (HT.cg its.length its.length hi-HT.cg its.length 0 lo)).toArray:=by
 obtain⟨h1,h2,h3⟩:=zki lo hi its.toArray.size;unfold slicePick;rw[h1,h2,h3];simp only[sliceRange_one,pick_run,ju]<;>rfl
def rSlL(K:qo):V->Option Int->Option Int->Hp->VK->Prop:=λx lo hi H Q=>∃a xs,x=.ref a/\cz K H a xs/\∀p,H p=none->Q (.ref p) (upd H p (.lst (jK xs lo hi)))
def rW:yG X (rSlL X.K):=by
 intro aa s Z H x v vl vu lo hi sl Q I rx hs pl pu h;obtain⟨a,xs,rfl,hx,q⟩:=h;cases rx;obtain⟨its,r,ht,hz⟩:=I.list hx;have hlen:=r.length;refine⟨"list",_,slot_list_getitem.lookup,ht.isList.typeIs,?_⟩;refine wpAny_getItem_list_slice ht.isList hs pl pu .none (by simp) ?_ (by rw[ju]<;>omega);rw[zh8,<-hlen];refine⟨.ref s.heap.objs.size,_,I.laid (t':=s.toks) (o:=.lst (jK xs lo hi)) (λb ob q=>dX _ q) (dG _) ?_,rfl,q _ (I.hok.fresh (dG _))⟩;exact⟨YAB (zgJ xs lo hi) hz,_,0,(r.drop (HT.cg xs.length 0 lo)).take (HT.cg xs.length xs.length hi-HT.cg xs.length 0 lo),jD _ rfl⟩
def zkf:fZ X (compareOp .NotIn) (λx y H Q=>∃i j,x=.str i/\y=.str j/\Q (.bl (!(!(Builtin.Str.occurrences j i 0 j.length 1).isEmpty))) H):=by
 intro aa s Z H x y v u Q I rx ry h;obtain⟨i,j,rfl,rfl,q⟩:=h;obtain⟨t,rfl⟩:=rx;obtain⟨t',rfl⟩:=ry;exact notIn_str ⟨.bl _,H,I,rfl,q⟩
def gH:cY X (.builtin "len") (λxs H Q=>∃p ys,xs=[.ref p]/\(cz X.K H p ys\/fY X.K H p ys)/\Q (.int ys.length) H):=by
 intro aa s Z H xs us Q I r h;obtain⟨p,ys,rfl,hq,q⟩:=h;obtain⟨u,rfl,rx⟩:=qQ r;cases rx;have hn:=yU;rcases hq with hq|hq
 .obtain⟨its,r',pl,hz⟩:=I.list hq;have hlen:=r'.length;exact Calls.call_len_list pl.isList (by simp only[ju]<;>omega) ⟨.int ys.length,H,I.tok _,⟨s.toks+1,by rw[ju,hlen]⟩,q⟩
 .obtain⟨its,r',pl,hz⟩:=I.tuple hq;have hlen:=r'.length;exact len_tuple pl (by simp only[ju]<;>omega) ⟨.int ys.length,H,I.tok _,⟨s.toks+1,by rw[ju,hlen]⟩,q⟩
def zjK:cY X (.builtin "len") (λxs H Q=>∃z,xs=[.str z]/\z.length<=sizeLine/\Q (.int z.length) H):=by
 intro aa s Z H xs us Q I r h;obtain⟨z,rfl,hz,q⟩:=h;obtain⟨u,rfl,t,rfl⟩:=qQ r;have hn:=yU;exact len_str (by omega) ⟨.int z.length,H,I.tok _,⟨_,rfl⟩,q⟩
def cY.or{f:Value}{r r':List V->Hp->VK->Prop}(h:cY X f r)(h':cY X f r'):cY X f (λxs H Q=>r xs H Q\/r' xs H Q):=by
 intro aa s Z H xs us Q I rs q;rcases q with q|q
 .exact h aa s Z H xs us Q I rs q
 .exact h' aa s Z H xs us Q I rs q
def zei:cY X (.type "list") (λxs H Q=>∃p ys,xs=[.ref p]/\(cz X.K H p ys\/fY X.K H p ys)/\∀l,H l=none->Q (.ref l) (upd H l (.lst ys))):=by
 intro aa s Z H xs us Q I r h;obtain⟨p,ys,rfl,hq,q⟩:=h;obtain⟨u,rfl,rx⟩:=qQ r;cases rx;have fin:∀(its:List Value),Vals ys its->ys.length<=sizeLine->∀(h':Heap)(c':Nat),(∀b o',s.heap.get? b=some o'->h'.get? b=some o') ->
   h'.get? s.heap.objs.size=some {cls:=.type "list",dict:=none,data:=.seq its.toArray c',slots:=#[]}->EP X aa Z Q (.ref s.heap.objs.size) {s with heap:=h'}:=λits r' hz h' c' kp e=>
  ⟨.ref s.heap.objs.size,_,I.laid (t':=s.toks) kp (dG _) (show cu X.prog X.w _ h' _ (.lst ys)from⟨hz,its,c',r',e⟩),rfl,q _ (I.hok.fresh (dG _))⟩
 rcases hq with hq|hq
 .obtain⟨its,r',pl,hz⟩:=I.list hq;have hlen:=r'.length;obtain⟨o,ho,hc,n,hd⟩:=pl.isList;exact call_list_seq p (.inl rfl) ho hc hd (λh' c' kp e=>fin its r' hz h' c' kp e) (by simp only[ju]<;>omega)
 .obtain⟨its,r',pl,hz⟩:=I.tuple hq;have hlen:=r'.length;obtain⟨o,ho,hc,n,hd⟩:=pl;exact call_list_seq p (.inr rfl) ho hc hd (λh' c' kp e=>fin its r' hz h' c' kp e) (by simp only[ju]<;>omega)
def zig:cY X (.type "tuple") (λxs H Q=>∃p ys,xs=[.ref p]/\((cz X.K H p ys/\∀l,H l=none->Q (.ref l) (upd H l (.tup ys)))\/(fY X.K H p ys/\Q (.ref p) H))):=by
 intro aa s Z H xs us Q I r h;obtain⟨p,ys,rfl,h⟩:=h;obtain⟨u,rfl,rx⟩:=qQ r;cases rx;rcases h with⟨hq,q⟩|⟨hq,q⟩
 .obtain⟨its,r',pl,hz⟩:=I.list hq;have hlen:=r'.length;refine call_tuple_list pl.isList (λh' kp=>?_) (by simp only[ju]<;>omega);have I1:Inv X aa Z H {s with heap:=h'}:=I.kept (t':=s.toks) kp;have I2:Inv X aa Z (upd H h'.objs.size (.tup ys)) {s with heap:=h'.push {cls:=.type "tuple",data:=.seq its.toArray}}:=
   I1.laid (t':=s.toks) (λb o e=>dX _ e) (dG _) (show cu X.prog X.w _ _ _ (.tup ys)from⟨hz,its,r',IsTup.new _ _⟩)
  exact⟨.ref h'.objs.size,_,I2,rfl,q _ (I1.hok.fresh (dG _))⟩
 .obtain⟨its,r',pl,hz⟩:=I.tuple hq;exact call_tuple_same pl ⟨.ref p,H,I,rfl,q⟩
noncomputable def tyV(K:qo)(T:String)(x:V)(H:Hp):Prop:=match x with
 |.str _=>T="str"
 |.int _=>T="int"
 |.ref p=>(T="list" /\ ∃xs,cz K H p xs)\/(T="tuple" /\ ∃o,K.lookup p=some o/\o.cls=.type "tuple" /\ o.dict=none) \/
   (T="dict" /\ ((∃kvs,H p=some (.dK kvs))\/∃kvs,H p=some (.dT kvs)))\/(T="set" /\ ∃qh n,H p=some (.set qh n))
 |_=>False
def zul(I:Inv X aa Z H s)(r:RelV x v)(ty:tyV X.K T x H) :
  s.TypeIs v T/\∀a,v=.ref a->∃ob,s.heap.get? a=some ob/\ob.dict=none:=by
 cases x with
 |str z=>
  obtain⟨t,rfl⟩:=r;cases (show T="str" from ty);exact⟨Fl s z t,λ_ e=>nomatch e⟩
 |int i=>
  obtain⟨t,rfl⟩:=r;cases (show T="int" from ty);exact⟨typeIs_int s i t,λ_ e=>nomatch e⟩
 |ref p=>
  cases r;rcases ty with⟨rfl,xs,hq⟩|⟨rfl,o,hk,hc,hd⟩|⟨rfl,hk⟩|⟨rfl,qh,n,hk⟩
  .obtain⟨its,_,pl,_⟩:=I.list hq;refine⟨pl.isList.typeIs,λa e=>?_⟩;cases e;obtain⟨o,n,e,c,hd,_⟩:=pl;exact⟨o,e,hd⟩
  .refine⟨⟨o,I.kIn p o hk,hc⟩,λa e=>?_⟩;cases e;exact⟨o,I.kIn _ o hk,hd⟩
  .have z:∃o,s.heap.get? p=some o/\o.ExactDict:=by
    rcases hk with⟨kvs,hk⟩|⟨kvs,hk⟩
    .obtain⟨_,_,_,_,o,_,_,e,ex,_⟩:=I.hok p _ hk;exact⟨o,e,ex⟩
    .obtain⟨_,_,_,_,o,_,_,e,ex,_⟩:=I.hok p _ hk;exact⟨o,e,ex⟩
   obtain⟨o,e,ex⟩:=z;refine⟨⟨o,e,ex.1⟩,λa e2=>?_⟩;cases e2;exact⟨o,e,ex.2.1⟩
  .obtain⟨o,_,_,_,e,ex,_⟩:=I.hok p _ hk;refine⟨⟨o,e,ex.1⟩,λa e2=>?_⟩;cases e2;exact⟨o,e,ex.2.1⟩
 |_=>exact False.elim ty
def tBM(K:qo)(T:String)(r:V->List V->Hp->VK->Prop)(to:TE)(t:TA):TE:=λZ H Q=>to Z H λx H1=>tyV K T x H1/\t Z H1 λxs H2=>r x xs H2 Q
variable{o e:Expr}{es:List Expr}{to:TE}{t:TA}{name:Str}{apos cpos:Pos}{T id:String}{r:V->List V->Hp->VK->Prop}
def Jr(pa:PlainAttrs T)(slot:Slot T name id)(hty:typeOf (.builtin id)=pure (.type "method_descriptor"))(hm:JH X id r)(ho:PE X o to)(ha:PA X (e::es) t)
  (hbase:attributeBase o name X.env (eval o X.env)=eval o X.env:=by rfl)
  (hfew:((backTo cpos (starEach (e::es) X.env)).all (λx=>!x.1)&&(backToKw cpos (keywordEach [] X.env)).all (λx=>x.1.isSome)
   && decide ((e::es).length+([]:List Keyword).length+(if ([]:List Keyword).isEmpty then 0 else 1)<30))=true:=by rfl)
  (hline:(apos.endLine==cpos.line)=true:=by rfl) (hs:starEach (e::es) X.env=(false,eval e X.env)::starEach es X.env:=by rfl) (hplain:(backTo cpos (starEach es X.env)).any (·.1)=false:=by rfl) :
  PE X (.Call (.Attribute o name apos) (e::es) [] cpos) (tBM X.K T r to t):=by
 intro aa s Z H Q I h;refine wpAny_Call_method_late hbase hfew hline rfl (bH (ho aa s Z H _ I h) λv s1 ⟨x,H1,I1,r1,ty,q1⟩=>?_);obtain⟨h1,h2⟩:=zul I1 r1 ty;refine⟨T,id,pa,slot,hty,h1,h2,?_⟩;have hA:=ha cpos aa s1 Z H1 _ I1 q1;rw[hs]at hA ⊢;refine Calls.callWith_builtin (by show(false || (backTo cpos (starEach es X.env)).any (·.1))=false;rw[hplain]<;>rfl) (Calls.evalArgs_plain ?_);exact bH hA λus s2 ⟨vs,H2,I2,r2,q2⟩=>hm aa s2 Z H2 x vs v us Q I2 r1 r2 q2
end
def MtM(X:Cx)(id:String)(r:V->List V->Hp->VK->Prop):Prop:=
 ∀(aa:List (Addr×Obj))(s:Shared)(Z:St)(H:Hp)(x:V)(xs:List V)(v:Value)(us:List Value)(Q:VK),Inv X aa Z H s->RelV x v->Vals xs us->r x xs H Q ->
  wpAny (model X.prog X.w) X.A (call (.builtin id) (v::us)) (EP X aa Z Q) X.xe s
def Vals.one:∀{x:V}{us:List Value},Vals [x] us->∃u,us=[u]/\RelV x u
 |_,_,.cons r .nil=>⟨_,rfl,r⟩
theorem Vals.rep(h:Vals xs us):∀k:Nat,Vals (List.replicate k xs).flatten (List.replicate k us).flatten
 |0=>.nil
 |k+1=>by
  rw[BW,BW,BV,BV];exact Vals.append h (Vals.rep h k)
theorem zku(its:List Value):∀(k:Nat)(acc:List Value),
  List.foldl (λx1 x2=>x1++x2) acc.toArray (List.replicate k its.toArray)=(acc++(List.replicate k its).flatten).toArray
 |0,acc=>by simp
 |k+1,acc=>by
  have e:acc.toArray++its.toArray=(acc++its).toArray:=by simp
  have e2:(acc++its)++(List.replicate k its).flatten=acc++(List.replicate (k+1) its).flatten:=by
   rw[BW,BV,YCi]
  rw[<-e2,<-zku its k (acc++its),<-e,BW,List.foldl_cons]
section
variable{X:Cx}{aa:List (Addr×Obj)}{Z:St}{H:Hp}{s:Shared}{l b:Addr}{xs ys zs:List V}
def Inv.lset{its its':List Value}{n:Nat}{f:Array Value->Array Value}{t':Nat}(I:Inv X aa Z H s)(hH:H l=some (.lst xs))
  (e:s.heap.get? l=some {cls:=.type "list",data:=.seq its.toArray n}) (hf:f its.toArray=its'.toArray) (hv:Vals ys its') (hz:ys.length<=sizeLine) :
  Inv X aa Z (upd H l (.lst ys)) {s with heap:=s.heap.update l (Obj.mapSeq f),toks:=t'}:=by
 have q:=PySem.IsL.update e f;rw[hf]at q;refine I.write (x:=l) (e:=l) (by rw[hH];exact trivial) (.inl rfl) (λb' u hb hu=>(YAL s.heap (Obj.mapSeq f) (YAM hb)).trans hu) ⟨_,q⟩ ?_;exact⟨hz,its',_,hv,q⟩
def Inv.lnew(I:Inv X aa Z H s)(hv:Vals ys its)(hz:ys.length<=sizeLine) :
  Inv X aa Z (upd H s.heap.objs.size (.lst ys)) {s with heap:=s.heap.push {cls:=.type "list",data:=.seq its.toArray},toks:=t'}:=
 I.laid (λ_ _ q=>dX _ q) (dG _) ⟨hz,its,0,hv,jD _ rfl⟩
theorem Inv.fresh(I:Inv X aa Z H s):H s.heap.objs.size=none:=I.hok.fresh (dG _)
def Inv.lstM(I:Inv X aa Z H s)(hH:H l=some (.lst xs)):xs.length<=sizeLine/\∃(its:List Value)(n:Nat),Vals xs its/\xs.length=its.length/\s.heap.get? l=some {cls:=.type "list",data:=.seq its.toArray n}:=by
 obtain⟨z,its,n,r,e⟩:=I.hok l _ hH;exact⟨z,its,n,r,r.length,e⟩
def zqp{n:Nat}(h:n<=sizeLine):Builtin.List.listTooLong n=false:=by
 unfold Builtin.List.listTooLong;exact gY (by omega)
end
section
variable{X:Cx}
def zst:V->List V->Hp->VK->Prop:=λx vs H Q=>∃l xs y,x=.ref l/\vs=[y]/\H l=some (.lst xs)/\xs.length<sizeLine/\Q .non (upd H l (.lst (xs++[y])))
def zfB:MtM X "list.append" zst:=by
 intro aa s Z H x vs v us Q I rx rv h;obtain⟨l,xs,y,rfl,rfl,hH,hz,q⟩:=h;cases rx;obtain⟨u,rfl,ru⟩:=rv.one;obtain⟨z,its,n,r,hl,e⟩:=I.lstM hH;refine CV F.slot_list_append ⟨_,e,rfl⟩ F.entry_list_append (F.args_list_append_2 _ _) (PySem.list_append l its.toArray n u (by rw[ju];omega)) ⟨e,?_⟩;refine⟨.non,_,I.lset (its':=its++[u]) hH e (by simp) (r.append (.cons ru .nil)) ?_,rfl,q⟩;rw[gU,YCn];omega
def La:R2:=λx y H Q=>∃l b xs zs,x=.ref l/\y=.ref b/\H l=some (.lst xs)/\H b=some (.lst zs)/\xs.length+zs.length<=sizeLine/\∀p,H p=none->Q (.ref p) (upd H p (.lst (xs++zs)))
def vN:fZ X (binaryOp .Add) La:=by
 intro aa s Z H x y v u Q I rx ry h;obtain⟨l,b,xs,zs,rfl,rfl,hH,hB,hz,q⟩:=h;cases rx;cases ry;obtain⟨z,its,n,r,hl,e⟩:=I.lstM hH;obtain⟨z2,its2,n2,r2,hl2,e2⟩:=I.lstM hB;refine PySem.P.add_list e e2 ?_ (by rw[ju,ju];omega);have ea:its.toArray++its2.toArray=(its++its2).toArray:=by simp
 rw[ea];exact⟨.ref _,_,I.lnew (t':=s.toks) (r.append r2) (by rw[gU];omega),rfl,q _ I.fresh⟩
def Jl:R2:=λx y H Q=>∃l k xs,x=.ref l/\y=.int k/\H l=some (.lst xs)/\-(2^63)<=k/\k<2^63/\xs.length*k.toNat<=sizeLine /\
 ∀p,H p=none->Q (.ref p) (upd H p (.lst (List.replicate k.toNat xs).flatten))
def zte{α:Type}(xs:List α)(k:Nat):(List.replicate k xs).flatten.length=k*xs.length:=by
 induction k with
 |zero=>simp
 |succ k ih=>rw[BW,BV,gU,ih,Nat.succ_mul,Nat.add_comm]
def zuN:fZ X (binaryOp .Mult) Jl:=by
 intro aa s Z H x y v u Q I rx ry h;obtain⟨l,k,xs,rfl,rfl,hH,h1,h2,hz,q⟩:=h;cases rx;obtain⟨t,rfl⟩:=ry;obtain⟨z,its,n,r,hl,e⟩:=I.lstM hH;have hlen:its.toArray.size*k.toNat<=sizeLine:=by rw[ju,<-hl];exact hz
 have hcap:¬ its.toArray.size*k.toNat>(2^63-1) / 8:=by
  have:(sizeLine:Nat)<=(2^63-1) / 8:=by decide
  omega
 have hfit:¬ (!Builtin.List.listFitsIndex k)=true:=by
  rw[fitsIndex_both h1 h2];exact zQ
 have hlong:¬ Builtin.List.listTooLong (its.toArray.size*k.toNat)=true:=by
  rw[zqp hlen];exact zQ
 have hnew:List.foldl (λx1 x2=>x1++x2) #[] (List.replicate (if its.toArray.isEmpty=true then 0 else k.toNat) its.toArray)=(List.replicate k.toNat its).flatten.toArray:=by
  have f0:∀m:Nat,List.foldl (λx1 x2=>x1++x2) #[] (List.replicate m its.toArray)=(List.replicate m its).flatten.toArray:=λm=>by
   have:=zku its m []
   rw[YC1]at this;exact this
  rw[f0];cases its with
  |nil=>simp
  |cons a r'=>rw[if_neg (by simp)]
 refine wpAny_binaryOp_repeat_ref (T:="list") (U:="int") (by decide) ⟨_,e,rfl⟩ (λs'=>typeIs_int s' k t) noFill_list_mul F.fills_int_mul F.slot_int_rmul repeat_list F.slot_int_index.lookup
  (CV F.slot_int_rmul (typeIs_int s k t) F.entry_int_rmul (F.args_int_rmul_2 _ _) (int___rmul___int_list k t l its.toArray n)
   ⟨e,rfl,⟨_,e,rfl⟩,CV F.slot_list_mul ⟨_,e,rfl⟩ F.entry_list_mul (F.args_list_mul_2 _ _) (AutoListH.list___mul___list_int_3 l its.toArray n k t hfit hcap hlong) ⟨e,?_⟩⟩)
 rw[hnew];exact⟨.ref _,_,I.lnew (t':=s.toks) (r.rep k.toNat) (by rw[zte,Nat.mul_comm];exact hz),rfl,q _ I.fresh⟩
end
end L2
namespace Att
open PySem PySem.W PySem.Calls PyProof.Rows
def zg5{P:Params}{h:Heap}:∀(ns:List Int)(vs:List Value),WellAll P h vs (ns.map WData.int)->IntsAre vs ns:=by
 intro ns
 induction ns with
 |nil=>
  intro vs w;rw[rZ]at w;cases w;exact .nil
 |cons n ns ih=>
  intro vs w;rw[d7]at w;cases w with
  |cons a b=>
   cases a;exact .cons _ _ (ih _ b)
def zog{l:OpenLaw}{n:Nat}(hn:l.most=some n){P:Params}{h:Heap}{args:List WData}{vals:List Value}
  (hpre:l.row.toRowW.claim.pre args=true) (hwl:WellAll P h vals args) :
  ∃a vs ns,vals=[Value.ref a]/\args=[WData.list (ns.map WData.int)]/\h.get? a=some {cls:=.type "list",data:=.seq vs.toArray}/\IntsAre vs ns/\ns.length<=n:=by
 have hsh:WShape.hasAll [] args [.list .int]=true:=(pre_splitW hpre).1;have hc:l.pre.holds [] {args:=args}=true:=(pre_splitW hpre).2;obtain⟨d,r,rfl,h1,h2⟩:=hasAllW_cons hsh;obtain rfl:=hasAllW_nil h2;obtain⟨xs,rfl,h3⟩:=hasW_list h1;obtain⟨ns,rfl⟩:=items_int h3;have hlen:ns.length<=n:=by
  unfold OpenLaw.pre at hc;have h4:(WTm.not (.lt (.lit (.int (n:Int))) (.len (.arg 0)))).holds [] {args:=[.list (ns.map .int)]}=true:=by
   have h4:=(holds_andW hc).1;rw[hn]at h4;exact h4
  have h5:=condW_of h4 (w_not (w_lt w_lit (w_len_list (w_arg rfl))));rw[b8]at h5;refine Nat.le_of_not_lt λq=>?_;have q':(n:Int)<((ns.length:Nat):Int):=by omega
  first
   | (rw[gB q']at h5;exact absurd h5 (by decide))
   | (simp at h5;omega)
 cases hwl with
 |cons w1 w2=>
  cases w2;cases w1 with
  |list ho hall=>exact⟨_,_,ns,rfl,rfl,ho,zg5 ns _ hall,hlen⟩
def zof(l:OpenLaw)(args:List WData):l.row.toRowW.claim.post args (.bool true) args=true:=
 postW_of (r:=l.row.toRowW) (X:=(true==true))
  (show WShape.has [] (.bool true) .bool=true by first|rfl|decide|simp[WShape.has,WShape.arms,WShape.armsAll])
  (show(WTm.eq .res (.lit (.bool true))).value [] {args:=args,res:=some (.bool true),after:=args}=some (.bool (true==true))from w_eq_bool (w_res rfl) w_lit) rfl
def pD{l:OpenLaw}{n:Nat}{q:Program}{loose:List Str}{XP:(Str->Option Value)->Heap->Prop}{YP:World->Heap->Prop}{d:DefRec}
  (hn:l.most=some n) (hdf:d.params.defaults=[])
  (call:∀(w:World)(s₀ s₁:Shared)(mg mb:Str->Option Value)(fa:Addr)(o:Obj)(pm cd doc:Value)(a:Addr)(vs:List Value)(ns:List Int),
   Ground q loose [] XP w s₀ mg mb s₁.heap->YP w s₁.heap ->
   s₁.heap.get? fa=some o->o.data=.func (docDef d.name d.params d.body d.scope pm cd doc)->s₁.heap.CodeRec cd d.name->mg d.name=some (.ref fa) ->
   s₁.heap.get? a=some {cls:=.type "list",data:=.seq vs.toArray}->IntsAre vs ns->ns.length<=n->s₁.gens=#[] ->
   codeAny (model l.prog w) callerA (.call (.ref fa) ⟨[.ref a],[]⟩) (λr s'=>r=.ok (.ret (.bool true))/\OldK s₁.heap s'.heap/\s'.os=s₁.os/\AllBare s'.gens) s₁) :
  WalkO q loose XP YP l.row.toRowW d [] (λf vs=>PySem.call f vs):=by
 intro w s₀ s₁ mg mb G Y fa o pm cd doc dV kV ho hd hcd hD hmg hg args vals as hpre hlay hrd hwl hlo;obtain rfl:dV=.none:=Dflts.none hD hdf;obtain rfl:kV=.none:=Dflts.noKw hD;obtain⟨a,vs,ns,rfl,rfl,hobj,hints,hlen⟩:=zog hn hpre hwl;refine enter_call (Fw (call w s₀ s₁ mg mb fa o pm cd doc a vs ns G Y ho (fd_plain hd) hcd hmg hobj hints hlen hg) λr s' hq=>?_);obtain⟨rfl,h2,h3,h4⟩:=hq;exact⟨.inl ⟨.bool true,.bool true,[],rfl,λ_=>rfl,.bool true,zof l _,λ_=>⟨List.Pairwise.nil,λ_ hm=>(nomatch hm)⟩⟩,h2,h3,h4⟩
end Att
namespace L2
open PySem PySem.Spec PyProof.Rows
theorem zjZ:∀{vs:List Value}{ns:List Int},IntsAre vs ns->Vals (ns.map V.int) vs
 |_,_,.nil=>.nil
 |_,_,.cons n t h=>.cons ⟨t,rfl⟩ (zjZ h)
def Only(H:Hp):Prop:=∀b,H b=none\/∃o xs,H b=some (.jl o (.lst xs))
def zp6{P:Program}{w:World}{K:qo}{mg mb:Str->Option Value}{CX:mO}{k:Nat}{fa a:Addr}{fd:FuncData}{x:Str}{sp:Sp}{s₁:Shared}{vs:List Value}{ns:List Int}
  (KX:K.In s₁.heap) (hns:s₁.heap.Ns mainGlobals mg) (hb:s₁.heap.Ns builtinsNs mb) (hbb:∀x:Str,x≠"__name__" -> mb x=bootBuiltins x) (hlim:s₁.heap.NoLimit) (hg:s₁.gens=#[])
  (ha:s₁.heap.get? a=some {cls:=.type "list",data:=.seq vs.toArray}) (hi:IntsAre vs ns) (hl:ns.length<=sizeLine) (hr:bK k callerA)
  (F:∀base:Heap,K.In base->base.Ns mainGlobals mg->aN P w K mg base CX k fa fd [x] sp) (hbind:∀(s:Shared)(u:Value),BindsTo s fd ⟨[u],[]⟩ [(x,u)])
  (hsp:∀H:Hp,Only H->cz K H a (ns.map V.int)->sp [.ref a] H (λv _=>v=.bl true) λ_ _ _=>False)
  (hCX:∀H e s',CX [] H s₁ (λ_ _ _=>False) e s'->False) :
  codeAny (model P w) callerA (.call (.ref fa) ⟨[.ref a],[]⟩) (λr s'=>r=.ok (.ret (.bool true))/\OldK s₁.heap s'.heap/\s'.os=s₁.os/\AllBare s'.gens) s₁:=by
 have rv:=zjZ hi;have lenV:=hi.length
 -- from an abstract heap in which nothing but the script may be tracked
 have core:∀H:Hp,Only H->cz K H a (ns.map V.int)->iW P w H s₁.heap->(∀b,H b≠none->b=a)->(H a≠none->K.lookup a=none) ->
   codeAny (model P w) callerA (.call (.ref fa) ⟨[.ref a],[]⟩) (λr s'=>r=.ok (.ret (.bool true))/\OldK s₁.heap s'.heap/\s'.os=s₁.os/\AllBare s'.gens) s₁:=by
  intro H hO hS hok hA hK;have base_of:∀{b:Addr}{o:Obj},s₁.heap.get? b=some o->H b=none->(mD s₁.heap H).get? b=some o:=λe n=>zpD e n;have Br:∀{b:Addr}{o:Obj}{es:Array DictEntry}{ep:Nat},s₁.heap.get? b=some o->o.data=.dict es ep->H b=none:=λ{b o es ep} e d=>by
   cases q:H b with
   |none=>rfl
   |some u=>
    have e':b=a:=hA b (by rw[q];simp);subst e';rw[ha]at e;cases e;have d':Data.seq vs.toArray _=Data.dict es ep:=d;cases d'
  have nsK:∀{b:Addr}{m:Str->Option Value},s₁.heap.Ns b m->(mD s₁.heap H).Ns b m:=λ{b m} ⟨o,es,ep,e,d,r⟩=>⟨o,es,ep,base_of e (Br e d),d,r⟩;have hKb:K.In (mD s₁.heap H):=λb o e=>base_of (KX b o e) (by
   cases q:H b with
   |none=>rfl
   |some u=>
    have e':b=a:=hA b (by rw[q];simp);subst e';rw[hK (by rw[q];simp)]at e;cases e)
  have hM:Mod K mg (mD s₁.heap H):=⟨hKb,nsK hns,⟨mb,nsK hb,hbb⟩,let⟨mc,h1,h2⟩:=hlim;⟨mc,nsK h1,h2⟩⟩;have e0:mH P w K mg (mD s₁.heap H) callerA [] s₁ H:=⟨rfl,hM,λb o e=>zsG e,Nat.le_of_eq (zpw _ _),trivial,λb hb=>absurd (show b∈([]:List Addr)from hb) (by simp),hok,.of_eq hg⟩;refine Fw ((F _ hKb (nsK hns)).run callerA [] s₁ H ⟨[.ref a],[]⟩ [.ref a] [.ref a] _ _ hr e0 (hbind s₁ (.ref a)) (.cons rfl .nil) (hsp H hO hS)) λr s' h=>?_;cases r with
  |error e=>exact(hCX H e s' h).elim
  |ok fl=>
   cases fl with
   |next=>exact False.elim h
   |brk=>exact False.elim h
   |cont=>exact False.elim h
   |ret u=>
    obtain⟨v,H',os,bare,un,hok',r',q⟩:=h;have q':v=.bl true:=q;subst q';obtain rfl:u=Value.bool true:=r';refine⟨rfl,OldK.of_keep λb o e=>?_,os,bare⟩;cases q:H b with
    |none=>exact un.keep b o e q (by intro z;exact absurd (show b∈([]:List Addr)from z) (by simp)) (by simp)
    |some u=>
     rcases hO b with z|⟨ob,xs,z⟩
     .rw[q]at z;cases z
     .have z2:=un.frzs b ob _ z;obtain⟨e1,_⟩:=hok b _ z;obtain⟨e2,_⟩:=hok' b _ z2;rw[e]at e1;cases e1;exact e2
 cases hk:K.lookup a with
 |some o=>
  -- the script is one of the module's own objects
  have e:=KX a o hk;rw[ha]at e;cases e;refine core (λ_=>none) (λ_=>.inl rfl) (.inr ⟨_,vs.toArray,_,hk,rfl,rfl,rfl,by rw[ju,lenV];exact hl,by simpa using rv⟩) (λb u z=>by have z':(none:Option HO)=some u:=z;cases z') (λb z=>absurd rfl z) λz=>absurd rfl z
 |none=>
  refine core (λb=>if b=a then some (.jl {cls:=.type "list",data:=.seq vs.toArray} (.lst (ns.map V.int)))else none) (λb=>?_) (.inl (.inr ⟨{cls:=.type "list",data:=.seq vs.toArray},if_pos rfl⟩)) (λb u z=>?_) (λb z=>?_) λ_=>hk
  .by_cases hb:b=a
   .exact .inr ⟨_,_,if_pos hb⟩
   .exact .inl (if_neg hb)
  .by_cases hb:b=a
   .have z':=(if_pos hb).symm.trans z;cases z';subst hb;exact⟨ha,by rw[b8];exact hl,vs,_,rv,ha⟩
   .have z':=(if_neg hb).symm.trans z;cases z'
  .by_cases hb:b=a
   .exact hb
   .exact absurd (if_neg hb) z
def zrU{l:PySem.W.OpenLaw}{n k:Nat}{q:Program}{loose:List Str}{XP:(Str->Option Value)->Heap->Prop}{YP:World->Heap->Prop}{d:DefRec}{K:Params->qo}{CX:World->mO}{sp:World->Sp}{x:Str}
  (hn:l.most=some n) (hn2:n<=sizeLine) (hdf:d.params.defaults=[]) (hr:bK k callerA)
  (hY:∀(w:World)(h:Heap),YP w h->(K w.params).In h)
  (F:∀(w:World)(mg:Str->Option Value)(fa:Addr)(h:Heap),(K w.params).In h->h.Ns mainGlobals mg->mg d.name=some (.ref fa) ->
   ∃fd:FuncData,(∀(s:Shared)(u:Value),BindsTo s fd ⟨[u],[]⟩ [(x,u)]) /\
    ∀base:Heap,(K w.params).In base->base.Ns mainGlobals mg->aN l.prog w (K w.params) mg base (CX w) k fa fd [x] (sp w))
  (hsp:∀(w:World)(H:Hp)(a:Addr)(ns:List Int),ns.length<=n->Only H->cz (K w.params) H a (ns.map V.int)->sp w [.ref a] H (λv _=>v=.bl true) λ_ _ _=>False)
  (hCX:∀(w:World)(H:Hp)(s:Shared)(e:Value)(s':Shared),CX w [] H s (λ_ _ _=>False) e s'->False) :
  PySem.W.WalkO q loose XP YP l.row.toRowW d [] (λf vs=>PySem.call f vs):=by
 refine Att.pD hn hdf λw s₀ s₁ mg mb fa o pm cd doc a vs ns G Y ho hd hcd hmg hobj hints hlen hg=>?_;have KX:=hY w _ Y;obtain⟨fd,hb,hF⟩:=F w mg fa _ KX G.T.g hmg;exact zp6 KX G.T.g G.T.b G.T.builtins G.T.nolimit hg hobj hints (YAB hlen hn2) hr hF hb (λH hO hS=>hsp w H a ns hlen hO hS) λH e s'=>hCX w H s₁ e s'
def vB(s:Stmt):Arguments:=match s with
 |.FunctionDef _ a _ _ _ _ _ _ _ _=>a
 |_=>{posonlyargs:=[],args:=[],vararg:=none,kwonlyargs:=[],kw_defaults:=[],kwarg:=none,defaults:=[]}
def nJ(s:Stmt):List Stmt:=match s with
 |.FunctionDef _ _ b _ _ _ _ _ _ _=>b
 |_=>[]
def gF(s:Stmt):Scope:=match s with
 |.FunctionDef _ _ _ _ _ _ sc _ _ _=>sc
 |_=>{kind:=.function,names:=[],isGenerator:=false,isCoroutine:=false}
abbrev cL:mO:=λ_ _ _ _ _ _=>False
abbrev E0:XK:=λ_ _ _=>False
def zp:nF cL X E0:=λ_ _ _ _ _ _ _ h=>h.elim
structure bZ(K:qo)(x qual:Str)(st:Stmt)(f:Addr)(fd:FuncData):Prop where
 ex:∃(oc:Value)(od:Option Addr)(kV doc pm:Value)(an:Option Addr)(cdv ct:Value)(osl:Array (Option Value)),
  fd=PySem.W.fnOf x qual (vB st) (nJ st) (gF st) .none kV doc pm an cdv ct/\K.lookup f=some ⟨oc,od,.func fd,osl⟩/\PySem.W.codeIn K cdv qual=true
 kp:PySem.W.keepIn K (.ref f)=true
section
variable{P:Program}{w:World}{K:qo}{mg:Str->Option Value}{base:Heap}
def bZ.ok{x qual:Str}{st:Stmt}{f:Addr}{fd:FuncData}{N ps:List Str}{k:Nat}{sp:Sp}(F:bZ K x qual st f fd)(qh:dh N ps (gF st))(len:∀vs H Q E,sp vs H Q E->vs.length=ps.length)
  (hbody:∀(cdv:Value)(A:Around)(outer:List Env)(s:Shared)(H:Hp)(vs:List V)(Q:VK)(E:XK),bK k (A.deeper (envOfC qual (gF st) s.heap.objs.size f cdv))->sp vs H Q E ->
   ∃t,lH (dj cL P w K mg base N qual (gF st) f cdv A outer s H E).nox (nJ st) t/\t {nx:=λ_ H'=>Q .non H',rt:=Q} (ni N vs) H):aN P w K mg base cL (k+1) f fd ps sp:=by
 obtain⟨oc,od,kV,doc,pm,an,cdv,ct,osl,rfl,lk,hcd⟩:=F.ex;refine zsp lk hcd qh len λA outer s H vs Q E hr hsp=>?_;obtain⟨t,h,q⟩:=hbody cdv A outer s H vs Q E hr hsp;exact⟨t,h.nox,q⟩
def bZ.binds{x qual:Str}{st:Stmt}{f:Addr}{fd:FuncData}{ps:List Str}(F:bZ K x qual st f fd)
  (h:∀(kV doc pm:Value)(an:Option Addr)(cdv ct:Value)(us:List Value),us.length=ps.length->bindArgs (PySem.W.fnOf x qual (vB st) (nJ st) (gF st) .none kV doc pm an cdv ct) ⟨us,[]⟩=pure (ps.zip us)):Binds K fd ps []:=by
 obtain⟨oc,od,kV,doc,pm,an,cdv,ct,osl,rfl,lk,hcd⟩:=F.ex;exact .all (h kV doc pm an cdv ct)
end
section
variable{X:Cx}
def pv(i:Nat)(hN:X.N[i]?=some x:=by rfl)(hv:Dh X.env.scope x:=by first|exact Or.inl rfl|exact Or.inr (Or.inl rfl)|exact Or.inr (Or.inr rfl))(hd:(x==("__debug__":Str))=false:=by decide)
  (hcd:(x==("__classdict__":Str))=false:=by decide):PE X (.Name x pos) (tE i):=kO hN hv hd hcd
end
def wW{c A B:Prop}[Decidable c](h1:c->A)(h2:¬ c->B):if c then A else B:=by
 by_cases h:c
 .rw[if_pos h];exact h1 h
 .rw[if_neg h];exact h2 h
def Same(H H':Hp):Prop:=∀b o,H b=some o->H' b=some o
def Same.refl(H:Hp):Same H H:=λ_ _ h=>h
def Same.trans{H H1 H2:Hp}(a:Same H H1)(b:Same H1 H2):Same H H2:=λc o h=>b c o (a c o h)
def Same.free{H H':Hp}(e:Same H H'){l:Addr}(h:H' l=Option.none):H l=Option.none:=by
 cases q:H l with
 |none=>rfl
 |some o=>
  rw[e l o q]at h;cases h
def Same.seq{K:qo}{H H':Hp}{a:Addr}{xs:List V}(e:Same H H')(h:cz K H a xs):cz K H' a xs:=by
 rcases h with(h|⟨o,h⟩)|h
 .exact .inl (.inl (e _ _ h))
 .exact .inl (.inr ⟨o,e _ _ h⟩)
 .exact .inr h
section
variable{κ:Type}[DecidableEq κ]
def eU(kvs:List (κ×V))(k:κ):Option V:=(kvs.find? λkv=>decide (kv.1=k)).map (·.2)
def putK(kvs:List (κ×V))(k:κ)(v:V):List (κ×V):=
 if (kvs.any λkv=>decide (kv.1=k))=true then kvs.map (λkv=>if kv.1=k then(kv.1,v)else kv)else kvs++[(k,v)]
def Gs{p:κ×V}{r:List (κ×V)}{k:κ}(e:p.1=k):eU (p::r) k=some p.2:=by simp[eU,Fo,e]
def Gw{p:κ×V}{r:List (κ×V)}{k:κ}(e:¬ p.1=k):eU (p::r) k=eU r k:=by simp[eU,Fo,e]
theorem zgu(k:κ):∀kvs:List (κ×V),(kvs.any λkv=>decide (kv.1=k))=(eU kvs k).isSome
 |[]=>rfl
 |p::r=>by
  rw[Ax];by_cases e:p.1=k
  .simp only[Gs e,gB e,Bool.true_or,Option.isSome_some]
  .rw[Gw e,gY e,Bool.false_or];exact zgu k r
def zeV(kvs:List (κ×V))(k:κ)(v:V):(putK kvs k v).length<=kvs.length+1:=by
 unfold putK;split
 .rw[b8];omega
 .rw[gU,YAE,YC2];omega
def zqx{kvs:List (κ×V)}{k:κ}(v:V)(h:eU kvs k=none):putK kvs k v=kvs++[(k,v)]:=by
 unfold putK;rw[zgu,h];exact if_neg (by decide)
def iu.isSome_eq(r:iu o u):o.isSome=u.isSome:=by
 cases o with
 |none=>cases u with
  |none=>rfl
  |some _=>exact(show False from r).elim
 |some _=>cases u with
  |none=>exact(show False from r).elim
  |some _=>rfl
def KV.val{kvs:List (κ×V)}{vs:List (κ×Value)}(r:KV kvs vs)(k:κ):iu (eU kvs k) (valueAt vs k):=by
 unfold KV at r
 induction r with
 |nil=>exact True.intro
 |@cons p q ps qs h t ih=>
  obtain⟨h1,h2⟩:=h;by_cases e:p.1=k
  .have e':q.1=k:=h1.symm.trans e;have b:valueAt (q::qs) k=some q.2:=by simp[valueAt,Fo,e']
   rw[Gs e,b];exact h2
  .have e':¬ q.1=k:=λz=>e (h1.trans z);have b:valueAt (q::qs) k=valueAt qs k:=by simp[valueAt,Fo,e']
   rw[Gw e,b];exact ih
theorem KV.any(r:KV kvs vs)(k:κ):(kvs.any λkv=>decide (kv.1=k))=vs.any λkv=>decide (kv.1=k):=by
 unfold KV at r
 induction r with
 |nil=>rfl
 |cons h t ih=>rw[Ax,Ax,ih,h.1]
def KV.repl(r:KV kvs vs)(k:κ)(ry:RelV y u) :
  KV (kvs.map λkv=>if kv.1=k then(kv.1,y)else kv) (vs.map λkv=>if kv.1=k then(kv.1,u)else kv):=by
 unfold KV at r ⊢
 induction r with
 |nil=>exact .nil
 |@cons p q ps qs h t ih=>
  rw[d7,d7];refine .cons ?_ ih;obtain⟨h1,h2⟩:=h;by_cases e:p.1=k
  .rw[if_pos e,if_pos (h1.symm.trans e)];exact⟨h1,ry⟩
  .rw[if_neg e,if_neg (λz=>e (h1.trans z))];exact⟨h1,h2⟩
def KV.put(r:KV kvs vs)(k:κ)(ry:RelV y u):KV (putK kvs k y) (stored vs k u):=by
 unfold putK stored;rw[r.any k];by_cases e:(vs.any λkv=>decide (kv.1=k))=true
 .rw[if_pos e,if_pos e];exact r.repl k ry
 .rw[if_neg e,if_neg e];exact Paired.snoc r ⟨rfl,ry⟩
theorem KV.length(r:KV kvs vs):kvs.length=vs.length:=Paired.length r
end
def Cv(r:RelV (kV k) u):(lG P w).is k u=true:=by
 cases k with
 |inl i=>obtain⟨t,e⟩:=(show ∃t,u=Value.int i t from r);subst e;exact zlp P w i t
 |inr x=>obtain⟨t,e⟩:=(show ∃t,u=Value.str x t from r);subst e;exact zkQ P w x t
theorem zjT :∀{ks:List Key}{us:List Value},Vals (ks.map kV) us->ItemsAre (lG P w) ks us
 |[],_,r=>by rw[rZ]at r;cases r;exact .nil
 |k::ks,_,r=>by
  rw[d7]at r;cases r with
  |cons h t=>exact .cons (Cv h) (zjT t)
abbrev KT(H:Hp):List (List Key×V)->List (List Key×Addr×Value)->Prop:=Paired λp q=>p.1=q.1/\H q.2.1=some (.tup (p.1.map kV))/\RelV p.2 q.2.2
def KT.val{H:Hp}{kvs:List (List Key×V)}{xs:List (List Key×Addr×Value)}(r:KT H kvs xs)(k:List Key):iu (eU kvs k) ((atKey xs k).map (·.2)):=by
 induction r with
 |nil=>exact True.intro
 |@cons p q ps qs h t ih=>
  obtain⟨h1,_,h2⟩:=h;by_cases e:p.1=k
  .have e':q.1=k:=h1.symm.trans e;have b:atKey (q::qs) k=some q.2:=by simp[atKey,Fo,e']
   rw[Gs e,b];exact h2
  .have e':¬ q.1=k:=λz=>e (h1.trans z);have b:atKey (q::qs) k=atKey qs k:=by simp[atKey,Fo,e']
   rw[Gw e,b];exact ih
def KT.repl(r:KT H kvs xs)(k:List Key)(ry:RelV y u) :
  KT H (kvs.map λkv=>if kv.1=k then(kv.1,y)else kv) (xs.map (putAt k u)):=by
 induction r with
 |nil=>exact .nil
 |@cons p q ps qs h t ih=>
  rw[d7,d7];refine .cons ?_ ih;obtain⟨h1,h2,h3⟩:=h;unfold putAt;by_cases e:p.1=k
  .rw[if_pos e,if_pos (h1.symm.trans e)];exact⟨h1,h2,ry⟩
  .rw[if_neg e,if_neg (λz=>e (h1.trans z))];exact⟨h1,h2,h3⟩
def KT.put(r:KT H kvs xs)(k:List Key)(hb:H b=some (.tup (k.map kV)))(ry:RelV y u) :
  KT H (putK kvs k y) (storedH xs k b u):=by
 have e:(kvs.any λkv=>decide (kv.1=k))=(atKey xs k).isSome:=by
  rw[zgu,(r.val k).isSome_eq,YCR]
 unfold putK storedH;rw[e];by_cases q:(atKey xs k).isSome=true
 .rw[if_pos q,if_pos q];exact r.repl k ry
 .rw[if_neg q,if_neg q];exact Paired.snoc r ⟨rfl,hb,ry⟩
def KT.keeps(r:KT H kvs xs)(ht:∀b ys,H b=some (.tup ys)->H' b=some (.tup ys)):KT H' kvs xs:=
 Paired.mapP r λ_ _ z=>⟨z.1,ht _ _ z.2.1,z.2.2⟩
section
variable{P:Program}{w:World}{H:Hp}{h:Heap}{a:Addr}
def zvi(ok:iW P w H h)(e:Rd H a u):cu P w H h a u:=e.ok ok
def yO(ok:iW P w H h)(e:Rd H a (.dK kvs)):kvs.length<=sizeLine/\(a==sysModules)=false/\∃vs,KV kvs vs/\h.DictOf (lG P w) a vs:=
 show cu P w H h a (.dK kvs)from zvi ok e
def zvl(ok:iW P w H h)(e:H a=some (.dK kvs)):kvs.length<=sizeLine/\(a==sysModules)=false/\∃vs,KV kvs vs/\h.DictOf (lG P w) a vs:=yO ok (.inl e)
def FZ(ok:iW P w H h)(e:H a=some (.tup (ks.map kV))):(tupleKind (lG P w)).is h ks a:=by
 obtain⟨_,its,r,o,h1,h2,n,h3⟩:=(show cu P w H h a (.tup (ks.map kV))from ok a _ e);exact⟨o,its.toArray,n,h1,h2,h3,by simpa using zjT r⟩
def GK(ok:iW P w H h)(e:Rd H a (.dT kvs)):kvs.length<=sizeLine/\(a==sysModules)=false /\
  ∃xs,KT H kvs xs/\h.DictOfH (tupleKind (lG P w)) a xs:=by
 obtain⟨z,y,xs,r,o,es,ep,h1,h2,h3,h4,h5⟩:=(show cu P w H h a (.dT kvs)from zvi ok e);refine⟨z,y,xs,r,o,es,ep,h1,h2,h3,h4,λx hx=>?_,h5⟩;have all:∀{l:List (List Key×V)}{m:List (List Key×Addr×Value)},KT H l m->∀x∈m,(tupleKind (lG P w)).is h x.1 x.2.1:=by
  intro l m q
  induction q with
  |nil=>intro x hx;exact nomatch hx
  |@cons p q ps qs hq t ih=>
   intro x hx;rcases iU.mp hx with e|hx
   .subst e;exact FZ ok (by rw[<-hq.1];exact hq.2.1)
   .exact ih x hx
 exact all r x hx
def zvR(ok:iW P w H h)(e:H a=some (.dT kvs)):kvs.length<=sizeLine/\(a==sysModules)=false /\
  ∃xs,KT H kvs xs/\h.DictOfH (tupleKind (lG P w)) a xs:=GK ok (.inl e)
end
def jd(H:Hp)(a:Addr)(y:V)(r:Option V):Prop:=
 (∃kvs k,Rd H a (.dK kvs)/\y=kV k/\r=eU kvs k)\/∃kvs k b,Rd H a (.dT kvs)/\y=.ref b/\H b=some (.tup (k.map kV))/\r=eU kvs k
def nu(H:Hp)(a:Addr)(y v:V)(H':Hp):Prop:=
 (∃kvs k,H a=some (.dK kvs)/\y=kV k/\kvs.length<sizeLine/\H'=upd H a (.dK (putK kvs k v))) \/
 ∃kvs k b,H a=some (.dT kvs)/\y=.ref b/\H b=some (.tup (k.map kV))/\kvs.length<sizeLine/\H'=upd H a (.dT (putK kvs k v))
theorem jd.k{H:Hp}{a:Addr}{kvs:List (Key×V)}{k:Key}(e:H a=some (.dK kvs)):jd H a (kV k) (eU kvs k):=.inl ⟨kvs,k,.inl e,rfl,rfl⟩
theorem nu.k{H:Hp}{a:Addr}{kvs:List (Key×V)}{k:Key}{v:V}(e:H a=some (.dK kvs))(hl:kvs.length<sizeLine):nu H a (kV k) v (upd H a (.dK (putK kvs k v))):=.inl ⟨kvs,k,e,rfl,hl,rfl⟩
section
variable{X:Cx}{aa:List (Addr×Obj)}{Z:St}{H:Hp}{s:Shared}{a:Addr}{y v:V}{u r:Value}{o:Option V}{A:Around}{E:Value->Shared->Prop}
def Inv.big(I:Inv X aa Z H s):sysModules<s.heap.objs.size:=by
 have h:mainGlobals<s.heap.objs.size:=(I.mod.glob.keeps I.bk).lt;exact Nat.lt_trans (by decide) h
def zj0(hu:A.units+1<cLine)(I:Inv X aa Z H s)(g:jd H a y (some v))(ry:RelV y u)(h:∀w' s',Inv X aa Z H s'->RelV v w'->Q w' s') :
  wpAny (model X.prog X.w) A (getItem (.ref a) u) Q E s:=by
 rcases g with⟨kvs,k,e,ey,l⟩|⟨kvs,k,b,e,ey,eb,l⟩
 .subst ey;obtain⟨z,hd,vs,rel,dd⟩:=yO I.hok e;obtain⟨w',hw,rw'⟩:=iu.some_of (v:=v) (o:=valueAt vs k) (by rw[l];exact rel.val k);exact wpAny_getItem_of (Cv ry) dd.mapOf hw (h w' _ (I.tok _) rw')
 .subst ey;cases (show u=Value.ref b from ry);obtain⟨z,hd,xs,rel,dd⟩:=GK I.hok e;obtain⟨w',hw,rw'⟩:=iu.some_of (v:=v) (o:=(atKey xs k).map (·.2)) (by rw[l];exact rel.val k);obtain⟨p,hp,hp2⟩:=Option.map_eq_some_iff.mp hw;refine wpAny_getItem_heap (YB9 hu) (FZ I.hok eb) dd hp ?_;rw[hp2];exact h w' _ (I.tok _) rw'
def d_in(hu:A.units+1<cLine)(I:Inv X aa Z H s)(g:jd H a y o)(ry:RelV y u)(h:∀s',Inv X aa Z H s'->Q (.bool o.isSome) s') :
  wpAny (model X.prog X.w) A (compareOp .In u (.ref a)) Q E s:=by
 rcases g with⟨kvs,k,e,ey,l⟩|⟨kvs,k,b,e,ey,eb,l⟩
 .subst ey;obtain⟨z,hd,vs,rel,dd⟩:=yO I.hok e;refine wpAny_in_of (Cv ry) hd dd.mapOf ?_;rw[<-(rel.val k).isSome_eq,<-l];exact h _ (I.tok _)
 .subst ey;cases (show u=Value.ref b from ry);obtain⟨z,hd,xs,rel,dd⟩:=GK I.hok e;refine wpAny_in_heap (YB9 hu) (FZ I.hok eb) hd dd ?_;have q:=(rel.val k).isSome_eq;rw[YCR]at q;rw[<-q,<-l];exact h _ (I.tok _)
def zsB(hu:A.units+1<cLine)(I:Inv X aa Z H s)(g:jd H a y o)(ry:RelV y u)(h:∀s',Inv X aa Z H s'->Q (.bool (!o.isSome)) s') :
  wpAny (model X.prog X.w) A (compareOp .NotIn u (.ref a)) Q E s:=by
 rcases g with⟨kvs,k,e,ey,l⟩|⟨kvs,k,b,e,ey,eb,l⟩
 .subst ey;obtain⟨z,hd,vs,rel,dd⟩:=yO I.hok e;refine wpAny_notIn_of (Cv ry) hd dd.mapOf ?_;rw[<-(rel.val k).isSome_eq,<-l];exact h _ (I.tok _)
 .subst ey;cases (show u=Value.ref b from ry);obtain⟨z,hd,xs,rel,dd⟩:=GK I.hok e;refine wpAny_notIn_heap (YB9 hu) (FZ I.hok eb) hd dd ?_;have q:=(rel.val k).isSome_eq;rw[YCR]at q;rw[<-q,<-l];exact h _ (I.tok _)
def zk5(I:Inv X aa Z H s)(mu:Ke (H a))(hs:Heap.SameBut a s.heap h')(he:∃q,h'.get? a=some q)(new:cu X.prog X.w (upd H a ob) h' a ob) :
  Inv X aa Z (upd H a ob) {s with heap:=h',toks:=t'}:=
 I.write (x:=a) (e:=a) mu (.inl rfl) (λb q hb z=>(hs.2 b hb).trans z) he new
def zns(z:kvs.length<=sizeLine)(hd:(a==sysModules)=false)(rel:KV kvs vs)(dd:h'.DictOf (lG P w) a vs) :
  cu P w H' h' a (.dK kvs):=⟨z,hd,vs,rel,dd⟩
def zkd(hu:A.units+1<cLine)(I:Inv X aa Z H s)(g:nu H a y v H')(ry:RelV y u)(rv:RelV v r)(h:∀s',Inv X aa Z H' s'->Q () s') :
  wpAny (model X.prog X.w) A (setItem (.ref a) u r) Q E s:=by
 rcases g with⟨kvs,k,e,ey,l,eH⟩|⟨kvs,k,b,e,ey,eb,l,eH⟩
 .subst ey eH;obtain⟨z,hd,vs,rel,dd⟩:=zvl I.hok e;have hz:vs.length<=sizeLine:=by rw[<-rel.length];exact z
  have hl:(putK kvs k v).length<=sizeLine:=by have:=zeV kvs k v;omega
  refine wpAny_setItem_pairs (hsz:=hz) (Cv ry) dd λh' dd' hs=>h _ ?_;have he:∃q,h'.get? a=some q:=let⟨q,_,_,hq,_⟩:=dd';⟨q,hq⟩
  exact zk5 I (by rw[e];exact True.intro) hs he (zns hl hd (rel.put k rv) dd')
 .subst ey eH;cases (show u=Value.ref b from ry);obtain⟨z,hd,xs,rel,dd⟩:=zvR I.hok e;have hz:xs.length<=sizeLine:=by rw[<-Paired.length rel];exact z
  have hl:(putK kvs k v).length<=sizeLine:=by have:=zeV kvs k v;omega
  refine wpAny_setItem_heap (hsz:=hz) (YB9 hu) (FZ I.hok eb) dd λh' dd' hs=>h _ ?_;obtain⟨q,es,ep,hq,h2,h3,h4,_,h5⟩:=dd';refine zk5 I (by rw[e];exact True.intro) hs ⟨q,hq⟩ ⟨hl,hd,_,(rel.put k eb rv).keeps λc ys ec=>?_,q,es,ep,hq,h2,h3,h4,h5⟩;rw[au (zwF ec e (λz=>nomatch z))];exact ec
end
section
variable{X:Cx}{aa:List (Addr×Obj)}{Z:St}{H:Hp}{s:Shared}{a:Addr}{kvs:List (Key×V)}{k:Key}{u:Value}{A:Around}{E:Value->Shared->Prop}
def zws(I:Inv X aa Z H s)(e:Rd H a (.dK kvs))(h:∀t s',Inv X aa Z H s'->Q (.int kvs.length t) s'):wpAny (model X.prog X.w) A (call (.builtin "len") [.ref a]) Q E s:=by
 obtain⟨z,hd,vs,rel,dd⟩:=yO I.hok e;refine call_len_dict hd dd (by rw[<-rel.length];rw[nO]at z;omega) ?_;rw[<-rel.length];exact h _ _ (I.tok _)
end
def tK(i:Expr):Prop:=∀ov iv,subscripted i false ov iv=operate [ov,iv] (getItem ov iv)
def zpf{prog:Program}{w:World}{A:Around}{E:Value->Shared->Prop}{s:Shared}{env:Env}{value slice:Expr}{pos:Pos}{T id:String}{Q:Value->Shared->Prop}
  (hl:typeLookup (.type T) "__getitem__"=pure (some (.builtin id))) (hs:tK slice)
  (h:wpAny (model prog w) A (eval value env) (λo s₁=>wpAny (model prog w) A (eval slice env) (λi s₂=>s₂.TypeIs o T/\wpAny (model prog w) A (getItem o i) Q E s₂) E s₁) E s) :
  wpAny (model prog w) A (eval (.Subscript value slice pos) env) Q E s:=by
 refine Subscript_ (lD h (λo s₁ h₁=>lD h₁ (λi s₂ h₂=>?_) λ_ _ x=>x) λ_ _ x=>x);obtain⟨hT,h₂⟩:=h₂;unfold subscriptTail;refine aL ?_;rw[getitemInPython_of_ne hT.not_modules];refine aL (YC3 hT hl ?_);have fin:wpAny (model prog w) A (subscripted slice false o i) (λr s₃=>wpAny (model prog w) A (letTemporaryGo value o r >>=λ_=>pure r) Q E s₃) E s₂:=by
  rw[hs o i];exact wpAny_operating (lD h₂ (λr s₃ h₃=>aL (wpAny_letTemporaryGo (bV h₃))) λ_ _ x=>x)
 first
  |exact bV (aL fin)
  |exact aL (bV (aL fin))
  |exact aL fin
def zlo(I:Inv X aa Z H s)(g:jd H a y o):s.TypeIs (.ref a) "dict":=by
 rcases g with⟨kvs,k,e,_,_⟩|⟨kvs,k,b,e,_,_,_⟩
 .obtain⟨_,_,vs,_,dd⟩:=yO I.hok e;exact dd.typeIs
 .obtain⟨_,_,xs,_,dd⟩:=GK I.hok e;exact dd.typeIs
def zwt(td ty:TE):TE:=λZ H Q=>td Z H λx H1=>ty Z H1 λy H2=>∃a v,x=.ref a/\jd H2 a y (some v)/\Q v H2
def tDIn(ty td:TE):TE:=λZ H Q=>ty Z H λy H1=>td Z H1 λx H2=>∃a o,x=.ref a/\jd H2 a y o/\Q (.bl o.isSome) H2
def zrV(ty td:TE):TE:=λZ H Q=>ty Z H λy H1=>td Z H1 λx H2=>∃a o,x=.ref a/\jd H2 a y o/\Q (.bl (!o.isSome)) H2
def zwc(td ty tv:TE):TS:=λD Z H=>tv Z H λv H1=>td Z H1 λx H2=>ty Z H2 λy H3=>∃a H4,x=.ref a/\nu H3 a y v H4/\D.nx Z H4
def zwo(td ty tv:TE)(rd:V->V->Hp->VK->Prop):TS:=λD Z H=>td Z H λx H1=>ty Z H1 λy H2=>∃a v,x=.ref a/\jd H2 a y (some v) /\
 tv Z H2 λy2 H3=>rd v y2 H3 λz H4=>∃H5,nu H4 a y z H5/\D.nx Z H5
section
variable{X:Cx}{o i e value:Expr}{pos pos' tpos:Pos}{td ty tv:TE}
def zpb(hu:X.A.units+1<cLine)(ho:PE X o td)(hi:PE X i ty)(hs:tK i):PE X (.Subscript o i pos) (zwt td ty):=by
 intro aa s Z H Q I h;refine zpf PySem.F.slot_dict_getitem.lookup hs (bH (ho aa s Z H _ I h) λu s1 ⟨x,H1,I1,rx,q1⟩=>bH (hi aa s1 Z H1 _ I1 q1) λiv s2 ⟨y,H2,I2,ry,a,v,ex,g,q2⟩=>?_);subst ex;obtain rfl:u=Value.ref a:=rx;exact⟨zlo I2 g,zj0 hu I2 g ry λw' s3 I3 rw'=>⟨v,H2,I3,rw',q2⟩⟩
def zvd(hu:X.A.units+1<cLine)(hi:PE X i ty)(ho:PE X o td):PC X .In i o (tDIn ty td):=by
 intro aa s Z H Q I h;refine bH (hi aa s Z H _ I h) λiv s1 ⟨y,H1,I1,ry,q1⟩=>bH (ho aa s1 Z H1 _ I1 q1) λu s2 ⟨x,H2,I2,rx,a,ov,ex,g,q2⟩=>?_;subst ex;obtain rfl:u=Value.ref a:=rx;exact d_in hu I2 g ry λs3 I3=>⟨.bl ov.isSome,H2,I3,rfl,q2⟩
def znK(hu:X.A.units+1<cLine)(hi:PE X i ty)(ho:PE X o td):PC X .NotIn i o (zrV ty td):=by
 intro aa s Z H Q I h;refine bH (hi aa s Z H _ I h) λiv s1 ⟨y,H1,I1,ry,q1⟩=>bH (ho aa s1 Z H1 _ I1 q1) λu s2 ⟨x,H2,I2,rx,a,ov,ex,g,q2⟩=>?_;subst ex;obtain rfl:u=Value.ref a:=rx;exact zsB hu I2 g ry λs3 I3=>⟨.bl (!ov.isSome),H2,I3,rfl,q2⟩
def zkM(hu:X.A.units+1<cLine)(ho:PE X o td)(hi:PE X i ty)(hv:PE X value tv)(hs:swapsWith value (some (.Subscript o i pos')) pos.line X.env=pure false) :
  PS X (.Assign [.Subscript o i pos'] value pos) (zwc td ty tv):=by
 intro aa s Z H D I h;refine wpAny_Assign_Subscript (bH (hv aa s Z H _ I h) λr s1 ⟨v,H1,I1,rv,q1⟩=>bH (ho aa s1 Z H1 _ I1 q1) λu s2 ⟨x,H2,I2,rx,q2⟩=>bH (hi aa s2 Z H2 _ I2 q2) λiv s3 ⟨y,H3,I3,ry,a,H4,ex,g,q3⟩=>?_) hs;subst ex;obtain rfl:u=Value.ref a:=rx;exact zkd hu I3 g ry rv λs4 I4=>⟨Z,H4,I4,q3⟩
def zsl(hu:X.A.units+1<cLine)(ho:PE X o td)(hi:PE X i ty)(hv:PE X value tv)(hop:Ig X op rd)
  (ha:∀ov iv new,augStore i ov iv new=(do holding [new,ov,iv] (setItem ov iv new);release [new,ov,iv] [];pure .next)):PS X (.AugAssign (.Subscript o i tpos) op value pos) (zwo td ty tv rd):=by
 intro aa s Z H D I h;refine wpAny_AugAssign_SubscriptAny (bH (ho aa s Z H _ I h) λu s1 ⟨x,H1,I1,rx,q1⟩=>bH (hi aa s1 Z H1 _ I1 q1) λiv s2 ⟨y,H2,I2,ry,a,v,ex,g,q2⟩=>?_) ha;subst ex;obtain rfl:u=Value.ref a:=rx;refine zj0 hu I2 g ry λw' s3 I3 rw'=>bH (hv aa s3 Z H2 _ I3 q2) λw2 s4 ⟨y2,H3,I4,ry2,q3⟩=>bH (hop aa s4 Z H3 v y2 w' w2 _ I4 rw' ry2 q3) λw3 s5 ⟨z,H4,I5,rz,H5,g5,q4⟩=>?_;exact zkd hu I5 g5 ry rz λs6 I6=>⟨Z,H5,I6,q4⟩
end
def zlI(h:Heap)(hb:sysModules<h.objs.size):cu P w H (h.push {cls:=.type "dict",data:=.dict #[]}) h.objs.size (.dK []):=
 ⟨v6 _,YAW.mpr (YAM (fX hb)),[],.nil,Heap.DictOf.new h⟩
def zuF:TE:=λ_ H Q=>∀p,H p=none->Q (.ref p) (upd H p (.dK []))
section
variable{X:Cx}{pos:Pos}
def zpH:PE X (.Dict [] [] pos) zuF:=λaa s Z H Q I h=>
 wpAny_Dict_empty ⟨.ref s.heap.objs.size,_,I.laid (a:=s.heap.objs.size) (o:=.dK []) (t':=s.toks) (λ_ _ q=>dX _ q) (dG _) (zlI s.heap I.big),rfl,h _ (I.hok.fresh (dG _))⟩
end
def zlZ:List (TE×TE)->St->Hp->(List (V×V)->Hp->Prop)->Prop
 |[],_,H,Q=>Q [] H
 | (tk,tv)::r,Z,H,Q=>tk Z H λx H1=>tv Z H1 λy H2=>zlZ r Z H2 λps H3=>Q ((x,y)::ps) H3
abbrev VV:List (V×V)->List (Value×Value)->Prop:=Paired λp q=>RelV p.1 q.1/\RelV p.2 q.2
noncomputable def Jx(X:Cx)(pos:Pos)(keys:List (Option Expr))(values:List Expr)(trs:List (TE×TE)):Prop:=
 ∀(aa:List (Addr×Obj))(s:Shared)(Z:St)(H:Hp)(Q:List (V×V)->Hp->Prop),Inv X aa Z H s->zlZ trs Z H Q ->
  wpAny (model X.prog X.w) X.A (evalPairs (pairTrees keys values X.env pos)) (λvs s'=>∃ps H',Inv X aa Z H' s'/\VV ps vs/\Q ps H') X.xe s
def zr5:Jx X pos [] [] []:=λaa s Z H Q I h=>pairTrees_nil_walk ⟨[],H,I,.nil,h⟩
def zqO(hk:PE X k tk)(hv:PE X v tv)(hr:Jx X pos ks vs trs) :
  Jx X pos (some k::ks) (v::vs) ((tk,tv)::trs):=λaa s Z H Q I h=>
 pairTrees_cons_walk (bH (hk aa s Z H _ I h) λu s1 ⟨x,H1,I1,rx,q1⟩=>bH (hv aa s1 Z H1 _ I1 q1) λw2 s2 ⟨y,H2,I2,ry,q2⟩=>
  bH (hr aa s2 Z H2 _ I2 q2) λws s3 ⟨ps,H3,I3,rel,q3⟩=>⟨(x,y)::ps,H3,I3,.cons ⟨rx,ry⟩ rel,q3⟩)
def zF(kvs more:List (Key×V)):List (Key×V):=more.foldl (λacc kv=>putK acc kv.1 kv.2) kvs
def KV.merge:∀{more:List (Key×V)}{rs:List (Key×Value)}{kvs:List (Key×V)}{vs:List (Key×Value)},KV more rs->KV kvs vs->KV (zF kvs more) (merged vs rs):=by
 intro more rs kvs vs r;unfold KV at r
 induction r generalizing kvs vs with
 |nil=>intro q;exact q
 |@cons p q ps qs h t ih=>
  intro r0;have e:KV (putK kvs p.1 p.2) (stored vs q.1 q.2):=by
   have:=r0.put p.1 h.2
   rw[<-h.1];exact this
  exact ih e
theorem zfh:∀(more kvs:List (Key×V)),(zF kvs more).length<=kvs.length+more.length
 |[],kvs=>by show kvs.length<=kvs.length+0;omega
 |p::r,kvs=>by
  have h1:=zfh r (putK kvs p.1 p.2);have h2:=zeV kvs p.1 p.2;show(zF (putK kvs p.1 p.2) r).length<=_;rw[YAE];omega
theorem zhY :∀{kvs:List (Key×V)}{ws:List (Value×Value)},VV (kvs.map λkv=>(kV kv.1,kv.2)) ws->∃rs,Carries (lG P w) ws rs/\KV kvs rs
 |[],_,r=>by rw[rZ]at r;cases r;exact⟨[],True.intro,.nil⟩
 |p::kvs,_,r=>by
  rw[d7]at r;cases r with
  |@cons a b as bs h t=>
   obtain⟨rs,c,q⟩:=zhY (P:=P) (w:=w) t;obtain⟨b1,b2⟩:=b;exact⟨(p.1,b2)::rs,⟨Cv h.1,rfl,c⟩,.cons ⟨rfl,h.2⟩ q⟩
def zwq(trs:List (TE×TE)):TE:=λZ H Q=>∀p,H p=none->zlZ trs Z (upd H p (.dK [])) λps H2=>H2 p=some (.dK [])/\∃kvs:List (Key×V),ps=kvs.map (λkv=>(kV kv.1,kv.2))/\kvs.length<=15/\Q (.ref p) (upd H2 p (.dK (zF [] kvs)))
def zs2(h:Jx X pos keys values trs)(hall:keys.all (·.isSome)=true)(hl:keys.length=values.length)(h0:keys≠[])
  (h15:keys.length<=15):PE X (.Dict keys values pos) (zwq trs):=by
 intro aa s Z H Q I q;have hn:=I.hok.fresh (dG s.heap.objs.size);have I1:=I.laid (a:=s.heap.objs.size) (o:=.dK []) (h':=s.heap.push {cls:=.type "dict",data:=.dict #[]}) (t':=s.toks) (λ_ _ q=>dX _ q) (dG _) (zlI s.heap I.big);refine wpAny_Dict_walk (knd:=lG X.prog X.w) hall hl h0 h15 (bH (h aa _ Z _ _ I1 (q _ hn)) λws s2 ⟨ps,H2,I2,rel,e,kvs,ep,lk,q2⟩=>?_);subst ep;obtain⟨rs,c,rk⟩:=zhY (P:=X.prog) (w:=X.w) rel;obtain⟨z,hd,vs0,r0,dd⟩:=zvl I2.hok e;cases r0;refine⟨rs,c,dd,λh' dd' hs=>⟨.ref s.heap.objs.size,_,?_,rfl,q2⟩⟩;have hz:(zF [] kvs).length<=sizeLine:=by
  have h1:=zfh kvs [];rw[YC2]at h1;rw[nO];omega
 have he:∃q,h'.get? s.heap.objs.size=some q:=let⟨q,_,_,hq,_⟩:=dd';⟨q,hq⟩
 exact zk5 I2 (by rw[e];exact True.intro) hs he (zns hz hd (rk.merge .nil) dd')
section
variable{X:Cx}{aa:List (Addr×Obj)}{Z:St}{H:Hp}{s:Shared}{a:Addr}{kvs:List (Key×V)}{A:Around}{E:Value->Shared->Prop}
def zqP(I:Inv X aa Z H s)(e:Rd H a (.dK kvs))(h:∀p s',H p=none->Inv X aa Z (upd H p (.dK kvs)) s'->Q (.ref p) s'):wpAny (model X.prog X.w) A (call (.type "dict") [.ref a]) Q E s:=by
 obtain⟨z,hd,vs,rel,dd⟩:=yO I.hok e;refine kt_call_dict hd dd (by rw[<-rel.length];exact z) λh' dd' hs=>?_;refine h _ _ (I.hok.fresh (dG _)) (I.laid (a:=s.heap.objs.size) (o:=.dK kvs) (t':=s.toks) (λb q hq=>?_) (dG _) (zns z (YAW.mpr (YAM (fX I.big))) rel dd'));exact(hs.2 b (fX (dB hq))).trans (dX _ hq)
end
section
variable{κ:Type}[DecidableEq κ]
def zr2{kvs:List (κ×V)}{k:κ}{v:V}(h:eU kvs k=some v):k∈kvs.map (·.1):=by
 have q:(kvs.any λkv=>decide (kv.1=k))=true:=by
  rw[zgu,h]
  all_goals rfl
 obtain⟨p,hp,e⟩:=List.any_eq_true.mp q;exact YAD.mpr ⟨p,hp,km e⟩
end
def zvj(Z:St):Option Nat->Option V
 |none=>none
 |some j=>(Z[j]?).join
def ph(sub:List (Option Nat))(Z:St):St:=sub.map (zvj Z)
def zju(sub:List (Option Nat))(Z:St):(ph sub Z).length=sub.length:=by unfold ph;simp
def zjU{sub:List (Option Nat)}{Z:St}{i:Nat}{v:V}(h:(ph sub Z)[i]?=some (some v)):∃j,sub[i]?=some (some j)/\Z[j]?=some (some v):=by
 unfold ph at h;rw[jV]at h;cases e:sub[i]? with
 |none=>rw[e]at h;cases h
 |some o=>
  rw[e]at h;have h':zvj Z o=some v:=Option.some.inj h;cases o with
  |none=>cases h'
  |some j=>
   refine⟨j,rfl,?_⟩;have h2:(Z[j]?).join=some v:=h';cases e2:Z[j]? with
   |none=>rw[e2]at h2;cases h2
   |some w=>rw[e2]at h2;exact congrArg some h2
noncomputable def Es(N:List Str)(osc sc:Scope)(Nc:List Str)(sub:List (Option Nat)):Bool:=
 decide (sc.kind=.function)&&sc.names.all (λy=>decide (y.2≠.cell))&&sc.names.all (λy=>!decide (y.2=.local) || decide (sc.names.lookup y.1=some .local))&&decide (sub.length=Nc.length) &&
 (Nc.zip sub).all (λp=>match p.2 with|none=>true|some j=>decide (N[j]?=some p.1)&&decide (sc.names.lookup p.1=some .free)) &&
 sc.names.all (λy=>!decide (y.2=.free) || (decide (osc.names.lookup y.1=some .cell) || decide (osc.names.lookup y.1=some .free)))
structure bO(N:List Str)(osc sc:Scope)(Nc:List Str)(sub:List (Option Nat)):Prop where
 kind:sc.kind=.function
 nocell:∀y∈sc.names,y.2≠.cell
 names:∀y∈sc.names,y.2=.local->sc.names.lookup y.1=some .local
 len:sub.length=Nc.length
 vis:∀(i j:Nat)(x:Str),Nc[i]?=some x->sub[i]?=some (some j)->N[j]?=some x/\sc.names.lookup x=some .free
 frees:∀y∈sc.names,y.2=.free->osc.names.lookup y.1=some .cell\/osc.names.lookup y.1=some .free
def bO.of{N:List Str}{osc sc:Scope}{Nc:List Str}{sub:List (Option Nat)}(h:Es N osc sc Nc sub=true):bO N osc sc Nc sub:=by
 unfold Es at h;simp only[YAA,yQ,yw,Bool.or_eq_true,Bool.not_eq_true',YCa]at h;obtain⟨⟨⟨⟨⟨h1,h2⟩,h3⟩,h4⟩,h5⟩,h6⟩:=h;refine⟨h1,h2,λy hy e=>(h3 y hy).elim (λz=>absurd e z) id,h4,λi j x e1 e2=>?_,λy hy e=>(h6 y hy).elim (λz=>absurd e z) id⟩;have hz:(Nc.zip sub)[i]?=some (x,some j):=by
  rw[List.getElem?_zip_eq_some];exact⟨e1,e2⟩
 have q:=h5 (x,some j) (List.mem_of_getElem? hz);simp only[YAA,yw]at q;exact q
def m7(cells:List (Str×Addr)):List (Str×NameKind)->List (Str×Addr)->List (Str×Addr)
 |[],acc=>acc
 | (n,k)::r,acc=>m7 cells r (if k=.free then(n,(cells.lookup n).getD 0)::acc else acc)
def ziM:∀(names:List (Str×NameKind))(acc:List (Str×Addr)),(∀y∈names,y.2=.free->∃c,env.cells.lookup y.1=some c) ->
  (forIn names acc λx r=>match x with|(name,kind)=>if (kind==NameKind.free)=true then do let a <-cellOf env name;pure (ForInStep.yield ((name,a)::r))else pure (ForInStep.yield r):Sem (List (Str×Addr)))=pure (m7 env.cells names acc):=by
 intro names
 induction names with
 |nil=>intro acc _;rfl
 |cons y r ih=>
  intro acc h;obtain⟨n,k⟩:=y;have ih':=ih (if k=.free then(n,(env.cells.lookup n).getD 0)::acc else acc) λy hy=>h y (kj _ hy);rw[YCG];by_cases hk:k=.free
  .subst hk;obtain⟨c,hc⟩:=h (n,.free) gC rfl;have e1:cellOf env n=pure c:=by unfold cellOf;rw[hc]
   simp only[beq_self_eq_true,uP,e1,pure_bind];unfold m7;rw[hc]at ih' ⊢
   simpa using ih'
  .have hb:(k==NameKind.free)=false:=by simpa using hk
   simp only[hb,BJ,uM,pure_bind];unfold m7;rw[if_neg hk]at ih' ⊢;exact ih'
def zqh:∀(names:List (Str×NameKind))(acc:List (Str×Addr)),(∀y∈names,y.2=.free->∃c,cells.lookup y.1=some c)->(∀p∈acc,cells.lookup p.1=some p.2) ->
  ∀p∈m7 cells names acc,cells.lookup p.1=some p.2:=by
 intro names
 induction names with
 |nil=>intro acc _ h;exact h
 |cons y r ih=>
  intro acc h ha;obtain⟨n,k⟩:=y;refine ih _ (λy hy=>h y (kj _ hy)) ?_;by_cases hk:k=.free
  .rw[if_pos hk];intro p hp;rcases iU.mp hp with e|e
   .subst e;obtain⟨c,hc⟩:=h (n,k) gC hk;show cells.lookup n=some ((cells.lookup n).getD 0);have hc':cells.lookup n=some c:=hc;rw[hc'];rfl
   .exact ha p e
  .rw[if_neg hk];exact ha
def znN :∀(names:List (Str×NameKind))(acc:List (Str×Addr)),p∈acc->p∈m7 cells names acc:=by
 intro names
 induction names with
 |nil=>intro acc h;exact h
 |cons y r ih=>
  intro acc h;obtain⟨n,k⟩:=y;refine ih _ ?_;by_cases hk:k=.free
  .rw[if_pos hk];exact kj _ h
  .rw[if_neg hk];exact h
def zqg :∀(names:List (Str×NameKind))(acc:List (Str×Addr)),(x,NameKind.free)∈names->∃c,(x,c)∈m7 cells names acc:=by
 intro names
 induction names with
 |nil=>intro acc h;cases h
 |cons y r ih=>
  intro acc h;obtain⟨n,k⟩:=y;rcases iU.mp h with e|e
  .cases e;refine⟨(cells.lookup x).getD 0,?_⟩;unfold m7;refine znN _ _ ?_;rw[if_pos rfl];exact gC
  .exact ih _ e
theorem zfr{α:Type}{x:Str}{c:α}:∀{l:List (Str×α)},(x,c)∈l->∃d,l.lookup x=some d
 |[],h=>by cases h
 | (y,d)::r,h=>by
  by_cases e:x=y
  .subst e;exact⟨d,by simp[List.lookup]⟩
  .have hb:(x==y)=false:=YAW.mpr e;rcases iU.mp h with q|q
   .cases q;exact absurd rfl e
   .obtain⟨d',q'⟩:=zfr q;exact⟨d',by simp only[List.lookup,hb];exact q'⟩
def zeb(h:∀y∈scope.names,y.2=.free->∃c,env.cells.lookup y.1=some c) :
  ∃cl,closureFor scope env=pure cl/\(∀x c,cl.lookup x=some c->env.cells.lookup x=some c)/\∀x,scope.names.lookup x=some .free->∃c,cl.lookup x=some c:=by
 refine⟨m7 env.cells scope.names [],?_,λx c e=>?_,λx e=>?_⟩
 .unfold closureFor;show(forIn scope.names ([]:List (Str×Addr)) (λx r=>match x with|(name,kind)=>if (kind==NameKind.free)=true then do let a <-cellOf env name;pure (ForInStep.yield ((name,a)::r))else pure (ForInStep.yield r)) >>=λcs=>pure cs:Sem (List (Str×Addr)))=_;rw[ziM scope.names [] h,pure_bind]
 .exact zqh scope.names [] h (λp hp=>nomatch hp) (x,c) (yZ e)
 .obtain⟨c,hc⟩:=zqg (cells:=env.cells) scope.names [] (yZ e);exact zfr hc
theorem zcN{env:Env}:∀{names:List (Str×NameKind)}{x:Str},names.lookup x=some .free ->
  (names.map λ(n,k)=>if (k==NameKind.free&&env.scope.kind==.function&&env.kindOf n==some .cell)then(n,NameKind.cell)else(n,k)).lookup x=some .cell \/
  (names.map λ(n,k)=>if (k==NameKind.free&&env.scope.kind==.function&&env.kindOf n==some .cell)then(n,NameKind.cell)else(n,k)).lookup x=some .free
 |[],_,h=>by simp at h
 | (n,k)::r,x,h=>by
  have ih:=@zcN env r x;show List.lookup x ((if (k==NameKind.free&&env.scope.kind==.function&&env.kindOf n==some .cell)=true then(n,NameKind.cell)else(n,k))::_)=_\/List.lookup x ((if (k==NameKind.free&&env.scope.kind==.function&&env.kindOf n==some .cell)=true then(n,NameKind.cell)else(n,k))::_)=_;cases hx:x==n with
  |true=>
   simp only[YAS,hx]at h;cases h;by_cases hc:(NameKind.free==NameKind.free&&env.scope.kind==.function&&env.kindOf n==some .cell)=true
   .rw[if_pos hc];left;simp only[YAS,hx]
   .rw[if_neg hc];right;simp only[YAS,hx]
  |false=>
   simp only[YAS,hx]at h;by_cases hc:(k==NameKind.free&&env.scope.kind==.function&&env.kindOf n==some .cell)=true
   .rw[if_pos hc];simp only[YAS,hx];exact ih h
   .rw[if_neg hc];simp only[YAS,hx];exact ih h
theorem zd7{env:Env}:∀{names:List (Str×NameKind)}{x:Str},(∀y∈names,y.2≠.cell) ->
  ((names.map λ(n,k)=>if (k==NameKind.free&&env.scope.kind==.function&&env.kindOf n==some .cell)then(n,NameKind.cell)else(n,k)).lookup x=some .cell \/
  (names.map λ(n,k)=>if (k==NameKind.free&&env.scope.kind==.function&&env.kindOf n==some .cell)then(n,NameKind.cell)else(n,k)).lookup x=some .free)->names.lookup x=some .free
 |[],_,_,h=>by simp at h
 | (n,k)::r,x,nc,h=>by
  have ih:=@zd7 env r x λy hy=>nc y (kj _ hy);have nk:k≠.cell:=nc (n,k) gC;have h':List.lookup x ((if (k==NameKind.free&&env.scope.kind==.function&&env.kindOf n==some .cell)=true then(n,NameKind.cell)else(n,k))::(r.map λ(n,k)=>if (k==NameKind.free&&env.scope.kind==.function&&env.kindOf n==some .cell)then(n,NameKind.cell)else(n,k)))=some .cell\/List.lookup x ((if (k==NameKind.free&&env.scope.kind==.function&&env.kindOf n==some .cell)=true then(n,NameKind.cell)else(n,k))::(r.map λ(n,k)=>if (k==NameKind.free&&env.scope.kind==.function&&env.kindOf n==some .cell)then(n,NameKind.cell)else(n,k)))=some .free:=h;clear h;by_cases hc:(k==NameKind.free&&env.scope.kind==.function&&env.kindOf n==some .cell)=true
  .rw[if_pos hc]at h';have kf:k=.free:=by
    rw[YAA,YAA]at hc;exact yV.mp hc.1.1
   cases hx:x==n with
   |true=>simp only[YAS,hx];rw[kf]
   |false=>simp only[YAS,hx]at h' ⊢;exact ih h'
  .rw[if_neg hc]at h';cases hx:x==n with
   |true=>
    simp only[YAS,hx]at h' ⊢;rcases h' with e|e
    .exact absurd (Option.some.inj e) nk
    .exact e
   |false=>simp only[YAS,hx]at h' ⊢;exact ih h'
def g8(X:Cx)(Nc:List Str)(scope:Scope)(cl:List (Str×Addr))(L:Addr)(s₀:Shared)(H₀:Hp)(ex:List Addr):Cx:=
 {X with N:=Nc,s₀:=s₀,H₀:=H₀,env:=compEnvC scope cl L X.env,outer:=X.stack,ex:=ex,fn:=λ_=>false,pn:=[],xe:=λ_ _=>False}
def zK(sub:List (Option Nat))(g:TG):Prop:=∀v Z H (Q:St->Hp->Prop),g v Z H Q->g v Z H λZ2 H2=>Q Z2 H2/\∀(i j:Nat),sub[i]?=some (some j)->Z2[i]?=Z[i]?
def Iw(sub:List (Option Nat))(g:uG):Prop:=∀v Z H (Q:St->Hp->Prop),g v Z H Q->g v Z H λZ2 H2=>Q Z2 H2/\∀(i j:Nat),sub[i]?=some (some j)->Z2[i]?=Z[i]?
def ztw(h:sub[i]?=some none):zK sub (zJ i):=λv Z H Q q=>by
 refine⟨q,λk j e=>?_⟩;have ne:i≠k:=λz=>by subst z;rw[h]at e;cases e
 rw[jG ne]
def zsw:Iw sub w6:=λ_ _ _ _ ⟨e,q⟩=>⟨e,q,λ_ _ _=>rfl⟩
def xW(g:TG):Prop:=∀v Z H (Q Q':St->Hp->Prop),(∀ Z2 H2,Q Z2 H2->Q' Z2 H2)->g v Z H Q->g v Z H Q'
def Ej(g:uG):Prop:=∀v Z H (Q Q':St->Hp->Prop),(∀ Z2 H2,Q Z2 H2->Q' Z2 H2)->g v Z H Q->g v Z H Q'
def ztu:xW (zJ i):=λ_ _ _ _ _ f q=>f _ _ q
def ztx:Ej w6:=λ_ _ _ _ _ f ⟨e,q⟩=>⟨e,f _ _ q⟩
def zpV(h1:xW t)(h2:Ej u):Ej (zqH t u):=λv Z H Q Q' f ⟨x,r,e,q⟩=>⟨x,r,e,h1 _ _ _ _ _ (λZ2 H2 z=>h2 _ _ _ _ _ f z) q⟩
def zpJ(h1:zK sub t)(m1:xW t)(h2:Iw sub u)(m2:Ej u):Iw sub (zqH t u):=λv Z H Q ⟨x,r,e,q⟩=>by
 refine⟨x,r,e,?_⟩;refine m1 _ _ _ _ _ (λZ2 H2 z=>?_) (h1 _ _ _ _ q);obtain⟨z,k⟩:=z;refine m2 _ _ _ _ _ (λZ3 H3 y=>?_) (h2 _ _ _ _ z);exact⟨y.1,λi j e=>(y.2 i j e).trans (k i j e)⟩
noncomputable def qM(X:Cx)(ifs:List Expr)(t:TT):Prop:=
 ∀(aa:List (Addr×Obj))(s:Shared)(Z:St)(H:Hp)(Q:Bool->Hp->Prop),Inv X aa Z H s->t Z H Q ->
  wpAny (model X.prog X.w) X.A (forIn ifs true λc r=>if r=true then do let ok <-isTrue c X.env (eval c X.env);pure (ForInStep.yield ok)else pure (ForInStep.yield r)) (TP X aa Z Q) X.xe s
def zvP:TT:=λ_ H Q=>Q true H
def pif0:qM X [] zvP:=λ_ _ _ H _ I h=>wpAny_tests_nil ⟨H,I,h⟩
def pif1(h:PT X c t):qM X [c] t:=λaa s Z H Q I q=>wpAny_tests_one (h aa s Z H Q I q)
noncomputable def zrx(g:TG)(tc:TT)(te:TE)(Zc:St)(l:Addr)(J:It)(H1:Hp)(Q:VK):Prop:=
 ∃W:Nat->Nat->List V->Hp->Prop,(∃m,W 0 m [] (upd H1 l (.lst [])))/\∀i m xs H2,W i m xs H2->H2 l=some (.lst xs) /\
  ((J.stop i H2/\Q (.ref l) H2)\/(J.go i H2/\∃N:List V->Hp->Prop,(∀xs' H',N xs' H'->∃m',m'<m/\W (i+1) m' xs' H') /\
   ∀x H',J.yld i H2 x H'->g x Zc H' λZ2 H3=>tc Z2 H3 λb H4=>if b=true then te Z2 H4 λy H5=>H5 l=some (.lst xs)/\xs.length<sizeLine/\N (xs++[y]) (upd H5 l (.lst (xs++[y])))else N xs H4))
def zlG(sub:List (Option Nat))(wi:TI)(g:TG)(tc:TT)(te:TE):TE:=λZ H Q=>wi Z H λJ H1=>∀l,H1 l=none->zrx g tc te (ph sub Z) l J H1 Q
section
variable{X:Cx}{aa:List (Addr×Obj)}{Z:St}{H:Hp}{s:Shared}{scope:Scope}{Nc:List Str}{sub:List (Option Nat)}{elt tg iter:Expr}{ifs:List Expr}{pos:Pos}{g:TG}{tc:TT}{te:TE}
def znk{cl:List (Str×Addr)}{fp:List Addr}{it:Addr}{J:It}{tn:Nat->Heap->Prop}(I:Inv X aa Z H s)(hS:bO X.N X.env.scope scope Nc sub)
  (hcl:∀x c,cl.lookup x=some c->X.env.cells.lookup x=some c) (hcl2:∀x,scope.names.lookup x=some .free->∃c,cl.lookup x=some c)
  (hf:∀b∈fp,iB X aa H b) (hlt:∀b∈fp,b<s.heap.objs.size):(g8 X Nc scope cl s.heap.objs.size s H fp).Ok where
 mod:=I.ok.mod
 kind:=hS.kind
 glob:=I.ok.glob
 blt:=I.ok.blt
 above:=dG _
 inj:=λx y c e1 e2=>I.ok.inj x y c (hcl x c e1) (hcl y c e2)
 has:=λx h=>hcl2 x (zd7 (env:=X.env) hS.nocell h)
 cab:=λx c h=>by cases h
 hd:=I.ok.hd
 frames:=I.ok.frames
 stk:=.inl rfl
 exf:=λb hb=>⟨fX (hlt b hb),λx c e=>(hf b hb).2.2.2.2.1 x c (hcl x c e)⟩
 bs:=I.bs
 bsz:=YAB I.ok.bsz I.sz
 noex:=λb o e hb=>by
  rcases(hf b hb).2.2.2.1 with z|z
  .exact I.ok.noex b o e z
  .exact absurd (jA (dB e) (YAB I.ok.bsz z)) (uO _)
 exfs:=λb hb hq=>by
  rcases iU.mp (I.stkSub b hq)with z|z
  .exact(hf b hb).2.1 z
  .exact(hf b hb).2.2.1 z
 funs:=I.stack
 frf:=I.stkFree
def zkq{cl:List (Str×Addr)}{fp:List Addr}{h1:Heap}{t':Nat}{m:Str->Option Value}(I:Inv X aa Z H s)(hS:bO X.N X.env.scope scope Nc sub)
  (hcl:∀x c,cl.lookup x=some c->X.env.cells.lookup x=some c) (hcl2:∀x,scope.names.lookup x=some .free->∃c,cl.lookup x=some c)
  (ok:(g8 X Nc scope cl s.heap.objs.size s H fp).Ok) (hn:h1.Ns s.heap.objs.size m) (hk:∀b o,s.heap.get? b=some o->h1.get? b=some o) :
  Inv (g8 X Nc scope cl s.heap.objs.size s H fp) [] (ph sub Z) H {s with heap:=h1,toks:=t'}where
 ok:=ok
 os:=rfl
 bare:=I.bare
 base:=Un.kept hk
 loc:=by
  refine⟨m,hn,λi x v e1 e2 _=>?_⟩;obtain⟨j,e3,e4⟩:=zjU e2;obtain⟨e5,e6⟩:=hS.vis i j x e1 e3;obtain⟨m',_,hl⟩:=I.loc;have hfr:X.env.kindOf x=some .cell\/X.env.kindOf x=some .free:=hS.frees (x,.free) (yZ e6) rfl;obtain⟨u,r,l⟩:=hl j x v e5 e4 (.inr hfr);refine⟨u,r,?_⟩;rcases l with⟨k,_⟩|⟨_,c,e,z⟩
  .rcases hfr with q|q
   .rw[k]at q;cases q
   .rw[k]at q;cases q
  .obtain⟨c',e'⟩:=hcl2 x e6
   have:=hcl x c' e'
   rw[e]at this;cases this;exact .inr ⟨zcN (env:=X.env) e6,c,e',z.keeps hk⟩
 cell:=λx c e=>by
  obtain⟨v,z⟩:=I.cell x c (hcl x c e);exact⟨v,z.keeps hk⟩
 free:=I.hok.fresh (dG _)
 freeC:=λx c e=>I.freeC x c (hcl x c e)
 pin:=λp hp=>absurd (show p∈([]:List (Addr×Obj))from hp) (by simp)
 hok:=I.hok.kept hk
 len:=(zju sub Z).trans hS.len
def zm7{cl:List (Str×Addr)}{fp:List Addr}{pinsC:List (Addr×Obj)}{Zc:St}{H':Hp}{s':Shared}(I:Inv X aa Z H s)(hf:∀b∈fp,iB X aa H b)
  (J:Inv (g8 X Nc scope cl s.heap.objs.size s H fp) pinsC Zc H' s'):Inv X aa Z H' s':=
 I.call' (ch:=fp) J.os J.base J.hok J.bare λb hb=>⟨(hf b hb).2.2.2.1,(hf b hb).2.1,(hf b hb).2.2.2.2.1,(hf b hb).2.2.2.2.2⟩
noncomputable def zmx(X:Cx)(tg:Expr)(J:It)(fp:List Addr)(it:Addr)(tn:Nat->Heap->Prop):Prop:=∀(i:Nat)(s:Shared)(Z:St)(H:Hp),Inv X [] Z H s->(∀b∈fp,iB X [] H b)->tn i s.heap ->
 (J.go i H->∀E,wpAny (model X.prog X.w) X.A (pyNext (.ref it)) (λr s1=>∃u,r=some u/\wpAny (model X.prog X.w) X.A (letOwnedTupleGo tg (.ref it) u) (λ_ s2=>∃x H',Inv X [] Z H' s2/\RelV x u/\J.yld i H x H'/\tn (i+1) s2.heap/\∀b∈fp,H' b=none) E s1) E s) /\
 (J.stop i H->∀E,wpAny (model X.prog X.w) X.A (pyNext (.ref it)) (λr s1=>r=none/\Inv X [] Z H s1) E s)
def Turn.at{P:Program}{w:World}{K:qo}{J:It}{fp:List Addr}{it:Addr}{tn:Nat->Heap->Prop}(T:Turn P w K tg J fp it tn)(h1:X.prog=P)(h2:X.w=w)(h3:X.K=K)(hc:X.calm=true):zmx X tg J fp it tn:=by
 subst h1 h2 h3;exact λi s Z H I hf st=>⟨λg E=>T.item X rfl rfl rfl hc i [] s Z H E I hf st g,λg E=>T.done X rfl rfl rfl hc i [] s Z H E I hf st g⟩
def zlN{cl:List (Str×Addr)}{fp:List Addr}{it:Addr}{J:It}{tn:Nat->Heap->Prop}{E:Value->Shared->Prop}{Q:VK}{RR:Value->Addr->Result->Shared->Prop}
  (I:Inv X aa Z H s) (hS:bO X.N X.env.scope scope Nc sub)
  (hcl:∀x c,cl.lookup x=some c->X.env.cells.lookup x=some c) (hcl2:∀x,scope.names.lookup x=some .free->∃c,cl.lookup x=some c)
  (hT:∀s0:Shared,(∀b o,s.heap.get? b=some o->s0.heap.get? b=some o)->zmx (g8 X Nc scope cl s0.heap.objs.size s0 (upd H s.heap.objs.size (.lst [])) fp) tg J fp it tn) (T:Turn X.prog X.w X.K tg J fp it tn) (st:tn 0 s.heap) (hf:∀b∈fp,iB X aa H b)
  (hg:∀cl L s0 H0 ex,PG (g8 X Nc scope cl L s0 H0 ex) tg g) (gk:zK sub g)
  (hi:∀cl L s0 H0 ex,qM (g8 X Nc scope cl L s0 H0 ex) ifs tc) (he:∀cl L s0 H0 ex,PE (g8 X Nc scope cl L s0 H0 ex) elt te)
  (gm:xW g) (q:∀l,H l=none->zrx g tc te (ph sub Z) l J H Q)
  (hRR:∀l C H' s' m,Inv X aa Z H' s'->Q (.ref l) H'->s'.heap.Ns C m->s.heap.objs.size<=C->H' C=none->RR (.ref l) C (.ok .next) s') :
  wpAny (model X.prog X.w) X.A (newList []) (λacc s₃=>wpAny (model X.prog X.w) X.A (newFunctionEnv scope X.env.globals cl [] X.env.qual none .none (some X.env)) (λcenv s₄=>
   codeAny (model X.prog X.w) X.A (.compStart (.ListComp elt [⟨tg,iter,ifs,0⟩] scope pos) 0 (.ref it) acc {cenv with scope:=relabel scope X.env}) (RR acc cenv.locals) s₄) E s₃) E s:=by
 have hlt:∀b∈fp,b<s.heap.objs.size:=λb hb=>let⟨o,e,_⟩:=T.obj _ _ st b hb;dB e
 have hl0:H s.heap.objs.size=none:=I.hok.fresh (dG _);obtain⟨W,⟨m0,w0⟩,turn⟩:=q s.heap.objs.size hl0;refine YAI ?_
 -- the list is laid
 have I3:Inv X aa Z (upd H s.heap.objs.size (.lst [])) {s with heap:=s.heap.push {cls:=.type "list",data:=.seq ([]:List Value).toArray},toks:=s.toks}:=I.lnew (its:=[]) .nil (v6 _);generalize hs3:({s with heap:=s.heap.push {cls:=.type "list",data:=.seq ([]:List Value).toArray},toks:=s.toks}:Shared)=s3 at I3;have e3:({s with heap:=s.heap.push {cls:=.type "list",data:=.seq ([]:List Value).toArray}}:Shared)=s3:=hs3;have k3:∀b o,s.heap.get? b=some o->s3.heap.get? b=some o:=λb o e=>by rw[<-hs3];exact dX _ e
 have z3:s.heap.objs.size<=s3.heap.objs.size:=by rw[<-hs3];show _<=(s.heap.push _).objs.size;rw[xm];exact Nat.le_succ _
 have f3:∀b∈fp,iB X aa (upd H s.heap.objs.size (.lst [])) b:=λb hb=>⟨by rw[au (fX (hlt b hb))];exact(hf b hb).1,(hf b hb).2⟩;have lt3:∀b∈fp,b<s3.heap.objs.size:=λb hb=>jA (hlt b hb) z3;have st3:tn 0 s3.heap:=T.keep _ _ _ st λb _ o e=>k3 b o e;refine wpAny_newFunctionEnv hS.nocell (by intro y hy;simp at hy) (λh₁ hns₁ hsb₁=>?_) hS.kind;have k4:∀b o,s3.heap.get? b=some o->h₁.get? b=some o:=λb o e=>hsb₁.extBut b o (fX (dB e)) (dX _ e);have ok4:=znk (J:=J) (it:=it) (tn:=tn) I3 hS hcl hcl2 f3 lt3;have I4:=zkq (t':=s3.toks+([]:List (Str×Value)).length) I3 hS hcl hcl2 ok4 hns₁ k4;have st4:tn 0 h₁:=T.keep _ _ _ st3 λb _ o e=>k4 b o e
 -- what stays true of the iterator's objects
 have stat:∀{H':Hp},(∀b∈fp,H' b=none)->∀b∈fp,iB (g8 X Nc scope cl s3.heap.objs.size s3 (upd H s.heap.objs.size (.lst [])) fp) [] H' b:=λhn b hb=>
  ⟨hn b hb,(ok4.exf b hb).1,ok4.exfs b hb,.inl hb,(ok4.exf b hb).2,λp hp=>absurd (show p∈([]:List (Addr×Obj))from hp) (by simp)⟩
 have loop:∀s₄:Shared,s₄={s3 with heap:=h₁,toks:=s3.toks+([]:List (Str×Value)).length} ->
   codeAny (model X.prog X.w) X.A (.compLoop (.ListComp elt [⟨tg,iter,ifs,0⟩] scope pos) 0 (.ref it) (.ref s.heap.objs.size) (compEnvC scope cl s3.heap.objs.size X.env)) (RR (.ref s.heap.objs.size) s3.heap.objs.size) s₄:=by
  rintro s₄ rfl;refine codeAny_loop rfl (λn s'=>∃i xs H',Inv (g8 X Nc scope cl s3.heap.objs.size s3 (upd H s.heap.objs.size (.lst [])) fp) [] (ph sub Z) H' s'/\tn i s'.heap/\(∀b∈fp,H' b=none)/\W i n xs H') ?_ m0
   ⟨0,[],_,I4,st4,λb hb=>(f3 b hb).1,w0⟩
  rintro n s5 ⟨i,xs,H5,I5,st5,fr5,w5⟩;show wpAny _ X.A ((compTurn (.ListComp elt [⟨tg,iter,ifs,0⟩] scope pos) 0 (.ref it) (.ref s.heap.objs.size) (compEnvC scope cl s3.heap.objs.size X.env)).onRaise (λx=>do noteFrame x (compEnvC scope cl s3.heap.objs.size X.env);theTreesLotGoes x)) _ _ s5;refine wpAny_noted ?_;rw[compTurn_list];refine aL (Gk (aL ?_));obtain⟨hl5,w5⟩:=turn i n xs H5 w5;rcases w5 with⟨stop,qn⟩|⟨go,N,hN,step⟩
  .refine bH ((hT s3 k3 i s5 (ph sub Z) H5 I5 (stat fr5) st5).2 stop _) λr s6 ⟨hr,I6⟩=>?_;subst hr;obtain⟨m6,hn6,_⟩:=I6.loc;exact bV (hRR _ _ H5 s6 m6 (zm7 I3 f3 I6) qn hn6 z3 I6.free)
  .refine bH ((hT s3 k3 i s5 (ph sub Z) H5 I5 (stat fr5) st5).1 go _) λr s6 ⟨u,hr,h6⟩=>?_;subst hr;refine aL (bH h6 λ_ s7 ⟨x,H7,I7,r7,y7,st7,fr7⟩=>?_);have I7':=I7.pinned (stat fr7) (T.obj _ _ st7);have again:∀{Z8:St}{H8:Hp}{ys:List V}{s8:Shared},Inv (g8 X Nc scope cl s3.heap.objs.size s3 (upd H s.heap.objs.size (.lst [])) fp) ([]++GC fp s7.heap) Z8 H8 s8->(∀(i j:Nat),sub[i]?=some (some j)->Z8[i]?=(ph sub Z)[i]?)->N ys H8 ->
     ∃m,m<n/\∃i xs H',Inv (g8 X Nc scope cl s3.heap.objs.size s3 (upd H s.heap.objs.size (.lst [])) fp) [] (ph sub Z) H' s8/\tn i s8.heap/\(∀b∈fp,H' b=none)/\W i m xs H':=λ{Z8 H8 ys s8} I8 k8 n8=>by
    obtain⟨m',hm,w8⟩:=hN ys H8 n8;refine⟨m',hm,i+1,ys,H8,?_,T.keep _ _ _ st7 λb hb o e=>(I8.pin (b,o) (rG _ (rG _ (zex hb e)))).1,λb hb=>?_,w8⟩
    .refine I8.unpinned.weak ?_ λk v e=>?_
     .rw[I8.len];exact(zju sub Z).trans hS.len
     .obtain⟨j,e1,_⟩:=zjU e;rw[k8 k j e1];exact e
    .obtain⟨o,e,d⟩:=T.obj _ _ st7 b hb;exact(I8.pin (b,o) (rG _ (rG _ (zex hb e)))).2.1
   refine aL (lD (hg cl _ s3 _ fp _ s7 (ph sub Z) H7 x u _ I7' r7 (gk _ _ _ _ (step x H7 y7))) (λ_ s8 ⟨Z8,H8,I8,q8,k8⟩=>?_) λ_ _ z=>False.elim z);refine aL (lD (hi cl _ s3 _ fp _ s8 Z8 H8 _ I8 q8) (λok s9 ⟨H9,I9,q9⟩=>?_) λ_ _ z=>False.elim z);cases ok with
   |false=>exact bV ⟨rfl,again I9 k8 q9⟩
   |true=>
    refine aL (aL (lD (he cl _ s3 _ fp _ s9 Z8 H9 _ I9 q9) (λxv s10 ⟨y,H10,I10,r10,kZ,hz,q10⟩=>?_) λ_ _ z=>False.elim z));refine aL (lD (zfB (X:=(g8 X Nc scope cl s3.heap.objs.size s3 (upd H s.heap.objs.size (.lst [])) fp)) _ s10 Z8 H10 (.ref s.heap.objs.size) [y] (.ref s.heap.objs.size) [xv] (λ_ H11=>N (xs++[y]) H11) I10 rfl (.cons r10 .nil) ⟨_,xs,y,rfl,rfl,kZ,hz,q10⟩) (λ_ s11 ⟨_,H11,I11,_,q11⟩=>?_) λ_ _ z=>False.elim z);exact bV (bV ⟨rfl,again I11 k8 q11⟩)
 exact codeAny_compStart_list (loop _ rfl) (T.self _ 0 _ _ _ st4 (loop _ rfl))
def zhJ(I:Inv X aa Z H s)(hS:bO X.N X.env.scope scope Nc sub):∀y∈scope.names,y.2=.free->∃c,X.env.cells.lookup y.1=some c:=λy hy e=>
 I.ok.has y.1 (hS.frees y hy e)
noncomputable def PIT(X:Cx)(Nc:List Str)(scope:Scope)(tg iter:Expr)(wi:TI):Prop:=
 ∀(aa:List (Addr×Obj))(s:Shared)(Z:St)(H:Hp)(R:It->Hp->Prop),Inv X aa Z H s->wi Z H R->wpAny (model X.prog X.w) X.A (eval iter X.env) (λv s1=>wpAny (model X.prog X.w) X.A (pyIter v) (λitv s2=>
  ∃(it:Addr)(fp:List Addr)(tn:Nat->Heap->Prop)(J:It)(H':Hp),itv=.ref it/\Inv X aa Z H' s2/\Turn X.prog X.w X.K tg J fp it tn/\tn 0 s2.heap/\(∀b∈fp,iB X aa H' b)/\R J H' /\
   ∀cl s0,(∀b o,s2.heap.get? b=some o->s0.heap.get? b=some o)->zmx (g8 X Nc scope cl s0.heap.objs.size s0 (upd H' s2.heap.objs.size (.lst [])) fp) tg J fp it tn) X.xe s1) X.xe s
def PI.t{wi:TI}(hc:X.calm=true)(h:PI X tg iter wi):PIT X Nc scope tg iter wi:=λaa s Z H R I q=>bH (h aa s Z H R I q) λv s1 h1=>bH h1 λitv s2 ⟨it,fp,tn,J,H',e,I2,T,st,f,r⟩=>⟨it,fp,tn,J,H',e,I2,T,st,f,r,λ_ _ _=>T.at rfl rfl rfl hc⟩
def zjj{wi:TI}(hS:bO X.N X.env.scope scope Nc sub)(hI:PIT X Nc scope tg iter wi)
  (hg:∀cl L s0 H0 ex,PG (g8 X Nc scope cl L s0 H0 ex) tg g) (gk:zK sub g) (gm:xW g)
  (hi:∀cl L s0 H0 ex,qM (g8 X Nc scope cl L s0 H0 ex) ifs tc) (he:∀cl L s0 H0 ex,PE (g8 X Nc scope cl L s0 H0 ex) elt te)
  (hs:∀x,foldedSetIterable iter X.env x=pure x:=by intro _;rfl):PE X (.ListComp elt [⟨tg,iter,ifs,0⟩] scope pos) (zlG sub wi g tc te):=by
 intro aa s Z H Q I h;obtain⟨cl,hcl0,hcl,hcl2⟩:=zeb (zhJ I hS);rw[eval_ListComp];refine wpAny_comprehension_free (use:=none) rfl hs hcl0 hS.kind hS.names ?_;refine bH (hI aa s Z H _ I h) λxv s1 h1=>bH h1 λitv s2 h2=>?_;obtain⟨it,fp,tn,J,H2,e,I2,T,st2,f2,q,hT⟩:=h2;subst e;refine zlN I2 hS hcl hcl2 (hT cl) T st2 f2 hg gk hi he gm q λl C H' s' m I' q' hn hC hfr=>?_;refine⟨m,hn,λh' sb=>?_⟩;have nL:C≠X.env.locals:=wy (jA I2.lt hC);refine⟨.ref l,H',?_,rfl,q'⟩;exact I'.turned (it:=C) (t':=s'.toks) (λb o hb e=>(sb.2 b hb).trans e) hfr nL (.inr (YAB I2.sz hC)) (λx c e z=>by
  obtain⟨v,w⟩:=I2.cell x c e;exact absurd (jA w.lt (by rw[z];exact hC)) (uO _)) λp hp z=>
  absurd (jA (dB (I2.pin p hp).1) (by rw[z];exact hC)) (uO _)
def zqI(hc:X.calm=true)(hS:bO X.N X.env.scope scope Nc sub)(hI:PI X tg iter wi)
  (hg:∀cl L s0 H0 ex,PG (g8 X Nc scope cl L s0 H0 ex) tg g) (gk:zK sub g) (gm:xW g)
  (hi:∀cl L s0 H0 ex,qM (g8 X Nc scope cl L s0 H0 ex) ifs tc) (he:∀cl L s0 H0 ex,PE (g8 X Nc scope cl L s0 H0 ex) elt te)
  (hs:∀x,foldedSetIterable iter X.env x=pure x:=by intro _;rfl):PE X (.ListComp elt [⟨tg,iter,ifs,0⟩] scope pos) (zlG sub wi g tc te):=zjj hS (hI.t hc) hg gk gm hi he hs
def znW(hc:X.calm=true)(hN:X.N.Nodup)(hiN:X.N[i]?=some y)(hy:X.env.scope.names.lookup y=some .local)(hS:bO X.N X.env.scope scope Nc sub)(hI:PI X tg iter wi)
  (hg:∀cl L s0 H0 ex,PG (g8 X Nc scope cl L s0 H0 ex) tg g) (gk:zK sub g) (gm:xW g)
  (hi:∀cl L s0 H0 ex,qM (g8 X Nc scope cl L s0 H0 ex) ifs tc) (he:∀cl L s0 H0 ex,PE (g8 X Nc scope cl L s0 H0 ex) elt te)
  (hsw:swapsWith (.ListComp elt [⟨tg,iter,ifs,0⟩] scope pos) (some (.Name y py)) spos.line X.env=pure true:=by rfl)
  (hs:∀x,foldedSetIterable iter X.env x=pure x:=by intro _;rfl):PS X (.Assign [.Name y py] (.ListComp elt [⟨tg,iter,ifs,0⟩] scope pos) spos) (tX (zlG sub wi g tc te) (zJ i)):=by
 intro aa s Z H D I h;obtain⟨cl,hcl0,hcl,hcl2⟩:=zeb (zhJ I hS);rw[exec_Assign_Name_used _ _ _ _ hsw];refine aL (Gk (aL ?_));show wpAny _ X.A (do let _ <-comprehension (.ListComp elt [⟨tg,iter,ifs,0⟩] scope pos) scope X.env _ (newList []) false (eval iter X.env) (some (assign (.Name y py) X.env))) _ _ s;refine aL (lD (wpAny_comprehension_free (use:=some (assign (.Name y py) X.env)) (Q:=λ_ s'=>SP X aa D .next s') rfl hs hcl0 hS.kind hS.names
  (bH (hI aa s Z H _ I h) λxv s1 h1=>bH h1 λitv s2 h2=>?_)) (λ_ s' hq=>bV (bV hq)) λ_ _ e=>e)
 obtain⟨it,fp,tn,J,H2,e,I2,T,st2,f2,q⟩:=h2;subst e;refine zlN I2 hS hcl hcl2 (λ_ _=>T.at rfl rfl rfl hc) T st2 f2 hg gk hi he gm q λl C H' s' m I' q' hn hC hfr=>?_;have nL:C≠X.env.locals:=wy (jA I2.lt hC);show wpAny _ X.A (assign (.Name y py) X.env (.ref l)) _ _ _;refine wpAny_assign_Name (zjb I' hN hiN (.inl hy) (v:=.ref l) rfl (λs6 I6 ⟨a,sb6,ha⟩=>?_) (.inr hy));have nA:C≠a:=λz=>by
  rcases ha with e|e
  .exact nL (z.trans e)
  .obtain⟨v,w⟩:=I2.cell y a e;exact absurd (jA w.lt (by rw[<-z];exact hC)) (uO _)
 refine⟨m,hn.sameBut sb6 nA,λh' sb=>?_⟩;refine⟨_,H',I6.turned (it:=C) (t':=s6.toks) (λb o hb e=>(sb.2 b hb).trans e) hfr nL (.inr (YAB I2.sz hC)) (λx c e z=>by
  obtain⟨v,w⟩:=I2.cell x c e;exact absurd (jA w.lt (by rw[z];exact hC)) (uO _)) (λp hp z=>
  absurd (jA (dB (I2.pin p hp).1) (by rw[z];exact hC)) (uO _)),q'⟩
end
end L2
namespace L2
open PySem PyProof.Rows
def zrK{M:Model}{A:Around}{E:Value->Shared->Prop}{s:Shared}{α:Type}{c:Prop}[Decidable c]{x y:Sem α}{Q:α->Shared->Prop}(hc:c)(h:wpAny M A x Q E s):wpAny M A (if c then x else y) Q E s:=by rw[if_pos hc];exact h
def Ar{M:Model}{A:Around}{E:Value->Shared->Prop}{s:Shared}{α:Type}{c:Prop}[Decidable c]{x y:Sem α}{Q:α->Shared->Prop}(hc:¬ c)(h:wpAny M A y Q E s):wpAny M A (if c then x else y) Q E s:=by rw[if_neg hc];exact h
end L2
namespace L2
open PySem PySem.Spec PyProof.Rows
section
variable{X:Cx}
inductive iZ(K:qo)(H:Hp):V->String->Bool->Prop
 |bl_bool (b):iZ K H (.bl b) "bool" true
 |bl_int (b):iZ K H (.bl b) "int" true
 |bl_list (b):iZ K H (.bl b) "list" false
 |bl_tuple (b):iZ K H (.bl b) "tuple" false
 |bl_str (b):iZ K H (.bl b) "str" false
 |int_bool (i):iZ K H (.int i) "bool" false
 |int_int (i):iZ K H (.int i) "int" true
 |int_list (i):iZ K H (.int i) "list" false
 |int_tuple (i):iZ K H (.int i) "tuple" false
 |int_str (i):iZ K H (.int i) "str" false
 |non_bool:iZ K H .non "bool" false
 |non_int:iZ K H .non "int" false
 |non_list:iZ K H .non "list" false
 |non_tuple:iZ K H .non "tuple" false
 |non_str:iZ K H .non "str" false
 |str_bool (i):iZ K H (.str i) "bool" false
 |str_int (i):iZ K H (.str i) "int" false
 |str_list (i):iZ K H (.str i) "list" false
 |str_tuple (i):iZ K H (.str i) "tuple" false
 |str_str (i):iZ K H (.str i) "str" true
 |list_bool (p xs):cz K H p xs->iZ K H (.ref p) "bool" false
 |list_int (p xs):cz K H p xs->iZ K H (.ref p) "int" false
 |list_list (p xs):cz K H p xs->iZ K H (.ref p) "list" true
 |list_tuple (p xs):cz K H p xs->iZ K H (.ref p) "tuple" false
 |list_str (p xs):cz K H p xs->iZ K H (.ref p) "str" false
 |tuple_bool (p xs):fY K H p xs->iZ K H (.ref p) "bool" false
 |tuple_int (p xs):fY K H p xs->iZ K H (.ref p) "int" false
 |tuple_list (p xs):fY K H p xs->iZ K H (.ref p) "list" false
 |tuple_tuple (p xs):fY K H p xs->iZ K H (.ref p) "tuple" true
 |tuple_str (p xs):fY K H p xs->iZ K H (.ref p) "str" false
def zqr:cY X (.builtin "isinstance") (λvs H Q=>∃x T b,vs=[x,.ty T]/\iZ X.K H x T b/\Q (.bl b) H):=by
 intro aa s Z H vs us Q I r h;obtain⟨x,T,b,rfl,hi,q⟩:=h;obtain⟨u,w',rfl,rx,ry⟩:=zsK r;cases ry;have f0:EP X aa Z Q (.bool b) s:=⟨.bl b,H,I,rfl,q⟩;have f1:EP X aa Z Q (.bool b) {s with toks:=s.toks+1}:=⟨.bl b,H,I.tok _,rfl,q⟩;cases hi with
 |bl_bool=>cases rx;exact IsiPair.bool_bool f0
 |bl_int=>cases rx;exact IsiPair.bool_int f0
 |bl_list=>cases rx;exact IsiPair.bool_list f1
 |bl_tuple=>cases rx;exact IsiPair.bool_tuple f1
 |bl_str=>cases rx;exact IsiPair.bool_str f1
 |int_bool=>obtain⟨t,rfl⟩:=rx;exact IsiPair.int_bool f1
 |int_int=>obtain⟨t,rfl⟩:=rx;exact IsiPair.int_int f0
 |int_list=>obtain⟨t,rfl⟩:=rx;exact IsiPair.int_list f1
 |int_tuple=>obtain⟨t,rfl⟩:=rx;exact IsiPair.int_tuple f1
 |int_str=>obtain⟨t,rfl⟩:=rx;exact IsiPair.int_str f1
 |non_bool=>cases rx;exact IsiPair.NoneType_bool f1
 |non_int=>cases rx;exact IsiPair.NoneType_int f1
 |non_list=>cases rx;exact IsiPair.NoneType_list f1
 |non_tuple=>cases rx;exact IsiPair.NoneType_tuple f1
 |non_str=>cases rx;exact IsiPair.NoneType_str f1
 |str_bool=>obtain⟨t,rfl⟩:=rx;exact IsiPair.str_bool f1
 |str_int=>obtain⟨t,rfl⟩:=rx;exact IsiPair.str_int f1
 |str_list=>obtain⟨t,rfl⟩:=rx;exact IsiPair.str_list f1
 |str_tuple=>obtain⟨t,rfl⟩:=rx;exact IsiPair.str_tuple f1
 |str_str=>obtain⟨t,rfl⟩:=rx;exact IsiPair.str_str f0
 |list_bool p xs h=>cases rx;obtain⟨_,_,⟨o,n,e,c,_⟩,_⟩:=I.list h;exact IsiPair.list_bool e c f1
 |list_int p xs h=>cases rx;obtain⟨_,_,⟨o,n,e,c,_⟩,_⟩:=I.list h;exact IsiPair.list_int e c f1
 |list_list p xs h=>cases rx;obtain⟨_,_,⟨o,n,e,c,_⟩,_⟩:=I.list h;exact IsiPair.list_list e c f0
 |list_tuple p xs h=>cases rx;obtain⟨_,_,⟨o,n,e,c,_⟩,_⟩:=I.list h;exact IsiPair.list_tuple e c f1
 |list_str p xs h=>cases rx;obtain⟨_,_,⟨o,n,e,c,_⟩,_⟩:=I.list h;exact IsiPair.list_str e c f1
 |tuple_bool p xs h=>cases rx;obtain⟨_,_,⟨o,e,c,_⟩,_⟩:=I.tuple h;exact IsiPair.tuple_bool e c f1
 |tuple_int p xs h=>cases rx;obtain⟨_,_,⟨o,e,c,_⟩,_⟩:=I.tuple h;exact IsiPair.tuple_int e c f1
 |tuple_list p xs h=>cases rx;obtain⟨_,_,⟨o,e,c,_⟩,_⟩:=I.tuple h;exact IsiPair.tuple_list e c f1
 |tuple_tuple p xs h=>cases rx;obtain⟨_,_,⟨o,e,c,_⟩,_⟩:=I.tuple h;exact IsiPair.tuple_tuple e c f0
 |tuple_str p xs h=>cases rx;obtain⟨_,_,⟨o,e,c,_⟩,_⟩:=I.tuple h;exact IsiPair.tuple_str e c f1
def zlY{bs:List Bool}:∀{us:List Value},Vals (bs.map V.bl) us->∀(i:Nat) v,us[i]?=some v->v=.bool (bs.getD i false):=by
 induction bs with
 |nil=>intro us r i v h;cases r;simp at h
 |cons b bs ih=>
  intro us r i v h;rw[d7]at r;cases r with
  |cons r1 r2=>
   cases i with
   |zero=>simp at h;subst h;exact r1
   |succ i=>simpa using ih r2 i v (by simpa using h)
def zoQ(bs:List Bool):((List.range bs.length).all λi=>bs.getD i false)=bs.all id:=by
 induction bs with
 |nil=>rfl
 |cons b bs ih=>
  rw[YAE,YCe,List.all_cons,List.all_map,List.all_cons,<-ih];rfl
def zoL(bs:List Bool):((List.range bs.length).any λi=>bs.getD i false)=bs.any id:=by
 induction bs with
 |nil=>rfl
 |cons b bs ih=>
  rw[YAE,YCe,Ax,List.any_map,Ax,<-ih];rfl
def zpg(hc:X.calm=true):cY X (.builtin "all") (λvs H Q=>∃(p:Addr)(bs:List Bool),vs=[.ref p]/\cz X.K H p (bs.map V.bl)/\Q (.bl (bs.all id)) H):=by
 intro aa s Z H vs us Q I r h;obtain⟨p,bs,rfl,hq,q⟩:=h;obtain⟨u,rfl,rx⟩:=qQ r;cases rx;obtain⟨its,r',pl,hz⟩:=I.list hq;have hlen:=r'.length;rw[b8]at hlen;have hp:p<s.heap.objs.size:=let⟨o,n,e,_⟩:=pl;dB e
 refine call_all_walk (FT pl.isList ?_);refine⟨s.heap.objs.size,_,[s.heap.objs.size],_,_,_,λi=>bs.getD i false,rfl,Walks.list (A:=X.A.in1) (I.ok.hd hc) _ p (fX hp) its.toArray,⟨⟨_,jD _ rfl,rfl,rfl⟩,pl.isList.push _⟩,λi v s' Q' E' hP hQ=>?_,λh' tk hk=>?_⟩
 .rw[zlY r' i v (by simpa using hP)];exact wj hQ
 .rw[ju,<-hlen,zoQ];exact⟨.bl _,H,I.kept λb o e=>hk b o (by simpa using fX (dB e)) (dX _ e),rfl,q⟩
def zoR(hc:X.calm=true):cY X (.builtin "any") (λvs H Q=>∃(p:Addr)(bs:List Bool),vs=[.ref p]/\cz X.K H p (bs.map V.bl)/\Q (.bl (bs.any id)) H):=by
 intro aa s Z H vs us Q I r h;obtain⟨p,bs,rfl,hq,q⟩:=h;obtain⟨u,rfl,rx⟩:=qQ r;cases rx;obtain⟨its,r',pl,hz⟩:=I.list hq;have hlen:=r'.length;rw[b8]at hlen;have hp:p<s.heap.objs.size:=let⟨o,n,e,_⟩:=pl;dB e
 refine call_any_walk (FT pl.isList ?_);refine⟨s.heap.objs.size,_,[s.heap.objs.size],_,_,_,λi=>bs.getD i false,rfl,Walks.list (A:=X.A.in1) (I.ok.hd hc) _ p (fX hp) its.toArray,⟨⟨_,jD _ rfl,rfl,rfl⟩,pl.isList.push _⟩,λi v s' Q' E' hP hQ=>?_,λh' tk hk=>?_⟩
 .rw[zlY r' i v (by simpa using hP)];exact wj hQ
 .rw[ju,<-hlen,zoL];exact⟨.bl _,H,I.kept λb o e=>hk b o (by simpa using fX (dB e)) (dX _ e),rfl,q⟩
def zvZ(i j:Int):Prop:=0<j/\j<2^64
def zlO:fZ X (binaryOp .FloorDiv) (rI zvZ λi j=>.int (i / j)):=GX λi j _ _ _ _ _ hc q=>by
 have hp:(0:Int)<j:=hc.1;have hl:j.natAbs.log2<9000:=by
  have h2:j<2^64:=hc.2;have h3:j.natAbs<2^64:=by omega
  have h4:j.natAbs.log2<64:=(Nat.log2_lt (by omega)).mpr h3;omega
 exact floordiv_int (by omega) (by rw[Int.fdiv_eq_ediv_of_nonneg i (by omega)];exact q) (.inl (PyProof.noPylong_of_log2 hl))
def zwi(K:qo):V->V->Hp->VK->Prop:=λx y H Q=>∃(p:Addr)(xs:List V)(j:Nat)(v:V),x=.ref p/\y=.int j/\cz K H p xs/\xs[j]?=some v/\Q v H
def zqz:Ib X (zwi X.K):=by
 intro aa s Z H o i ov iv Q I r1 r2 h;obtain⟨p,xs,j,v,rfl,rfl,hq,he,q⟩:=h;cases r1;obtain⟨t,rfl⟩:=r2;obtain⟨its,r,pl,hz⟩:=I.list hq;obtain⟨u,eu,ru⟩:=r.get he;have hj:j<xs.length:=(jC.mp he).1;have hn:=yU;exact wpAny_getItem_list pl.isList (by omega) (by omega) (by simpa using eu) ⟨v,H,I,ru,q⟩
end
section
variable{P:Program}{w:World}{A:Around}{E:Value->Shared->Prop}{s:Shared}
def zjQ(ht:s.heap.IsTupleIter it t i)(hl:s.heap.IsTuple t xs)(hx:xs[i]?=some x)
  (q:∀h',h'.IsTupleIter it t (i+1)->Heap.SameBut it s.heap h'->Q x {s with heap:=h'}):wpAny (model P w) A (Builtin.SmallTypes.nextOf (.ref it)) Q E s:=by
 obtain⟨o,e,c,d⟩:=id ht;obtain⟨ol,el,_,n,dl⟩:=hl;unfold Builtin.SmallTypes.nextOf;refine aL (YAH (name:=Str.ofString "__next__") ht.typeIs YBB (vJ YBB ht.typeIs F.entry_tuple_iterator_next ?_ (F.args_tuple_iterator_next_1 _)));show wpAny _ _ (field (.ref it) 0 >>= _) _ _ s;refine aL (YAF e d (x:=.ref t) rfl ?_);show wpAny _ _ (if (Value.ref t==Value.none)=true then _ else _) _ _ s;rw[if_neg (show ¬ ((Value.ref t==Value.none)=true)from zQ)];show wpAny _ _ (field (.ref it) 1 >>= _) _ _ s;refine aL (YAF e d (x:=.int i 0) rfl ?_);show wpAny _ _ (seqItems? (.ref t) >>= _) _ _ s;refine aL (wz el dl ?_);simp only[hx,Ht];refine aL (zO e d (by simp) (bV ⟨x,rfl,bV (q _ ⟨_,YAU _ e (YBU (Fj d _)),(YCj ..).trans c,by rw[Fj d];simp[rawInt]⟩ (YB1 ..))⟩))
def zjH(hh:A.handled=none)(ht:s.heap.IsTupleIter it t i)(hl:s.heap.IsTuple t xs)(hx:xs[i]?=none)
  (q:∀h' e,Heap.ExtBut it s.heap h'->(∃o,h'.get? e=some o/\o.cls=.type "StopIteration")->E (.ref e) {s with heap:=h'}):wpAny (model P w) A (Builtin.SmallTypes.nextOf (.ref it)) Q E s:=by
 obtain⟨o,e,c,d⟩:=id ht;obtain⟨ol,el,_,n,dl⟩:=hl;unfold Builtin.SmallTypes.nextOf;refine aL (YAH (name:=Str.ofString "__next__") ht.typeIs YBB (vJ YBB ht.typeIs F.entry_tuple_iterator_next ?_ (F.args_tuple_iterator_next_1 _)));show wpAny _ _ (field (.ref it) 0 >>= _) _ _ s;refine aL (YAF e d (x:=.ref t) rfl ?_);show wpAny _ _ (if (Value.ref t==Value.none)=true then _ else _) _ _ s;rw[if_neg (show ¬ ((Value.ref t==Value.none)=true)from zQ)];show wpAny _ _ (field (.ref it) 1 >>= _) _ _ s;refine aL (YAF e d (x:=.int i 0) rfl ?_);show wpAny _ _ (seqItems? (.ref t) >>= _) _ _ s;refine aL (wz el dl ?_);simp only[hx,Ht];refine aL (zW (aL (zO e d (by simp) ?_)));show wpAny _ _ (newExc (.type "StopIteration") [] >>= _) _ _ _;refine aL ?_;simp only[newTuple,newExc];refine aL (YAI (aL (m:=firstArgMember _ _) (wpAny_of_eq (a:=Value.none) (by first|rfl|(simp only[firstArgMember];rfl)) (YAI ?_ (by size_fits)))) (by size_fits));simp only[raiseNew];refine aL (wpAny_handled ?_);first|rw[show A.in1.handled=none from hh]|rw[hh]
 exact aL (bV (wpAny_throw (q _ _ (((YB1 ..).extBut.push _).push _) ⟨_,jD _ rfl,rfl⟩)))
end
def zly(hh:A.handled=none)(it t:Addr)(hne:t≠it)(xs:Array Value) :
  Draws P w A it [it,t] xs.size (λi v=>xs[i]?=some v) (λi h=>h.IsTupleIter it t i/\h.IsTuple t xs)where
 live:=λ_ _ st=>let⟨o,e,_⟩:=st.1;⟨o,e⟩
 frame:=λ_ _ _ st k=>⟨let⟨o,e,r⟩:=st.1;⟨o,k it (by simp) o e,r⟩,let⟨o,e,r⟩:=st.2;⟨o,k t (by simp) o e,r⟩⟩
 item:=λi s Q E hi st q=>zjQ st.1 st.2 (x:=xs[i]) (by simp[hi]) λh' a sb=>q _ h' s.toks (by simp[hi]) ⟨a,st.2.extBut sb.extBut hne⟩ sb
 done:=λs Q E st q=>zjH hh st.1 st.2 (by simp) q
structure yK(z a b i j:Addr)(f g:List Addr):Prop where
 az:a≠z
 bz:b≠z
 iz:i≠z
 jz:j≠z
 ab:a≠b
 ai:a≠i
 aj:a≠j
 bi:b≠i
 bj:b≠j
 ij:i≠j
 zf:z∉f
 bf:b∉f
 jf:j∉f
 zg:z∉g
 bg:b∉g
 ig:i∉g
section
variable{P:Program}{w:World}{A:Around}{E:Value->Shared->Prop}{s:Shared}{z a b i j:Addr}{f g:List Addr}{n m k:Nat}{F1 F2:Nat->Value->Prop}{S1 qj:Nat->Heap->Prop}
def uo{h h':Heap}{c:Addr}{l:List Addr}(sb:Heap.SameBut c h h')(hc:c∉l):∀b∈l,∀o,h.get? b=some o->h'.get? b=some o:=λb hb o e=>sb.extBut b o (λz=>hc (z▸hb)) e
def zji{u v:Value}{Q:Value->Shared->Prop}(qg:yK z a b i j f g)(D1:Draws P w A i f n F1 S1)(D2:Draws P w A j g m F2 qj)(hz:IsZip s.heap z a b .none)(ha:IsPair s.heap a (.ref i) (.ref j))(hb:IsPair s.heap b u v)
  (s1:S1 k s.heap) (s2:qj k s.heap) (k1:k<n) (k2:k<m)
  (q:∀x y h' tk t,F1 k x->F2 k y->t=s.heap.objs.size->IsZip h' z a b (rawInt t)->IsPair h' b x y->S1 (k+1) h'->qj (k+1) h'->IsPair h' t x y ->
   (∀c o,c≠z->c≠b->c≠i->c≠j->s.heap.get? c=some o->h'.get? c=some o)->Q (.ref t) {s with heap:=h',toks:=tk}) :
  wpAny (model P w) A (Builtin.«zip.__next__» ⟨[.ref z],[]⟩) (λfin s'=>∃v,fin=.done (.ret v)/\Q v s') E s:=by
 show wpAny _ _ (field (.ref z) 2 >>= _) _ _ _;refine aL (YAF hz rfl (x:=.bool false) rfl ?_);show wpAny _ _ (field (.ref z) 3 >>= _) _ _ _;refine aL (YAF hz rfl (x:=.ref a) rfl (aL (wz ha rfl ?_)));show wpAny _ _ (Builtin.SmallTypes.ownedTupleIsFree (.ref z) >>= _) _ _ _;refine aL ?_;unfold Builtin.SmallTypes.ownedTupleIsFree;refine aL (YAF hz rfl (x:=.none) rfl (bV ?_));simp only[uP];refine aL (zW (aL (YAF hz rfl (x:=.ref b) rfl (aL (Al hz (by simp) λh1 z1 e1=>?_)))))
 replace z1:IsZip h1 z a b .ellipsis:=z1
 refine aL ?_;simp only[YCX,YC4,YCG,YC9];refine aL (aL (JF ?_));show wpAny _ _ (Builtin.SmallTypes.nextOf (.ref i) >>= _) _ _ _;have t1:S1 k h1:=D1.frame _ _ _ s1 (uo e1 qg.zf);have t2:qj k h1:=D2.frame _ _ _ s2 (uo e1 qg.zg);refine aL (D1.item k _ _ _ k1 t1 λx h2 tk2 px u1 e2=>bV ?_);have b2:IsPair h2 b u v:=e2.extBut _ _ qg.bi (e1.extBut _ _ qg.bz hb);refine aL (wz b2 rfl (aL (YCw b2 λh3 b3 e3=>?_)))
 replace b3:IsPair h3 b x v:=b3
 refine aL (YDc (bV ?_));refine aL (aL (JF ?_));show wpAny _ _ (Builtin.SmallTypes.nextOf (.ref j) >>= _) _ _ _;have t3:qj k h3:=D2.frame _ _ _ (D2.frame _ _ _ t2 (uo e2 qg.ig)) (uo e3 qg.bg);refine aL (D2.item k _ _ _ k2 t3 λy h4 tk4 py u2 e4=>bV ?_);have b4:IsPair h4 b x v:=e4.extBut _ _ qg.bj b3;refine aL (wz b4 rfl (aL (YCw b4 λh5 b5 e5=>?_)))
 replace b5:IsPair h5 b x y:=b5
 refine aL (YDc (bV (bV (aL (wz b5 rfl (aL (wpAny_newTuple ?_)))))));have sz:h5.objs.size=s.heap.objs.size:=by rw[e5.1,e4.1,e3.1,e2.1,e1.1]
 have z5:IsZip h5 z a b .ellipsis:=e5.extBut _ _ qg.bz.symm (e4.extBut _ _ qg.jz.symm (e3.extBut _ _ qg.bz.symm (e2.extBut _ _ qg.iz.symm z1)));have k5:∀c o,c≠z->c≠b->c≠i->c≠j->s.heap.get? c=some o->h5.get? c=some o:=λc o c1 c2 c3 c4 e=>e5.extBut _ _ c2 (e4.extBut _ _ c4 (e3.extBut _ _ c2 (e2.extBut _ _ c3 (e1.extBut _ _ c1 e))));have v1:S1 (k+1) h5:=D1.frame _ _ _ (D1.frame _ _ _ (D1.frame _ _ _ u1 (uo e3 qg.bf)) (uo e4 qg.jf)) (uo e5 qg.bf);have v2:qj (k+1) h5:=D2.frame _ _ _ u2 (uo e5 qg.bg);have zl:z<h5.objs.size:=dB z5;show wpAny _ _ (Builtin.SmallTypes.ownedTupleHandOut (.ref z) (.ref h5.objs.size) >>= _) _ _ _;refine aL ?_;unfold Builtin.SmallTypes.ownedTupleHandOut;have z6:IsZip (h5.push {cls:=.type "tuple",data:=.seq #[x,y]}) z a b .ellipsis:=dX _ z5;refine aL (Al z6 (by simp) λh7 z7 e7=>?_)
 replace z7:IsZip h7 z a b (rawInt h5.objs.size):=z7
 refine Al z7 (by simp) λh8 z8 e8=>?_
 replace z8:IsZip h8 z a b (rawInt h5.objs.size):=z8
 have up:∀c o,c≠z->h5.get? c=some o->h8.get? c=some o:=λc o c1 e=>e8.extBut _ _ c1 (e7.extBut _ _ c1 (dX _ e));refine bV ⟨_,rfl,?_⟩;exact q x y h8 _ h5.objs.size px py sz z8 (up _ _ qg.bz b5) (D1.frame _ _ _ v1 λc hc o e=>up c o (λzz=>qg.zf (zz▸hc)) e) (D2.frame _ _ _ v2 λc hc o e=>up c o (λzz=>qg.zg (zz▸hc)) e)
  (e8.extBut _ _ (wy zl) (e7.extBut _ _ (wy zl) (jD _ rfl))) λc o c1 c2 c3 c4 e=>up c o c1 (k5 c o c1 c2 c3 c4 e)
def zjw{Q:Fin->Shared->Prop}(qg:yK z a b i j f g)(D1:Draws P w A i f n F1 S1)(hz:IsZip s.heap z a b .none)(ha:IsPair s.heap a (.ref i) (.ref j))(s1:S1 n s.heap)
  (q:∀h' e,(∀c o,c≠z->c≠b->c≠i->c≠j->s.heap.get? c=some o->h'.get? c=some o)->(∃o,h'.get? e=some o/\o.cls=.type "StopIteration")->E (.ref e) {s with heap:=h'}) :
  wpAny (model P w) A (Builtin.«zip.__next__» ⟨[.ref z],[]⟩) Q E s:=by
 show wpAny _ _ (field (.ref z) 2 >>= _) _ _ _;refine aL (YAF hz rfl (x:=.bool false) rfl ?_);show wpAny _ _ (field (.ref z) 3 >>= _) _ _ _;refine aL (YAF hz rfl (x:=.ref a) rfl (aL (wz ha rfl ?_)));show wpAny _ _ (Builtin.SmallTypes.ownedTupleIsFree (.ref z) >>= _) _ _ _;refine aL ?_;unfold Builtin.SmallTypes.ownedTupleIsFree;refine aL (YAF hz rfl (x:=.none) rfl (bV ?_));simp only[uP];refine aL (zW (aL (YAF hz rfl (x:=.ref b) rfl (aL (Al hz (by simp) λh1 z1 e1=>?_)))))
 replace z1:IsZip h1 z a b .ellipsis:=z1
 refine aL ?_;simp only[YCX,YC4,YCG,YC9];refine aL (aL (JF ?_));show wpAny _ _ (Builtin.SmallTypes.nextOf (.ref i) >>= _) _ _ _;refine aL (D1.done _ _ _ (D1.frame _ _ _ s1 (uo e1 qg.zf)) λh2 e e2 he=>?_);obtain⟨oe,ho,hc⟩:=he;have z2:IsZip h2 z a b .ellipsis:=e2 _ _ qg.iz.symm z1;have ez:e≠z:=λx=>by subst x;rw[z2]at ho;cases ho;simp at hc
 refine Al z2 (by simp) λh3 _ e3=>q h3 e (λc o c1 _ c3 _ x=>e3.extBut _ _ c1 (e2 _ _ c3 (e1.extBut _ _ c1 x))) ⟨oe,e3.extBut _ _ ez ho,hc⟩
def zhw{u v:Value}{Q:Option Value->Shared->Prop}(qg:yK z a b i j f g)(D1:Draws P w A.in1 i f n F1 S1)(D2:Draws P w A.in1 j g m F2 qj)(hz:IsZip s.heap z a b .none)(ha:IsPair s.heap a (.ref i) (.ref j))(hb:IsPair s.heap b u v)
  (s1:S1 k s.heap) (s2:qj k s.heap) (k1:k<n) (k2:k<m)
  (q:∀x y h' tk t,F1 k x->F2 k y->t=s.heap.objs.size->IsZip h' z a b (rawInt t)->IsPair h' b x y->S1 (k+1) h'->qj (k+1) h'->IsPair h' t x y ->
   (∀c o,c≠z->c≠b->c≠i->c≠j->s.heap.get? c=some o->h'.get? c=some o)->Q (some (.ref t)) {s with heap:=h',toks:=tk}):wpAny (model P w) A (pyNext (.ref z)) Q E s:=by
 have hT:s.TypeIs (.ref z) "zip":=⟨_,hz,rfl⟩;unfold pyNext;exact aL (zA (YAH (name:=Str.ofString "__next__") hT Dg (vJ Dg hT YCY
  (zji qg D1 D2 hz ha hb s1 s2 k1 k2 λx y h' tk t a1 a2 a3 a4 a5 a6 a7 a8 a9=>bV (q x y h' tk t a1 a2 a3 a4 a5 a6 a7 a8 a9)) (YCS _))))
def zg9(qg:yK z a b i j f g)(D1:Draws P w A.in1 i f n F1 S1)(hz:IsZip s.heap z a b .none)(ha:IsPair s.heap a (.ref i) (.ref j))(s1:S1 n s.heap)
  (q:∀h',(∀c o,c≠z->c≠b->c≠i->c≠j->s.heap.get? c=some o->h'.get? c=some o)->Q none {s with heap:=h'}):wpAny (model P w) A (pyNext (.ref z)) Q E s:=by
 have hT:s.TypeIs (.ref z) "zip":=⟨_,hz,rfl⟩;unfold pyNext;refine aL (zA (YAH (name:=Str.ofString "__next__") hT Dg (vJ Dg hT YCY (zjw qg D1 hz ha s1 λh' e hk he=>?_) (YCS _))));obtain⟨o,ho,hc⟩:=he;exact aL (JL (T:="StopIteration") (b:=true) ⟨o,ho,hc⟩ YCM (bV (q _ hk)))
end
section
variable{X:Cx}{aa:List (Addr×Obj)}{Z:St}{H:Hp}{s:Shared}{h':Heap}{ch:List Addr}{t':Nat}
def Inv.turnedLaid(I:Inv X aa Z H s)(k:∀b u,b∉ch->s.heap.get? b=some u->h'.get? b=some u)(hf:∀b∈ch,iB X aa H b)(hp:s.heap.objs.size<=a)(new:cu X.prog X.w (upd H a o) h' a o) :
  Inv X aa Z (upd H a o) {s with heap:=h',toks:=t'}:=by
 have hn:H a=none:=I.hok.fresh hp;have nch:∀b u,H b=some u->b∉ch:=λb u e z=>by rw[(hf b z).1]at e;cases e
 refine I.step (g':=s.gens) (d':=s.drawn) (ch:=ch) (λb hb=>⟨(hf b hb).2.2.2.1,(hf b hb).2.1,(hf b hb).2.2.2.2.1,(hf b hb).2.2.2.2.2⟩) (λb u _ _ hc e _=>k b u hc e) (λb u _ _ hc e _=>⟨u.slots,k b u hc e⟩)
  (λb u _ e n=>by rw[au (fX (jA (dB e) hp))];exact n) (λb u hc e=>⟨u,k b u hc e⟩) (λb xs e=>by rw[au (lO e hn)];exact e) (λb u xs e=>by rw[au (lO e hn)];exact e)
  (λb ps e=>⟨#[],by rw[au (lO e hn),e];simp⟩) (λm hm=>?_) (λb u e=>?_) I.bare
 .obtain⟨o,es,ep,ho,r⟩:=hm;exact⟨o,es,ep,k _ o (λz=>(hf _ z).2.1 rfl) ho,r⟩
 .by_cases hb:b=a
  .subst hb;rw[cJ]at e;cases e;exact new
  .rw[au hb]at e;refine(I.hok b u e).stay (λc v hc q=>k c v ?_ q) (λc q=>by rw[au (lO q hn)];exact q) λc xs q=>by rw[au (lO q hn)];exact q
   rcases hc with z|z
   .rw[z];exact nch b u e
   .exact nch c _ z
def Inv.turnedAll(I:Inv X aa Z H s)(k:∀b u,b∉ch->s.heap.get? b=some u->h'.get? b=some u)(hf:∀b∈ch,iB X aa H b):Inv X aa Z H {s with heap:=h',toks:=t'}:=by
 have nch:∀b u,H b=some u->b∉ch:=λb u e z=>by rw[(hf b z).1]at e;cases e
 refine I.step (g':=s.gens) (d':=s.drawn) (ch:=ch) (λb hb=>⟨(hf b hb).2.2.2.1,(hf b hb).2.1,(hf b hb).2.2.2.2.1,(hf b hb).2.2.2.2.2⟩) (λb u _ _ hc e _=>k b u hc e) (λb u _ _ hc e _=>⟨u.slots,k b u hc e⟩)
  (λ_ _ _ _ n=>n) (λb u hc e=>⟨u,k b u hc e⟩) (λ_ _ e=>e) (λ_ _ _ e=>e) (λb ps e=>⟨#[],by rw[e];simp⟩) (λm hm=>?_) (λb u e=>?_) I.bare
 .obtain⟨o,es,ep,ho,r⟩:=hm;exact⟨o,es,ep,k _ o (λz=>(hf _ z).2.1 rfl) ho,r⟩
 .refine(I.hok b u e).stay (λc v hc q=>k c v ?_ q) (λ_ q=>q) λ_ _ q=>q;rcases hc with z|z
  .rw[z];exact nch b u e
  .exact nch c _ z
end
def yW(tp:Bool)(h:Heap)(it l:Addr)(k:Nat):Prop:=match tp with|true=>h.IsTupleIter it l k|false=>h.IsListIter it l k
def qP(tp:Bool)(h:Heap)(l:Addr)(xs:Array Value):Prop:=match tp with|true=>h.IsTuple l xs|false=>h.IsList l xs
def SQ(tp:Bool)(K:qo)(H:Hp)(a:Addr)(xs:List V):Prop:=match tp with|true=>fY K H a xs|false=>cz K H a xs
def yW.obj(x:yW tp h it l k):∃o,h.get? it=some o/\∀v,o.data≠.cell v:=by
 cases tp<;>(obtain⟨o,e,c,d⟩:=x;exact⟨o,e,λv z=>by rw[d]at z;cases z⟩)
def yW.keep(x:yW tp h it l k)(q:∀o,h.get? it=some o->h'.get? it=some o):yW tp h' it l k:=by
 cases tp<;>(obtain⟨o,e,r⟩:=x;exact⟨o,q o e,r⟩)
def qP.lt(x:qP tp h l xs):l<h.objs.size:=by
 cases tp<;>(obtain⟨o,e,_⟩:=x;exact dB e)
def Im(tp:Bool)(hh:A.handled=none)(it l:Addr)(hne:l≠it)(xs:Array Value) :
  Draws P w A it [it,l] xs.size (λi v=>xs[i]?=some v) (λi h=>yW tp h it l i/\qP tp h l xs):=by
 cases tp
 .exact Draws.list hh it l hne xs
 .exact zly hh it l hne xs
section
variable{X:Cx}{aa:List (Addr×Obj)}{Z:St}{H:Hp}{s:Shared}{tp:Bool}{a:Addr}{xs ys:List V}
def Inv.sq(I:Inv X aa Z H s)(h:SQ tp X.K H a xs):∃its:List Value,Vals xs its/\qP tp s.heap a its.toArray/\xs.length<=sizeLine:=by
 cases tp
 .obtain⟨its,r,p,z⟩:=I.list h;exact⟨its,r,p.isList,z⟩
 .exact I.tuple h
def Inv.sq_inj(I:Inv X aa Z H s)(h:SQ tp X.K H a xs)(h':SQ tp X.K H a ys):xs=ys:=by
 cases tp
 .exact I.list_inj h h'
 .exact I.tuple_inj h h'
end
def zvy(n l m:Nat)(h1:l<n)(h2:m<n):yK (n+4) (n+2) (n+3) n (n+1) [n,l] [n+1,m]:=by
 have e:∀{p q:Nat},p≠q->∀{r:Nat},p≠r->p∉[q,r]:=λ{p q} h {r} h' z=>by
  rcases iU.mp z with z|z
  .exact h z
  .exact h' (lC.mp z)
 have r:∀{p q:Nat},p<q\/q<p->(p:Addr)≠q:=λh=>h.elim fX λh=>(fX h).symm;exact⟨r (by omega),r (by omega),r (by omega),r (by omega),r (by omega),r (by omega),r (by omega),r (by omega),r (by omega),r (by omega),e (r (by omega)) (r (by omega)),e (r (by omega)) (r (by omega)),e (r (by omega)) (r (by omega)),e (r (by omega)) (r (by omega)),e (r (by omega)) (r (by omega)),e (r (by omega)) (r (by omega))⟩
theorem zfj:∀(more:List (Key×V))(kvs:List (Key×V)),(∀k∈more.map (·.1),k∉kvs.map (·.1))->(more.map (·.1)).Nodup->zF kvs more=kvs++more
 |[],kvs,_,_=>by unfold zF;simp
 |x::more,kvs,h,hn=>by
  rw[d7,wG]at hn;have hx:eU kvs x.1=none:=by
   cases e:eU kvs x.1 with
   |none=>rfl
   |some v=>exact absurd (zr2 e) (h x.1 (by simp))
  show zF (putK kvs x.1 x.2) more=_;rw[zqx _ hx,zfj more _ (λk hk q=>?_) hn.2,YCi]
  .rfl
  .rw[qT]at q;rcases YAJ.mp q with q|q
   .exact h k (by rw[d7];exact kj _ hk) q
   .have:k=x.1:=by simpa using q
    exact hn.1 (this▸hk)
section
variable{X:Cx}{aa:List (Addr×Obj)}{Z:St}{H:Hp}{s:Shared}
def Inv.freeze(I:Inv X aa Z H s)(hd:H d=some (.dK kvs))(ho:s.heap.get? d=some o):Inv X aa Z (upd H d (.jl o (.dK kvs))) s:=by
 have nd:∀b u,H b=some u->(∀q,u≠.dK q)->b≠d:=λb u e n z=>by rw[z,hd]at e;cases e;exact n _ rfl
 refine I.step (g':=s.gens) (d':=s.drawn) (t':=s.toks) (h':=s.heap) (ch:=[]) (λ_ z=>nomatch z) (λb u _ _ _ e _=>e) (λb u _ _ _ e _=>⟨u.slots,e⟩)
  (λb u _ e n=>by rw[au (λz=>by rw[z,hd]at n;cases n)];exact n) (λb u _ e=>⟨u,e⟩) (λb xs e=>by rw[au (nd b _ e (λq z=>by cases z))];exact e) (λb u xs e=>by rw[au (nd b _ e (λq z=>by cases z))];exact e)
  (λb ps e=>⟨#[],by rw[au (nd b _ e (λq z=>by cases z)),e];simp⟩) (λm hm=>hm) (λb u e=>?_) I.bare
 have st:∀c w,H c=some w->cu X.prog X.w (upd H d (.jl o (.dK kvs))) s.heap c w:=λc w q=>
  (I.hok c w q).stay (λ_ _ _ z=>z) (λc' q'=>by rw[au (nd c' _ q' (λq z=>by cases z))];exact q') λc' xs q'=>by rw[au (nd c' _ q' (λq z=>by cases z))];exact q'
 by_cases hb:b=d
 .subst hb;rw[cJ]at e;cases e;exact⟨ho,st b _ hd⟩
 .rw[au hb]at e;exact st b u e
end
theorem zjD{α β:Type}{F:α->β->Prop}:∀{l₁:List α}{l₂:List β},Paired F l₁ l₂->∀{i:Nat}{a:α}{b:β},l₁[i]?=some a->l₂[i]?=some b->F a b
 |_,_,.nil,i,a,b,h,_=>by simp at h
 |_,_,.cons r t,0,a,b,h1,h2=>by simp at h1 h2;subst h1 h2;exact r
 |_,_,.cons r t,i+1,a,b,h1,h2=>zjD t (by simpa using h1) (by simpa using h2)
def zuk(h:CK k u=true):RelV (kV k) u:=by
 rcases ww h with⟨i,t,rfl,rfl⟩|⟨x,t,rfl,rfl⟩
 .exact⟨t,rfl⟩
 .exact⟨t,rfl⟩
def zib:splitId "dict.__len__"=some ("dict","__len__"):=by decide +kernel
end L2
namespace HT
open PySem PySem.Spec PyProof.Rows
section
variable{prog:Program}{w:World}{A:Around}{E:Value->Shared->Prop}{s:Shared}
def iK{t sl:Addr}{items:Array Value}{vl vu:Value}{lo hi:Option Int}{Q:Value->Shared->Prop}(ht:IsTup s.heap t items)(hs:s.heap.IsSliceOf sl vl vu .none)(pl:IsPart vl lo)(pu:IsPart vu hi)
  (hw:cg items.size 0 lo=0/\cg items.size items.size hi=items.size)
  (h:Q (.ref t) s):wpAny (model prog w) A (getItem (.ref t) (.ref sl)) Q E s:=by
 obtain⟨os,hos,hcs,hds⟩:=id hs;have hTs:s.TypeIs (.ref sl) "slice":=⟨os,hos,hcs⟩;unfold getItem
 try with_reducible refine qx ?_
 first|refine aL (bV ?_)|skip
 refine aL (wpAny_sequenceKey ht.typeIs (by decide) ?_);refine aL (YAH (name:=Str.ofString "__getitem__") ht.typeIs YAT
  (vJ YAT ht.typeIs entry_tuple_getitem ?_ (args_tuple_getitem _ _)))
 show wpAny _ _ (Builtin.Tuple.tupleItemsOf (.ref t) >>= _) _ _ s;refine aL (tupleItemsOf_ ht ?_);refine aL (HX hTs ?_);rw[if_pos (by decide)];refine aL (zd0 hs pl pu ?_);have hyes:((((cg items.size 0 lo:Nat):Int)==0&&(1:Int)==1&&(cg items.size items.size hi-cg items.size 0 lo)==items.size)=true):=by
  rw[hw.1,hw.2];simp
 show wpAny _ _ (if (((cg items.size 0 lo:Nat):Int)==0&&(1:Int)==1&&(cg items.size items.size hi-cg items.size 0 lo)==items.size)=true then _ else _) _ _ s;rw[if_pos hyes];unfold Builtin.Tuple.tupleIsExact;refine aL (aL (HX ht.typeIs (bV ?_)));rw[if_pos (by decide)];refine aL (zW ?_);exact bV ⟨_,rfl,bV h⟩
end
end HT
namespace L2
open PySem PySem.Spec PyProof.Rows
section
variable{prog:Program}{w:World}{A:Around}{E:Value->Shared->Prop}{s:Shared}
theorem zje(hne:t≠it):∀(n i:Nat)(s:Shared)(Q:List Value->Shared->Prop),s.heap.IsListIter it t i->s.heap.IsList t items->i+n<=items.size ->
  (∀h',h'.IsListIter it t (i+n)->Heap.SameBut it s.heap h'->Q ((items.toList.drop i).take n) {s with heap:=h'})->wpAny (model prog w) A (draw (.ref it) n) Q E s
 |0,i,s,Q,hit,_,_,hQ=>by
  show wpAny _ _ (pure []) Q E s;exact bV (by simpa using hQ s.heap hit (Heap.SameBut.refl ..))
 |n+1,i,s,Q,hit,ht,hle,hQ=>by
  have hlt:i<items.size:=by omega
  show wpAny _ _ (pyNext (.ref it) >>= _) Q E s;refine aL (wpAny_pyNext_list_item hit ht (x:=items[i]) (by simp[hlt]) λh₁ hit₁ hs₁=>?_);refine aL (qx (zje hne n (i+1) _ _ hit₁ (ht.extBut hs₁.extBut hne) (by omega) λh₂ hit₂ hs₂=>bV ?_));have hd:items.toList.drop i=items[i]::items.toList.drop (i+1):=by simp[YBJ,hlt]
  have:=hQ h₂ (by rw[show i+(n+1)=i+1+n by omega];exact hit₂) (hs₁.trans hs₂)
  rw[hd,List.take_succ_cons]at this;exact this
def zgi(hh:A.handled=none)(ht:s.heap.IsList t items)
  (hQ:∀h',Heap.ExtBut s.heap.objs.size s.heap h'->Q items.toList {s with heap:=h'}):wpAny (model prog w) A (unpackItems (.ref t) items.size none) Q E s:=by
 have hlt:t≠s.heap.objs.size:=by obtain⟨o,ho,_⟩:=ht;exact fX (dB ho)
 unfold unpackItems;refine aL ?_
 .unfold notIterableAtAll;refine aL (YC3 ht.typeIs slot_list_iter.lookup ?_);refine bV ?_;simp only[BJ,uM];refine aL (qx (FT ht ?_));have ht0:=ht.push {cls:=.type "list_iterator",data:=.fields #[.ref t,.int 0 0]};refine aL (qx (zje hlt items.size 0 _ _ ⟨_,jD _ rfl,rfl,rfl⟩ ht0 (by omega) λh₁ hit₁ hs₁=>?_));have hall:List.take items.size (List.drop 0 items.toList)=items.toList:=by
   rw[List.drop_zero];exact YBQ (by simp)
  rw[hall];rw[if_neg (by simp)];have ht₁:h₁.IsList t items:=ht0.extBut hs₁.extBut hlt;refine aL (qx (wpAny_pyNext_list_end hh hit₁ ht₁ (by simp) λh₂ he₂=>?_));simp only[Option.isSome_none,BJ,uM];refine bV (hQ h₂ λb o hb e=>he₂ b o hb (hs₁.extBut b o hb (dX _ e)))
def zfR{x1}(hh:A.handled=none)(ht:s.heap.IsList t items)
  (hn:(assignEach elts env).length=items.size) (hstar:(assignEach elts env).findIdx? (·.1)=none)
  (h:∀h',Heap.ExtBut s.heap.objs.size s.heap h'->wpAny (model prog w) A (assignInOrder ((assignEach elts env).map (·.2)) items.toList) Q E {s with heap:=h'}) :
  wpAny (model prog w) A (assign (.Tuple elts x1 pos) env (.ref t)) Q E s:=by
 rw[assign_Tuple];refine aL (Gk ?_);unfold unpack;rw[hn,hstar];exact aL (qx (zgi hh ht h))
end
def yq(K:qo)(n:Nat)(t:uG):TG:=λv Z H Q=>∃a xs,v=.ref a/\(fY K H a xs\/cz K H a xs)/\xs.length=n/\t xs Z H Q
def pI(hc:X.calm=true)(h:G6 X es t)
  (hn:(assignEach es X.env).length=n:=by rfl) (hst:(assignEach es X.env).findIdx? (·.1)=none:=by rfl):PG X (.Tuple es k pos) (yq X.K n t):=by
 intro aa s Z H v u Q I r hw;obtain⟨a,xs,e1,hq,hl,hw⟩:=hw;rcases hq with hq|hq
 .exact ztS hc h hn hst aa s Z H v u Q I r ⟨a,xs,e1,hq,hl,hw⟩
 .subst e1;cases r;obtain⟨its,rv,ht,hz⟩:=I.list hq;refine zfR (I.ok.hd hc) ht.isList (by simp[hn,<-hl,rv.length]) hst λh' hx=>?_;have I1:Inv X aa Z H {s with heap:=h'}:=I.kept (t':=s.toks) λb o e=>hx b o (fX (dB e)) e;exact h aa _ Z H xs _ Q I1 (by simpa using rv) hw
def zuz{K:qo}{n:Nat}{t:uG}(h:Ej t):xW (yq K n t):=λv Z H Q Q' f ⟨a,xs,e,s,l,q⟩=>⟨a,xs,e,s,l,h _ _ _ _ _ f q⟩
def zvc{K:qo}{sub:List (Option Nat)}{n:Nat}{t:uG}(h:Iw sub t):zK sub (yq K n t):=λv Z H Q ⟨a,xs,e,s,l,q⟩=>⟨a,xs,e,s,l,h _ _ _ _ q⟩
section
variable{P:Program}{w:World}{A:Around}{E:Value->Shared->Prop}{s:Shared}{z a b i j:Addr}{f g:List Addr}{n m k:Nat}{F1 F2:Nat->Value->Prop}{S1 qj:Nat->Heap->Prop}
def zi8(qg:yK z a b i j f g)(D1:Draws P w A i f n F1 S1)(D2:Draws P w A j g m F2 qj)(hz:IsZip s.heap z a b .none)(ha:IsPair s.heap a (.ref i) (.ref j))(hb:IsPair s.heap b u v)
  (s1:S1 m s.heap) (s2:qj m s.heap) (k1:m<n)
  (q:∀h' tk e,(∀c o,c≠z->c≠b->c≠i->c≠j->s.heap.get? c=some o->h'.get? c=some o)->(∃o,h'.get? e=some o/\o.cls=.type "StopIteration")->E (.ref e) {s with heap:=h',toks:=tk}) :
  wpAny (model P w) A (Builtin.«zip.__next__» ⟨[.ref z],[]⟩) Q E s:=by
 show wpAny _ _ (field (.ref z) 2 >>= _) _ _ _;refine aL (YAF hz rfl (x:=.bool false) rfl ?_);show wpAny _ _ (field (.ref z) 3 >>= _) _ _ _;refine aL (YAF hz rfl (x:=.ref a) rfl (aL (wz ha rfl ?_)));show wpAny _ _ (Builtin.SmallTypes.ownedTupleIsFree (.ref z) >>= _) _ _ _;refine aL ?_;unfold Builtin.SmallTypes.ownedTupleIsFree;refine aL (YAF hz rfl (x:=.none) rfl (bV ?_));simp only[uP];refine aL (zW (aL (YAF hz rfl (x:=.ref b) rfl (aL (Al hz (by simp) λh1 z1 e1=>?_)))))
 replace z1:IsZip h1 z a b .ellipsis:=z1
 refine aL ?_;simp only[YCX,YC4,YCG,YC9];refine aL (aL (JF ?_));show wpAny _ _ (Builtin.SmallTypes.nextOf (.ref i) >>= _) _ _ _;have t1:S1 m h1:=D1.frame _ _ _ s1 (uo e1 qg.zf);have t2:qj m h1:=D2.frame _ _ _ s2 (uo e1 qg.zg);refine aL (D1.item m _ _ _ k1 t1 λx h2 tk2 px u1 e2=>bV ?_);have b2:IsPair h2 b u v:=e2.extBut _ _ qg.bi (e1.extBut _ _ qg.bz hb);refine aL (wz b2 rfl (aL (YCw b2 λh3 b3 e3=>?_)))
 replace b3:IsPair h3 b x v:=b3
 refine aL (YDc (bV ?_));refine aL (aL (JF ?_));show wpAny _ _ (Builtin.SmallTypes.nextOf (.ref j) >>= _) _ _ _;have t3:qj m h3:=D2.frame _ _ _ (D2.frame _ _ _ t2 (uo e2 qg.ig)) (uo e3 qg.bg);refine aL (D2.done _ _ _ t3 λh4 e e4 he=>?_);obtain⟨oe,ho,hc⟩:=he;have z3:IsZip h3 z a b .ellipsis:=e3.extBut _ _ qg.bz.symm (e2.extBut _ _ qg.iz.symm z1);have z4:IsZip h4 z a b .ellipsis:=e4 _ _ qg.jz.symm z3;have ez:e≠z:=λx=>by subst x;rw[z4]at ho;cases ho;simp at hc
 refine Al z4 (by simp) λh5 _ e5=>q h5 tk2 e (λc o c1 c2 c3 c4 x=>e5.extBut _ _ c1 (e4 _ _ c4 (e3.extBut _ _ c2 (e2.extBut _ _ c3 (e1.extBut _ _ c1 x))))) ⟨oe,e5.extBut _ _ ez ho,hc⟩
def zgg(qg:yK z a b i j f g)(D1:Draws P w A.in1 i f n F1 S1)(D2:Draws P w A.in1 j g m F2 qj)(hz:IsZip s.heap z a b .none)(ha:IsPair s.heap a (.ref i) (.ref j))(hb:IsPair s.heap b u v)(s1:S1 m s.heap)(s2:qj m s.heap)(k1:m<n)
  (q:∀h' tk,(∀c o,c≠z->c≠b->c≠i->c≠j->s.heap.get? c=some o->h'.get? c=some o)->Q none {s with heap:=h',toks:=tk}):wpAny (model P w) A (pyNext (.ref z)) Q E s:=by
 have hT:s.TypeIs (.ref z) "zip":=⟨_,hz,rfl⟩;unfold pyNext;refine aL (zA (YAH (name:=Str.ofString "__next__") hT Dg (vJ Dg hT YCY (zi8 qg D1 D2 hz ha hb s1 s2 k1 λh' tk e hk he=>?_) (YCS _))));obtain⟨o,ho,hc⟩:=he;exact aL (JL (T:="StopIteration") (b:=true) ⟨o,ho,hc⟩ YCM (bV (q _ _ hk)))
end
section
variable{X:Cx}
def ztM(K:qo):R2:=λx y H Q=>∃a b xs ys,x=.ref a/\y=.ref b/\fY K H a xs/\fY K H b ys/\xs.length+ys.length<=sizeLine /\
 (xs=[]->Q (.ref b) H)/\(xs≠[]->ys=[]->Q (.ref a) H)/\(∀p,H p=none->Q (.ref p) (upd H p (.tup (xs++ys))))
def zsh:fZ X (binaryOp .Add) (ztM X.K):=by
 intro aa s Z H x y v u Q I rx ry h;obtain⟨a,b,xs,ys,rfl,rfl,ha,hb,hz,q1,q2,q3⟩:=h;by_cases hx:xs=[]
 .subst hx;cases rx;cases ry;obtain⟨its,r1,p1,_⟩:=I.tuple ha;obtain⟨its2,r2,p2,_⟩:=I.tuple hb;obtain⟨⟨cls,dd,data,sl⟩,ho,hc,n,hd⟩:=id p1;obtain⟨⟨cls2,dd2,data2,sl2⟩,ho2,hc2,n2,hd2⟩:=id p2;simp only at hc hd hc2 hd2;subst hc hd hc2 hd2;have hi:its=[]:=r1.nil_iff.mpr rfl;exact concat_meets ⟨_,ho,rfl⟩ ⟨_,ho2,rfl⟩ YCW seq_tuple_add YCd YB6 (YB2 _ _)
   (tuple_addW0 a b its.toArray its2.toArray n n2 dd dd2 sl sl2 (by simp[hi])) ⟨ho,ho2,⟨.ref b,H,I,rfl,q1 rfl⟩⟩
 .exact zs1 aa s Z H (.ref a) (.ref b) v u Q I rx ry ⟨a,b,xs,ys,rfl,rfl,ha,hb,hx,hz,q2 hx,λ_ p hp=>q3 p hp⟩
def rSl3(K:qo):V->Option Int->Option Int->Hp->VK->Prop:=λx lo hi H Q=>∃a xs,x=.ref a/\fY K H a xs/\(jK xs lo hi=xs->Q (.ref a) H)/\∀p,H p=none->Q (.ref p) (upd H p (.tup (jK xs lo hi)))
def ztA:yG X (rSl3 X.K):=by
 intro aa s Z H x v vl vu lo hi sl Q I rx hs pl pu h;obtain⟨a,xs,rfl,hx,q1,q2⟩:=h;by_cases hw:HT.cg xs.length 0 lo=0/\HT.cg xs.length xs.length hi=xs.length
 .cases rx;obtain⟨its,r,ht,hz⟩:=I.tuple hx;have hlen:its.toArray.size=xs.length:=by rw[ju];exact r.length.symm
  refine⟨"tuple",_,YAT.lookup,ht.typeIs,?_⟩;refine HT.iK ht hs pl pu (by rw[hlen];exact hw) ?_;refine⟨.ref a,H,I,rfl,q1 ?_⟩;unfold jK;rw[hw.1,hw.2];simp
 .exact zuS aa s Z H (.ref a) v vl vu lo hi sl Q I rx hs pl pu ⟨a,xs,rfl,hx,hw,q2⟩
end
end L2
namespace Fd
open PySem L2
inductive D where
 |non|bl (b:Bool)|int (i:Int)|str (x:Str)|tup (xs:List D)|lst (n:Bool) (xs:List D)|box|dct (n:Bool) (ks:List Str) (xs:List D)|obj (a:Addr)|fdc (ks:List Str) (xs:List D)
def dD(ks:List Str)(vs:List V):List (Key×V):=(ks.zip vs).map λp=>(Sum.inr p.1,p.2)
structure Bk where
 K:qo
 β:Addr
 H0:Hp
 G0:Hp
 P:Prop
mutual
def Rep(c:Bk)(G:Hp):D->V->Prop
 |.non,v=>v=.non
 |.bl b,v=>v=.bl b
 |.int i,v=>v=.int i
 |.str x,v=>v=.str x
 |.tup xs,v=>∃a vs,v=.ref a/\fY c.K G a vs/\aH c G xs vs
 |.lst n xs,v=>∃a vs,v=.ref a/\G a=some (.lst vs)/\(n=true->c.H0 a=none)/\aH c G xs vs
 |.box,v=>v=.ref c.β
 |.dct n ks xs,v=>∃a vs,v=.ref a/\G a=some (.dK (dD ks vs))/\(n=true->c.H0 a=none)/\ks.length=vs.length/\aH c G xs vs
 |.fdc ks xs,v=>∃a vs o,v=.ref a/\G a=some (.jl o (.dK (dD ks vs)))/\ks.length=vs.length/\aH c G xs vs
 |.obj a,v=>v=.ref a
def aH(c:Bk)(G:Hp):List D->List V->Prop
 |[],vs=>vs=[]
 |x::xs,vs=>∃v ws,vs=v::ws/\Rep c G x v/\aH c G xs ws
end
def rD(e:Same H H')(h:fY K H a xs):fY K H' a xs:=by
 rcases h with h|h
 .rcases h with h|⟨o,h⟩
  .exact .inl (.inl (e _ _ h))
  .exact .inl (.inr ⟨o,e _ _ h⟩)
 .exact .inr h
mutual
theorem Rep.mono(e:Same G G'):∀{d:D}{v:V},Rep c G d v->Rep c G' d v
 |.non,_,h=>h
 |.bl _,_,h=>h
 |.int _,_,h=>h
 |.str _,_,h=>h
 |.box,_,h=>h
 |.obj _,_,h=>h
 |.dct n ks xs,_,⟨a,vs,h1,h2,h4,h5,h3⟩=>⟨a,vs,h1,e _ _ h2,h4,h5,aH.mono e h3⟩
 |.fdc ks xs,_,⟨a,vs,o,h1,h2,h5,h3⟩=>⟨a,vs,o,h1,e _ _ h2,h5,aH.mono e h3⟩
 |.tup xs,_,⟨a,vs,h1,h2,h3⟩=>⟨a,vs,h1,rD e h2,aH.mono e h3⟩
 |.lst n xs,_,⟨a,vs,h1,h2,h4,h3⟩=>⟨a,vs,h1,e _ _ h2,h4,aH.mono e h3⟩
theorem aH.mono(e:Same G G'):∀{ds:List D}{vs:List V},aH c G ds vs->aH c G' ds vs
 |[],_,h=>h
 |_::_,_,⟨v,ws,h1,h2,h3⟩=>⟨v,ws,h1,Rep.mono e h2,aH.mono e h3⟩
end
def D.old:D->D
 |.non=>.non
 |.bl b=>.bl b
 |.int i=>.int i
 |.str x=>.str x
 |.box=>.box
 |.obj a=>.obj a
 |.dct _ ks xs=>.dct false ks (xs.map D.old)
 |.fdc ks xs=>.fdc ks (xs.map D.old)
 |.tup xs=>.tup (xs.map D.old)
 |.lst _ xs=>.lst false (xs.map D.old)
mutual
/-- handed on to another call -/
theorem Rep.hand(hk:c.K=c'.K)(hb:c.β=c'.β):∀{d:D}{v:V},Rep c G d v->Rep c' G d.old v
 |.non,_,h=>by unfold D.old;exact h
 |.bl _,_,h=>by unfold D.old;exact h
 |.int _,_,h=>by unfold D.old;exact h
 |.str _,_,h=>by unfold D.old;exact h
 |.box,_,h=>by unfold D.old;show _=V.ref c'.β;rw[<-hb];exact h
 |.obj _,_,h=>by unfold D.old;exact h
 |.dct n ks xs,_,⟨a,vs,h1,h2,h4,h5,h3⟩=>by unfold D.old;exact⟨a,vs,h1,h2,(λz=>by cases z),h5,aH.hand hk hb h3⟩
 |.fdc ks xs,_,⟨a,vs,o,h1,h2,h5,h3⟩=>by unfold D.old;exact⟨a,vs,o,h1,h2,h5,aH.hand hk hb h3⟩
 |.tup xs,_,⟨a,vs,h1,h2,h3⟩=>by unfold D.old;exact⟨a,vs,h1,hk▸h2,aH.hand hk hb h3⟩
 |.lst n xs,_,⟨a,vs,h1,h2,h4,h3⟩=>by unfold D.old;exact⟨a,vs,h1,h2,(λz=>by cases z),aH.hand hk hb h3⟩
theorem aH.hand(hk:c.K=c'.K)(hb:c.β=c'.β):∀{ds:List D}{vs:List V},aH c G ds vs->aH c' G (ds.map D.old) vs
 |[],_,h=>h
 |_::_,_,⟨v,ws,h1,h2,h3⟩=>⟨v,ws,h1,Rep.hand hk hb h2,aH.hand hk hb h3⟩
end
mutual
/-- and back: what is newer than the inner call is newer than the outer one -/
theorem Rep.back(hk:c'.K=c.K)(hb:c'.β=c.β)(hn:∀a,c'.H0 a=none->c.H0 a=none):∀{d:D}{v:V},Rep c' G d v->Rep c G d v
 |.non,_,h=>h
 |.bl _,_,h=>h
 |.int _,_,h=>h
 |.str _,_,h=>h
 |.box,_,h=>by show _=V.ref c.β;rw[<-hb];exact h
 |.obj _,_,h=>h
 |.dct n ks xs,_,⟨a,vs,h1,h2,h4,h5,h3⟩=>⟨a,vs,h1,h2,λz=>hn a (h4 z),h5,aH.back hk hb hn h3⟩
 |.fdc ks xs,_,⟨a,vs,o,h1,h2,h5,h3⟩=>⟨a,vs,o,h1,h2,h5,aH.back hk hb hn h3⟩
 |.tup xs,_,⟨a,vs,h1,h2,h3⟩=>⟨a,vs,h1,hk▸h2,aH.back hk hb hn h3⟩
 |.lst n xs,_,⟨a,vs,h1,h2,h4,h3⟩=>⟨a,vs,h1,h2,λz=>hn a (h4 z),aH.back hk hb hn h3⟩
theorem aH.back(hk:c'.K=c.K)(hb:c'.β=c.β)(hn:∀a,c'.H0 a=none->c.H0 a=none):∀{ds:List D}{vs:List V},aH c' G ds vs->aH c G ds vs
 |[],_,h=>h
 |_::_,_,⟨v,ws,h1,h2,h3⟩=>⟨v,ws,h1,Rep.back hk hb hn h2,aH.back hk hb hn h3⟩
end
theorem aH.length :∀{ds:List D}{vs:List V},aH c G ds vs->ds.length=vs.length
 |[],_,h=>by cases h;rfl
 |_::_,_,⟨v,ws,h1,_,h3⟩=>by subst h1;simp[aH.length h3]
theorem aH.get :∀{ds:List D}{vs:List V}{i:Nat}{d:D},aH c G ds vs->ds[i]?=some d->∃v,vs[i]?=some v/\Rep c G d v
 |[],_,_,_,_,e=>by simp at e
 |_::_,_,0,_,⟨v,ws,h1,h2,_⟩,e=>by subst h1;simp at e;subst e;exact⟨v,rfl,h2⟩
 |_::_,_,i+1,d,⟨v,ws,h1,_,h3⟩,e=>by subst h1;exact aH.get (i:=i) h3 (by simpa using e)
theorem aH.append :∀{ds es:List D}{vs ws:List V},aH c G ds vs->aH c G es ws->aH c G (ds++es) (vs++ws)
 |[],_,_,_,h,k=>by cases h;exact k
 |_::_,_,_,_,⟨v,us,h1,h2,h3⟩,k=>by subst h1;exact⟨v,us++_,rfl,h2,aH.append h3 k⟩
def aH.one(h:Rep c G d v):aH c G [d] [v]:=⟨v,[],rfl,h,rfl⟩
theorem aH.set(h:Rep c G d v):∀{ds:List D}{vs:List V}(i:Nat),aH c G ds vs->aH c G (ds.set i d) (vs.set i v)
 |[],_,_,k=>by cases k;rfl
 |_::_,_,0,⟨u,us,h1,h2,h3⟩=>by subst h1;exact⟨v,us,rfl,h,h3⟩
 |_::_,_,i+1,⟨u,us,h1,h2,h3⟩=>by subst h1;exact⟨u,us.set i v,rfl,h2,aH.set h i h3⟩
theorem aH.take :∀{ds:List D}{vs:List V}(i:Nat),aH c G ds vs->aH c G (ds.take i) (vs.take i)
 |[],_,_,k=>by cases k;simp[aH]
 |_::_,_,0,_=>by simp[aH]
 |_::_,_,i+1,⟨u,us,h1,h2,h3⟩=>by subst h1;exact⟨u,us.take i,rfl,h2,aH.take i h3⟩
theorem aH.drop :∀{ds:List D}{vs:List V}(i:Nat),aH c G ds vs->aH c G (ds.drop i) (vs.drop i)
 |[],_,_,k=>by cases k;simp[aH]
 |_::_,_,0,k=>k
 |_::_,_,i+1,⟨u,us,h1,h2,h3⟩=>by subst h1;exact aH.drop i h3
theorem gJ :∀{ns:List Bool}{vs:List V},aH c G (ns.map D.bl) vs↔vs=ns.map V.bl
 |[],_=>Iff.rfl
 |n::ns,vs=>by
  constructor
  .rintro⟨v,ws,h1,h2,h3⟩;rw[h1,gJ.mp h3]
   have:v=V.bl n:=h2
   rw[this];rfl
  .rintro rfl;exact⟨V.bl n,ns.map V.bl,rfl,rfl,gJ.mpr rfl⟩
def tV(cc:Addr)(p r d:Int):HO:=.lst [.ref cc,.int p,.int r,.int d]
structure d9(β:Addr)(H G:Hp):Prop where
 ex:∃cc p r d,∃ns:List Int,H β=some (tV cc p r d)/\0<=p/\0<=r/\0<=d/\d<2147483629/\G cc=some (.lst (ns.map V.int))/\ns.length<=63
 still:G β=none
def d9.at(b:d9 β H G):∃o,H β=some o:=by
 obtain⟨cc,p,r,d,ns,h,_⟩:=b.ex;exact⟨_,h⟩
def yh:HO->Prop
 |.tup _=>True
 |.jl _ _=>True
 |_=>False
structure aZ(β:Addr)(H G H' G':Hp):Prop where
 gg:Same G G'
 gh:Same G' H'
 fr:∀a o,a≠β->H a=some o->H' a=some o
 nw:∀a,G' a≠none->G a≠none\/H a=none\/∃o,H a=some o/\yh o
 bx:d9 β H' G'
 b0:H β≠none
 bc:∀cc p r d,H β=some (tV cc p r d)->∃p r d,H' β=some (tV cc p r d)
theorem aZ.refl(gh:Same G H)(b:d9 β H G):aZ β H G H G:=
 ⟨Same.refl _,gh,λ_ _ _ e=>e,λ_ e=>.inl e,b,λz=>by(obtain⟨o,h⟩:=b.at;rw[z]at h;cases h),λ_ p r d h=>⟨p,r,d,h⟩⟩
def aZ.free(s:aZ β H G H' G')(h:H' a=none):H a=none:=by
 cases e:H a with
 |none=>rfl
 |some o=>
  by_cases z:a=β
  .obtain⟨o',h'⟩:=s.bx.at;rw[z,h']at h;cases h
  .rw[s.fr a o z e]at h;cases h
theorem aZ.trans(s:aZ β H G H1 G1)(t:aZ β H1 G1 H2 G2):aZ β H G H2 G2:=
 ⟨s.gg.trans t.gg,t.gh,λa o n e=>t.fr a o n (s.fr a o n e),λa e=>(t.nw a e).elim (s.nw a) λz=>z.elim (λz=>.inr (.inl (s.free z))) λ⟨o,ho,st⟩=>by
  cases e:H a with
  |none=>exact .inr (.inl rfl)
  |some o'=>
   have nb:a≠β:=λz=>by
    obtain⟨cc,p,r,d,ns,h,_⟩:=s.bx.ex;rw[z,h]at ho;cases ho;exact st
   have:=s.fr a o' nb e
   rw[ho]at this;cases this;exact .inr (.inr ⟨o,rfl,st⟩),t.bx,s.b0,λcc p r d h=>by
  obtain⟨p1,r1,d1,h1⟩:=s.bc cc p r d h;exact t.bc cc p1 r1 d1 h1⟩
def d9.new(b:d9 β H G)(hl:H l=none):d9 β (upd H l o) G:=by
 obtain⟨cc,p,r,d,ns,h,q⟩:=b.ex;exact⟨⟨cc,p,r,d,ns,by rw[au (lO h hl)];exact h,q⟩,b.still⟩
def zp5(gh:Same G H)(hl:H l=none):Same G (upd H l o):=λa u e=>by
 rw[au (lO (gh a u e) hl)];exact gh a u e
def aZ.own(gh:Same G H)(b:d9 β H G)(hl:H l=none):aZ β H G (upd H l o) G:=
 ⟨Same.refl _,zp5 gh hl,λa u _ e=>by rw[au (lO e hl)];exact e,λ_ e=>.inl e,b.new hl,λz=>by(obtain⟨o,h⟩:=b.at;rw[z]at h;cases h),λcc p r d h=>⟨p,r,d,by rw[au (lO h hl)];exact h⟩⟩
def lU(gh:Same G H)(hl:H l=none):G l=none:=gh.free hl
theorem aZ.still(s:aZ β H G H' G')(h':H' l=some o)(h0:H l=none)(hb:l≠β)(hg:G' l=none):aZ β H G H' (upd G' l o):=
 ⟨s.gg.trans λa u e=>by rw[au (lO e hg)];exact e,
 λa u e=>by
  by_cases z:a=l
  .subst z;rw[cJ]at e;rw[h'];exact e
  .rw[au z]at e;exact s.gh a u e,
 s.fr,λa e=>by
  by_cases z:a=l
  .subst z;exact .inr (.inl h0)
  .rw[au z]at e;exact s.nw a e,
 ⟨by
   obtain⟨cc,p,r,d,ns,h,p1,p2,p3,p4,hc,q⟩:=s.bx.ex;exact⟨cc,p,r,d,ns,h,p1,p2,p3,p4,by rw[au (lO hc hg)];exact hc,q⟩,by rw[au (YAM hb)];exact s.bx.still⟩,s.b0,s.bc⟩
def aZ.new(gh:Same G H)(b:d9 β H G)(hl:H l=none):aZ β H G (upd H l o) (upd G l o):=by
 have hb:l≠β:=λz=>by obtain⟨o,h⟩:=b.at;rw[<-z,hl]at h;cases h
 exact(aZ.own gh b hl).still cJ hl hb (lU gh hl)
def nW(hg:G l=none):Same G (upd G l o):=λa u e=>by rw[au (lO e hg)];exact e
inductive Sl where
 |un|val (d:D)|own (xs:List D)|dic (ks:List Str) (xs:List D)
abbrev Env:=List Sl
noncomputable def xu(c:Bk)(H G:Hp):Sl->Option (Option V)->Prop
 |.un,_=>True
 |.val d,o=>∃v,o=some (some v)/\Rep c G d v
 |.own xs,o=>∃a vs,o=some (some (.ref a))/\H a=some (.lst vs)/\G a=none/\c.H0 a=none/\a≠c.β/\aH c G xs vs
 |.dic ks xs,o=>∃a vs,o=some (some (.ref a))/\H a=some (.dK (dD ks vs))/\G a=none/\c.H0 a=none/\a≠c.β/\aH c G xs vs/\ks.length=vs.length
structure Rel(c:Bk)(S:Env)(Z:St)(H G:Hp):Prop where
 len:S.length=Z.length
 stp:aZ c.β c.H0 c.G0 H G
 slot:∀(i:Nat) s,S[i]?=some s->xu c H G s Z[i]?
 dis:∀(i j:Nat) a xs ys,S[i]?=some (.own xs)->S[j]?=some (.own ys)->Z[i]?=some (some (.ref a))->Z[j]?=some (some (.ref a))->i=j
 kn:c.P
theorem Rel.gh(r:Rel c S Z H G):Same G H:=r.stp.gh
theorem Rel.bx(r:Rel c S Z H G):d9 c.β H G:=r.stp.bx
theorem Rel.refl(r:Rel c S Z H G):aZ c.β H G H G:=aZ.refl r.gh r.bx
def xu.step(t:aZ c.β H G H' G'):∀{s:Sl}{o:Option (Option V)},xu c H G s o->xu c H' G' s o
 |.un,_,_=>trivial
 |.val d,_,⟨v,h1,h2⟩=>⟨v,h1,h2.mono t.gg⟩
 |.own xs,_,⟨a,vs,h1,h2,h3,h4,h5,h6⟩=>⟨a,vs,h1,t.fr a _ h5 h2,(by
   cases e:G' a with
   |none=>rfl
   |some o=>
    rcases t.nw a (by rw[e];simp)with z|z|⟨o',z,st⟩
    .exact absurd h3 z
    .rw[h2]at z;cases z
    .rw[h2]at z;cases z;exact st.elim),h4,h5,h6.mono t.gg⟩
 |.dic ks xs,_,⟨a,vs,h1,h2,h3,h4,h5,h6,h7⟩=>⟨a,vs,h1,t.fr a _ h5 h2,(by
   cases e:G' a with
   |none=>rfl
   |some o=>
    rcases t.nw a (by rw[e];simp)with z|z|⟨o',z,st⟩
    .exact absurd h3 z
    .rw[h2]at z;cases z
    .rw[h2]at z;cases z;exact st.elim),h4,h5,h6.mono t.gg,h7⟩
theorem Rel.step(r:Rel c S Z H G)(t:aZ c.β H G H' G'):Rel c S Z H' G':=
 ⟨r.len,r.stp.trans t,λi s e=>(r.slot i s e).step t,r.dis,r.kn⟩
def Rel.put(r:Rel c S Z H G)(h:Rep c G d v):Rel c (S.set i (.val d)) (Z.set i (some v)) H G:=by
 refine⟨by simp[r.len],r.stp,λj s e=>?_,λj k a xs ys e1 e2 e3 e4=>?_,r.kn⟩
 .by_cases z:i=j
  .subst z;have hi:i<S.length:=by have:=(jC.mp e).1;simpa using this
   rw[jL hi]at e;cases e;exact⟨v,by rw[jL (by rw[<-r.len];exact hi)],h⟩
  .rw[jG z]at e ⊢;exact r.slot j s e
 .have nj:i≠j:=λz=>by
   subst z;have hi:i<S.length:=by have:=(jC.mp e1).1;simpa using this
   rw[jL hi]at e1;cases e1
  have nk:i≠k:=λz=>by
   subst z;have hi:i<S.length:=by have:=(jC.mp e2).1;simpa using this
   rw[jL hi]at e2;cases e2
  rw[jG nj]at e1 e3;rw[jG nk]at e2 e4;exact r.dis j k a xs ys e1 e2 e3 e4
def Rel.putOwn(r:Rel c S Z H G)(hl:H l=some (.lst vs))(hg:G l=none)(h0:c.H0 l=none)(hb:l≠c.β)(h:aH c G xs vs)
  (hn:∀(j:Nat) ys,S[j]?=some (.own ys)->Z[j]?≠some (some (.ref l))):Rel c (S.set i (.own xs)) (Z.set i (some (.ref l))) H G:=by
 refine⟨by simp[r.len],r.stp,λj s e=>?_,λj k a xs' ys e1 e2 e3 e4=>?_,r.kn⟩
 .by_cases z:i=j
  .subst z;have hi:i<S.length:=by have:=(jC.mp e).1;simpa using this
   rw[jL hi]at e;cases e;exact⟨l,vs,by rw[jL (by rw[<-r.len];exact hi)],hl,hg,h0,hb,h⟩
  .rw[jG z]at e ⊢;exact r.slot j s e
 .by_cases zj:i=j
  .by_cases zk:i=k
   .exact zj.symm.trans zk
   .subst zj;have hi:i<S.length:=by have:=(jC.mp e1).1;simpa using this
    rw[jL (by rw[<-r.len];exact hi)]at e3;cases e3;rw[jG zk]at e2 e4;exact absurd e4 (hn k ys e2)
  .by_cases zk:i=k
   .subst zk;have hi:i<S.length:=by have:=(jC.mp e2).1;simpa using this
    rw[jL (by rw[<-r.len];exact hi)]at e4;cases e4;rw[jG zj]at e1 e3;exact absurd e3 (hn j xs' e1)
   .rw[jG zj]at e1 e3;rw[jG zk]at e2 e4;exact r.dis j k a xs' ys e1 e2 e3 e4
def Rel.write(r:Rel c S Z H G)(hi:S[i]?=some (.own xs))(hs:Z[i]?=some (some (.ref l)))(h:aH c G ys ws) :
  Rel c (S.set i (.own ys)) Z (upd H l (.lst ws)) G:=by
 obtain⟨a,vs,h1,h2,h3,h4,h5,h6⟩:=r.slot i _ hi;rw[hs]at h1;cases h1;have hil:i<S.length:=(jC.mp hi).1;refine⟨by simp[r.len],⟨r.stp.gg,λb u e=>?_,λb u n e=>?_,r.stp.nw,?_,r.stp.b0,λcc p q d e=>by
  obtain⟨p',q',d',e'⟩:=r.stp.bc cc p q d e;exact⟨p',q',d',by rw[au (YAM h5)];exact e'⟩⟩,λj s e=>?_,λj k b xs' ys' e1 e2 e3 e4=>?_,r.kn⟩
 .rw[au (λz=>by rw[z,h3]at e;cases e)];exact r.gh b u e
 .rw[au (λz=>by rw[z,h4]at e;cases e)];exact r.stp.fr b u n e
 .obtain⟨cc,p,q,d,ns,e,z⟩:=r.bx.ex;exact⟨⟨cc,p,q,d,ns,by rw[au (YAM h5)];exact e,z⟩,r.bx.still⟩
 .by_cases z:i=j
  .subst z;rw[jL hil]at e;cases e;exact⟨l,ws,hs,cJ,h3,h4,h5,h⟩
  .rw[jG z]at e;have q:=r.slot j s e;cases s with
   |un=>trivial
   |val d=>exact q
   |own zs=>
    obtain⟨b,us,g1,g2,g3⟩:=q;have nb:b≠l:=λy=>z (r.dis i j l xs zs hi e hs (by rw[g1,y]));exact⟨b,us,g1,by rw[au nb];exact g2,g3⟩
   |dic ks zs=>
    obtain⟨b,us,g1,g2,g3⟩:=q;have nb:b≠l:=λy=>by rw[y,h2]at g2;cases g2
    exact⟨b,us,g1,by rw[au nb];exact g2,g3⟩
 .have f:∀(m:Nat) zs,(S.set i (.own ys))[m]?=some (.own zs)->∃zs',S[m]?=some (.own zs'):=λm zs e=>by
   by_cases z:i=m
   .exact⟨xs,z▸hi⟩
   .rw[jG z]at e;exact⟨zs,e⟩
  obtain⟨_,f1⟩:=f j _ e1;obtain⟨_,f2⟩:=f k _ e2;exact r.dis j k b _ _ f1 f2 e3 e4
def Rel.freeze(r:Rel c S Z H G)(hi:S[i]?=some (.own xs)):∃G',Same G G'/\Rel c (S.set i (.val (.lst true xs))) Z H G':=by
 obtain⟨a,vs,h1,h2,h3,h4,h5,h6⟩:=r.slot i _ hi;have hil:i<S.length:=(jC.mp hi).1;have sg:Same G (upd G a (.lst vs)):=nW h3;refine⟨upd G a (.lst vs),sg,by simp[r.len],r.stp.still h2 h4 h5 h3,λj s e=>?_,λj k b xs' ys' e1 e2 e3 e4=>?_,r.kn⟩
 .by_cases z:i=j
  .subst z;rw[jL hil]at e;cases e;exact⟨.ref a,h1,a,vs,rfl,cJ,λ_=>h4,h6.mono sg⟩
  .rw[jG z]at e;have q:=r.slot j s e;cases s with
   |un=>trivial
   |val d=>obtain⟨v,g1,g2⟩:=q;exact⟨v,g1,g2.mono sg⟩
   |own zs=>
    obtain⟨b,us,g1,g2,g3,g4,g5,g6⟩:=q;have nb:b≠a:=λy=>z (r.dis i j a xs zs hi e h1 (by rw[g1,y]));exact⟨b,us,g1,g2,by rw[au nb];exact g3,g4,g5,g6.mono sg⟩
   |dic ks zs=>
    obtain⟨b,us,g1,g2,g3,g4,g5,g6,g7⟩:=q;have nb:b≠a:=λy=>by rw[y,h2]at g2;cases g2
    exact⟨b,us,g1,g2,by rw[au nb];exact g3,g4,g5,g6.mono sg,g7⟩
 .have f:∀(m:Nat) zs,(S.set i (.val (.lst true xs)))[m]?=some (.own zs)->S[m]?=some (.own zs):=λm zs e=>by
   by_cases z:i=m
   .subst z;rw[jL hil]at e;cases e
   .rw[jG z]at e;exact e
  exact r.dis j k b _ _ (f j _ e1) (f k _ e2) e3 e4
structure Nk(X:Cx)(i:Nat)(x:Str):Prop where
 N:X.N[i]?=some x
 v:Dh X.env.scope x
 d:(x==("__debug__":Str))=false
 c:(x==("__classdict__":Str))=false
abbrev Sk(X:Cx)(e:Expr)(es:List Expr)(pos:Pos):Prop:=starEach (e::es) X.env=(false,eval e X.env)::starEach es X.env/\(backTo pos (starEach es X.env)).any (·.1)=false
abbrev WE:=Env->(D->Prop)->Prop
abbrev WL:=Env->(List D->Prop)->Prop
abbrev WT:=Env->(Bool->Prop)->Prop
def jP(W:WE):Prop:=∀ S Q Q',(∀d,Q d->Q' d)->W S Q->W S Q'
def sZ(W:WL):Prop:=∀ S Q Q',(∀d,Q d->Q' d)->W S Q->W S Q'
def wQ(W:WT):Prop:=∀ S Q Q',(∀d,Q d->Q' d)->W S Q->W S Q'
def tD(c:Bk)(W:WE):TE:=λZ H Q=>∃ S G,Rel c S Z H G/\W S λd=>∀v H' G',aZ c.β H G H' G'->Rep c G' d v->Q v H'
def tDs(c:Bk)(W:WL):TA:=λZ H Q=>∃ S G,Rel c S Z H G/\W S λds=>∀vs H' G',aZ c.β H G H' G'->aH c G' ds vs->Q vs H'
def tDf(c:Bk)(W:WL):TE:=λZ H Q=>∃ S G,Rel c S Z H G/\W S λds=>∀l vs H' G',aZ c.β H G H' G'->H' l=some (.lst vs)->G' l=none->H l=none->aH c G' ds vs->Q (.ref l) H'
def Dk(c:Bk)(W:WT):TT:=λZ H Q=>∃ S G,Rel c S Z H G/\W S λb=>∀H' G',aZ c.β H G H' G'->Q b H'
structure DE(X:Cx)(c:Bk)(e:Expr)(W:WE):Prop where
 mono:jP W
 pe:PE X e (tD c W)
structure DF(X:Cx)(c:Bk)(e:Expr)(W:WL):Prop where
 mono:sZ W
 pe:PE X e (tDf c W)
structure DA(X:Cx)(c:Bk)(es:List Expr)(W:WL):Prop where
 mono:sZ W
 pa:PA X es (tDs c W)
structure DT(X:Cx)(c:Bk)(e:Expr)(W:WT):Prop where
 mono:wQ W
 pt:PT X e (Dk c W)
section
variable{X:Cx}
def dM(h:PE X e t)(k:∀ Z H Q,t' Z H Q->t Z H Q):PE X e t':=λaa s Z H Q I q=>h aa s Z H Q I (k Z H Q q)
def BL(h:PT X e t)(k:∀ Z H Q,t' Z H Q->t Z H Q):PT X e t':=λaa s Z H Q I q=>h aa s Z H Q I (k Z H Q q)
def zrG(h:PA X e t)(k:∀ Z H Q,t' Z H Q->t Z H Q):PA X e t':=λpos aa s Z H Q I q=>h pos aa s Z H Q I (k Z H Q q)
def Rel.new0(r:Rel c S Z H G)(h:H l=none):c.H0 l=none:=r.stp.free h
def Rel.neβ(r:Rel c S Z H G)(h:H l=none):l≠c.β:=λz=>by
 obtain⟨o,e⟩:=r.bx.at;rw[<-z,h]at e;cases e
abbrev aM(W:WL):WE:=λS Q=>W S λxs=>Q (.lst true xs)
def DF.de(h:DF X c e W):DE X c e (aM W)where
 mono:=λS Q Q' k q=>h.mono S _ _ (λxs z=>k _ z) q
 pe:=dM h.pe λZ H Q ⟨S,G,r,q⟩=>⟨S,G,r,h.mono S _ _ (λxs z l vs H' G' t hl hg h0 hv=>
  z (.ref l) H' (upd G' l (.lst vs)) (t.still hl h0 (r.neβ h0) hg) ⟨l,vs,rfl,cJ,λ_=>r.new0 h0,hv.mono (nW hg)⟩) q⟩
def vW(i:Nat):WE:=λS Q=>match S[i]? with|some (.val d)=>Q d|_=>False
abbrev kW(d:D):WE:=λ_ Q=>Q d
def dv(i:Nat)(nk:Nk X i x:=by decreasing_trivial):DE X c (.Name x pos) (vW i)where
 mono:=λS Q Q' k q=>by
  unfold vW at q ⊢;split at q
  .exact k _ q
  .exact q.elim
 pe:=dM (kO nk.N nk.v nk.d nk.c) λZ H Q ⟨S,G,r,q⟩=>by
  unfold vW at q;split at q
  .rename_i d e
   obtain⟨v,h1,h2⟩:=r.slot i _ e;exact⟨v,h1,q v H G r.refl h2⟩
  .exact q.elim
def Ea(d:D):jP (kW d):=λ_ _ _ k q=>k _ q
def aU:DE X c (.Constant (.int i) j pos) (kW (.int i)):=⟨Ea _,dM jo λZ H Q ⟨S,G,r,q⟩=>q _ H G r.refl rfl⟩
def zqY:DE X c (.Constant (.bool i) j pos) (kW (.bl i)):=⟨Ea _,dM zwC λZ H Q ⟨S,G,r,q⟩=>q _ H G r.refl rfl⟩
def CZ:DE X c (.Constant .none j pos) (kW .non):=⟨Ea _,dM ztJ λZ H Q ⟨S,G,r,q⟩=>q _ H G r.refl rfl⟩
def aO:DE X c (.Constant (.str i) j pos) (kW (.str i)):=⟨Ea _,dM zra λZ H Q ⟨S,G,r,q⟩=>q _ H G r.refl rfl⟩
abbrev F2:=D->D->(D->Prop)->Prop
def lK(f:F2):Prop:=∀x y Q Q',(∀d,Q d->Q' d)->f x y Q->f x y Q'
abbrev ak(f:F2)(A B:WE):WE:=λS Q=>A S λx=>B S λy=>f x y Q
def pG(c:Bk)(f:F2)(r:R2):Prop:=∀(H G:Hp)(x y:D)(u v:V)(Q:VK),Same G H->d9 c.β H G->(∀a,H a=none->c.H0 a=none)->Rep c G x u->Rep c G y v ->
 f x y (λd=>∀v H' G',aZ c.β H G H' G'->Rep c G' d v->Q v H')->r u v H Q
def zgv(fm:lK f)(mA:jP A)(mB:jP B)(hr:pG c f r)(Z:St)(H:Hp)(Q:VK)(h:tD c (ak f A B) Z H Q):J2 r (tD c A) (tD c B) Z H Q:=by
 obtain⟨S,G,R,q⟩:=h;refine⟨S,G,R,mA S _ _ (λx q1 u H1 G1 t1 e1=>⟨S,G1,R.step t1,mB S _ _ (λy q2 v H2 G2 t2 e2=>?_) q1⟩) q⟩;refine hr H2 G2 x y u v Q t2.gh t2.bx (λa z=>R.new0 (t1.free (t2.free z))) (e1.mono t2.gg) e2 (fm x y _ _ (λd z w H3 G3 t3 e3=>z w H3 G3 ((t1.trans t2).trans t3) e3) q2)
def Fp(fm:lK f)(mA:jP A)(mB:jP B):jP (ak f A B):=λS Q Q' k q=>mA S _ _ (λx q1=>mB S _ _ (λy q2=>fm x y _ _ k q2) q1) q
def zqc(fm:lK f)(ho:fZ X (binaryOp op) r)(hr:pG c f r)(hA:DE X c a A)(hB:DE X c b B):DE X c (.BinOp a op b pos) (ak f A B):=
 ⟨Fp fm hA.mono hB.mono,dM (pL ho hA.pe hB.pe) λZ H Q h=>zgv fm hA.mono hB.mono hr Z H Q h⟩
def zsZ(fm:lK f)(ho:fZ X (compareOp op) r)(hr:pG c f r)(hA:DE X c a A)(hB:DE X c b B)(hm:behindInMarks op b=false):DE X c (.Compare a [op] [b] pos) (ak f A B):=
 ⟨Fp fm hA.mono hB.mono,dM (zsH ho hA.pe hB.pe hm) λZ H Q h=>zgv fm hA.mono hB.mono hr Z H Q h⟩
def bG(A:WE):WT:=λS Q=>A S λd=>match d with|.bl b=>Q b|_=>False
def zkT(m:jP A):wQ (bG A):=λS Q Q' k q=>m S _ _ (λd z=>by
 cases d<;>first|exact k _ z|exact z) q
def zo3(m:jP A)(Z:St)(H:Hp)(Q:Bool->Hp->Prop)(h:Dk c (bG A) Z H Q):ztp (tD c A) Z H Q:=by
 obtain⟨S,G,R,q⟩:=h;refine⟨S,G,R,m S _ _ (λd z v H1 G1 t e=>?_) q⟩;cases d with
 |bl b=>exact⟨b,e,z H1 G1 t⟩
 |_=>exact z.elim
def Cy(fm:lK f)(ho:fZ X (compareOp op) r)(hr:pG c f r)(hA:DE X c a A)(hB:DE X c b B)(hm:behindInMarks op b=false):DT X c (.Compare a [op] [b] pos) (bG (ak f A B)):=
 ⟨zkT (Fp fm hA.mono hB.mono),BL (zh4 ho hA.pe hB.pe hm) λZ H Q h=>by
  obtain⟨S,G,R,q⟩:=zo3 (Fp fm hA.mono hB.mono) Z H Q h;exact zgv fm hA.mono hB.mono hr Z H _ ⟨S,G,R,q⟩⟩
def bh:F2
 |.int i,.int j,Q=>Q (.int (i+j))
 |.str a,.str b,Q=>a.length+b.length<=100000/\Q (.str (a++b))
 |.lst _ xs,.lst _ ys,Q=>xs.length+ys.length<=100000/\Q (.lst true (xs++ys))
 |.tup xs,.tup ys,Q=>xs.length+ys.length<=100000/\Q (.tup (xs++ys))
 |_,_,_=>False
def j4:F2
 |.int i,.int j,Q=>Q (.int (i-j))
 |_,_,_=>False
def jn:F2
 |.int i,.int j,Q=>vI i j/\Q (.int (i*j))
 |.lst _ xs,.int k,Q=>(0<=k/\k<=1000/\xs.length<=1000)/\Q (.lst true (List.replicate k.toNat xs).flatten)
 |_,_,_=>False
def lu:F2
 |.int i,.int j,Q=>0<j/\Q (.int (i % j))
 |_,_,_=>False
def eZ(h:n<=100000):n<=sizeLine:=YAB h (by rw[nO];decide)
def zv5:lK bh:=λx y Q Q' k q=>by
 cases x<;>cases y<;>first|exact k _ q|exact⟨q.1,k _ q.2⟩|exact q
def zwf:lK j4:=λx y Q Q' k q=>by
 cases x<;>cases y<;>first|exact k _ q|exact q
def zvW:lK jn:=λx y Q Q' k q=>by
 cases x<;>cases y<;>first|exact⟨q.1,k _ q.2⟩|exact q
def zv1:lK lu:=λx y Q Q' k q=>by
 cases x<;>cases y<;>first|exact⟨q.1,k _ q.2⟩|exact q
def zur(K:qo):R2:=λx y H Q=>(vA (λi j=>.int (i+j)) x y H Q\/(∃i j,x=.str i/\y=.str j/\i.length+j.length<=sizeLine/\Q (.str (i++j)) H))\/(La x y H Q\/ztM K x y H Q)
def zr6{c:Bk}(hK:c.K=X.K):fZ X (binaryOp .Add) (zur c.K):=by rw[hK];exact(m9.or znb).or (vN.or zsh)
def zvp:pG c bh (zur c.K):=by
 intro H G x y u v Q gh bx h0 rx ry q;cases x with
 |int i=>cases y with
  |int j=>cases rx;cases ry;exact .inl (.inl ⟨i,j,rfl,rfl,q _ H G (aZ.refl gh bx) rfl⟩)
  |_=>exact q.elim
 |str i=>cases y with
  |str j=>cases rx;cases ry;exact .inl (.inr ⟨i,j,rfl,rfl,eZ q.1,q.2 _ H G (aZ.refl gh bx) rfl⟩)
  |_=>exact q.elim
 |lst n xs=>cases y with
  |lst m ys=>
   obtain⟨a,vs,rfl,ha,_,rv⟩:=rx;obtain⟨b,ws,rfl,hb,_,rw'⟩:=ry;refine .inr (.inl ⟨a,b,vs,ws,rfl,rfl,gh _ _ ha,gh _ _ hb,?_,λp hp=>?_⟩)
   .rw[<-rv.length,<-rw'.length];exact eZ q.1
   .have hg:=lU gh hp;exact q.2 (.ref p) _ _ (aZ.new gh bx hp) ⟨p,vs++ws,rfl,cJ,λ_=>h0 p hp,(rv.append rw').mono (nW hg)⟩
  |_=>exact q.elim
 |tup xs=>cases y with
  |tup ys=>
   obtain⟨a,vs,rfl,ha,rv⟩:=rx;obtain⟨b,ws,rfl,hb,rw'⟩:=ry;refine .inr (.inr ⟨a,b,vs,ws,rfl,rfl,rD gh ha,rD gh hb,?_,λe=>?_,λ_ e=>?_,λp hp=>?_⟩)
   .rw[<-rv.length,<-rw'.length];exact eZ q.1
   .subst e
    have:xs=[]:=by have:=rv.length;simpa using this
    subst this;exact q.2 (.ref b) H G (aZ.refl gh bx) ⟨b,ws,rfl,hb,rw'⟩
   .subst e
    have:ys=[]:=by have:=rw'.length;simpa using this
    subst this;exact q.2 (.ref a) H G (aZ.refl gh bx) ⟨a,vs,rfl,ha,by simpa using rv⟩
   .have hg:=lU gh hp;exact q.2 (.ref p) _ _ (aZ.new gh bx hp) ⟨p,vs++ws,rfl,fY.of cJ,(rv.append rw').mono (nW hg)⟩
  |_=>exact q.elim
 |_=>exact q.elim
def gW(hA:DE X c a A)(hB:DE X c b B)(hK:c.K=X.K:=by rfl):DE X c (.BinOp a .Add b pos) (ak bh A B):=zqc zv5 (zr6 hK) zvp hA hB
def ztD:pG c j4 (vA λi j=>.int (i-j)):=by
 intro H G x y u v Q gh bx h0 rx ry q;cases x with
 |int i=>cases y with
  |int j=>cases rx;cases ry;exact⟨i,j,rfl,rfl,q _ H G (aZ.refl gh bx) rfl⟩
  |_=>exact q.elim
 |_=>exact q.elim
def Eu(hA:DE X c a A)(hB:DE X c b B):DE X c (.BinOp a .Sub b pos) (ak j4 A B):=zqc zwf zvh ztD hA hB
def zwA:R2:=λx y H Q=>rI vI (λi j=>.int (i*j)) x y H Q\/Jl x y H Q
def zuw:pG c jn zwA:=by
 intro H G x y u v Q gh bx h0 rx ry q;cases x with
 |int i=>cases y with
  |int j=>cases rx;cases ry;exact .inl ⟨i,j,rfl,rfl,q.1,q.2 _ H G (aZ.refl gh bx) rfl⟩
  |_=>exact q.elim
 |lst n xs=>cases y with
  |int k=>
   obtain⟨a,vs,rfl,ha,_,rv⟩:=rx;cases ry;obtain⟨⟨k0,k1,hz⟩,q⟩:=q;refine .inr ⟨a,k,vs,rfl,rfl,gh _ _ ha,by omega,by omega,?_,λp hp=>?_⟩
   .rw[<-rv.length,nO];have h1:k.toNat<=1000:=by omega
    have:=YDa hz h1
    omega
   .have hg:=lU gh hp
    have:∀m:Nat,aH c G (List.replicate m xs).flatten (List.replicate m vs).flatten:=λm=>by
     induction m with
     |zero=>rfl
     |succ m ih=>rw[BW,BW,BV,BV];exact rv.append ih
    exact q (.ref p) _ _ (aZ.new gh bx hp) ⟨p,_,rfl,cJ,λ_=>h0 p hp,(this _).mono (nW hg)⟩
  |_=>exact q.elim
 |_=>exact q.elim
def zsd(hA:DE X c a A)(hB:DE X c b B):DE X c (.BinOp a .Mult b pos) (ak jn A B):=zqc zvW (qY.or zuN) zuw hA hB
def zuP:pG c lu (rI (λ_ j=>0<j) λi j=>.int (i % j)):=by
 intro H G x y u v Q gh bx h0 rx ry q;cases x with
 |int i=>cases y with
  |int j=>cases rx;cases ry;exact⟨i,j,rfl,rfl,q.1,q.2 _ H G (aZ.refl gh bx) rfl⟩
  |_=>exact q.elim
 |_=>exact q.elim
def zs3(hA:DE X c a A)(hB:DE X c b B):DE X c (.BinOp a .Mod b pos) (ak lu A B):=zqc zv1 Dv zuP hA hB
def gG:D->(D->Prop)->Prop
 |.int i,Q=>Q (.int (-i))
 |_,_=>False
abbrev my(f:D->(D->Prop)->Prop)(A:WE):WE:=λS Q=>A S λx=>f x Q
def vM(hA:DE X c a A):DE X c (.UnaryOp .USub a pos) (my gG A)where
 mono:=λS Q Q' k q=>hA.mono S _ _ (λx z=>by cases x<;>first|exact k _ z|exact z) q
 pe:=dM (zwm zvG hA.pe) λZ H Q ⟨S,G,r,q⟩=>⟨S,G,r,hA.mono S _ _ (λx z v H' G' t e=>by
  cases x with
  |int i=>exact⟨i,e,z _ H' G' t rfl⟩
  |_=>exact z.elim) q⟩
def tW(p:Int->Int->Bool):F2
 |.int i,.int j,Q=>Q (.bl (p i j))
 |_,_,_=>False
def uh(p:Int->Int->Bool):lK (tW p):=λx y Q Q' k q=>by
 cases x<;>cases y<;>first|exact k _ q|exact q
def Af(p:Int->Int->Bool):pG c (tW p) (vA λi j=>.bl (p i j)):=by
 intro H G x y u v Q gh bx h0 rx ry q;cases x with
 |int i=>cases y with
  |int j=>cases rx;cases ry;exact⟨i,j,rfl,rfl,q _ H G (aZ.refl gh bx) rfl⟩
  |_=>exact q.elim
 |_=>exact q.elim
abbrev wB:F2:=tW λi j=>decide (i<j)
abbrev mz:F2:=tW λi j=>decide (i<=j)
abbrev xP:F2:=tW λi j=>decide (j<i)
abbrev Fq:F2:=tW λi j=>decide (j<=i)
def pA(hA:DE X c a A)(hB:DE X c b B):DT X c (.Compare a [.Lt] [b] pos) (bG (ak wB A B)):=Cy (uh _) ztQ (Af _) hA hB (v8 _)
def qO(hA:DE X c a A)(hB:DE X c b B):DT X c (.Compare a [.Gt] [b] pos) (bG (ak xP A B)):=Cy (uh _) ztF (Af _) hA hB (v8 _)
def xK(hA:DE X c a A)(hB:DE X c b B):DT X c (.Compare a [.GtE] [b] pos) (bG (ak Fq A B)):=Cy (uh _) zvx (Af _) hA hB (v8 _)
def isN:D->Bool
 |.non=>true
 |_=>false
abbrev kh(A:WE):WE:=λS Q=>A S λx=>Q (.bl (isN x))
def zoz(h:Rep c G d v):decide (v=V.non)=isN d:=by
 cases d with
 |non=>have:v=V.non:=h;subst this;rfl
 |bl b=>have:v=V.bl b:=h;subst this;rfl
 |int b=>have:v=V.int b:=h;subst this;rfl
 |str b=>have:v=V.str b:=h;subst this;rfl
 |box=>have:v=V.ref c.β:=h;subst this;rfl
 |obj b=>have:v=V.ref b:=h;subst this;rfl
 |dct n ks xs=>obtain⟨a,vs,rfl,_⟩:=h;rfl
 |fdc ks xs=>obtain⟨a,vs,o,rfl,_⟩:=h;rfl
 |tup xs=>obtain⟨a,vs,rfl,_⟩:=h;rfl
 |lst n xs=>obtain⟨a,vs,rfl,_⟩:=h;rfl
def zml(m:jP A):jP (kh A):=λS Q Q' k q=>m S _ _ (λx z=>k _ z) q
def zvs(hA:DE X c a A):DE X c (.Compare a [.Is] [.Constant .none j pos'] pos) (kh A):=
 ⟨zml hA.mono,dM (zvB (zrT hA.pe)) λZ H Q ⟨S,G,r,q⟩=>⟨S,G,r,hA.mono S _ _ (λx z v H' G' t e=>by show Q (V.bl (decide (v=V.non))) H';rw[zoz e];exact z _ H' G' t rfl) q⟩⟩
def KH(hA:DE X c a A):DT X c (.Compare a [.Is] [.Constant .none j pos'] pos) (bG (kh A)):=
 ⟨zkT (zml hA.mono),BL (zoy (zrT hA.pe)) λZ H Q ⟨S,G,r,q⟩=>⟨S,G,r,hA.mono S _ _ (λx z v H' G' t e=>⟨_,rfl,by rw[zoz e];exact z H' G' t⟩) q⟩⟩
end
mutual
def toPy:D->PyData
 |.non=>.none
 |.bl b=>.bool b
 |.int i=>.int i
 |.str x=>.str x
 |.box=>.none
 |.obj _=>.none
 |.dct _ _ _=>.none
 |.fdc _ _=>.none
 |.tup xs=>.tuple (lZ xs)
 |.lst _ xs=>.list (lZ xs)
def lZ:List D->List PyData
 |[]=>[]
 |x::xs=>toPy x::lZ xs
end
mutual
def dF:D->Bool
 |.non=>true
 |.bl _=>true
 |.int _=>true
 |.str x=>PyData.canLay0 (.str x)
 |.box=>false
 |.obj _=>false
 |.dct _ _ _=>false
 |.fdc _ _=>false
 |.tup xs=>cD xs
 |.lst _ xs=>cD xs
def cD:List D->Bool
 |[]=>true
 |x::xs=>dF x&&cD xs
end
mutual
theorem wH:∀d:D,dF d=true->(toPy d).canLay0=true
 |.non,_=>by unfold toPy PyData.canLay0;rfl
 |.bl _,_=>by unfold toPy PyData.canLay0;rfl
 |.int _,_=>by unfold toPy PyData.canLay0;rfl
 |.str _,h=>by unfold toPy;unfold dF at h;exact h
 |.tup xs,h=>by unfold toPy PyData.canLay0;unfold dF at h;exact zH xs h
 |.lst _ xs,h=>by unfold toPy PyData.canLay0;unfold dF at h;exact zH xs h
theorem zH:∀ds:List D,cD ds=true->PyData.canLayAll0 (lZ ds)=true
 |[],_=>by unfold lZ PyData.canLayAll0;rfl
 |x::xs,h=>by
  unfold lZ PyData.canLayAll0;unfold cD at h
  have:=(YAA _ _▸h:dF x=true/\cD xs=true)
  rw[wH x this.1,zH xs this.2];rfl
end
theorem zho:∀xs:List D,lZ xs=xs.map toPy
 |[]=>rfl
 |x::xs=>by unfold lZ;rw[zho xs];rfl
section
variable{X:Cx}
mutual
theorem Rep.reads(hK:c.K=X.K)(I:Inv X aa Z H s)(gh:Same G H):∀(d:D){v:V}{u:Value},Rep c G d v->RelV v u->dF d=true->∃as,Reads s.heap u (toPy d) as
 |.non,v,u,h,r,_=>by have:v=V.non:=h;subst this;cases r;exact⟨_,.none⟩
 |.bl b,v,u,h,r,_=>by have:v=V.bl b:=h;subst this;cases r;exact⟨_,.bool b⟩
 |.int i,v,u,h,r,_=>by have:v=V.int i:=h;subst this;obtain⟨t,rfl⟩:=r;exact⟨_,.int i t⟩
 |.str i,v,u,h,r,_=>by have:v=V.str i:=h;subst this;obtain⟨t,rfl⟩:=r;exact⟨_,.str i t⟩
 |.box,v,u,h,r,l=>by cases l
 |.obj _,v,u,h,r,l=>by cases l
 |.dct _ _ _,v,u,h,r,l=>by cases l
 |.fdc _ _,v,u,h,r,l=>by cases l
 |.tup xs,v,u,⟨a,vs,h1,h2,h3⟩,r,l=>by
  subst h1;cases r;obtain⟨its,rv,p,_⟩:=I.tuple (hK▸rD gh h2);obtain⟨as,q⟩:=aH.reads hK I gh xs h3 rv l;obtain⟨o,ho,hc,n,hd⟩:=p;unfold toPy;exact⟨_,.tuple ho hc hd (by simpa using q)⟩
 |.lst _ xs,v,u,⟨a,vs,h1,h2,_,h3⟩,r,l=>by
  subst h1;cases r;obtain⟨_,its,n,rv,ho⟩:=I.hok a _ (gh _ _ h2);obtain⟨as,q⟩:=aH.reads hK I gh xs h3 rv l;unfold toPy;exact⟨_,.list ho rfl rfl (by simpa using q)⟩
theorem aH.reads(hK:c.K=X.K)(I:Inv X aa Z H s)(gh:Same G H):∀(ds:List D){vs:List V}{us:List Value},aH c G ds vs->Vals vs us->cD ds=true->∃as,ReadsAll s.heap us (lZ ds) as
 |[],vs,us,h,r,_=>by have:vs=[]:=h;subst this;cases r;exact⟨_,.nil⟩
 |x::xs,vs,us,⟨v,ws,h1,h2,h3⟩,r,l=>by
  subst h1;cases r with
  |cons r1 r2=>
   unfold cD at l;have l':=(YAA _ _▸l:dF x=true/\cD xs=true);obtain⟨as,q1⟩:=Rep.reads hK I gh x h2 r1 l'.1;obtain⟨bs,q2⟩:=aH.reads hK I gh xs h3 r2 l'.2;exact⟨_,.cons q1 q2⟩
end
def eqB(x y:D):Bool:=PyData.eqv (toPy x) (toPy y)
def qI(x y:D):Prop:=dF x=true/\dF y=true/\min (toPy x).depth (toPy y).depth<=50
abbrev cM:F2:=λx y Q=>qI x y/\Q (.bl (eqB x y))
abbrev jT:F2:=λx y Q=>qI x y/\Q (.bl (!eqB x y))
def xH(c:Bk)(neg:Bool):R2:=λu v H Q=>∃G x y,Same G H/\Rep c G x u/\Rep c G y v/\qI x y/\Q (.bl (if neg then !eqB x y else eqB x y)) H
def zq7(hK:c.K=X.K)(hu:X.A.units+64<cLine):fZ X (compareOp .Eq) (xH c false):=by
 intro aa s Z H u v a b Q I ra rb ⟨G,x,y,gh,hx,hy,⟨lx,ly,ld⟩,q⟩;obtain⟨as,qa⟩:=hx.reads hK I gh x ra lx;obtain⟨bs,qb⟩:=hy.reads hK I gh y rb ly;exact SeqAt.compareEq_reads qa qb (wH x lx) (wH y ly) (by omega) ⟨.bl _,H,I,rfl,q⟩
def zrP(hK:c.K=X.K)(hu:X.A.units+64<cLine):fZ X (compareOp .NotEq) (xH c true):=by
 intro aa s Z H u v a b Q I ra rb ⟨G,x,y,gh,hx,hy,⟨lx,ly,ld⟩,q⟩;obtain⟨as,qa⟩:=hx.reads hK I gh x ra lx;obtain⟨bs,qb⟩:=hy.reads hK I gh y rb ly;exact SeqAt.compareNe_reads qa qb (wH x lx) (wH y ly) (by omega) ⟨.bl _,H,I,rfl,q⟩
def HW:lK cM:=λx y Q Q' k q=>⟨q.1,k _ q.2⟩
def JT:lK jT:=λx y Q Q' k q=>⟨q.1,k _ q.2⟩
def zux:pG c cM (xH c false):=λH G x y u v Q gh bx h0 rx ry q=>⟨G,x,y,gh,rx,ry,q.1,q.2 _ H G (aZ.refl gh bx) rfl⟩
def zuy:pG c jT (xH c true):=λH G x y u v Q gh bx h0 rx ry q=>⟨G,x,y,gh,rx,ry,q.1,q.2 _ H G (aZ.refl gh bx) rfl⟩
def rm(x:D)(ys:List D):Prop:=dF x=true/\cD ys=true/\min (PyData.depthAll (lZ ys)) (toPy x).depth<=50
def inB(x:D)(ys:List D):Bool:=(lZ ys).any λy=>PyData.eqv y (toPy x)
def inD(neg:Bool):F2
 |x,.lst _ ys,Q=>rm x ys/\Q (.bl (if neg then !inB x ys else inB x ys))
 |x,.tup ys,Q=>rm x ys/\Q (.bl (if neg then !inB x ys else inB x ys))
 |_,_,_=>False
def xJ(c:Bk)(neg:Bool):R2:=λu v H Q=>∃G x y,Same G H/\Rep c G x u/\Rep c G y v/\inD neg x y λd=>∃b,d=.bl b/\Q (.bl b) H
def zu6(hK:c.K=X.K)(hu:X.A.units+64<cLine):fZ X (compareOp .In) (xJ c false):=by
 intro aa s Z H u v a b Q I ra rb ⟨G,x,y,gh,hx,hy,q⟩;cases y with
 |lst n ys=>
  obtain⟨⟨lx,ly,ld⟩,_,e,q⟩:=q;cases e;obtain⟨as,qa⟩:=hx.reads hK I gh x ra lx;obtain⟨bs,qb⟩:=hy.reads hK I gh (.lst n ys) rb (by unfold dF;exact ly);unfold toPy at qb;exact SeqAt.in_list_reads qb qa (zH ys ly) (wH x lx) (by omega) ⟨.bl _,H,I,rfl,q⟩
 |tup ys=>
  obtain⟨⟨lx,ly,ld⟩,_,e,q⟩:=q;cases e;obtain⟨as,qa⟩:=hx.reads hK I gh x ra lx;obtain⟨bs,qb⟩:=hy.reads hK I gh (.tup ys) rb (by unfold dF;exact ly);unfold toPy at qb;exact SeqAt.in_tuple_reads qb qa (zH ys ly) (wH x lx) (by omega) ⟨.bl _,H,I,rfl,q⟩
 |_=>exact q.elim
def zo0(hK:c.K=X.K)(hu:X.A.units+64<cLine):fZ X (compareOp .NotIn) (xJ c true):=by
 intro aa s Z H u v a b Q I ra rb ⟨G,x,y,gh,hx,hy,q⟩;cases y with
 |lst n ys=>
  obtain⟨⟨lx,ly,ld⟩,_,e,q⟩:=q;cases e;obtain⟨as,qa⟩:=hx.reads hK I gh x ra lx;obtain⟨bs,qb⟩:=hy.reads hK I gh (.lst n ys) rb (by unfold dF;exact ly);unfold toPy at qb;exact SeqAt.notIn_list_reads qb qa (zH ys ly) (wH x lx) (by omega) ⟨.bl _,H,I,rfl,q⟩
 |tup ys=>
  obtain⟨⟨lx,ly,ld⟩,_,e,q⟩:=q;cases e;obtain⟨as,qa⟩:=hx.reads hK I gh x ra lx;obtain⟨bs,qb⟩:=hy.reads hK I gh (.tup ys) rb (by unfold dF;exact ly);unfold toPy at qb;exact SeqAt.notIn_tuple_reads qb qa (zH ys ly) (wH x lx) (by omega) ⟨.bl _,H,I,rfl,q⟩
 |_=>exact q.elim
def m_in(neg:Bool):lK (inD neg):=λx y Q Q' k q=>by
 cases y<;>first|exact⟨q.1,k _ q.2⟩|exact q
def zwg(neg:Bool):pG c (inD neg) (xJ c neg):=λH G x y u v Q gh bx h0 rx ry q=>⟨G,x,y,gh,rx,ry,by
 cases y with
 |lst n ys=>exact⟨q.1,_,rfl,q.2 _ H G (aZ.refl gh bx) rfl⟩
 |tup ys=>exact⟨q.1,_,rfl,q.2 _ H G (aZ.refl gh bx) rfl⟩
 |_=>exact q.elim⟩
section
variable{c:Bk}{a b:Expr}{A B:WE}{pos:Pos}
def jZ(hA:DE X c a A)(hB:DE X c b B)(hK:c.K=X.K:=by rfl)(hu:X.A.units+64<cLine:=by decreasing_trivial):DE X c (.Compare a [.Eq] [b] pos) (ak cM A B):=zsZ HW (zq7 hK hu) zux hA hB (v8 _)
def d_ne(hA:DE X c a A)(hB:DE X c b B)(hK:c.K=X.K:=by rfl)(hu:X.A.units+64<cLine:=by decreasing_trivial):DE X c (.Compare a [.NotEq] [b] pos) (ak jT A B):=zsZ JT (zrP hK hu) zuy hA hB (v8 _)
def dz(hA:DE X c a A)(hB:DE X c b B)(hK:c.K=X.K:=by rfl)(hu:X.A.units+64<cLine:=by decreasing_trivial):DT X c (.Compare a [.Eq] [b] pos) (bG (ak cM A B)):=Cy HW (zq7 hK hu) zux hA hB (v8 _)
def mQ(hA:DE X c a A)(hB:DE X c b B)(hK:c.K=X.K:=by rfl)(hu:X.A.units+64<cLine:=by decreasing_trivial):DT X c (.Compare a [.NotEq] [b] pos) (bG (ak jT A B)):=Cy JT (zrP hK hu) zuy hA hB (v8 _)
def Gf:D->Option Bool
 |.non=>some false
 |.bl b=>some b
 |.int i=>some (i != 0)
 |.lst _ xs=>some (!xs.isEmpty)
 |.tup xs=>some (!xs.isEmpty)
 |_=>none
def nD(d:D)(Q:Bool->Prop):Prop:=match Gf d with|some b=>Q b|none=>False
abbrev jq(A:WE):WT:=λS Q=>A S λd=>nD d Q
def zkR(gh:Same G H)(h:Rep c G d v)(e:Gf d=some k):wR c.K v H k:=by
 cases d with
 |non=>cases h;cases e;rfl
 |bl b=>cases h;cases e;rfl
 |int i=>cases h;cases e;rfl
 |lst n xs=>
  obtain⟨a,vs,rfl,h1,_,h2⟩:=h;cases e;refine .inl ⟨vs,.inl (.inl (gh _ _ h1)),?_⟩
  have:=h2.length
  cases xs<;>cases vs<;>first|rfl|simp at this
 |tup xs=>
  obtain⟨a,vs,rfl,h1,h2⟩:=h;cases e;refine .inr (.inl ⟨vs,rD gh h1,?_⟩)
  have:=h2.length
  cases xs<;>cases vs<;>first|rfl|simp at this
 |str x=>cases e
 |box=>cases e
 |obj a=>cases e
 |dct n ks xs=>cases e
 |fdc ks xs=>cases e
def zg3(d:D)(k:∀b,Q b->Q' b)(q:nD d Q):nD d Q':=by
 unfold nD at q ⊢;split at q
 .exact k _ q
 .exact q.elim
def wF(hA:DE X c a A)(he:∀whole,isTrue a X.env whole=(do let v <-whole;standAt a.pos;holding [v] (truthy v)):=by intro _;rfl)(hK:c.K=X.K:=by rfl):DT X c a (jq A)where
 mono:=λS Q Q' k q=>hA.mono S _ _ (λd z=>zg3 d k z) q
 pt:=BL (zlF hA.pe he) λZ H Q ⟨S,G,r,q⟩=>⟨S,G,r,hA.mono S _ _ (λd z v H' G' t e=>by
  unfold nD at z;split at z
  .rename_i k hk
   exact⟨k,hK▸zkR t.gh e hk,z H' G' t⟩
  .exact z.elim) q⟩
abbrev lM(A:WT):WT:=λS Q=>A S λb=>Q (!b)
def z9{A:WT}(hA:DT X c a A):DT X c (.UnaryOp .Not a pos) (lM A)where
 mono:=λS Q Q' k q=>hA.mono S _ _ (λd z=>k _ z) q
 pt:=BL (zrJ hA.pt) λZ H Q ⟨S,G,r,q⟩=>⟨S,G,r,q⟩
abbrev lr(A B:WT):WT:=λS Q=>A S λb=>if b=true then B S Q else Q false
abbrev uJ(A B:WT):WT:=λS Q=>A S λb=>if b=true then Q true else B S Q
structure DW(X:Cx)(c:Bk)(e:Expr)(W:WT):Prop where
 mono:wQ W
 pw:PW X e (Dk c W)
def DW.dt(h:DW X c a W):DT X c a W:=⟨h.mono,h.pw.pt⟩
def zq6(h:PW X e t)(k:∀ Z H Q,t' Z H Q->t Z H Q):PW X e t':=λwh aa s Z H Q I q=>h wh aa s Z H Q I (k Z H Q q)
def J4{A:WT}(hA:DT X c a A):DW X c (.BoolOp .And [a] pos) A:=⟨hA.mono,zs7 hA.pt⟩
def zX{A:WT}(hA:DT X c a A):DW X c (.BoolOp .Or [a] pos) A:=⟨hA.mono,zuW hA.pt⟩
def xM{A B:WT}{rest:List Expr}(hA:DT X c a A)(hB:DW X c (.BoolOp .And (b::rest) pos) B):DW X c (.BoolOp .And (a::b::rest) pos) (lr A B)where
 mono:=λS Q Q' k q=>hA.mono S _ _ (λd z=>by
  cases d
  .exact k _ z
  .exact hB.mono S _ _ k z) q
 pw:=zq6 (zt9 hA.pt hB.pw) λZ H Q ⟨S,G,r,q⟩=>⟨S,G,r,hA.mono S _ _ (λd z H' G' t=>by
  cases d
  .exact z H' G' t
  .exact⟨S,G',r.step t,hB.mono S _ _ (λb' z' H2 G2 t2=>z' H2 G2 (t.trans t2)) z⟩) q⟩
def w_or{A B:WT}{rest:List Expr}(hA:DT X c a A)(hB:DW X c (.BoolOp .Or (b::rest) pos) B):DW X c (.BoolOp .Or (a::b::rest) pos) (uJ A B)where
 mono:=λS Q Q' k q=>hA.mono S _ _ (λd z=>by
  cases d
  .exact hB.mono S _ _ k z
  .exact k _ z) q
 pw:=zq6 (zwd hA.pt hB.pw) λZ H Q ⟨S,G,r,q⟩=>⟨S,G,r,hA.mono S _ _ (λd z H' G' t=>by
  cases d
  .exact⟨S,G',r.step t,hB.mono S _ _ (λb' z' H2 G2 t2=>z' H2 G2 (t.trans t2)) z⟩
  .exact z H' G' t) q⟩
def zM(d:D)(Q:Bool->Prop):Prop:=match d with|.bl b=>Q b|_=>False
def zia(d:D)(k:∀b,Q b->Q' b)(q:zM d Q):zM d Q':=by
 cases d<;>first|exact k _ q|exact q
abbrev pJ(A B:WE):WE:=λS Q=>A S λx=>zM x λk=>if k=true then B S Q else Q (.bl false)
abbrev xF(A:WE):WE:=λS Q=>A S λx=>zM x λk=>Q (.bl (!k))
def Ac(hA:DE X c a A):DE X c (.BoolOp op [a] pos) A:=⟨hA.mono,zuv hA.pe⟩
def De{rest:List Expr}(hA:DE X c a A)(hB:DE X c (.BoolOp .And (b::rest) pos) B):DE X c (.BoolOp .And (a::b::rest) pos) (pJ A B)where
 mono:=λS Q Q' k q=>hA.mono S _ _ (λd z=>zia d (λb z=>by
  cases b
  .exact k _ z
  .exact hB.mono S _ _ k z) z) q
 pe:=dM (zuL hA.pe hB.pe) λZ H Q ⟨S,G,r,q⟩=>⟨S,G,r,hA.mono S _ _ (λd z v H' G' t e=>by
  cases d with
  |bl k=>
   refine⟨k,e,?_⟩;cases k
   .exact z _ H' G' t rfl
   .exact⟨S,G',r.step t,hB.mono S _ _ (λb' z' v2 H2 G2 t2=>z' v2 H2 G2 (t.trans t2)) z⟩
  |_=>exact z.elim) q⟩
def zuI(hA:DE X c a A):DE X c (.UnaryOp .Not a pos) (xF A)where
 mono:=λS Q Q' k q=>hA.mono S _ _ (λd z=>zia d (λb z=>k _ z) z) q
 pe:=dM (zue hA.pe) λZ H Q ⟨S,G,r,q⟩=>⟨S,G,r,hA.mono S _ _ (λd z v H' G' t e=>by
  cases d with
  |bl k=>exact⟨k,e,z _ H' G' t rfl⟩
  |_=>exact z.elim) q⟩
abbrev ifW(C:WT)(A B:WE):WE:=λS Q=>C S λk=>if k=true then A S Q else B S Q
def d_if(hC:DT X c ce C)(hA:DE X c a A)(hB:DE X c b B):DE X c (.IfExp ce a b pos) (ifW C A B)where
 mono:=λS Q Q' k q=>hC.mono S _ _ (λd z=>by
  cases d
  .exact hB.mono S _ _ k z
  .exact hA.mono S _ _ k z) q
 pe:=dM (zqe hC.pt hA.pe hB.pe) λZ H Q ⟨S,G,r,q⟩=>⟨S,G,r,hC.mono S _ _ (λd z H' G' t=>by
  cases d
  .exact⟨S,G',r.step t,hB.mono S _ _ (λb' z' v2 H2 G2 t2=>z' v2 H2 G2 (t.trans t2)) z⟩
  .exact⟨S,G',r.step t,hA.mono S _ _ (λb' z' v2 H2 G2 t2=>z' v2 H2 G2 (t.trans t2)) z⟩) q⟩
abbrev vf(f g:F2)(A B C:WE):WE:=λS Q=>A S λx=>B S λy=>f x y λz=>zM z λk=>if k=true then C S λw=>g y w Q else Q (.bl false)
end
end
section
variable{X:Cx}{c:Bk}{a b e:Expr}{A B:WE}{pos p:Pos}{es:List Expr}
abbrev ao:WL:=λ_ Q=>Q []
abbrev aq(A:WE)(R:WL):WL:=λS Q=>A S λd=>R S λds=>Q (d::ds)
def aK:DA X c [] ao:=⟨λ_ _ _ k q=>k _ q,zrG jW λZ H Q ⟨S,G,r,q⟩=>q [] H G r.refl rfl⟩
def aB(hA:DE X c e A)(hR:DA X c es R)(hs:starEach (e::es) X.env=(false,eval e X.env)::starEach es X.env:=by rfl):DA X c (e::es) (aq A R)where
 mono:=λS Q Q' k q=>hA.mono S _ _ (λd z=>hR.mono S _ _ (λds y=>k _ y) z) q
 pa:=zrG (iI hA.pe hR.pa hs) λZ H Q ⟨S,G,r,q⟩=>⟨S,G,r,hA.mono S _ _ (λd z v H1 G1 t1 e1=>⟨S,G1,r.step t1,hR.mono S _ _ (λds y vs H2 G2 t2 e2=>
  y (v::vs) H2 G2 (t1.trans t2) ⟨v,vs,rfl,e1.mono t2.gg,e2⟩) z⟩) q⟩
abbrev bu(R:WL):WE:=λS Q=>R S λds=>ds.length<=100000/\Q (.tup ds)
def fK(hR:DA X c es R):DE X c (.Tuple es x1 pos) (bu R)where
 mono:=λS Q Q' k q=>hR.mono S _ _ (λds z=>⟨z.1,k _ z.2⟩) q
 pe:=dM (zut hR.pa) λZ H Q ⟨S,G,r,q⟩=>⟨S,G,r,hR.mono S _ _ (λds z vs H' G' t e=>⟨by rw[<-e.length];exact eZ z.1,λp hp=>
  z.2 (.ref p) _ _ (t.trans (aZ.new t.gh t.bx hp)) ⟨p,vs,rfl,fY.of cJ,e.mono (nW (lU t.gh hp))⟩⟩) q⟩
abbrev aX(R:WL):WL:=λS Q=>R S λds=>ds.length<=100000/\Q ds
def fj(hR:DA X c es R):DF X c (.List es pos) (aX R)where
 mono:=λS Q Q' k q=>hR.mono S _ _ (λds z=>⟨z.1,k _ z.2⟩) q
 pe:=dM (zrr hR.pa) λZ H Q ⟨S,G,r,q⟩=>⟨S,G,r,hR.mono S _ _ (λds z vs H' G' t e=>⟨by rw[<-e.length];exact eZ z.1,λp hp=>
  z.2 p vs _ _ (t.trans (aZ.own t.gh t.bx hp)) cJ (lU t.gh hp) (t.free hp) e⟩) q⟩
def ziP(h:aH c G ds vs)(e:gO ds i=some d):∃v,gO vs i=some v/\Rep c G d v:=by
 unfold gO at e ⊢;rw[h.length]at e;cases z:tH vs.length i with
 |none=>rw[z]at e;cases e
 |some j=>rw[z]at e;exact h.get e
def Bf(xs:List D)(y:D)(Q:D->Prop):Prop:=match y with|.int i=>(match gO xs i with|some d=>Q d|none=>False)|_=>False
def ixD:F2
 |.lst _ xs,y,Q=>Bf xs y Q
 |.tup xs,y,Q=>Bf xs y Q
 |_,_,_=>False
def zil(k:∀d,Q d->Q' d)(q:Bf xs y Q):Bf xs y Q':=by
 cases y with
 |int i=>
  unfold Bf at q ⊢;simp only at q ⊢;split at q
  .exact k _ q
  .exact q.elim
 |_=>exact q
def zY:lK ixD:=λx y Q Q' k q=>by
 cases x<;>first|exact zil k q|exact q
def zvu:pG c ixD (rIx c.K):=by
 intro H G x y u v Q gh bx h0 rx ry q;cases x with
 |lst n xs=>
  obtain⟨a,vs,rfl,ha,_,rv⟩:=rx;cases y with
  |int i=>
   cases ry;have q:(match gO xs i with|some d=>_|none=>False):=q;split at q
   .rename_i d e
    obtain⟨w,e',rw'⟩:=ziP rv e;exact .inl ⟨a,vs,i,w,rfl,rfl,cz.of (gh _ _ ha),e',q w H G (aZ.refl gh bx) rw'⟩
   .exact q.elim
  |_=>exact q.elim
 |tup xs=>
  obtain⟨a,vs,rfl,ha,rv⟩:=rx;cases y with
  |int i=>
   cases ry;have q:(match gO xs i with|some d=>_|none=>False):=q;split at q
   .rename_i d e
    obtain⟨w,e',rw'⟩:=ziP rv e;exact .inr (.inl ⟨a,vs,i,w,rfl,rfl,rD gh ha,e',q w H G (aZ.refl gh bx) rw'⟩)
   .exact q.elim
  |_=>exact q.elim
 |_=>exact q.elim
def fV(i:Nat)(B:WE):WE:=λS Q=>match S[i]? with
 |some (.val d)=>B S λy=>ixD d y Q
 |some (.own xs)=>B S λy=>Bf xs y Q
 |_=>False
def zU(i:Nat)(hB:DE X c b B)(hs:zio b:=by intro _ _;rfl)(nk:Nk X i x:=by decreasing_trivial)(hK:c.K=X.K:=by rfl):DE X c (.Subscript (.Name x p) b pos) (fV i B)where
 mono:=λS Q Q' k q=>by
  unfold fV at q ⊢;split at q
  .exact hB.mono S _ _ (λy z=>zY _ y _ _ k z) q
  .exact hB.mono S _ _ (λy z=>zil k z) q
  .exact q.elim
 pe:=dM (uA (hK▸zoC (X:=X)) (kO nk.N nk.v nk.d nk.c) hB.pe hs) λZ H Q ⟨S,G,r,q⟩=>by
  unfold fV at q;split at q
  .rename_i d e
   obtain⟨v,h1,h2⟩:=r.slot i _ e;refine⟨v,h1,S,G,r,hB.mono S _ _ (λy z w H1 G1 t1 e1=>?_) q⟩;exact zvu H1 G1 d y v w Q t1.gh t1.bx (λa z=>r.new0 (t1.free z)) (h2.mono t1.gg) e1 (zY d y _ _ (λd' z' w' H2 G2 t2 e2=>z' w' H2 G2 (t1.trans t2) e2) z)
  .rename_i xs e
   obtain⟨a,vs,h1,h2,h3,h4,h5,h6⟩:=r.slot i _ e;refine⟨.ref a,h1,S,G,r,hB.mono S _ _ (λy z w H1 G1 t1 e1=>?_) q⟩;cases y with
   |int k=>
    cases e1;have z:(match gO xs k with|some d=>_|none=>False):=z;split at z
    .rename_i d' e'
     obtain⟨w',f,rw'⟩:=ziP h6 e';exact .inl ⟨a,vs,k,w',rfl,rfl,cz.of (t1.fr a _ h5 h2),f,z w' H1 G1 t1 (rw'.mono t1.gg)⟩
    .exact z.elim
   |_=>exact z.elim
  .exact q.elim
def cutD{α:Type}(xs:List α)(lo hi:Option Int):List α:=(xs.drop (HT.cg xs.length 0 lo)).take (HT.cg xs.length xs.length hi-HT.cg xs.length 0 lo)
def aH.cut(h:aH c G ds vs)(lo hi:Option Int):aH c G (cutD ds lo hi) (jK vs lo hi):=by
 unfold cutD jK;rw[h.length];exact(h.drop _).take _
abbrev WO:=Env->(Option Int->Prop)->Prop
structure DO(X:Cx)(c:Bk)(e:Option Expr)(W:WO):Prop where
 mono:∀ S Q Q',(∀d,Q d->Q' d)->W S Q->W S Q'
 po:PO X e λZ H Q=>∃ S G,Rel c S Z H G/\W S λo=>∀H' G',aZ c.β H G H' G'->Q o H'
abbrev rK:WO:=λ_ Q=>Q none
def rH(A:WE):WO:=λS Q=>A S λd=>match d with|.int i=>Q (some i)|_=>False
def Dd:DO X c none rK:=⟨λ_ _ _ k q=>k _ q,λaa s Z H Q I ⟨S,G,r,q⟩=>zn7 aa s Z H Q I (q H G r.refl)⟩
def EY(hA:DE X c a A):DO X c (some a) (rH A)where
 mono:=λS Q Q' k q=>hA.mono S _ _ (λd z=>by cases d<;>first|exact k _ z|exact z) q
 po:=λaa s Z H Q I ⟨S,G,r,q⟩=>znB hA.pe aa s Z H Q I ⟨S,G,r,hA.mono S _ _ (λd z v H' G' t e=>by
  cases d with
  |int i=>exact⟨i,e,z H' G' t⟩
  |_=>exact z.elim) q⟩
def slD(x:D)(lo hi:Option Int)(Q:D->Prop):Prop:=match x with
 |.lst _ xs=>Q (.lst true (cutD xs lo hi))
 |.tup xs=>Q (.tup (cutD xs lo hi))
 |_=>False
def zf2(fm:lK f)(gm:lK g)(mA:jP A)(mB:jP B)(mC:jP C):jP (vf f g A B C):=λS Q Q' k q=>mA S _ _ (λx q1=>mB S _ _ (λy q2=>fm x y _ _ (λz q3=>zia z (λb q4=>by
 cases b
 .exact k _ q4
 .exact mC S _ _ (λw q5=>gm y w _ _ k q5) q4) q3) q2) q1) q
def zhO(fm:lK f)(gm:lK g)(mA:jP A)(mB:jP B)(mC:jP C)(hr:pG c f r)(hr':pG c g r')(Z:St)(H:Hp)(Q:VK)(h:tD c (vf f g A B C) Z H Q):zoI r r' (tD c A) (tD c B) (tD c C) Z H Q:=by
 obtain⟨S,G,R,q⟩:=h;refine⟨S,G,R,mA S _ _ (λx q1 u H1 G1 t1 e1=>⟨S,G1,R.step t1,mB S _ _ (λy q2 v H2 G2 t2 e2=>?_) q1⟩) q⟩;refine hr H2 G2 x y u v _ t2.gh t2.bx (λa z=>R.new0 (t1.free (t2.free z))) (e1.mono t2.gg) e2 (fm x y _ _ (λz q3 w H3 G3 t3 e3=>?_) q2);cases z with
 |bl k=>
  refine⟨k,e3,?_⟩;cases k
  .exact q3 _ H3 G3 ((t1.trans t2).trans t3) rfl
  .refine⟨S,G3,((R.step t1).step t2).step t3,mC S _ _ (λw' q5 v' H4 G4 t4 e4=>?_) q3⟩;exact hr' H4 G4 y w' v v' Q t4.gh t4.bx (λa z=>R.new0 (t1.free (t2.free (t3.free (t4.free z))))) ((e2.mono t3.gg).mono t4.gg) e4 (gm y w' _ _ (λd z w2 H5 G5 t5 e5=>z w2 H5 G5 ((((t1.trans t2).trans t3).trans t4).trans t5) e5) q5)
 |_=>exact q3.elim
end
section
variable{X:Cx}{c:Bk}{a b e:Expr}{A B:WE}{pos p p':Pos}{es:List Expr}
abbrev FL:=List D->(D->Prop)->Prop
def uw(f:FL):Prop:=∀ds Q Q',(∀d,Q d->Q' d)->f ds Q->f ds Q'
abbrev cbW(f:FL)(R:WL):WE:=λS Q=>R S λds=>f ds Q
def vY(c:Bk)(f:FL)(r:List V->Hp->VK->Prop):Prop:=∀(H G:Hp)(ds:List D)(vs:List V)(Q:VK),Same G H->d9 c.β H G->(∀a,H a=none->c.H0 a=none)->aH c G ds vs ->
 f ds (λd=>∀v H' G',aZ c.β H G H' G'->Rep c G' d v->Q v H')->r vs H Q
def zoK(fm:uw f)(mR:sZ R)(hr:vY c f r)(Z:St)(H:Hp)(Q:VK)(h:tD c (cbW f R) Z H Q):tCB r (tDs c R) Z H Q:=by
 obtain⟨S,G,r',q⟩:=h;exact⟨S,G,r',mR S _ _ (λds z vs H' G' t e=>hr H' G' ds vs Q t.gh t.bx (λa z=>r'.new0 (t.free z)) e (fm ds _ _ (λd y v H2 G2 t2 e2=>y v H2 G2 (t.trans t2) e2) z)) q⟩
def ziW{f:FL}{R:WL}{r:List V->Hp->VK->Prop}{id:String}{x:Str}(fm:uw f)(hc:cY X (.builtin id) r)(hr:vY c f r)(hm:X.mg x=none)(hv:bootBuiltins x=some (.builtin id))(hR:DA X c (e::es) R)(hg:Gl X x:=by rfl)(hn:x≠"__name__":=by decide)(hdb:(x==("__debug__":Str))=false:=by decide)
  (he:starEach (e::es) X.env=(false,eval e X.env)::starEach es X.env:=by rfl) (hpl:(backTo pos (starEach es X.env)).any (·.1)=false:=by rfl):DE X c (.Call (.Name x p) (e::es) [] pos) (cbW f R):=
 ⟨λS Q Q' k q=>hR.mono S _ _ (λds z=>fm ds _ _ k z) q,dM (Dz hc hg hm hv hR.pa hn hdb he hpl) (zoK fm hR.mono hr)⟩
def zl3(fm:uw f)(hc:cY X (.type T) r)(hr:vY c f r)(hm:X.mg x=none)(hv:bootBuiltins x=some (.type T))(hR:DA X c (e::es) R)(hg:Gl X x:=by rfl)(hn:x≠"__name__":=by decide)(hdb:(x==("__debug__":Str))=false:=by decide)
  (he:starEach (e::es) X.env=(false,eval e X.env)::starEach es X.env:=by rfl) (hpl:(backTo pos (starEach es X.env)).any (·.1)=false:=by rfl):DE X c (.Call (.Name x p) (e::es) [] pos) (cbW f R):=
 ⟨λS Q Q' k q=>hR.mono S _ _ (λds z=>fm ds _ _ k z) q,dM (zu hc hg hm hv hR.pa hn hdb he hpl) (zoK fm hR.mono hr)⟩
def uX(h:aH c G [d] vs):∃v,vs=[v]/\Rep c G d v:=by
 obtain⟨v,ws,rfl,h1,h2⟩:=h;cases h2;exact⟨v,rfl,h1⟩
def zv4(h:aH c G [d,f] vs):∃v w,vs=[v,w]/\Rep c G d v/\Rep c G f w:=by
 obtain⟨v,ws,rfl,h1,w,ws',rfl,h2,h3⟩:=h;cases h3;exact⟨v,w,rfl,h1,h2⟩
def tG:FL
 |[.lst _ xs],Q=>Q (.int xs.length)
 |[.tup xs],Q=>Q (.int xs.length)
 |_,_=>False
def zuE:uw tG:=λds Q Q' k q=>by
 unfold tG at q ⊢;split at q<;>first|exact k _ q|exact q.elim
def zro:vY c tG (λxs H Q=>∃p ys,xs=[.ref p]/\(cz c.K H p ys\/fY c.K H p ys)/\Q (.int ys.length) H):=by
 intro H G ds vs Q gh bx h0 rv q;unfold tG at q;split at q
 .obtain⟨v,rfl,a,ws,rfl,ha,_,hw⟩:=uX rv;exact⟨a,ws,rfl,.inl (cz.of (gh _ _ ha)),by rw[<-hw.length];exact q _ H G (aZ.refl gh bx) rfl⟩
 .obtain⟨v,rfl,a,ws,rfl,ha,hw⟩:=uX rv;exact⟨a,ws,rfl,.inr (rD gh ha),by rw[<-hw.length];exact q _ H G (aZ.refl gh bx) rfl⟩
 .exact q.elim
def CN(i:Nat):WE:=λS Q=>match S[i]? with
 |some (.val d)=>tG [d] Q
 |some (.own xs)=>Q (.int xs.length)
 |_=>False
def zrS(i:Nat)(hg:Gl X "len":=by rfl)(nk:Nk X i x:=by decreasing_trivial)(hK:c.K=X.K:=by rfl)(hm:X.mg "len"=none:=by decreasing_trivial):DE X c (.Call (.Name "len" p) [.Name x p'] [] pos) (CN i)where
 mono:=λS Q Q' k q=>by
  unfold CN at q ⊢;split at q
  .exact zuE _ _ _ k q
  .exact k _ q
  .exact q.elim
 pe:=dM (Dz gH hg hm YCN (iI (kO nk.N nk.v nk.d nk.c) jW)) λZ H Q ⟨S,G,r,q⟩=>by
  unfold CN at q;split at q
  .rename_i d e
   obtain⟨v,h1,h2⟩:=r.slot i _ e;exact⟨v,h1,hK▸zro H G [d] [v] Q r.gh r.bx (λa z=>r.new0 z) (.one h2) q⟩
  .rename_i xs e
   obtain⟨a,vs,h1,h2,h3,h4,h5,h6⟩:=r.slot i _ e;exact⟨.ref a,h1,a,vs,rfl,.inl (cz.of h2),by rw[<-h6.length];exact q _ H G r.refl rfl⟩
  .exact q.elim
def qR(d:D)(Q:List D->Prop):Prop:=match d with|.lst _ xs=>Q xs|.tup xs=>Q xs|_=>False
def zhk(k:∀xs,Q xs->Q' xs)(q:qR d Q):qR d Q':=by
 cases d<;>first|exact k _ q|exact q
abbrev yr(A:WE):WL:=λS Q=>A S λd=>qR d Q
def Ie(hA:DE X c e A)(hg:Gl X "list":=by rfl)(he:starEach [e] X.env=(false,eval e X.env)::starEach [] X.env:=by rfl)(hK:c.K=X.K:=by rfl)(hm:X.mg "list"=none:=by decreasing_trivial):DF X c (.Call (.Name "list" p) [e] [] pos) (yr A)where
 mono:=λS Q Q' k q=>hA.mono S _ _ (λd z=>zhk k z) q
 pe:=dM (zu zei hg hm Hn (iI hA.pe jW he) (by decide) (by decide) he rfl) λZ H Q ⟨S,G,r,q⟩=>⟨S,G,r,hA.mono S _ _ (λd z v H' G' t e=>by
  cases d with
  |lst n xs=>
   obtain⟨a,vs,rfl,ha,_,rv⟩:=e;exact⟨a,vs,rfl,.inl (cz.of (t.gh _ _ ha)),λl hl=>z l vs _ _ (t.trans (aZ.own t.gh t.bx hl)) cJ (lU t.gh hl) (t.free hl) rv⟩
  |tup xs=>
   obtain⟨a,vs,rfl,ha,rv⟩:=e;exact⟨a,vs,rfl,.inr (hK▸rD t.gh ha),λl hl=>z l vs _ _ (t.trans (aZ.own t.gh t.bx hl)) cJ (lU t.gh hl) (t.free hl) rv⟩
  |_=>exact z.elim) q⟩
def ud(A B:WE):WL:=λS Q=>A S λx=>B S λy=>match x,y with|.lst _ xs,.lst _ ys=>xs.length+ys.length<=100000/\Q (xs++ys)|_,_=>False
def zrW(hA:DE X c a A)(hB:DE X c b B):DF X c (.BinOp a .Add b pos) (ud A B)where
 mono:=λS Q Q' k q=>hA.mono S _ _ (λx z=>hB.mono S _ _ (λy w=>by cases x<;>cases y<;>first|exact⟨w.1,k _ w.2⟩|exact w) z) q
 pe:=dM (pL vN hA.pe hB.pe) λZ H Q ⟨S,G,r,q⟩=>⟨S,G,r,hA.mono S _ _ (λx z u H1 G1 t1 e1=>⟨S,G1,r.step t1,hB.mono S _ _ (λy w v H2 G2 t2 e2=>by
  cases x with
  |lst n xs=>cases y with
   |lst m ys=>
    obtain⟨l,vs,rfl,ha,_,rv⟩:=e1.mono t2.gg;obtain⟨l2,ws,rfl,hb,_,rw'⟩:=e2;refine⟨l,l2,vs,ws,rfl,rfl,t2.gh _ _ ha,t2.gh _ _ hb,?_,λp hp=>?_⟩
    .rw[<-rv.length,<-rw'.length];exact eZ w.1
    .exact w.2 p _ _ _ ((t1.trans t2).trans (aZ.own t2.gh t2.bx hp)) cJ (lU t2.gh hp) ((t1.trans t2).free hp) (rv.append rw')
   |_=>exact w.elim
  |_=>exact w.elim) z⟩) q⟩
def wg:FL
 |[.lst _ xs],Q=>Q (.tup xs)
 |[.tup xs],Q=>Q (.tup xs)
 |_,_=>False
def zsO:uw wg:=λds Q Q' k q=>by
 unfold wg at q ⊢;split at q<;>first|exact k _ q|exact q.elim
def zqj:vY c wg (λxs H Q=>∃p ys,xs=[.ref p]/\((cz c.K H p ys/\∀l,H l=none->Q (.ref l) (upd H l (.tup ys)))\/(fY c.K H p ys/\Q (.ref p) H))):=by
 intro H G ds vs Q gh bx h0 rv q;unfold wg at q;split at q
 .obtain⟨v,rfl,a,ws,rfl,ha,_,hw⟩:=uX rv;exact⟨a,ws,rfl,.inl ⟨cz.of (gh _ _ ha),λl hl=>q (.ref l) _ _ (aZ.new gh bx hl) ⟨l,ws,rfl,fY.of cJ,hw.mono (nW (lU gh hl))⟩⟩⟩
 .obtain⟨v,rfl,a,ws,rfl,ha,hw⟩:=uX rv;exact⟨a,ws,rfl,.inr ⟨rD gh ha,q (.ref a) H G (aZ.refl gh bx) ⟨a,ws,rfl,ha,hw⟩⟩⟩
 .exact q.elim
def zkO(hR:DA X c [e] R)(hg:Gl X "tuple":=by rfl)(he:starEach [e] X.env=(false,eval e X.env)::starEach [] X.env:=by rfl)(hK:c.K=X.K:=by rfl)(hm:X.mg "tuple"=none:=by decreasing_trivial):DE X c (.Call (.Name "tuple" p) [e] [] pos) (cbW wg R):=
 zl3 zsO zig (hK▸zqj) hm PyProof.Rows.boot_tuple hR hg (by decide) (by decide) he rfl
def vm:FL
 |[.int i],Q=>Q (.int i)
 |[.bl k],Q=>Q (.int (if k then 1 else 0))
 |_,_=>False
def zv7:uw vm:=λds Q Q' k q=>by
 unfold vm at q ⊢;split at q<;>first|exact k _ q|exact q.elim
def zvq:vY c vm (λxs H Q=>(∃i,xs=[.int i]/\Q (.int i) H)\/∃k,xs=[.bl k]/\Q (.int (if k then 1 else 0)) H):=by
 intro H G ds vs Q gh bx h0 rv q;unfold vm at q;split at q
 .obtain⟨v,rfl,h⟩:=uX rv;cases h;exact .inl ⟨_,rfl,q _ H G (aZ.refl gh bx) rfl⟩
 .obtain⟨v,rfl,h⟩:=uX rv;cases h;exact .inr ⟨_,rfl,q _ H G (aZ.refl gh bx) rfl⟩
 .exact q.elim
def m8:FL
 |[.lst _ xs],Q=>∃bs:List Bool,xs=bs.map D.bl/\Q (.bl (bs.all id))
 |_,_=>False
def anyF:FL
 |[.lst _ xs],Q=>∃bs:List Bool,xs=bs.map D.bl/\Q (.bl (bs.any id))
 |_,_=>False
def zv3:uw m8:=λds Q Q' k q=>by
 unfold m8 at q ⊢;split at q
 .obtain⟨bs,e,q⟩:=q;exact⟨bs,e,k _ q⟩
 .exact q.elim
def zww:uw anyF:=λds Q Q' k q=>by
 unfold anyF at q ⊢;split at q
 .obtain⟨bs,e,q⟩:=q;exact⟨bs,e,k _ q⟩
 .exact q.elim
def zu1:vY c m8 (λvs H Q=>∃(p:Addr)(bs:List Bool),vs=[.ref p]/\cz c.K H p (bs.map V.bl)/\Q (.bl (bs.all id)) H):=by
 intro H G ds vs Q gh bx h0 rv q;unfold m8 at q;split at q
 .obtain⟨bs,rfl,q⟩:=q;obtain⟨v,rfl,a,ws,rfl,ha,_,hw⟩:=uX rv;rw[gJ.mp hw]at ha;exact⟨a,bs,rfl,cz.of (gh _ _ ha),q _ H G (aZ.refl gh bx) rfl⟩
 .exact q.elim
def zt0:vY c anyF (λvs H Q=>∃(p:Addr)(bs:List Bool),vs=[.ref p]/\cz c.K H p (bs.map V.bl)/\Q (.bl (bs.any id)) H):=by
 intro H G ds vs Q gh bx h0 rv q;unfold anyF at q;split at q
 .obtain⟨bs,rfl,q⟩:=q;obtain⟨v,rfl,a,ws,rfl,ha,_,hw⟩:=uX rv;rw[gJ.mp hw]at ha;exact⟨a,bs,rfl,cz.of (gh _ _ ha),q _ H G (aZ.refl gh bx) rfl⟩
 .exact q.elim
def zs9(hR:DA X c [e] R)(hg:Gl X "all":=by rfl)(he:starEach [e] X.env=(false,eval e X.env)::starEach [] X.env:=by rfl)(hK:c.K=X.K:=by rfl)(hcalm:X.calm=true:=by rfl)(hm:X.mg "all"=none:=by decreasing_trivial):DE X c (.Call (.Name "all" p) [e] [] pos) (cbW m8 R):=
 ziW zv3 (zpg hcalm) (hK▸zu1) hm PyProof.Rows.boot_all hR hg (by decide) (by decide) he rfl
def zv8(hR:DA X c [e] R)(hg:Gl X "any":=by rfl)(he:starEach [e] X.env=(false,eval e X.env)::starEach [] X.env:=by rfl)(hK:c.K=X.K:=by rfl)(hcalm:X.calm=true:=by rfl)(hm:X.mg "any"=none:=by decreasing_trivial):DE X c (.Call (.Name "any" p) [e] [] pos) (cbW anyF R):=
 ziW zww (zoR hcalm) (hK▸zt0) hm PyProof.Rows.boot_any hR hg (by decide) (by decide) he rfl
def yH(T:String):D->Option Bool
 |.non=>some false
 |.bl _=>some (T=="bool" || T=="int")
 |.int _=>some (T=="int")
 |.str _=>some (T=="str")
 |.tup _=>some (T=="tuple")
 |.lst _ _=>some (T=="list")
 |.box=>none
 |.obj _=>none
 |.dct _ _ _=>none
 |.fdc _ _=>none
def jJ(T:String)(A:WE):WE:=λS Q=>A S λd=>match yH T d with|some b=>Q (.bl b)|none=>False
def ztn(hT:T="list" \/ T="tuple" \/ T="int" \/ T="bool" \/ T="str")(gh:Same G H)(h:Rep c G d v)(e:yH T d=some k):iZ c.K H v T k:=by
 cases d with
 |non=>cases h;rcases hT with rfl|rfl|rfl|rfl|rfl<;>cases e<;>constructor
 |bl b=>cases h;rcases hT with rfl|rfl|rfl|rfl|rfl<;>cases e<;>constructor
 |int b=>cases h;rcases hT with rfl|rfl|rfl|rfl|rfl<;>cases e<;>constructor
 |str b=>cases h;rcases hT with rfl|rfl|rfl|rfl|rfl<;>cases e<;>constructor
 |tup xs=>
  obtain⟨a,vs,rfl,h1,_⟩:=h;have q:=rD gh h1;rcases hT with rfl|rfl|rfl|rfl|rfl<;>cases e
  .exact .tuple_list _ _ q
  .exact .tuple_tuple _ _ q
  .exact .tuple_int _ _ q
  .exact .tuple_bool _ _ q
  .exact .tuple_str _ _ q
 |lst n xs=>
  obtain⟨a,vs,rfl,h1,_⟩:=h;have q:cz c.K H a vs:=cz.of (gh _ _ h1);rcases hT with rfl|rfl|rfl|rfl|rfl<;>cases e
  .exact .list_list _ _ q
  .exact .list_tuple _ _ q
  .exact .list_int _ _ q
  .exact .list_bool _ _ q
  .exact .list_str _ _ q
 |box=>cases e
 |obj a=>cases e
 |dct n ks xs=>cases e
 |fdc ks xs=>cases e
def uH(hA:DE X c e A)(hg:Gl X "isinstance":=by rfl)(hg2:Gl X x:=by rfl)(hn:x≠"__name__":=by decide)(hd:(x==("__debug__":Str))=false:=by decide)(he:starEach [e,.Name x p'] X.env=(false,eval e X.env)::starEach [.Name x p'] X.env:=by rfl)(hK:c.K=X.K:=by rfl)(hT:T="list" \/ T="tuple" \/ T="int" \/ T="bool" \/ T="str":=by decreasing_trivial)(hm:X.mg "isinstance"=none:=by decreasing_trivial)(hm2:X.mg x=none:=by decreasing_trivial)(hbt:bootBuiltins x=some (.type T):=by decreasing_trivial) :
  DE X c (.Call (.Name "isinstance" p) [e,.Name x p'] [] pos) (jJ T A)where
 mono:=λS Q Q' k q=>hA.mono S _ _ (λd z=>by
  revert z;cases yH T d with
  |none=>exact id
  |some b=>exact k _) q
 pe:=dM (Dz zqr hg hm PyProof.Rows.boot_isinstance (iI hA.pe (iI (zn0 (v:=.ty T) hg2 hm2 hbt rfl hn hd) jW) he) (by decide) (by decide) he rfl) λZ H Q ⟨S,G,r,q⟩=>⟨S,G,r,hA.mono S _ _ (λd z v H' G' t e=>by
  revert z;cases hk:yH T d with
  |none=>exact False.elim
  |some b=>exact λz=>⟨v,T,b,rfl,hK▸ztn hT t.gh e hk,z _ H' G' t rfl⟩) q⟩
abbrev Fn:=List D->(D->Prop)->Prop
def up(F:Fn):Fn:=λds Q=>∃P:D->Prop,F ds P/\∀d,P d->Q d
def qD(F:Fn):uw (up F):=λds Q Q' k ⟨P,h1,h2⟩=>⟨P,h1,λd z=>k d (h2 d z)⟩
def cZ(K:qo)(n:Nat)(F:Fn):Sp:=λvs H Q _=>∃ β G ds,Same G H/\d9 β H G/\aH ⟨K,β,λ_=>none,G,True⟩ G ds vs/\vs.length=n/\up F ds λd=>∀v H' G',aZ β H G H' G'->Rep ⟨K,β,H,G,True⟩ G' d v->Q v H'
structure eQ(P:Program)(w:World)(K:qo)(mg:Str->Option Value)(base:Heap)(x:Str)(k:Nat)(ps:List Str)(sp:Sp):Prop where
 ex:∃f fd,aN P w K mg base cL k f fd ps sp/\mg x=some (.ref f)/\PySem.W.keepIn K (.ref f)=true/\Binds K fd ps []
def eQ.of(F:bZ K x qual st f fd)(G:aN P w K mg base cL k f fd ps sp)(hm:mg x=some (.ref f))(hb:Binds K fd ps []):eQ P w K mg base x k ps sp:=
 ⟨f,fd,G,hm,F.kp,hb⟩
abbrev bA(n:Nat)(F:Fn)(R:WL):WE:=λS Q=>R S λds=>ds.length=n/\up F ds Q
def cC(C:eQ X.prog X.w X.K X.mg X.base x k ps (cZ X.K n F))(hR:DA X c (e::es) R)(hg:Gl X x:=by rfl)
  (hdb:(x==("__debug__":Str))=false:=by decide) (sk:Sk X e es pos:=by exact⟨rfl,rfl⟩) (hK:c.K=X.K:=by rfl) (hr:bK k X.A:=by decreasing_trivial) :
  DE X c (.Call (.Name x p) (e::es) [] pos) (bA n F R)where
 mono:=λS Q Q' k q=>hR.mono S _ _ (λds z=>⟨z.1,qD F ds _ _ k z.2⟩) q
 pe:=by
  obtain⟨f,fd,FO,hm,hk,hb⟩:=C.ex;refine dM (wZ FO hr hg hm hk hb .nil zp hR.pa hdb sk.1 sk.2) λZ H Q ⟨S,G,r,q⟩=>⟨S,G,r,hR.mono S _ _ (λds z vs H' G' t e=>?_) q⟩;show cZ X.K n F (vs++[]) H' Q E0;rw[YAK];exact⟨c.β,G',ds,t.gh,t.bx,aH.back (c':=c) (c:=⟨X.K,c.β,λ_=>none,G',True⟩) hK rfl (λ_ _=>rfl) e,by rw[<-e.length];exact z.1,
   qD F ds _ _ (λd z v H2 G2 t2 e2=>z v H2 G2 (t.trans t2) (Rep.back (c':=⟨X.K,c.β,H',G',True⟩) (c:=c) hK.symm rfl (λa h=>r.new0 (t.free h)) e2)) z.2⟩
end
mutual
inductive Tg where
 |nm (i:Nat)
 |tp (n:Nat) (ts:yo)
inductive yo where
 |nil
 |cons (t:Tg) (ts:yo)
end
mutual
def lN(K:qo):Tg->TG
 |.nm i=>zJ i
 |.tp n ts=>yq K n (lg K ts)
def lg(K:qo):yo->uG
 |.nil=>w6
 |.cons t ts=>zqH (lN K t) (lg K ts)
end
mutual
def gD:Tg->D->Env->(Env->Prop)->Prop
 |.nm i,d,S,Q=>Q (S.set i (.val d))
 |.tp n ts,.tup ds,S,Q=>ds.length=n/\ik ts ds S Q
 |.tp n ts,.lst _ ds,S,Q=>ds.length=n/\ik ts ds S Q
 |.tp _ _,_,_,_=>False
def ik:yo->List D->Env->(Env->Prop)->Prop
 |.nil,[],S,Q=>Q S
 |.cons t ts,d::ds,S,Q=>gD t d S λS'=>ik ts ds S' Q
 |_,_,_,_=>False
end
mutual
theorem t7:∀(t:Tg)(d:D)(S:Env){Q Q':Env->Prop},(∀ S,Q S->Q' S)->gD t d S Q->gD t d S Q'
 |.nm i,d,S,Q,Q',k,q=>by unfold gD at q ⊢;exact k _ q
 |.tp n ts,.tup ds,S,Q,Q',k,q=>by unfold gD at q ⊢;exact⟨q.1,zic ts ds S k q.2⟩
 |.tp _ _,.non,_,_,_,_,q=>by unfold gD at q;exact q.elim
 |.tp _ _,.bl _,_,_,_,_,q=>by unfold gD at q;exact q.elim
 |.tp _ _,.int _,_,_,_,_,q=>by unfold gD at q;exact q.elim
 |.tp _ _,.str _,_,_,_,_,q=>by unfold gD at q;exact q.elim
 |.tp n ts,.lst _ ds,S,Q,Q',k,q=>by unfold gD at q ⊢;exact⟨q.1,zic ts ds S k q.2⟩
 |.tp _ _,.box,_,_,_,_,q=>by unfold gD at q;exact q.elim
 |.tp _ _,.obj _,_,_,_,_,q=>by unfold gD at q;exact q.elim
 |.tp _ _,.dct _ _ _,_,_,_,_,q=>by unfold gD at q;exact q.elim
 |.tp _ _,.fdc _ _,_,_,_,_,q=>by unfold gD at q;exact q.elim
theorem zic:∀(ts:yo)(ds:List D)(S:Env){Q Q':Env->Prop},(∀ S,Q S->Q' S)->ik ts ds S Q->ik ts ds S Q'
 |.nil,[],S,Q,Q',k,q=>by unfold ik at q ⊢;exact k _ q
 |.cons t ts,d::ds,S,Q,Q',k,q=>by unfold ik at q ⊢;exact t7 t d S (λS' z=>zic ts ds S' k z) q
 |.nil,_::_,_,_,_,_,q=>by unfold ik at q;exact q.elim
 |.cons _ _,[],_,_,_,_,q=>by unfold ik at q;exact q.elim
end
mutual
theorem Df :∀(t:Tg)(d:D)(v:V)(S:Env)(Z:St){Q:St->Hp->Prop},Rel c S Z H G->Rep c G d v->gD t d S (λS'=>∀ Z',Rel c S' Z' H G->Q Z' H)->lN c.K t v Z H Q
 |.nm i,d,v,S,Z,Q,r,e,q=>by unfold gD at q;unfold lN;exact q _ (r.put e)
 |.tp n ts,.tup ds,v,S,Z,Q,r,e,q=>by
  unfold gD at q;unfold lN;obtain⟨a,vs,rfl,ha,hv⟩:=e;exact⟨a,vs,rfl,.inl (rD r.gh ha),by rw[<-hv.length];exact q.1,ziN ts ds vs S Z r hv q.2⟩
 |.tp _ _,.non,_,_,_,_,_,_,q=>by unfold gD at q;exact q.elim
 |.tp _ _,.bl _,_,_,_,_,_,_,q=>by unfold gD at q;exact q.elim
 |.tp _ _,.int _,_,_,_,_,_,_,q=>by unfold gD at q;exact q.elim
 |.tp _ _,.str _,_,_,_,_,_,_,q=>by unfold gD at q;exact q.elim
 |.tp n ts,.lst m ds,v,S,Z,Q,r,e,q=>by
  unfold gD at q;unfold lN;obtain⟨a,vs,rfl,ha,_,hv⟩:=e;exact⟨a,vs,rfl,.inr (cz.of (r.gh _ _ ha)),by rw[<-hv.length];exact q.1,ziN ts ds vs S Z r hv q.2⟩
 |.tp _ _,.box,_,_,_,_,_,_,q=>by unfold gD at q;exact q.elim
 |.tp _ _,.obj _,_,_,_,_,_,_,q=>by unfold gD at q;exact q.elim
 |.tp _ _,.dct _ _ _,_,_,_,_,_,_,q=>by unfold gD at q;exact q.elim
 |.tp _ _,.fdc _ _,_,_,_,_,_,_,q=>by unfold gD at q;exact q.elim
theorem ziN :∀(ts:yo)(ds:List D)(vs:List V)(S:Env)(Z:St){Q:St->Hp->Prop},Rel c S Z H G->aH c G ds vs->ik ts ds S (λS'=>∀ Z',Rel c S' Z' H G->Q Z' H)->lg c.K ts vs Z H Q
 |.nil,[],vs,S,Z,Q,r,e,q=>by unfold ik at q;unfold lg;exact⟨e,q _ r⟩
 |.cons t ts,d::ds,vs,S,Z,Q,r,e,q=>by
  unfold ik at q;unfold lg;obtain⟨v,ws,rfl,e1,e2⟩:=e;exact⟨v,ws,rfl,Df t d v S Z r e1 (t7 t d S (λS' z Z' r'=>ziN ts ds ws S' Z' r' e2 z) q)⟩
 |.nil,_::_,_,_,_,_,_,_,q=>by unfold ik at q;exact q.elim
 |.cons _ _,[],_,_,_,_,_,_,q=>by unfold ik at q;exact q.elim
end
structure En where
 nx:Env->Prop
 rt:D->Prop
 bk:Env->Prop
 ct:Env->Prop
abbrev WS:=En->Env->Prop
structure En.Le(E E':En):Prop where
 nx:∀ S,E.nx S->E'.nx S
 rt:∀d,E.rt d->E'.rt d
 bk:∀ S,E.bk S->E'.bk S
 ct:∀ S,E.ct S->E'.ct S
def JD(W:WS):Prop:=∀E E' S,En.Le E E'->W E S->W E' S
noncomputable def ends(c:Bk)(G:Hp)(Ds:Ends):En where
 nx:=λS=>∀ Z H' G',Rel c S Z H' G'->Same G G'->Ds.nx Z H'
 rt:=λd=>∀v H' G',aZ c.β c.H0 c.G0 H' G'->Rep c G' d v->Ds.rt v H'
 bk:=λS=>∀ Z H' G',Rel c S Z H' G'->Same G G'->Ds.bk Z H'
 ct:=λS=>∀ Z H' G',Rel c S Z H' G'->Same G G'->Ds.ct Z H'
def Jt(s:Same G G1):En.Le (ends c G Ds) (ends c G1 Ds):=
 ⟨λS h Z H' G' r s'=>h Z H' G' r (s.trans s'),λd h=>h,λS h Z H' G' r s'=>h Z H' G' r (s.trans s'),λS h Z H' G' r s'=>h Z H' G' r (s.trans s')⟩
def tDS(c:Bk)(W:WS):TS:=λDs Z H=>∃ S G,Rel c S Z H G/\W (ends c G Ds) S
structure DS(X:Cx)(c:Bk)(st:Stmt)(W:WS):Prop where
 mono:JD W
 ps:PS X st (tDS c W)
structure rT(X:Cx)(c:Bk)(sts:List Stmt)(W:WS):Prop where
 mono:JD W
 pss:lH X sts (tDS c W)
section
variable{X:Cx}{c:Bk}{st:Stmt}{rest:List Stmt}{pos p p':Pos}{e:Expr}
def kY(h:PS X st t)(k:∀D Z H,t' D Z H->t D Z H):PS X st t':=λaa s Z H D I q=>h aa s Z H D I (k D Z H q)
def Em(h:lH X rest t)(k:∀D Z H,t' D Z H->t D Z H):lH X rest t':=λaa s Z H D I q=>h aa s Z H D I (k D Z H q)
abbrev bL:WS:=λE S=>E.nx S
abbrev aC(A B:WS):WS:=λE S=>A {E with nx:=B E} S
def eX:rT X c [] bL:=⟨λE E' S l q=>l.nx _ q,Em Lf λD Z H ⟨S,G,r,q⟩=>q Z H G r (Same.refl _)⟩
def bC(h1:DS X c st A)(h2:rT X c rest B):rT X c (st::rest) (aC A B)where
 mono:=λE E' S l q=>h1.mono {E with nx:=B E} _ S ⟨λS' z=>h2.mono _ _ S' l z,l.rt,l.bk,l.ct⟩ q
 pss:=Em (nH h1.ps h2.pss) λD Z H ⟨S,G,r,q⟩=>⟨S,G,r,h1.mono {ends c G D with nx:=B (ends c G D)} _ S ⟨λS' z Z' H' G' r' s'=>⟨S',G',r',h2.mono _ _ S' (Jt s') z⟩,λd z=>z,λS' z=>z,λS' z=>z⟩ q⟩
def bD(h1:DS X c st A):rT X c [st] A:=⟨h1.mono,zq h1.ps⟩
def jl(i:Nat)(S:Env):Env:=match S[i]? with|some (.own xs)=>S.set i (.val (.lst true xs))|_=>S
abbrev j7(i:Nat)(A:WS):WS:=λE S=>A E (jl i S)
def ztv(r:Rel c S Z H G)(i:Nat):∃G',Same G G'/\Rel c (jl i S) Z H G':=by
 unfold jl;split
 .rename_i xs e;exact r.freeze e
 .exact⟨G,Same.refl _,r⟩
def Eo(i:Nat)(h:DS X c st A):DS X c st (j7 i A)where
 mono:=λE E' S l q=>h.mono E E' _ l q
 ps:=kY h.ps λD Z H ⟨S,G,r,q⟩=>by
  obtain⟨G',s',r'⟩:=ztv r i;exact⟨jl i S,G',r',h.mono _ _ _ (Jt s') q⟩
abbrev cW(C:WT)(A B:WS):WS:=λE S=>C S λb=>if b=true then A E S else B E S
def bJ(hC:DT X c e C)(hA:rT X c a A)(hB:rT X c b B):DS X c (.If e a b pos) (cW C A B)where
 mono:=λE E' S l q=>hC.mono S _ _ (λb z=>by
  cases b
  .exact hB.mono _ _ S l z
  .exact hA.mono _ _ S l z) q
 ps:=kY (Kf hC.pt hA.pss hB.pss) λD Z H ⟨S,G,r,q⟩=>⟨S,G,r,hC.mono S _ _ (λb z H' G' t=>by
  cases b
  .exact⟨S,G',r.step t,hB.mono _ _ S (Jt t.gg) z⟩
  .exact⟨S,G',r.step t,hA.mono _ _ S (Jt t.gg) z⟩) q⟩
abbrev aP(A:WE):WS:=λE S=>A S E.rt
def bY(hA:DE X c e A):DS X c (.Return (some e) pos) (aP A)where
 mono:=λE E' S l q=>hA.mono S _ _ l.rt q
 ps:=kY (yJ hA.pe) λD Z H ⟨S,G,r,q⟩=>⟨S,G,r,hA.mono S _ _ (λd z v H' G' t e=>z v H' G' (r.stp.trans t) e) q⟩
abbrev xV(A:WE):WS:=λE S=>A S λ_=>E.nx S
def BP(hA:DE X c e A)(hs:swapsWith e none pos.line X.env=pure false:=by rfl):DS X c (.Expr e pos) (xV A)where
 mono:=λE E' S l q=>hA.mono S _ _ (λd z=>l.nx _ z) q
 ps:=kY (Jg hA.pe hs) λD Z H ⟨S,G,r,q⟩=>⟨S,G,r,hA.mono S _ _ (λd z v H' G' t e=>z Z H' G' (r.step t) t.gg) q⟩
abbrev aQ(t:Tg)(A:WE):WS:=λE S=>A S λd=>gD t d S E.nx
def zl2(mA:jP A)(D:Ends)(Z:St)(H:Hp)(h:tDS c (aQ t A) D Z H):tX (tD c A) (lN c.K t) D Z H:=by
 obtain⟨S,G,r,q⟩:=h;exact⟨S,G,r,mA S _ _ (λd z v H' G' t1 e1=>Df t d v S Z (r.step t1) e1 (t7 t d S (λS' y Z' r'=>y Z' H' G' r' t1.gg) z)) q⟩
def ziJ(mA:jP A):JD (aQ t A):=λE E' S l q=>mA S _ _ (λd z=>t7 t d S l.nx z) q
def gn(i:Nat)(hi:X.N[i]?=some x:=by rfl)(hx:Loc X.env.scope x:=by first|exact Or.inl rfl|exact Or.inr rfl)(hf:X.fn x=true\/X.env.scope.names.lookup x=some .local:=by first|exact .inl rfl|exact .inr rfl|assumption)(hN:X.N.Nodup:=by decreasing_trivial):PG X (.Name x p) (zJ i):=zsS hN hi hx hf
def ndB:List Str->Bool
 |[]=>true
 |x::l=>!l.elem x&&ndB l
theorem vR:∀{l:List Str},ndB l=true->l.Nodup
 |[],_=>YDb
 |x::l,h=>by
  unfold ndB at h
  have:=YCx.mp h
  refine wG.mpr ⟨λm=>?_,vR this.2⟩;rw[List.elem_iff.mpr m]at this;exact absurd this.1 (by decide)
def fW(i:Nat)(hA:DE X c e A)(hi:X.N[i]?=some x:=by rfl)(hx:Loc X.env.scope x:=by first|exact Or.inl rfl|exact Or.inr rfl)(hs:swapsWith e (some (.Name x p)) pos.line X.env=pure false:=by rfl)(hf:X.fn x=true\/X.env.scope.names.lookup x=some .local:=by first|exact .inl rfl|exact .inr rfl|assumption)(hN:X.N.Nodup:=by decreasing_trivial):DS X c (.Assign [.Name x p] e pos) (aQ (.nm i) A):=
 ⟨ziJ hA.mono,kY (uB hN hi hx hA.pe hs hf) λD Z H h=>zl2 (t:=.nm i) hA.mono D Z H h⟩
def tu(t:Tg)(hA:DE X c e A)(hg:PG X tg (lN c.K t))(hs:swapsWithSole [tg] e pos.line X.env=pure false:=by rfl)(hw:swappedStores [tg] e X.env=pure none:=by rfl)
  (h1:(assignEach [tg] X.env).map (·.2)=[assign tg X.env]:=by rfl):DS X c (.Assign [tg] e pos) (aQ t A):=
 ⟨ziJ hA.mono,kY (Jc hA.pe hg hs hw h1) λD Z H h=>zl2 hA.mono D Z H h⟩
abbrev gV(i:Nat)(F:WL):WS:=λE S=>F S λxs=>E.nx (S.set i (.own xs))
def zmf(mF:sZ F):JD (gV i F):=λE E' S l q=>mF S _ _ (λd z=>l.nx _ z) q
def zlK(mF:sZ F)(D:Ends)(Z:St)(H:Hp)(h:tDS c (gV i F) D Z H):tX (tDf c F) (zJ i) D Z H:=by
 obtain⟨S,G,r,q⟩:=h;refine⟨S,G,r,mF S _ _ (λxs z l vs H' G' t hl hg h0 hv=>?_) q⟩;refine z _ H' G' ((r.step t).putOwn hl hg (r.new0 h0) (r.neβ h0) hv λj ys e1 e2=>?_) t.gg;obtain⟨a,vs',f1,f2,_⟩:=r.slot j _ e1;rw[e2]at f1;cases f1;rw[h0]at f2;cases f2
def yN(i:Nat)(hF:DF X c e F)(hi:X.N[i]?=some x:=by rfl)(hx:Loc X.env.scope x:=by first|exact Or.inl rfl|exact Or.inr rfl)(hs:swapsWith e (some (.Name x p)) pos.line X.env=pure false:=by rfl)(hf:X.fn x=true\/X.env.scope.names.lookup x=some .local:=by first|exact .inl rfl|exact .inr rfl|assumption)(hN:X.N.Nodup:=by decreasing_trivial):DS X c (.Assign [.Name x p] e pos) (gV i F):=
 ⟨zmf hF.mono,kY (uB hN hi hx hF.pe hs hf) λD Z H h=>zlK hF.mono D Z H h⟩
abbrev HB(i j:Nat)(A B:WE):WS:=λE S=>A S λx=>B S λy=>E.nx ((S.set i (.val x)).set j (.val y))
def zv9(i j:Nat){kt k2 pt2}(hA:DE X c a A)(hB:DE X c b B)(hij:i≠j:=by decide)(hi:X.N[i]?=some x:=by rfl)(hj:X.N[j]?=some y:=by rfl)(hx:X.env.scope.names.lookup x=some .local:=by rfl)(hy:X.env.scope.names.lookup y=some .local:=by rfl)(hsa:starEach [a,b] X.env=(false,eval a X.env)::starEach [b] X.env:=by rfl)(hsb:starEach [b] X.env=(false,eval b X.env)::starEach [] X.env:=by rfl)(hw:swappedStores [.Tuple [.Name x px,.Name y py] kt pt] (.Tuple [a,b] k2 pt2) X.env=pure (some [x,y]):=by rfl)(hs:swapsWithSole [.Tuple [.Name x px,.Name y py] kt pt] (.Tuple [a,b] k2 pt2) pos.line X.env=pure false:=by rfl)(hc:X.calm=true:=by rfl)(hN:X.N.Nodup:=by decreasing_trivial) :
  DS X c (.Assign [.Tuple [.Name x px,.Name y py] kt pt] (.Tuple [a,b] k2 pt2) pos) (HB i j A B)where
 mono:=λE E' S l q=>hA.mono S _ _ (λd z=>hB.mono S _ _ (λd' z'=>l.nx _ z') z) q
 ps:=kY (zuG hc hN hi hj hij hx hy (iI hA.pe (iI hB.pe jW hsb) hsa) hw hs) λD Z H ⟨S,G,r,q⟩=>⟨S,G,r,hA.mono S _ _ (λd z v H1 G1 t1 e1=>⟨S,G1,r.step t1,hB.mono S _ _ (λd' z' w H2 G2 t2 e2=>
  ⟨v,w,rfl,z' _ H2 G2 ((((r.step t1).step t2).put (e1.mono t2.gg)).put e2) (t1.gg.trans t2.gg)⟩) z⟩) q⟩
def je(i:Nat)(A:WE):WS:=λE S=>match S[i]? with
 |some (.own xs)=>A S λd=>xs.length<100000/\E.nx (S.set i (.own (xs++[d])))
 |_=>False
def zqa(i:Nat)(hA:DE X c e A)(nk:Nk X i x:=by decreasing_trivial)
  (hbase:attributeBase (.Name x p) "append" X.env (eval (.Name x p) X.env)=eval (.Name x p) X.env:=by rfl)
  (hfew:((backTo cpos (starEach [e] X.env)).all (λx=>!x.1)&&(backToKw cpos (keywordEach [] X.env)).all (λx=>x.1.isSome)
   && decide (([e]:List Expr).length+([]:List Keyword).length+(if ([]:List Keyword).isEmpty then 0 else 1)<30))=true:=by rfl)
  (hline:(apos.endLine==cpos.line)=true:=by rfl) (hs:starEach [e] X.env=(false,eval e X.env)::starEach [] X.env:=by rfl)
  (hsw:swapsWith (.Call (.Attribute (.Name x p) "append" apos) [e] [] cpos) none pos.line X.env=pure false:=by rfl):DS X c (.Expr (.Call (.Attribute (.Name x p) "append" apos) [e] [] cpos) pos) (je i A)where
 mono:=λE E' S l q=>by
  unfold je at q ⊢;split at q
  .exact hA.mono S _ _ (λd z=>⟨z.1,l.nx _ z.2⟩) q
  .exact q.elim
 ps:=kY (Jg (Jr YBO YB3 YB4 zfB (kO nk.N nk.v nk.d nk.c) (iI hA.pe jW hs) hbase hfew hline hs rfl) hsw) λD Z H ⟨S,G,r,q⟩=>by
  unfold je at q;split at q
  .rename_i xs ek
   obtain⟨a,vs,h1,h2,h3,h4,h5,h6⟩:=r.slot i _ ek;refine⟨.ref a,h1,.inl ⟨rfl,vs,cz.of h2⟩,S,G,r,hA.mono S _ _ (λd z w H' G' t e=>?_) q⟩;refine⟨a,vs,w,rfl,rfl,t.fr a _ h5 h2,?_,?_⟩
   .rw[<-h6.length];exact jA z.1 (eZ (dG _))
   .exact z.2 _ _ G' ((r.step t).write ek h1 ((h6.mono t.gg).append (.one e))) t.gg
  .exact q.elim
def KJ(xs:List D)(k:D)(Q:Nat->Prop):Prop:=match k with|.int j=>(match tH xs.length j with|some m=>Q m|none=>False)|_=>False
def zp7(f:∀m,Q m->Q' m)(q:KJ xs k Q):KJ xs k Q':=by
 unfold KJ at q ⊢;split at q
 .split at q
  .exact f _ q
  .exact q.elim
 .exact q.elim
def sJ(i:Nat)(I A:WE):WS:=λE S=>match S[i]? with
 |some (.own xs)=>A S λd=>I S λk=>KJ xs k λm=>E.nx (S.set i (.own (xs.set m d)))
 |_=>False
def zv6(i:Nat)(hA:DE X c e A)(hI:DE X c ie I)(nk:Nk X i x:=by decreasing_trivial)
  (ha:∀v,assign (.Subscript (.Name x p) ie tpos) X.env v=(do
   let ov <-holding [v] (eval (.Name x p) X.env)
   let iv <-holding [v,ov] (eval ie X.env)
   standAt tpos
   holding [v,ov,iv] (setItem ov iv v)
   release [v,ov,iv] []):=by intro _;rfl) (hs:swapsWithSole [.Subscript (.Name x p) ie tpos] e pos.line X.env=pure false:=by rfl) (hw:swappedStores [.Subscript (.Name x p) ie tpos] e X.env=pure none:=by rfl)
  (h1:(assignEach [.Subscript (.Name x p) ie tpos] X.env).map (·.2)=[assign (.Subscript (.Name x p) ie tpos) X.env]:=by rfl):DS X c (.Assign [.Subscript (.Name x p) ie tpos] e pos) (sJ i I A)where
 mono:=λE E' S l q=>by
  unfold sJ at q ⊢;split at q
  .exact hA.mono S _ _ (λd z=>hI.mono S _ _ (λk y=>zp7 (λm=>l.nx _) y) z) q
  .exact q.elim
 ps:=kY (Jc hA.pe (zlV (kO nk.N nk.v nk.d nk.c) hI.pe JB ha) hs hw h1) λD Z H ⟨S,G,r,q⟩=>by
  unfold sJ at q;split at q
  .rename_i xs ek
   refine⟨S,G,r,hA.mono S _ _ (λd z v H1 G1 t1 e1=>?_) q⟩;obtain⟨a,vs,h1,h2,h3,h4,h5,h6⟩:=(r.step t1).slot i _ ek;refine⟨.ref a,h1,S,G1,r.step t1,hI.mono S _ _ (λk y w H2 G2 t2 e2=>?_) z⟩;unfold KJ at y;split at y
   .rename_i j
    split at y
    .rename_i m em
     refine⟨a,vs,j,m,rfl,e2,t2.fr a _ h5 h2,by rw[<-h6.length];exact em,?_⟩;exact y Z _ G2 (((r.step t1).step t2).write ek h1 (aH.set (e1.mono t2.gg) m (h6.mono t2.gg))) (t1.gg.trans t2.gg)
    .exact y.elim
   .exact y.elim
  .exact q.elim
def intD(d:D)(Q:Int->Prop):Prop:=match d with|.int j=>Q j|_=>False
def zod(f:∀m,Q m->Q' m)(q:intD d Q):intD d Q':=by
 cases d<;>first|exact f _ q|exact q
end
def rC(c:Bk)(J:It)(xs:List D)(G:Hp):Prop:=∀(i:Nat)(H2 G2:Hp),Same G G2->Same G2 H2->d9 c.β H2 G2->(∀a,H2 a=none->c.H0 a=none) ->
 (i=xs.length->J.stop i H2)/\∀d,xs[i]?=some d->J.go i H2/\∀x H3,J.yld i H2 x H3->∃G3,aZ c.β H2 G2 H3 G3/\Rep c G3 d x
def tDI(c:Bk)(I:WL):TI:=λZ H R=>∃ S G,Rel c S Z H G/\I S λxs=>∀J H' G',aZ c.β H G H' G'->rC c J xs G'->R J H'
structure DI(X:Cx)(c:Bk)(tg iter:Expr)(I:WL):Prop where
 mono:sZ I
 pi:PI X tg iter (tDI c I)
section
variable{X:Cx}{c:Bk}{tg e a b:Expr}{A B:WE}{pos p:Pos}
def zmc(h:PI X tg e wi)(k:∀ Z H R,wi' Z H R->wi Z H R):PI X tg e wi':=λaa s Z H R I q=>h aa s Z H R I (k Z H R q)
def zs6(hl:G l=some (.lst vs))(h:aH c G xs vs):rC c (Itl c.K l) xs G:=by
 intro i H2 G2 s1 s2 bx h0;have q:cz c.K H2 l vs:=cz.of (s2 _ _ (s1 _ _ hl));refine⟨λe=>⟨vs,q,by rw[e,h.length];exact dG _⟩,λd e=>?_⟩;obtain⟨v,e1,e2⟩:=h.get e;refine⟨⟨vs,v,q,e1⟩,λx H3 y=>?_⟩;obtain⟨rfl,y⟩:=y
 have:=y vs q
 rw[e1]at this;cases this;exact⟨G2,aZ.refl s2 bx,e2.mono s1⟩
def ztZ(hl:fY c.K G l vs)(h:aH c G xs vs):rC c (Itt c.K l) xs G:=by
 intro i H2 G2 s1 s2 bx h0;have q:fY c.K H2 l vs:=rD (s1.trans s2) hl;refine⟨λe=>⟨vs,q,by rw[e,h.length];exact dG _⟩,λd e=>?_⟩;obtain⟨v,e1,e2⟩:=h.get e;refine⟨⟨vs,v,q,e1⟩,λx H3 y=>?_⟩;obtain⟨rfl,y⟩:=y
 have:=y vs q
 rw[e1]at this;cases this;exact⟨G2,aZ.refl s2 bx,e2.mono s1⟩
def iR(m:Int)(n:Nat):List D:=(List.range n).map λ(k:Nat)=>D.int (m+(k:Int))
def uQ(m:Int)(n:Nat):rC c (Eb m n) (iR m n) G:=by
 intro i H2 G2 s1 s2 bx h0;refine⟨λe=>by show n<=i;unfold iR at e;simp at e;omega,λd e=>?_⟩;unfold iR at e;rw[jV]at e;have hi:i<n:=by
  by_cases h:i<n
  .exact h
  .rw[List.getElem?_eq_none (by simp;omega)]at e;cases e
 rw[List.getElem?_range hi]at e;cases e;exact⟨hi,λx H3 ⟨y1,y2⟩=>⟨G2,by rw[y1];exact aZ.refl s2 bx,y2⟩⟩
def uY(A:WE):WL:=λS Q=>A S λd=>match d with|.int n=>(-(2^62)<=n/\n<2^62)/\Q (iR 0 n.toNat)|_=>False
def zlT(hA:DE X c a A)(hg:Gl X "range":=by rfl)(hs:starEach [a] X.env=[(false,eval a X.env)]:=by rfl)(hm:X.mg "range"=none:=by decreasing_trivial):DI X c tg (.Call (.Name "range" p) [a] [] pos) (uY A)where
 mono:=λS Q Q' k q=>hA.mono S _ _ (λd z=>by cases d<;>first|exact⟨z.1,k _ z.2⟩|exact z) q
 pi:=zmc (znO hg hm (iI hA.pe jW hs) hs) λZ H R ⟨S,G,r,q⟩=>⟨S,G,r,hA.mono S _ _ (λd z v H' G' t e=>by
  cases d with
  |int n=>exact⟨n,by cases e;rfl,z.1.1,z.1.2,z.2 _ H' G' t (uQ 0 _)⟩
  |_=>exact z.elim) q⟩
def iT:List D->List D->List D
 |x::xs,y::ys=>.tup [x,y]::iT xs ys
 |_,_=>[]
theorem zl8:∀{xs ys:List D}{i:Nat}{d:D},(iT xs ys)[i]?=some d->∃x y,xs[i]?=some x/\ys[i]?=some y/\d=.tup [x,y]
 |x::xs,y::ys,0,d,e=>by simp[iT]at e;exact⟨x,y,rfl,rfl,e.symm⟩
 |x::xs,y::ys,i+1,d,e=>by simp[iT]at e;simpa using zl8 e
 |[],_,_,_,e=>by simp[iT]at e
 |_::_,[],_,_,e=>by simp[iT]at e
theorem zlJ:∀(xs ys:List D),(iT xs ys).length=min xs.length ys.length
 |[],_=>by simp[iT]
 |_::_,[]=>by simp[iT]
 |x::xs,y::ys=>by simp[iT,zlJ xs ys]
end
def pB(t:Tg)(B:WS)(E:En):List D->Env->Prop
 |[],S=>E.nx S
 |x::xs,S=>gD t x S λS'=>B {nx:=pB t B E xs,ct:=pB t B E xs,bk:=E.nx,rt:=E.rt} S'
abbrev pO(I:WL)(t:Tg)(B:WS):WS:=λE S=>I S λxs=>pB t B E xs S
theorem zgH(mB:JD B)(l:En.Le E E'):∀(xs:List D)(S:Env),pB t B E xs S->pB t B E' xs S
 |[],S,q=>l.nx S q
 |x::xs,S,q=>t7 t x S (λS' z=>mB {nx:=pB t B E xs,ct:=pB t B E xs,bk:=E.nx,rt:=E.rt} _ S' ⟨zgH mB l xs,l.rt,l.nx,zgH mB l xs⟩ z) q
section
variable{X:Cx}{c:Bk}{tg iter e:Expr}{body:List Stmt}{pos p:Pos}
def Gp(t:Tg)(hI:DI X c tg iter I)(hg:PG X tg (lN c.K t))(hB:rT X c body B)(hp:PassesOwn (model X.prog X.w) X.A X.env X.xe:=by exact PassesOwn.never)(hc:X.calm=true:=by rfl)(hs:∀x,foldedSetIterable iter X.env x=pure x:=by intro _;rfl) :
  DS X c (.For tg iter body [] pos) (pO I t B)where
 mono:=λE E' S l q=>hI.mono S _ _ (λxs z=>zgH hB.mono l xs S z) q
 ps:=kY (zrD hp hc hI.pi hg hB.pss hs) λD Z H ⟨S,G,r,q⟩=>⟨S,G,r,hI.mono S _ _ (λxs z J H1 G1 t1 it=>by
  refine⟨λi m Z H=>m=xs.length-i/\i<=xs.length/\∃ S' G',Rel c S' Z H G'/\Same G1 G'/\pB t B (ends c G D) (xs.drop i) S',⟨xs.length,rfl,v6 _,S,G1,r.step t1,Same.refl _,z⟩,?_⟩;rintro i m Z' H' ⟨rfl,hi,S',G',r',s',q'⟩;have ok:=it i H' G' s' r'.gh r'.bx (λa z=>r'.new0 z);by_cases hlt:i<xs.length
  .refine .inr ?_;have ed:xs.drop i=xs[i]::xs.drop (i+1):=YBJ hlt;rw[ed]at q';obtain⟨go,yl⟩:=ok.2 xs[i] (jB hlt);refine⟨go,λZ H=>∃ S' G',Rel c S' Z H G'/\Same G1 G'/\pB t B (ends c G D) (xs.drop (i+1)) S',λZ2 H2 h=>⟨xs.length-(i+1),by omega,rfl,by omega,h⟩,λx H3 y=>?_⟩;obtain⟨G3,t3,e3⟩:=yl x H3 y;refine Df t xs[i] x S' Z' (r'.step t3) e3 (t7 t xs[i] S' (λS2 z2 Z2 r2=>?_) q');refine⟨S2,G3,r2,hB.mono {nx:=pB t B (ends c G D) (xs.drop (i+1)),ct:=pB t B (ends c G D) (xs.drop (i+1)),bk:=(ends c G D).nx,rt:=(ends c G D).rt} _ S2 ⟨λS3 z3 Z3 H4 G4 r4 s4=>⟨S3,G4,r4,(s'.trans t3.gg).trans s4,z3⟩,λd z=>z,λS3 z3 Z3 H4 G4 r4 s4=>z3 Z3 H4 G4 r4 (((t1.gg.trans s').trans t3.gg).trans s4),λS3 z3 Z3 H4 G4 r4 s4=>⟨S3,G4,r4,(s'.trans t3.gg).trans s4,z3⟩⟩ z2⟩
  .have e:i=xs.length:=by omega
   subst e;rw[YCZ]at q';exact .inl ⟨ok.1 rfl,q' Z' H' G' r' (t1.gg.trans s')⟩) q⟩
def fU(n:Nat)(ds:List D):Env:=ds.map (λd=>Sl.val d.old)++List.replicate (n-ds.length) .un
def dU(n:Nat)(B:WS):Fn:=λds Q=>B {nx:=λ_=>Q .non,rt:=Q,bk:=λ_=>False,ct:=λ_=>False} (fU n ds)
def Jm(gh:Same G H)(bx:d9 β H G)(h:aH ⟨K,β,λ_=>none,G,True⟩ G ds vs):Rel ⟨K,β,H,G,True⟩ (fU N.length ds) (L2.ni N vs) H G:=by
 have noOwn:∀(i:Nat) xs,(fU N.length ds)[i]?≠some (.own xs):=λi xs e=>by
  unfold fU at e;by_cases hi:i<ds.length
  .rw[Ce (by simpa using hi),jV,jB hi]at e;cases e
  .rw[YBA (by simpa using hi),Gq]at e;split at e<;>cases e
 refine⟨by unfold fU L2.ni;simp[h.length],aZ.refl gh bx,λi s e=>?_,λi j a xs ys e1=>absurd e1 (noOwn i xs),trivial⟩;unfold fU at e;by_cases hi:i<ds.length
 .rw[Ce (by simpa using hi),jV]at e;obtain⟨v,e1,e2⟩:=h.get (jB hi);rw[jB hi]at e;cases e;refine⟨v,?_,Rep.hand (c:=⟨K,β,λ_=>none,G,True⟩) (c':=⟨K,β,H,G,True⟩) rfl rfl e2⟩;unfold L2.ni;rw[Ce (by rw[b8,<-h.length];exact hi),jV,e1];rfl
 .rw[YBA (by simpa using hi),Gq]at e;split at e<;>cases e
  trivial
def jM(F:bZ K x qual st f fd)
  (hB:∀{cdv:Value}{A:Around}{outer:List PySem.Env}{s:Shared}{H:Hp}{E:XK}{β:Addr}{G:Hp},N.Nodup->bK k (A.deeper (PyProof.Rows.envOfC qual (gF st) s.heap.objs.size f cdv)) ->
   rT (dj cL P w K mg base N qual (gF st) f cdv A outer s H E).nox ⟨K,β,H,G,True⟩ (nJ st) B) (qh:dh N ps (gF st):=by exact⟨rfl,rfl,rfl,by decide +kernel,rfl,by decide +kernel,by decide +kernel⟩):aN P w K mg base cL (k+1) f fd ps (cZ K ps.length (dU N.length B)):=by
 refine F.ok qh (λvs H Q E ⟨β,G,ds,_,_,_,h,_⟩=>h) (λcdv A outer s H vs Q E hr ⟨β,G,ds,gh,bx,hv,hl,P',q,hP⟩=>?_);have h:=@hB cdv A outer s H E β G qh.nd hr;refine⟨_,h.pss,fU N.length ds,G,Jm gh bx hv,h.mono {nx:=λ_=>P' .non,rt:=P',bk:=λ_=>False,ct:=λ_=>False} _ _ ⟨λS z Z H' G' r s'=>hP _ z .non H' G' r.stp rfl,λd z v H' G' t e=>hP _ z v H' G' t e,λS z=>z.elim,λS z=>z.elim⟩ q⟩
end
def eE(sub:List (Option Nat))(S:Env):Env:=sub.map λo=>match o with
 |some j=>(match S[j]? with|some (.val d)=>.val d|_=>.un)
 |none=>.un
def zqU(sub:List (Option Nat))(r:Rel c S Z H G):Rel c (eE sub S) (ph sub Z) H G:=by
 have noOwn:∀(i:Nat) xs,(eE sub S)[i]?≠some (.own xs):=λi xs e=>by
  unfold eE at e;rw[jV]at e;cases h:sub[i]? with
  |none=>rw[h]at e;cases e
  |some o=>
   rw[h]at e;cases o with
   |none=>cases e
   |some j=>
    simp only[YC5,YCT]at e;split at e<;>cases e
 refine⟨by unfold eE ph;simp,r.stp,λi s e=>?_,λi j a xs ys e1=>absurd e1 (noOwn i xs),r.kn⟩;unfold eE at e;rw[jV]at e;cases h:sub[i]? with
 |none=>rw[h]at e;cases e
 |some o=>
  rw[h]at e;cases o with
  |none=>cases e;trivial
  |some j=>
   simp only[YC5,YCT]at e;split at e
   .rename_i d hd
    subst e;obtain⟨v,h1,h2⟩:=r.slot j _ hd;refine⟨v,?_,h2⟩;unfold ph;rw[jV,h];show some ((Z[j]?).join)=_;rw[h1];rfl
   .subst e;trivial
mutual
def wV(sub:List (Option Nat)):Tg->Bool
 |.nm i=>decide (sub[i]?=some none)
 |.tp _ ts=>vQ sub ts
def vQ(sub:List (Option Nat)):yo->Bool
 |.nil=>true
 |.cons t ts=>wV sub t&&vQ sub ts
end
mutual
theorem Ei(K:qo):∀t:Tg,xW (lN K t)
 |.nm i=>by unfold lN;exact ztu
 |.tp n ts=>by unfold lN;exact zuz (zoH K ts)
theorem zoH(K:qo):∀t:yo,Ej (lg K t)
 |.nil=>by unfold lg;exact ztx
 |.cons t ts=>by unfold lg;exact zpV (Ei K t) (zoH K ts)
end
mutual
theorem Il(K:qo)(sub:List (Option Nat)):∀t:Tg,wV sub t=true->zK sub (lN K t)
 |.nm i,h=>by unfold lN;unfold wV at h;exact ztw (km h)
 |.tp n ts,h=>by unfold lN;unfold wV at h;exact zvc (zrj K sub ts h)
theorem zrj(K:qo)(sub:List (Option Nat)):∀t:yo,vQ sub t=true->Iw sub (lg K t)
 |.nil,_=>by unfold lg;exact zsw
 |.cons t ts,h=>by
  unfold lg;unfold vQ at h;have h':=(YAA _ _▸h:wV sub t=true/\vQ sub ts=true);exact zpJ (Il K sub t h'.1) (Ei K t) (zrj K sub ts h'.2) (zoH K ts)
end
def lJ(t:Tg)(C:WT)(E:WE)(Sc:Env)(Q:List D->Prop):List D->List D->Prop
 |[],acc=>Q acc
 |x::xs,acc=>gD t x Sc λS2=>C S2 λb=>if b=true then E S2 λd=>lJ t C E Sc Q xs (acc++[d])else lJ t C E Sc Q xs acc
theorem zfO(mC:wQ C)(mE:jP E)(k:∀xs,Q xs->Q' xs):∀xs acc,lJ t C E Sc Q xs acc->lJ t C E Sc Q' xs acc
 |[],acc,q=>k _ q
 |x::xs,acc,q=>t7 t x Sc (λS2 z=>mC S2 _ _ (λb z=>by
  cases b
  .exact zfO mC mE k xs acc z
  .exact mE S2 _ _ (λd z=>zfO mC mE k xs _ z) z) z) q
abbrev fC(sub:List (Option Nat))(I:WL)(t:Tg)(C:WT)(E:WE):WL:=λS Q=>I S λxs=>xs.length<=100000/\lJ t C E (eE sub S) Q xs []
def zeD(mI:sZ I)(mC:wQ C)(mE:jP E):sZ (fC sub I t C E):=λS Q Q' k q=>mI S _ _ (λxs z=>⟨z.1,zfO mC mE k xs [] z.2⟩) q
def aZ.wr(s:aZ β H G H' G')(h0:H l=none)(hg:G' l=none)(hb:l≠β):aZ β H G (upd H' l o) G':=
 ⟨s.gg,λa u e=>by rw[au (λz=>by rw[z,hg]at e;cases e)];exact s.gh a u e,λa u n e=>by rw[au (λz=>by rw[z,h0]at e;cases e)];exact s.fr a u n e,s.nw,
 ⟨by obtain⟨cc,p,r,d,ns,h,q⟩:=s.bx.ex;exact⟨cc,p,r,d,ns,by rw[au (YAM hb)];exact h,q⟩,s.bx.still⟩,s.b0,λcc p r d h=>by
  obtain⟨p',r',d',e⟩:=s.bc cc p r d h;exact⟨p',r',d',by rw[au (YAM hb)];exact e⟩⟩
def aZ.still_none(s:aZ β H G H' G')(h:H l=some o)(hg:G l=none)(hs:¬ yh o:=by exact id):G' l=none:=by
 cases e:G' l with
 |none=>rfl
 |some u=>
  rcases s.nw l (by rw[e];simp)with z|z|⟨o',z,st⟩
  .exact absurd hg z
  .rw[h]at z;cases z
  .rw[h]at z;cases z;exact absurd st hs
def ze9(mI:sZ I)(mC:wQ C)(mE:jP E)(Z:St)(H:Hp)(Q:VK)(h:tDf c (fC sub I t C E) Z H Q) :
  zlG sub (tDI c I) (lN c.K t) (Dk c C) (tD c E) Z H Q:=by
 obtain⟨S,G,r,q⟩:=h;refine⟨S,G,r,mI S _ _ (λxs ⟨hz,z⟩ J H1 G1 t1 it l hl=>?_) q⟩;have hb:l≠c.β:=(r.step t1).neβ hl;have hg1:G1 l=none:=lU t1.gh hl;refine⟨λi m ys H2=>m=xs.length-i/\i<=xs.length/\ys.length<=i/\H2 l=some (.lst ys)/\∃G2 acc,aZ c.β H1 G1 H2 G2/\G2 l=none/\aH c G2 acc ys /\
  lJ t C E (eE sub S) (λds=>∀l vs H' G',aZ c.β H G H' G'->H' l=some (.lst vs)->G' l=none->H l=none->aH c G' ds vs->Q (.ref l) H') (xs.drop i) acc,
  ⟨xs.length,rfl,v6 _,dG _,cJ,G1,[],aZ.own t1.gh t1.bx hl,hg1,rfl,z⟩,?_⟩
 rintro i m ys H2 ⟨rfl,hi,hyl,h2,G2,acc,t2,hg2,hv,q2⟩;refine⟨h2,?_⟩;have r2:=(r.step t1).step t2;have ok:=it i H2 G2 t2.gg t2.gh t2.bx (λa z=>r2.new0 z);by_cases hlt:i<xs.length
 .refine .inr ?_;rw[YBJ hlt]at q2;obtain⟨go,yl⟩:=ok.2 xs[i] (jB hlt);refine⟨go,λys' H3=>ys'.length<=i+1/\H3 l=some (.lst ys')/\∃G3 acc',aZ c.β H1 G1 H3 G3/\G3 l=none/\aH c G3 acc' ys'/\lJ t C E (eE sub S) (λds=>∀l vs H' G',aZ c.β H G H' G'->H' l=some (.lst vs)->G' l=none->H l=none->aH c G' ds vs->Q (.ref l) H') (xs.drop (i+1)) acc',
   λys' H3 ⟨a1,a2,a3⟩=>⟨xs.length-(i+1),by omega,rfl,by omega,a1,a2,a3⟩,λx H3 y=>?_⟩
  obtain⟨G3,t3,e3⟩:=yl x H3 y;have h3:H3 l=some (.lst ys):=t3.fr l _ hb h2;have hg3:G3 l=none:=t3.still_none h2 hg2;have t13:=t2.trans t3;refine Df t xs[i] x (eE sub S) (ph sub Z) (zqU sub ((r.step t1).step t13)) e3 (t7 t xs[i] _ (λS2 z2 Z2 rr=>?_) q2);refine⟨S2,G3,rr,mC S2 _ _ (λb z3 H4 G4 t4=>?_) z2⟩;have h4:H4 l=some (.lst ys):=t4.fr l _ hb h3;have hg4:G4 l=none:=t4.still_none h3 hg3;have t14:=t13.trans t4;cases b
  .exact⟨Nat.le_succ_of_le hyl,h4,G4,acc,t14,hg4,(hv.mono t3.gg).mono t4.gg,z3⟩
  .refine⟨S2,G4,rr.step t4,mE S2 _ _ (λd z4 y H5 G5 t5 e5=>?_) z3⟩;have h5:H5 l=some (.lst ys):=t5.fr l _ hb h4;have hg5:G5 l=none:=t5.still_none h4 hg4;refine⟨h5,?_,by rw[gU];exact Nat.add_le_add_right hyl 1,cJ,G5,acc++[d],(t14.trans t5).wr hl hg5 hb,hg5,(((hv.mono t3.gg).mono t4.gg).mono t5.gg).append (.one e5),z4⟩
   have:=eZ (dG 100000)
   omega
 .have e:i=xs.length:=by omega
  subst e;rw[YCZ]at q2;exact .inl ⟨ok.1 rfl,q2 l ys H2 G2 (t1.trans t2) h2 hg2 (t1.free hl) hv⟩
structure Dp(X:Cx)(c:Bk)(ifs:List Expr)(C:WT):Prop where
 mono:wQ C
 pf:qM X ifs (Dk c C)
abbrev dq:WT:=λ_ Q=>Q true
section
variable{X:Cx}{c:Bk}{tg iter elt e:Expr}{ifs:List Expr}{scope:Scope}{pos p spos:Pos}{Nc:List Str}{sub:List (Option Nat)}{I:WL}{C:WT}{E:WE}
def ut:Dp X c [] dq:=⟨λS Q Q' k q=>k _ q,λaa s Z H Q I ⟨S,G,r,q⟩=>pif0 aa s Z H Q I (q H G r.refl)⟩
def sI(h:DT X c e C):Dp X c [e] C:=⟨h.mono,pif1 h.pt⟩
def nM(t:Tg)(hI:DI X c tg iter I)(hg:∀{cl L s0 H0 ex},PG (g8 X Nc scope cl L s0 H0 ex) tg (lN c.K t))(hC:∀{cl L s0 H0 ex},Dp (g8 X Nc scope cl L s0 H0 ex) c ifs C)(hE:∀{cl L s0 H0 ex},DE (g8 X Nc scope cl L s0 H0 ex) c elt E)
  (hS:Es X.N X.env.scope scope Nc sub=true:=by kernel_rfl) (hok:wV sub t=true:=by decide +kernel) (hc:X.calm=true:=by rfl) (hs:∀x,foldedSetIterable iter X.env x=pure x:=by intro _;rfl) :
  DF X c (.ListComp elt [⟨tg,iter,ifs,0⟩] scope pos) (fC sub I t C E):=
 have mC:=(@hC [] 0 X.s₀ (λ_=>none) []).mono;have mE:=(@hE [] 0 X.s₀ (λ_=>none) []).mono
 ⟨zeD hI.mono mC mE,dM (zqI hc (bO.of hS) hI.pi (λcl L s0 H0 ex=>@hg cl L s0 H0 ex) (Il c.K sub t hok) (Ei c.K t) (λcl L s0 H0 ex=>(@hC cl L s0 H0 ex).pf) (λcl L s0 H0 ex=>(@hE cl L s0 H0 ex).pe) hs) (ze9 hI.mono mC mE)⟩
def Et(i:Nat)(t:Tg)(hI:DI X c tg iter I)(hg:∀{cl L s0 H0 ex},PG (g8 X Nc scope cl L s0 H0 ex) tg (lN c.K t))(hC:∀{cl L s0 H0 ex},Dp (g8 X Nc scope cl L s0 H0 ex) c ifs C)(hE:∀{cl L s0 H0 ex},DE (g8 X Nc scope cl L s0 H0 ex) c elt E)(hi:X.N[i]?=some x:=by rfl)(hy:X.env.scope.names.lookup x=some .local:=by rfl)(hS:Es X.N X.env.scope scope Nc sub=true:=by kernel_rfl)(hok:wV sub t=true:=by decide +kernel)(hc:X.calm=true:=by rfl)(hsw:swapsWith (.ListComp elt [⟨tg,iter,ifs,0⟩] scope pos) (some (.Name x p)) spos.line X.env=pure true:=by rfl)(hs:∀x,foldedSetIterable iter X.env x=pure x:=by intro _;rfl)(hN:X.N.Nodup:=by decreasing_trivial) :
  DS X c (.Assign [.Name x p] (.ListComp elt [⟨tg,iter,ifs,0⟩] scope pos) spos) (aQ (.nm i) (aM (fC sub I t C E))):=by
 have mC:=(@hC [] 0 X.s₀ (λ_=>none) []).mono;have mE:=(@hE [] 0 X.s₀ (λ_=>none) []).mono;have mL:=zeD (sub:=sub) (t:=t) hI.mono mC mE;have mV:jP (aM (fC sub I t C E)):=λS Q Q' k q=>mL S _ _ (λxs z=>k _ z) q;refine⟨ziJ mV,kY (znW hc hN hi hy (bO.of hS) hI.pi (λcl L s0 H0 ex=>@hg cl L s0 H0 ex) (Il c.K sub t hok) (Ei c.K t) (λcl L s0 H0 ex=>(@hC cl L s0 H0 ex).pf) (λcl L s0 H0 ex=>(@hE cl L s0 H0 ex).pe) hsw hs) λD Z H ⟨S,G,r,q⟩=>?_⟩;refine ze9 hI.mono mC mE Z H _ ⟨S,G,r,mL S _ _ (λxs z l vs H' G' t hl hg h0 hv=>?_) q⟩;have hb:=r.neβ h0;exact z (Z.set i (some (.ref l))) H' (upd G' l (.lst vs)) ((r.step (t.still hl h0 hb hg)).put ⟨l,vs,rfl,cJ,λ_=>r.new0 h0,hv.mono (nW hg)⟩) (t.gg.trans (nW hg))
def zu7(i:Nat)(t:Tg)(hI:DI X c tg iter I)(hg:∀{cl L s0 H0 ex},PG (g8 X Nc scope cl L s0 H0 ex) tg (lN c.K t))(hC:∀{cl L s0 H0 ex},Dp (g8 X Nc scope cl L s0 H0 ex) c ifs C)(hE:∀{cl L s0 H0 ex},DE (g8 X Nc scope cl L s0 H0 ex) c elt E)(hi:X.N[i]?=some x:=by rfl)(hy:X.env.scope.names.lookup x=some .local:=by rfl)(hS:Es X.N X.env.scope scope Nc sub=true:=by kernel_rfl)(hok:wV sub t=true:=by decide +kernel)(hc:X.calm=true:=by rfl)(hsw:swapsWith (.ListComp elt [⟨tg,iter,ifs,0⟩] scope pos) (some (.Name x p)) spos.line X.env=pure true:=by rfl)(hs:∀x,foldedSetIterable iter X.env x=pure x:=by intro _;rfl)(hN:X.N.Nodup:=by decreasing_trivial) :
  DS X c (.Assign [.Name x p] (.ListComp elt [⟨tg,iter,ifs,0⟩] scope pos) spos) (gV i (fC sub I t C E)):=by
 have mC:=(@hC [] 0 X.s₀ (λ_=>none) []).mono;have mE:=(@hE [] 0 X.s₀ (λ_=>none) []).mono;have mL:=zeD (sub:=sub) (t:=t) hI.mono mC mE;refine⟨zmf mL,kY (znW hc hN hi hy (bO.of hS) hI.pi (λcl L s0 H0 ex=>@hg cl L s0 H0 ex) (Il c.K sub t hok) (Ei c.K t) (λcl L s0 H0 ex=>(@hC cl L s0 H0 ex).pf) (λcl L s0 H0 ex=>(@hE cl L s0 H0 ex).pe) hsw hs) λD Z H h=>?_⟩;exact ze9 hI.mono mC mE Z H _ (zlK mL D Z H h)
end
structure Bt(mg:Str->Option Value):Prop where
 list:mg "list"=none
 len:mg "len"=none
 range:mg "range"=none
 all:mg "all"=none
 any:mg "any"=none
 isinstance:mg "isinstance"=none
 tuple:mg "tuple"=none
 bool:mg "bool"=none
 int:mg "int"=none
 str:mg "str"=none
 sorted:mg "sorted"=none
 set:mg "set"=none
 zip:mg "zip"=none
 enumerate:mg "enumerate"=none
 min:mg "min"=none
 max:mg "max"=none
def dW:Fn
 |[.box,.int m],Q=>(0<m/\m<2^64)/\∀x:Int,0<=x->x<m->Q (.int x)
 |_,_=>False
end Fd
namespace Fen
open PySem L2
def nU(b:Addr)(H H':Hp):Prop:=∀a o,a≠b->H a=some o->H' a=some o
def nU.refl(b:Addr)(H:Hp):nU b H H:=λ_ _ _ h=>h
def nU.trans(x:nU b H H1)(y:nU b H1 H2):nU b H H2:=λa o n h=>y a o n (x a o n h)
theorem nU.upd:nU b H (upd H b o):=λa _ n h=>by rw[au n];exact h
def vh(c:Addr)(p r d:Int):HO:=.lst [.ref c,.int p,.int r,.int d]
structure zN(H:Hp)(b c:Addr)(ns:List Int):Prop where
 ex:∃p r d:Int,H b=some (vh c p r d)/\0<=p/\0<=r/\0<=d/\d<2147483629
 cells:H c=some (.lst (ns.map V.int))
 few:ns.length<=63
def zN.ne(x:zN H b c ns):b≠c:=λz=>by
 obtain⟨p,r,d,e,_⟩:=x.ex;have q:=x.cells;rw[<-z,e]at q;have q':([V.ref c,.int p,.int r,.int d]:List V)=ns.map V.int:=by injection q with q;injection q
 cases ns with
 |nil=>cases q'
 |cons n r=>simp at q'
def zN.put(x:zN H b c ns)(hp:0<=p)(hr:0<=r)(h0:0<=d)(h1:d<2147483629):zN (upd H b (vh c p r d)) b c ns:=
 ⟨⟨p,r,d,cJ,hp,hr,h0,h1⟩,by rw[au x.ne.symm];exact x.cells,x.few⟩
def zr3(K:qo):Sp:=λvs H Q _=>∃(a:Addr)(ns:List Int),vs=[.ref a]/\cz K H a (ns.map V.int)/\ns.length<=63/\∀b c H',H b=none->zN H' b c ns->Same H H'->Q (.ref b) H'
def zug:Sp:=λvs H Q _=>∃(b c:Addr)(ns:List Int)(m:Int),vs=[.ref b,.int m]/\zN H b c ns/\0<m/\m<2^64/\∀(x:Int) H',0<=x->x<m->zN H' b c ns->nU b H H'->Q (.int x) H'
structure Txt(K:qo)(mg:Str->Option Value):Prop where
 list:mg "list"=none
 len:mg "len"=none
 range:mg "range"=none
def zwI{ns:List Int}(h:ns.length<=63):jK (ns.map V.int) none (some 63)=ns.map V.int:=by
 unfold jK;have e:HT.cg (ns.map V.int).length (ns.map V.int).length (some 63)=ns.length:=by
  rw[show(63:Int)=((63:Nat):Int)from rfl,HT.jw,b8];omega
 rw[e,HT.uW,List.drop_zero,Nat.sub_zero];exact YBQ (by simp)
end Fen
namespace L2
open PySem PySem.Spec PyProof.Rows
section
variable{X:Cx}
theorem zjt:∀l:List (Str×Tok),Vals ((l.map (·.1)).map V.str) (strValues l)
 |[]=>.nil
 |p::l=>.cons ⟨p.2,rfl⟩ (zjt l)
theorem zkC:∀{ts:List Str}{us:List Value},Vals (ts.map V.str) us->∃l:List (Str×Tok),l.map (·.1)=ts/\us=strValues l
 |[],_,.nil=>⟨[],rfl,rfl⟩
 |t::ts,_,.cons ⟨k,e⟩ r=>by
  subst e;obtain⟨l,h1,h2⟩:=zkC r;exact⟨(t,k)::l,by simp[h1],by subst h2;rfl⟩
def zrm:V->List V->Hp->VK->Prop:=λx xs H Q=>∃a b,x=.str a/\xs=[.str b]/\b.length≠0/\a.length<=100000/\∀p,H p=none->Q (.ref p) (upd H p (.lst ((Txt.split a b).map V.str)))
def zpP:JH X "str.split" zrm:=by
 intro aa s Z H x xs v us Q I rx rv h;obtain⟨a,b,rfl,rfl,hb,ha,q⟩:=h;obtain⟨t,rfl⟩:=rx;obtain⟨u,rfl,t2,rfl⟩:=qQ rv;have hz:(Txt.split a b).length<=sizeLine:=by
  have:=split_le a b
  rw[nO];omega
 have ha':a.length<=sizeLine:=by rw[nO];omega
 have hy:(b.length==0)=false:=by simp[hb]
 have fin:∀(l:List (Str×Tok))(k:Nat),l.map (·.1)=Txt.split a b->EP X aa Z Q (.ref s.heap.objs.size) {s with heap:=s.heap.push {cls:=.type "list",data:=.seq (strValues l).toArray},toks:=k}:=λl k e=>
  ⟨.ref _,_,I.lnew (its:=strValues l) (t':=k) (zjt l) (by rw[e,b8];exact hz),rfl,by rw[e];exact q _ I.fresh⟩
 cases h1:(decide (a.length<b.length) || decide (Builtin.Str.strKind a<Builtin.Str.strKind b))
 .cases hf:(Builtin.Str.occurrences a b 0 a.length (a.length+1)).isEmpty
  .have e:Txt.split a b=Builtin.Str.partsBetween a (Builtin.Str.occurrences a b 0 a.length (a.length+1)) b.length:=(if_neg (YCH h1)).trans (if_neg (YCH hf));refine CV YC0 (Fl _ _ _) YCU (YCL _ _) (meets_str_split_sep a b t t2 h1 hy hf ha' (by rw[<-e];exact hz)) ?_;rw[strsFrom_eq];exact fin _ _ ((numbered_texts _ _).trans e.symm)
  .exact CV YC0 (Fl _ _ _) YCU (YCL _ _) (meets_str_split_not_found a b t t2 h1 hy hf)
    (fin [(a,t)] s.toks ((if_neg (YCH h1)).trans (if_pos hf)).symm)
 .exact CV YC0 (Fl _ _ _) YCU (YCL _ _) (meets_str_split_cannot_occur a b t t2 h1)
   (fin [(a,t)] s.toks (if_pos h1).symm)
def zuD(K:qo):V->List V->Hp->VK->Prop:=λx xs H Q=>∃a p ts,x=.str a/\xs=[.ref p]/\cz K H p (ts.map V.str)/\(∀t∈ts,t.length<=2000)/\ts.length<=2000/\a.length<=1000/\Q (.str (Str.join a ts)) H
def zsv:JH X "str.join" (zuD X.K):=by
 intro aa s Z H x xs v us Q I rx rv h;obtain⟨a,p,ts,rfl,rfl,hl,h1,h2,h3,q⟩:=h;obtain⟨t,rfl⟩:=rx;obtain⟨u,rfl,ru⟩:=qQ rv;cases ru;obtain⟨its,rv,pl,_⟩:=I.list hl;obtain⟨l,e1,e2⟩:=zkC rv;subst e2;refine SC.join pl.isList e1 ?_ λt' k=>?_
 .have:=YDa h2 (dG 2000)
  have:=YDa h2 h3
  unfold JoinOk;rw[StrLaws.joinFits (B:=2000) h1 (by omega)];rfl
 .rw[show Txt.join a ts=Str.join a ts from StrLaws.glued_eq_join a ts];exact⟨.str _,H,I.tok k,⟨t',rfl⟩,q⟩
def zky:cY X (.type "int") (λxs H Q=>∃x n,xs=[.str x]/\x.length<=640/\PySem.intText? x=some n/\Q (.int n) H):=by
 intro aa s Z H xs us Q I r h;obtain⟨x,n,rfl,hz,hn,q⟩:=h;obtain⟨u,rfl,t,rfl⟩:=qQ r;exact PySem.W.KIN.call_text hn hz ⟨.int n,H,I.tok _,⟨_,rfl⟩,q⟩
def Its(x:Str):It:=⟨λi _=>i<x.length,λi H v H'=>H'=H/\∃c,x.cps[i]?=some c/\v=.str ⟨#[c]⟩,λi _=>x.length<=i⟩
def zq3{P:Program}{w:World}{K:qo}{tg:Expr}(x:Str)(t:Tok)(ty:String)(hty:ty="str_ascii_iterator" \/ ty="str_iterator")(it:Addr):Turn P w K tg (Its x) [it] it (λi h=>h.IsStrIter it ty x t i)where
 mem:=by simp
 obj:=λi h st b hb=>by
  have e:b=it:=by simpa using hb
  subst e;obtain⟨o,e,c,d⟩:=st;exact⟨o,e,λv z=>by rw[d]at z;cases z⟩
 keep:=λi h h' ⟨o,e,r⟩ k=>⟨o,k it (by simp) o e,r⟩
 item:=by
  intro X hP hw hK hc i aa s Z H E I hf st hg;subst hP hw hK;have hg:i<x.length:=hg;obtain⟨f0,f1,f2,f3,f4,f5⟩:=hf it (by simp);have hx:x.cps[i]?=some x.cps[i]:=Hr hg;have fin:∀h',h'.IsStrIter it ty x t (i+1)->Heap.SameBut it s.heap h'->∃u,some (Value.str ⟨#[x.cps[i]]⟩ s.toks)=some u /\
   wpAny (model X.prog X.w) X.A (letOwnedTupleGo tg (.ref it) u) (λ_ s2=>∃x' H',Inv X aa Z H' s2/\RelV x' u/\(Its x).yld i H x' H'/\s2.heap.IsStrIter it ty x t (i+1)/\∀b∈[it],H' b=none) E {s with heap:=h',toks:=s.toks+1}:=λh' st' sb=>by
   have I1:Inv X aa Z H {s with heap:=h',toks:=s.toks+1}:=I.turned (t':=s.toks+1) (λb o hb e=>(sb.2 b hb).trans e) f0 f1 f3 f4 f5;obtain⟨o,e,c,d⟩:=id st';exact⟨_,rfl,Ey (s:={s with heap:=h',toks:=s.toks+1}) e c d (by rcases hty with rfl|rfl<;>decide) ⟨.str _,H,I1,⟨_,rfl⟩,⟨rfl,_,hx,rfl⟩,st',λb hb=>(hf b hb).1⟩⟩
  rcases hty with rfl|rfl
  .exact wpAny_pyNext_ascii_item st hx fin
  .exact wpAny_pyNext_wide_item st hx fin
 done:=by
  intro X hP hw hK hc i aa s Z H E I hf st hg;subst hP hw hK;have hg:x.length<=i:=hg;obtain⟨f0,f1,f2,f3,f4,f5⟩:=hf it (by simp);have hx:x.cps[i]?=none:=Array.getElem?_eq_none hg;rcases hty with rfl|rfl
  .exact wpAny_pyNext_ascii_end (I.ok.hd hc) st hx λh' eb=>⟨rfl,I.turned (t':=s.toks) (λb o hb e=>eb b o hb e) f0 f1 f3 f4 f5⟩
  .exact wpAny_pyNext_wide_end (I.ok.hd hc) st hx λh' eb=>⟨rfl,I.turned (t':=s.toks) (λb o hb e=>eb b o hb e) f0 f1 f3 f4 f5⟩
 self:=λ_ _ _ _ _ st h=>by
  rcases hty with rfl|rfl
  .exact wpAny_pyIter_striter_ascii st h
  .exact wpAny_pyIter_striter_wide st h
def xx(z:Str)(lo hi:Option Int):Str:=⟨((z.cps.toList.drop (HT.cg z.length 0 lo)).take (HT.cg z.length z.length hi-HT.cg z.length 0 lo)).toArray⟩
def zmi(n:Nat):∀(o:Option Int)(d:Nat),d<=n->(∀v,o=some v->v<=n\/0<=v)->HT.cg n d o<=n
 |none,_,h,_=>h
 |some v,_,_,_=>by
  show(if v<0 then(v+(n:Int)).toNat else min v.toNat n)<=n;split<;>omega
def zom(n d:Nat)(o:Option Int)(hd:d<=n):(match o with|none=>(d:Int)|some i=>max 0 (min (if i<0 then i+(n:Int)else i) (n:Int)))=(HT.cg n d o:Int):=by
 cases o with
 |none=>rfl
 |some v=>
  show max 0 (min (if v<0 then v+(n:Int)else v) (n:Int))=((if v<0 then(v+(n:Int)).toNat else min v.toNat n:Nat):Int);split<;>omega
def znT(n:Nat)(lo hi:Option Int):Builtin.Str.strSliceIndices lo hi 1 n=sliceRange (HT.cg n 0 lo:Int) (HT.cg n n hi:Int) 1:=by
 have a:=zom n 0 lo (v6 _);have b:=zom n n hi (dG _);unfold Builtin.Str.strSliceIndices;simp only[show(1:Int)>0 from by decide,uP];rw[<-a,<-b];rfl
def zpB(z:Str)(lo hi:Option Int):Txt.slice z lo hi=xx z lo hi:=by
 have ha:HT.cg z.length 0 lo<=z.length:=zmi _ _ _ (v6 _) λv _=>by omega
 have hb:HT.cg z.length z.length hi<=z.length:=zmi _ _ _ (dG _) λv _=>by omega
 unfold xx;by_cases h:HT.cg z.length 0 lo<=HT.cg z.length z.length hi
 .have q:=StrLaws.sliceText_nat z h hb;rw[<-q];have e:Builtin.Str.strSliceIndices lo hi 1 z.length=Builtin.Str.strSliceIndices (some (HT.cg z.length 0 lo:Int)) (some (HT.cg z.length z.length hi:Int)) 1 z.length:=by
   rw[znT,znT,HT.jw,HT.jw,YCI ha,YCI hb]
  show StrLaws.sliceText z lo hi=_;unfold StrLaws.sliceText;rw[e]
 .have e:Builtin.Str.strSliceIndices lo hi 1 z.length=[]:=by
   rw[znT];unfold sliceRange;simp only[show(1:Int)>0 from by decide,uP];rw[if_neg (by omega)];rfl
  have t:(HT.cg z.length z.length hi-HT.cg z.length 0 lo)=0:=by omega
  rw[t,List.take_zero];show StrLaws.sliceText z lo hi=_;unfold StrLaws.sliceText;rw[e];have nz:z.length≠0:=by omega
  simp[YAM nz]
def rSlS:V->Option Int->Option Int->Hp->VK->Prop:=λx lo hi H Q=>∃z,x=.str z/\z.length<=100000/\Q (.str (xx z lo hi)) H
def zoh(h:IsPart v o):∃l:Option (Int×Tok),v=partValue l/\l.map (·.1)=o:=by
 cases h with
 |none=>exact⟨none,rfl,rfl⟩
 |int i t=>exact⟨some (i,t),rfl,rfl⟩
def ztR:yG X rSlS:=by
 intro aa s Z H x v vl vu lo hi sl Q I rx hs pl pu h;obtain⟨z,rfl,hz,q⟩:=h;obtain⟨t,rfl⟩:=rx;obtain⟨l,rfl,rfl⟩:=zoh pl;obtain⟨u,rfl,rfl⟩:=zoh pu;refine⟨"str",_,F.slot_str_getitem.lookup,Fl _ _ _,wpAny_getItem_str_slice (l:=l) (u:=u) (st:=none) hs rfl (post_val_or_str ⟨?_,λt' k=>?_⟩)⟩
 .exact YAB (Txt.slice_le z _ _) (by rw[nO];omega)
 .exact⟨.str _,H,I.tok k,⟨t',rfl⟩,by rw[<-zpB]at q;exact q⟩
end
noncomputable def Itx(tp tq:Bool)(K:qo)(a b:Addr):It:=
 ⟨λi H=>∃xs ys x y,SQ tp K H a xs/\SQ tq K H b ys/\xs[i]?=some x/\ys[i]?=some y,
 λi H v H'=>∃t x y,H t=none/\v=.ref t/\H'=upd H t (.tup [x,y])/\(∀xs,SQ tp K H a xs->xs[i]?=some x)/\∀ys,SQ tq K H b ys->ys[i]?=some y,
 λi H=>∃xs ys,SQ tp K H a xs/\SQ tq K H b ys/\i=min xs.length ys.length⟩
def ZTx(tp tq:Bool)(z c d i j a b:Addr)(k:Nat)(h:Heap):Prop:=IsZip h z c d .none/\IsPair h c (.ref i) (.ref j)/\(∃u v,IsPair h d u v)/\yW tp h i a k/\yW tq h j b k
def zok{P:Program}{w:World}{K:qo}{es:List Expr}{x1:_}{pos:Pos}{tp tq:Bool}{z c d i j a b:Addr}(qg:yK z c d i j [i,a] [j,b])(na:a≠i)(nb:b≠j) :
  Turn P w K (.Tuple es x1 pos) (Itx tp tq K a b) [z,c,d,i,j] z (ZTx tp tq z c d i j a b)where
 mem:=by simp
 obj:=λk h st e he=>by
  obtain⟨h1,h2,⟨u,v,h3⟩,h4,h5⟩:=st;simp only[iU,lz,uL]at he;rcases he with rfl|rfl|rfl|rfl|rfl
  .exact⟨_,h1,λv q=>by cases q⟩
  .exact⟨_,h2,λv q=>by cases q⟩
  .exact⟨_,h3,λv q=>by cases q⟩
  .exact h4.obj
  .exact h5.obj
 keep:=λk h h' st q=>by
  obtain⟨h1,h2,⟨u,v,h3⟩,h4,h5⟩:=st;exact⟨q z (by simp) _ h1,q c (by simp) _ h2,⟨u,v,q d (by simp) _ h3⟩,h4.keep λo e=>q i (by simp) o e,h5.keep λo e=>q j (by simp) o e⟩
 item:=by
  intro X hP hw hK hc k aa s Z H E I hf st hg;subst hP hw hK;obtain⟨xs,ys,x,y,qa,qb,ex,ey⟩:=hg;obtain⟨ia,ra,ca,za⟩:=I.sq qa;obtain⟨ib,rb,cb,zb⟩:=I.sq qb;obtain⟨h1,h2,⟨u,v,h3⟩,h4,h5⟩:=st;have hh:X.A.in1.handled=none:=I.ok.hd hc;obtain⟨ux,eux,rux⟩:=ra.get ex;obtain⟨uy,euy,ruy⟩:=rb.get ey;have k1:k<ia.toArray.size:=by simpa using(jC.mp eux).1
  have k2:k<ib.toArray.size:=by simpa using(jC.mp euy).1
  refine zhw qg (Im tp hh i a na ia.toArray) (Im tq hh j b nb ib.toArray) h1 h2 h3 ⟨h4,ca⟩ ⟨h5,cb⟩ k1 k2 λvx vy h' tk t px py ht g1 g2 g3 g4 g5 kk=>⟨_,rfl,?_⟩;have ev:vx=ux:=by rw[List.getElem?_toArray,eux]at px;exact(Option.some.inj px).symm
  have ew:vy=uy:=by rw[List.getElem?_toArray,euy]at py;exact(Option.some.inj py).symm
  subst ev ew;refine wpAny_letOwnedTupleGo_zip g1 λh'' z' sb=>?_;have tz:t≠z:=λq=>by rw[q]at ht;exact absurd (dB h1) (by rw[ht];exact uO _)
  have hn:H t=none:=I.hok.fresh (by rw[ht];exact dG _);have kp:∀b u,b∉[z,c,d,i,j]->s.heap.get? b=some u->h''.get? b=some u:=λb u hb e=>by
   simp only[iU,lz,uL,not_or]at hb;exact sb.extBut b u hb.1 (kk b u hb.1 hb.2.2.1 hb.2.2.2.1 hb.2.2.2.2 e)
  have I1:Inv X aa Z (upd H t (.tup [x,y])) {s with heap:=h'',toks:=tk}:=I.turnedLaid (ch:=[z,c,d,i,j]) kp hf (by rw[ht];exact dG _)
   ⟨by show 2<=sizeLine;decide,[vx,vy],.cons rux (.cons ruy .nil),⟨_,sb.extBut _ _ tz g5,rfl,_,rfl⟩⟩
  refine⟨.ref t,_,I1,rfl,⟨t,x,y,hn,rfl,rfl,λxs' q=>by rw[I.sq_inj q qa];exact ex,λys' q=>by rw[I.sq_inj q qb];exact ey⟩,?_,λe he=>?_⟩
  .exact⟨z',sb.extBut _ _ qg.az (kk _ _ qg.az qg.ab qg.ai qg.aj h2),⟨_,_,sb.extBut _ _ qg.bz g2⟩,g3.1.keep λo e=>sb.extBut _ _ qg.iz e,g4.1.keep λo e=>sb.extBut _ _ qg.jz e⟩
  .have hlt:e<s.heap.objs.size:=by
    simp only[iU,lz,uL]at he;rcases he with rfl|rfl|rfl|rfl|rfl
    .exact dB h1
    .exact dB h2
    .exact dB h3
    .obtain⟨o,q,_⟩:=h4.obj;exact dB q
    .obtain⟨o,q,_⟩:=h5.obj;exact dB q
   rw[au (fX (by rw[ht];exact hlt))];exact(hf e he).1
 done:=by
  intro X hP hw hK hc k aa s Z H E I hf st hg;obtain⟨xs,ys,qa,qb,hx⟩:=hg;subst hP hw hK;obtain⟨ia,ra,ca,za⟩:=I.sq qa;obtain⟨ib,rb,cb,zb⟩:=I.sq qb;obtain⟨h1,h2,⟨u,v,h3⟩,h4,h5⟩:=st;have hh:X.A.in1.handled=none:=I.ok.hd hc;have l1:=ra.length;have l2:=rb.length;by_cases hle:xs.length<=ys.length
  .have hk:k=ia.toArray.size:=by simp;omega
   subst hk;refine zg9 qg (Im tp hh i a na ia.toArray) h1 h2 ⟨h4,ca⟩ λh' kk=>⟨rfl,?_⟩;exact I.turnedAll (t':=s.toks) (ch:=[z,c,d,i,j]) (λb u hb e=>by
    simp only[iU,lz,uL,not_or]at hb;exact kk b u hb.1 hb.2.2.1 hb.2.2.2.1 hb.2.2.2.2 e) hf
  .have hk:k=ib.toArray.size:=by simp;omega
   subst hk;refine zgg qg (Im tp hh i a na ia.toArray) (Im tq hh j b nb ib.toArray) h1 h2 h3 ⟨h4,ca⟩ ⟨h5,cb⟩ (by simp;omega) λh' tk kk=>⟨rfl,?_⟩;exact I.turnedAll (t':=tk) (ch:=[z,c,d,i,j]) (λb u hb e=>by
    simp only[iU,lz,uL,not_or]at hb;exact kk b u hb.1 hb.2.2.1 hb.2.2.2.1 hb.2.2.2.2 e) hf
 self:=λ_ _ _ _ _ st h=>wpAny_pyIter_zip st.1 h
def itN(tp:Bool):String:=match tp with|true => "tuple_iterator"|false => "list_iterator"
abbrev An(tp:Bool)(h:Heap)(l:Addr):Heap:=h.push {cls:=.type (itN tp),data:=.fields #[.ref l,.int 0 0]}
abbrev xzb(tp tq:Bool)(h:Heap)(l m:Addr):Heap:=An tq (An tp h l) m
abbrev xzc(tp tq:Bool)(h:Heap)(l m:Addr):Heap:=(xzb tp tq h l m).push {cls:=.type "tuple",data:=.seq #[.ref h.objs.size,.ref (An tp h l).objs.size]}
abbrev xzd(tp tq:Bool)(h:Heap)(l m:Addr):Heap:=(xzc tp tq h l m).push {cls:=.type "tuple",data:=.seq #[.none,.none]}
abbrev Eg(tp tq:Bool)(h:Heap)(l m:Addr):Heap:=(xzd tp tq h l m).push {cls:=.type "zip",data:=.fields #[.none,.bool false,.bool false,.ref (xzb tp tq h l m).objs.size,.ref (xzc tp tq h l m).objs.size]}
def zt7(h:qP tp s.heap l xs)(q:Q (.ref s.heap.objs.size) {s with heap:=An tp s.heap l}):wpAny (model P w) A (pyIter (.ref l)) Q E s:=by
 cases tp
 .exact FT h q
 .exact wpAny_pyIter_tuple h q
theorem qP.push(x:qP tp h l xs)(o:Obj):qP tp (h.push o) l xs:=by
 cases tp
 .exact Heap.IsList.push x o
 .exact Heap.IsTuple.push x o
def zmP(tp tq:Bool)(l m:Addr)(xs ys:Array Value) :
  Meets (Builtin.«zip.__new__» ⟨[.type "zip",.ref l,.ref m],[]⟩) (λ_ R s=>qP tp s.heap l xs/\qP tq s.heap m ys/\R (.ok (.ret (.ref (xzd tp tq s.heap l m).objs.size))) {s with heap:=Eg tp tq s.heap l m}):=
 .of_wp λprog w A R s h=>by
  obtain⟨hp,g,d,tk,os⟩:=s;obtain⟨hl,hm,h⟩:=h;have hsub:=sub_zip;have h1:qP tp (Shared.heap ⟨hp,g,d,tk,os⟩) l xs:=hl;have h2:qP tq (Shared.heap ⟨An tp hp l,g,d,tk,os⟩) m ys:=qP.push hm _
  wp_walk using zt7 h1,zt7 h2
  exact⟨_,rfl,h⟩
def zoe(hl:qP tp s.heap l xs)(hm:qP tq s.heap m ys)
  (q:∀h',ZTx tp tq (s.heap.objs.size+4) (s.heap.objs.size+2) (s.heap.objs.size+3) s.heap.objs.size (s.heap.objs.size+1) l m 0 h'->(∀c o,s.heap.get? c=some o->h'.get? c=some o)->Q (.ref (s.heap.objs.size+4)) {s with heap:=h'}) :
  wpAny (model P w) A (call (.type "zip") [.ref l,.ref m]) Q E s:=by
 refine callType_new F.called_zip (by decide) (F.typeCall_zip_2 _ _) (F.newCall_zip_2 _ _) (λobj=>F.args_object_init_3 obj _ _) F.entry_zip_new (zmP tp tq l m xs ys) ⟨hl,hm,?_⟩;have y1:(An tp s.heap l).objs.size=s.heap.objs.size+1:=xm ..;have y2:(xzb tp tq s.heap l m).objs.size=s.heap.objs.size+2:=by rw[xm,y1]
 have y3:(xzc tp tq s.heap l m).objs.size=s.heap.objs.size+3:=by rw[xm,y2]
 have y4:(xzd tp tq s.heap l m).objs.size=s.heap.objs.size+4:=by rw[xm,y3]
 have g5:(Eg tp tq s.heap l m).get? (xzd tp tq s.heap l m).objs.size=some _:=jD _ rfl;have g4:(Eg tp tq s.heap l m).get? (xzc tp tq s.heap l m).objs.size=some _:=dX _ (jD _ rfl);have g3:(Eg tp tq s.heap l m).get? (xzb tp tq s.heap l m).objs.size=some _:=dX _ (dX _ (jD _ rfl));have g2:(Eg tp tq s.heap l m).get? (An tp s.heap l).objs.size=some _:=dX _ (dX _ (dX _ (jD _ rfl)));have g1:(Eg tp tq s.heap l m).get? s.heap.objs.size=some _:=dX _ (dX _ (dX _ (dX _ (jD _ rfl))));show _/\_;rw[y2,y3,y4]at g5;rw[y1,y2]at g3;rw[y3]at g4;rw[y1]at g2;rw[y4];exact⟨⟨_,g5,rfl⟩,q _ ⟨g5,g3,⟨_,_,g4⟩,(by cases tp<;>exact⟨_,g1,rfl,rfl⟩),(by cases tq<;>exact⟨_,g2,rfl,rfl⟩)⟩ λc o x=>dX _ (dX _ (dX _ (dX _ (dX _ x))))⟩
def zvO(K:qo)(ta:TA):TI:=λZ H R=>ta Z H λvs H1=>∃(tp tq:Bool)(a b:Addr)(xs ys:List V),vs=[.ref a,.ref b]/\SQ tp K H1 a xs/\SQ tq K H1 b ys/\R (Itx tp tq K a b) H1
def zth(hg:Gl X "zip")(hm:X.mg "zip"=none)(ha:PA X [a,b] ta)(hs:starEach [a,b] X.env=[(false,eval a X.env),(false,eval b X.env)]:=by rfl)(hs2:starEach [b] X.env=[(false,eval b X.env)]:=by rfl) :
  PI X (.Tuple es x1 tpos) (.Call (.Name "zip" p) [a,b] [] pos) (zvO X.K ta):=by
 intro aa s Z H R I h;refine Call_ (Fi I hg hm boot_zip (YBy (bH (ha pos aa s Z H _ I h) λus s1 ⟨vs,H1,I1,r1,q1⟩=>?_) (by rw[hs,hs2]) (by rw[hs2];rfl)));obtain⟨tp,tq,l,m,xs,ys,e,q1,q2,q⟩:=q1;subst e;obtain⟨u,v,rfl,ru,rv⟩:=zsK r1;cases ru;cases rv;obtain⟨ia,ra,ca,za⟩:=I1.sq q1;obtain⟨ib,rb,cb,zb⟩:=I1.sq q2;have lt1:=ca.lt;have lt2:=cb.lt;refine zoe ca cb λh' zt kk=>?_;refine wpAny_pyIter_zip zt.1 ?_;have I2:Inv X aa Z H1 {s1 with heap:=h'}:=I1.kept (t':=s1.toks) kk;refine⟨_,[s1.heap.objs.size+4,s1.heap.objs.size+2,s1.heap.objs.size+3,s1.heap.objs.size,s1.heap.objs.size+1],_,_,H1,rfl,I2,zok (zvy _ _ _ lt1 lt2) (fX lt1) (fX (YCk lt2)),zt,λc hc=>?_,q⟩;have hle:s1.heap.objs.size<=c:=by
  simp only[iU,lz,uL]at hc;rcases hc with rfl|rfl|rfl|rfl|rfl
  .exact KZ _ _
  .exact KZ _ _
  .exact KZ _ _
  .exact dG _
  .exact KZ _ _
 exact I1.fpOk hle (I1.hok.fresh hle)
end L2
namespace Fd
open PySem L2
section
variable{X:Cx}{c:Bk}{a b:Expr}{A B:WE}{pos p tpos:Pos}{es:List Expr}
def zuB(A B:WE):WL:=λS Q=>A S λx=>B S λy=>qR x λxs=>qR y λys=>Q (iT xs ys)
def zh7(e:Same G H2)(h:SQ tp K G l vs):SQ tp K H2 l vs:=by
 cases tp
 .exact e.seq h
 .exact rD e h
def zsc(hl:SQ tp c.K G l vs)(hm:SQ tq c.K G m ws)(hv:aH c G xs vs)(hw:aH c G ys ws):rC c (Itx tp tq c.K l m) (iT xs ys) G:=by
 intro i H2 G2 s1 s2 bx h0;have ql:=zh7 (s1.trans s2) hl;have qm:=zh7 (s1.trans s2) hm;refine⟨λe=>⟨vs,ws,ql,qm,by rw[e,zlJ,hv.length,hw.length]⟩,λd e=>?_⟩;obtain⟨x,y,ex,ey,rfl⟩:=zl8 e;obtain⟨v,e1,r1⟩:=hv.get ex;obtain⟨w,e2,r2⟩:=hw.get ey;refine⟨⟨vs,ws,v,w,ql,qm,e1,e2⟩,λz H3 yl=>?_⟩;obtain⟨t,x',y',ht,rfl,rfl,f1,f2⟩:=yl;have g1:=f1 vs ql;have g2:=f2 ws qm;rw[e1]at g1;cases g1;rw[e2]at g2;cases g2;have sg:Same G2 (upd G2 t (.tup [v,w])):=nW (lU s2 ht);exact⟨_,aZ.new s2 bx ht,t,[v,w],rfl,fY.of cJ,⟨v,[w],rfl,(r1.mono s1).mono sg,w,[],rfl,(r2.mono s1).mono sg,rfl⟩⟩
def zlU(h:Rep c G d v)(q:qR d Q):∃tp l vs xs,v=.ref l/\SQ tp c.K G l vs/\aH c G xs vs/\Q xs:=by
 cases d with
 |lst n xs=>obtain⟨l,vs,e,hl,_,hv⟩:=h;exact⟨false,l,vs,xs,e,cz.of hl,hv,q⟩
 |tup xs=>obtain⟨l,vs,e,hl,hv⟩:=h;exact⟨true,l,vs,xs,e,hl,hv,q⟩
 |_=>exact q.elim
def ztO(hA:DE X c a A)(hB:DE X c b B)(hg:Gl X "zip":=by rfl)(hs:starEach [a,b] X.env=[(false,eval a X.env),(false,eval b X.env)]:=by rfl)(hs2:starEach [b] X.env=[(false,eval b X.env)]:=by rfl)(hK:c.K=X.K:=by rfl)(hm:X.mg "zip"=none:=by decreasing_trivial) :
  DI X c (.Tuple es x1 tpos) (.Call (.Name "zip" p) [a,b] [] pos) (zuB A B)where
 mono:=λS Q Q' k q=>hA.mono S _ _ (λx z=>hB.mono S _ _ (λy z'=>zhk (λxs=>zhk λys z=>k _ z) z') z) q
 pi:=zmc (zth hg hm (iI hA.pe (iI hB.pe jW hs2) (by rw[hs,hs2])) hs hs2) λZ H R ⟨S,G,r,q⟩=>⟨S,G,r,hA.mono S _ _ (λx z v H1 G1 t1 e1=>⟨S,G1,r.step t1,hB.mono S _ _ (λy z' w H2 G2 t2 e2=>by
  obtain⟨tp,l,vs,xs,rfl,hl,hv,z'⟩:=zlU (e1.mono t2.gg) z';obtain⟨tq,m,ws,ys,rfl,hm,hw,z'⟩:=zlU e2 z';exact⟨tp,tq,l,m,vs,ws,rfl,hK▸zh7 t2.gh hl,hK▸zh7 t2.gh hm,z' _ H2 G2 (t1.trans t2) (hK▸zsc hl hm hv hw)⟩) z⟩) q⟩
end
section
variable{X:Cx}{c:Bk}{a b e o:Expr}{A B:WE}{es:List Expr}{pos p p2 apos cpos px py ps:Pos}
def zvn(hm:X.mg x=some (.str z t))(hg:Gl X x:=by rfl)(hd:(x==("__debug__":Str))=false:=by decide):DE X c (.Name x pos) (kW (.str z)):=⟨Ea _,dM (zkV (v:=.str z) hg hm ⟨t,rfl⟩ hd) λZ H Q ⟨S,G,r,q⟩=>q _ H G r.refl rfl⟩
def Dt(hm:X.mg x=some (.int z t))(hg:Gl X x:=by rfl)(hd:(x==("__debug__":Str))=false:=by decide):DE X c (.Name x pos) (kW (.int z)):=⟨Ea _,dM (zkV (v:=.int z) hg hm ⟨t,rfl⟩ hd) λZ H Q ⟨S,G,r,q⟩=>q _ H G r.refl rfl⟩
def f9:FL:=λds Q=>match ds with
 |[.str x]=>x.length<=100000/\Q (.int x.length)
 |ds=>tG ds Q
def zvF:uw f9:=λds Q Q' k q=>by
 unfold f9 at q ⊢;split at q
 .exact⟨q.1,k _ q.2⟩
 .exact zuE _ _ _ k q
def zts:vY c f9 (λxs H Q=>(∃p ys,xs=[.ref p]/\(cz c.K H p ys\/fY c.K H p ys)/\Q (.int ys.length) H)\/∃z,xs=[.str z]/\z.length<=sizeLine/\Q (.int z.length) H):=by
 intro H G ds vs Q gh bx h0 rv q;unfold f9 at q;split at q
 .obtain⟨v,rfl,rfl⟩:=uX rv;exact .inr ⟨_,rfl,eZ q.1,q.2 _ H G (aZ.refl gh bx) rfl⟩
 .exact .inl (zro H G _ vs Q gh bx h0 rv q)
def jQ(hR:DA X c [e] R)(hg:Gl X "len":=by rfl)(he:starEach [e] X.env=(false,eval e X.env)::starEach [] X.env:=by rfl)(hK:c.K=X.K:=by rfl)(hm:X.mg "len"=none:=by decreasing_trivial):DE X c (.Call (.Name "len" p) [e] [] pos) (cbW f9 R):=
 ziW zvF (gH.or zjK) (hK▸zts) hm YCN hR hg (by decide) (by decide) he rfl
def mK(b a:Str):Bool:=!(Builtin.Str.occurrences b a 0 b.length 1).isEmpty
def dY(neg:Bool):F2:=λx y Q=>match x,y with
 |.str a,.str b=>Q (.bl (if neg then !mK b a else mK b a))
 |x,y=>inD neg x y Q
def zsX(neg:Bool):lK (dY neg):=λx y Q Q' k q=>by
 unfold dY at q ⊢;split at q
 .exact k _ q
 .exact m_in neg _ _ _ _ k q
def Cw(c:Bk)(neg:Bool):R2:=λu v H Q=>xJ c neg u v H Q\/∃i j,u=.str i/\v=.str j/\Q (.bl (if neg then !mK j i else mK j i)) H
def znw(neg:Bool):pG c (dY neg) (Cw c neg):=λH G x y u v Q gh bx h0 rx ry q=>by
 unfold dY at q;split at q
 .cases rx;cases ry;exact .inr ⟨_,_,rfl,rfl,q _ H G (aZ.refl gh bx) rfl⟩
 .exact .inl (zwg neg H G _ _ u v Q gh bx h0 rx ry q)
def zrq(hK:c.K=X.K)(hu:X.A.units+64<cLine):fZ X (compareOp .In) (Cw c false):=(zu6 hK hu).or zoY
def znP(hK:c.K=X.K)(hu:X.A.units+64<cLine):fZ X (compareOp .NotIn) (Cw c true):=(zo0 hK hu).or zkf
def zu4(hA:DE X c a A)(hB:DE X c b B)(hm:behindInMarks .In b=false:=by with_unfolding_all rfl)(hK:c.K=X.K:=by rfl)(hu:X.A.units+64<cLine:=by decreasing_trivial):DE X c (.Compare a [.In] [b] pos) (ak (dY false) A B):=zsZ (zsX _) (zrq hK hu) (znw _) hA hB hm
def Dj(hA:DE X c a A)(hB:DE X c b B)(hm:behindInMarks .In b=false:=by with_unfolding_all rfl)(hK:c.K=X.K:=by rfl)(hu:X.A.units+64<cLine:=by decreasing_trivial):DT X c (.Compare a [.In] [b] pos) (bG (ak (dY false) A B)):=Cy (zsX _) (zrq hK hu) (znw _) hA hB hm
def zgt(hA:DE X c a A)(hB:DE X c b B)(hm:behindInMarks .NotIn b=false:=by with_unfolding_all rfl)(hK:c.K=X.K:=by rfl)(hu:X.A.units+64<cLine:=by decreasing_trivial):DT X c (.Compare a [.NotIn] [b] pos) (bG (ak (dY true) A B)):=Cy (zsX _) (znP hK hu) (znw _) hA hB hm
def aF:F2:=λx y Q=>match x,y with
 |.str z,.int i=>z.length<=100000/\(match gO z.cps.toList i with|some ch=>Q (.str ⟨#[ch]⟩)|none=>False)
 |x,y=>ixD x y Q
def zuC:lK aF:=λx y Q Q' k q=>by
 unfold aF at q ⊢;split at q
 .refine⟨q.1,?_⟩;have q:=q.2;split at q
  .exact k _ q
  .exact q.elim
 .exact zY _ _ _ _ k q
def zvr:pG c aF (rIx c.K):=λH G x y u v Q gh bx h0 rx ry q=>by
 unfold aF at q;split at q
 .cases rx;cases ry;have q2:=q.2;split at q2
  .rename_i ch e
   exact .inr (.inr ⟨_,_,ch,rfl,rfl,eZ q.1,e,q2 _ H G (aZ.refl gh bx) rfl⟩)
  .exact q2.elim
 .exact zvu H G _ _ u v Q gh bx h0 rx ry q
def cj(hA:DE X c a A)(hB:DE X c b B)(hs:zio b:=by intro _ _;rfl)(hK:c.K=X.K:=by rfl):DE X c (.Subscript a b pos) (ak aF A B):=
 ⟨Fp zuC hA.mono hB.mono,dM (uA (hK▸zoC) hA.pe hB.pe hs) λZ H Q h=>zgv zuC hA.mono hB.mono zvr Z H Q h⟩
def Cj(x:D)(lo hi:Option Int)(Q:D->Prop):Prop:=match x with
 |.str z=>z.length<=100000/\Q (.str (xx z lo hi))
 |x=>slD x lo hi Q
def znx(k:∀d,Q d->Q' d)(q:Cj x lo hi Q):Cj x lo hi Q':=by
 cases x with
 |str z=>exact⟨q.1,k _ q.2⟩
 |lst n xs=>exact k _ q
 |tup xs=>exact k _ q
 |_=>exact q.elim
abbrev ji(A:WE)(L U:WO):WE:=λS Q=>A S λx=>L S λl=>U S λu=>Cj x l u Q
def Dq(hA:DE X c a A)(hL:DO X c lo L)(hU:DO X c hi U)(hK:c.K=X.K:=by rfl):DE X c (.Subscript a (.Slice lo hi none p2) pos) (ji A L U)where
 mono:=λS Q Q' k q=>hA.mono S _ _ (λd z=>hL.mono S _ _ (λl y=>hU.mono S _ _ (λu x=>znx k x) y) z) q
 pe:=dM (zmp ((rW.or ztA).or ztR) hA.pe hL.po hU.po) λZ H Q ⟨S,G,r,q⟩=>⟨S,G,r,hA.mono S _ _ (λd z v H1 G1 t1 e1=>⟨S,G1,r.step t1,hL.mono S _ _ (λl y H2 G2 t2=>⟨S,G2,(r.step t1).step t2,hU.mono S _ _ (λu x H3 G3 t3=>by
  have t:=(t1.trans t2).trans t3;have e3:=(e1.mono t2.gg).mono t3.gg;cases d with
  |lst n xs=>
   obtain⟨p,vs,rfl,hp,_,rv⟩:=e3;exact .inl (.inl ⟨p,vs,rfl,cz.of (t3.gh _ _ hp),λl hl=>x (.ref l) _ _ (t.trans (aZ.new t3.gh t3.bx hl)) ⟨l,_,rfl,cJ,λ_=>r.new0 (t.free hl),(rv.cut _ _).mono (nW (lU t3.gh hl))⟩⟩)
  |tup xs=>
   obtain⟨p,vs,rfl,hp,rv⟩:=e3;exact .inl (.inr ⟨p,vs,rfl,hK▸rD t3.gh hp,λe=>x (.ref p) H3 G3 t ⟨p,vs,rfl,hp,by have:=rv.cut l u;rw[e]at this;exact this⟩,λl hl=>x (.ref l) _ _ (t.trans (aZ.new t3.gh t3.bx hl)) ⟨l,_,rfl,fY.of cJ,(rv.cut _ _).mono (nW (lU t3.gh hl))⟩⟩)
  |str zz=>cases e3;exact .inr ⟨zz,rfl,x.1,x.2 _ H3 G3 t rfl⟩
  |_=>exact x.elim) y⟩) z⟩) q⟩
def zmq(hA:DE X c a A)(hB:DE X c b B)(hC:DE X c ce C)(hm:lastMarks [.LtE,.LtE] [b,ce]=false:=by with_unfolding_all rfl):DE X c (.Compare a [.LtE,.LtE] [b,ce] pos) (vf mz mz A B C):=
 ⟨zf2 (uh _) (uh _) hA.mono hB.mono hC.mono,dM (zqk zqM zqM hA.pe hB.pe hC.pe hm) λZ H Q h=>zhO (uh _) (uh _) hA.mono hB.mono hC.mono (Af _) (Af _) Z H Q h⟩
def zvH(hA:DE X c a A)(hB:DE X c b B)(hC:DE X c ce C)(hm:lastMarks [.LtE,.LtE] [b,ce]=false:=by with_unfolding_all rfl):DT X c (.Compare a [.LtE,.LtE] [b,ce] pos) (bG (vf mz mz A B C)):=
 ⟨zkT (zf2 (uh _) (uh _) hA.mono hB.mono hC.mono),BL (zpQ zqM zqM hA.pe hB.pe hC.pe hm) λZ H Q h=>by
  obtain⟨S,G,R,q⟩:=zo3 (zf2 (uh _) (uh _) hA.mono hB.mono hC.mono) Z H Q h;exact zhO (uh _) (uh _) hA.mono hB.mono hC.mono (Af _) (Af _) Z H _ ⟨S,G,R,q⟩⟩
def Cg(d:D)(Q:Str->Prop):Prop:=match d with|.str z=>Q z|_=>False
def znG(k:∀z,Q z->Q' z)(q:Cg d Q):Cg d Q':=by
 cases d<;>first|exact k _ q|exact q
abbrev FS:=Str->D->(D->Prop)->Prop
def znV(f:FS):Prop:=∀x y Q Q',(∀d,Q d->Q' d)->f x y Q->f x y Q'
abbrev v5(f:FS)(A B:WE):WE:=λS Q=>A S λx=>Cg x λz=>B S λy=>f z y Q
def SmD(c:Bk)(f:FS)(r:V->List V->Hp->VK->Prop):Prop:=∀(H G:Hp)(z:Str)(y:D)(v:V)(Q:VK),Same G H->d9 c.β H G->(∀a,H a=none->c.H0 a=none)->Rep c G y v->f z y (λd=>∀v H' G',aZ c.β H G H' G'->Rep c G' d v->Q v H')->r (.str z) [v] H Q
def K4{f:FS}{r:V->List V->Hp->VK->Prop}{name:Str}{id:String}(fm:znV f)(slot:Slot "str" name id)(hty:typeOf (.builtin id)=pure (.type "method_descriptor"))(hm:JH X id r)(hr:SmD c f r)(hA:DE X c o A)(hB:DE X c e B)
  (hbase:attributeBase o name X.env (eval o X.env)=eval o X.env:=by rfl)
  (hfew:((backTo cpos (starEach [e] X.env)).all (λx=>!x.1)&&(backToKw cpos (keywordEach [] X.env)).all (λx=>x.1.isSome)
   && decide ([e].length+([]:List Keyword).length+(if ([]:List Keyword).isEmpty then 0 else 1)<30))=true:=by rfl)
  (hline:(apos.endLine==cpos.line)=true:=by rfl) (hs:starEach [e] X.env=(false,eval e X.env)::starEach [] X.env:=by rfl) :
  DE X c (.Call (.Attribute o name apos) [e] [] cpos) (v5 f A B)where
 mono:=λS Q Q' k q=>hA.mono S _ _ (λx z=>znG (λt y=>hB.mono S _ _ (λy w=>fm _ _ _ _ k w) y) z) q
 pe:=dM (Jr PySem.F.plainAttrs_str slot hty hm hA.pe (iI hB.pe jW hs) hbase hfew hline hs rfl) λZ H Q ⟨S,G,R,q⟩=>⟨S,G,R,hA.mono S _ _ (λx z v H1 G1 t1 e1=>by
  cases x with
  |str z'=>
   cases e1;exact⟨rfl,S,G1,R.step t1,hB.mono S _ _ (λy w v H2 G2 t2 e2=>hr H2 G2 z' y v Q t2.gh t2.bx (λa z=>R.new0 (t1.free (t2.free z))) e2 (fm _ _ _ _ (λd u v' H3 G3 t3 e3=>u v' H3 G3 ((t1.trans t2).trans t3) e3) w)) z⟩
  |_=>exact z.elim) q⟩
def K3:FS:=λz y Q=>match y with|.str b=>(b.length≠0/\z.length<=100000)/\Q (.lst true ((Txt.split z b).map D.str))|_=>False
def m_sp:znV K3:=λx y Q Q' k q=>by cases y<;>first|exact⟨q.1,k _ q.2⟩|exact q
theorem gq:∀{ns:List Str}{vs:List V},aH c G (ns.map D.str) vs↔vs=ns.map V.str
 |[],_=>Iff.rfl
 |n::ns,vs=>by
  constructor
  .rintro⟨v,ws,h1,h2,h3⟩;rw[h1,gq.mp h3]
   have:v=V.str n:=h2
   rw[this];rfl
  .rintro rfl;exact⟨V.str n,ns.map V.str,rfl,rfl,gq.mpr rfl⟩
def zwn:SmD c K3 zrm:=λH G z y v Q gh bx h0 ry q=>by
 cases y with
 |str b=>cases ry;exact⟨z,b,rfl,rfl,q.1.1,q.1.2,λp hp=>q.2 (.ref p) _ _ (aZ.new gh bx hp) ⟨p,_,rfl,cJ,λ_=>h0 p hp,gq.mpr rfl⟩⟩
 |_=>exact q.elim
def wL:FS:=λz y Q=>match y with|.lst _ xs=>∃ts:List Str,xs=ts.map D.str/\(∀t∈ts,t.length<=2000)/\ts.length<=2000/\z.length<=1000/\Q (.str (Str.join z ts))|_=>False
def m_jo:znV wL:=λx y Q Q' k q=>by
 cases y with
 |lst n xs=>obtain⟨ts,h1,h2,h3,h4,q⟩:=q;exact⟨ts,h1,h2,h3,h4,k _ q⟩
 |_=>exact q.elim
def zwz:SmD c wL (zuD c.K):=λH G z y v Q gh bx h0 ry q=>by
 cases y with
 |lst n xs=>
  obtain⟨ts,rfl,h2,h3,h4,q⟩:=q;obtain⟨a,vs,rfl,ha,_,hv⟩:=ry;rw[gq.mp hv]at ha;exact⟨z,a,ts,rfl,rfl,cz.of (gh _ _ ha),h2,h3,h4,q _ H G (aZ.refl gh bx) rfl⟩
 |_=>exact q.elim
def lL:FL:=λds Q=>match ds with
 |[.str x]=>x.length<=640/\(match PySem.intText? x with|some n=>Q (.int n)|none=>False)
 |ds=>vm ds Q
def ztT:uw lL:=λds Q Q' k q=>by
 unfold lL at q ⊢;split at q
 .refine⟨q.1,?_⟩;have q:=q.2;split at q
  .exact k _ q
  .exact q.elim
 .exact zv7 _ _ _ k q
def zsn:vY c lL (λxs H Q=>((∃i,xs=[.int i]/\Q (.int i) H)\/∃k,xs=[.bl k]/\Q (.int (if k then 1 else 0)) H)\/∃x n,xs=[.str x]/\x.length<=640/\PySem.intText? x=some n/\Q (.int n) H):=by
 intro H G ds vs Q gh bx h0 rv q;unfold lL at q;split at q
 .obtain⟨v,rfl,rfl⟩:=uX rv;have q2:=q.2;split at q2
  .rename_i n e
   exact .inr ⟨_,n,rfl,q.1,e,q2 _ H G (aZ.refl gh bx) rfl⟩
  .exact q2.elim
 .exact .inl (zvq H G _ vs Q gh bx h0 rv q)
def uN(hR:DA X c [e] R)(hg:Gl X "int":=by rfl)(he:starEach [e] X.env=(false,eval e X.env)::starEach [] X.env:=by rfl)(hm:X.mg "int"=none:=by decreasing_trivial):DE X c (.Call (.Name "int" p) [e] [] pos) (cbW lL R):=
 zl3 ztT (um.or zky) zsn hm PyProof.Rows.boot_int hR hg (by decide) (by decide) he rfl
def zsa(hA:DE X c o A)(hB:DE X c e B)(hbase:attributeBase o "split" X.env (eval o X.env)=eval o X.env:=by rfl)
  (hfew:((backTo cpos (starEach [e] X.env)).all (λx=>!x.1)&&(backToKw cpos (keywordEach [] X.env)).all (λx=>x.1.isSome)
   && decide ([e].length+([]:List Keyword).length+(if ([]:List Keyword).isEmpty then 0 else 1)<30))=true:=by rfl)
  (hline:(apos.endLine==cpos.line)=true:=by rfl) (hs:starEach [e] X.env=(false,eval e X.env)::starEach [] X.env:=by rfl) :
  DE X c (.Call (.Attribute o "split" apos) [e] [] cpos) (v5 K3 A B):=K4 m_sp PySem.F.slot_str_split PySem.F.type_str_split zpP zwn hA hB hbase hfew hline hs
def zu8(hA:DE X c o A)(hB:DE X c e B)(hbase:attributeBase o "join" X.env (eval o X.env)=eval o X.env:=by rfl)
  (hfew:((backTo cpos (starEach [e] X.env)).all (λx=>!x.1)&&(backToKw cpos (keywordEach [] X.env)).all (λx=>x.1.isSome)
   && decide ([e].length+([]:List Keyword).length+(if ([]:List Keyword).isEmpty then 0 else 1)<30))=true:=by rfl)
  (hline:(apos.endLine==cpos.line)=true:=by rfl) (hs:starEach [e] X.env=(false,eval e X.env)::starEach [] X.env:=by rfl) (hK:c.K=X.K:=by rfl) :
  DE X c (.Call (.Attribute o "join" apos) [e] [] cpos) (v5 wL A B):=K4 m_jo PySem.F.slot_str_join PySem.F.type_str_join (hK▸zsv) zwz hA hB hbase hfew hline hs
def wM(z:Str):List D:=z.cps.toList.map λch=>D.str ⟨#[ch]⟩
def ztm(d:D)(Q:List D->Prop):Prop:=match d with|.str z=>Q (wM z)|d=>qR d Q
def zmD(k:∀xs,Q xs->Q' xs)(q:ztm d Q):ztm d Q':=by
 cases d<;>first|exact k _ q|exact q.elim
abbrev fM(A:WE):WL:=λS Q=>A S λd=>ztm d Q
def Ae(z:Str):rC c (Its z) (wM z) G:=by
 intro i H2 G2 s1 s2 bx h0;refine⟨λe=>?_,λd e=>?_⟩
 .show z.length<=i;subst e;unfold wM Str.length
  simp
 .unfold wM at e;rw[jV]at e;cases e1:z.cps.toList[i]? with
  |none=>rw[e1]at e;cases e
  |some ch=>
   rw[e1]at e;cases e;have lt:i<z.cps.size:=by simpa using(jC.mp e1).1
   refine⟨lt,λv H3 y=>?_⟩;obtain⟨rfl,c',h1,rfl⟩:=y;rw[<-YCo,e1]at h1;cases h1;exact⟨G2,aZ.refl s2 bx,rfl⟩
def iX(K:qo)(tl:TE):TI:=λZ H R=>tl Z H λx H1=>(∃z,x=.str z/\R (Its z) H1)\/∃a,x=.ref a/\(((∃xs,cz K H1 a xs)/\R (Itl K a) H1)\/((∃xs,fY K H1 a xs)/\R (Itt K a) H1))
def pi_X(hl:PE X l tl):PI X tg l (iX X.K tl):=by
 intro aa s Z H R I h;refine bH (hl aa s Z H _ I h) λv s1 ⟨x,H1,I1,r1,q1⟩=>?_;have fp:∀b∈[s1.heap.objs.size],iB X aa H1 b:=λb hb=>by
  have e:b=s1.heap.objs.size:=by simpa using hb
  subst e;exact I1.fpOk (dG _) (I1.hok.fresh (dG _))
 rcases q1 with⟨z,rfl,q⟩|⟨a,rfl,⟨⟨xs,hq⟩,q⟩|⟨⟨xs,hq⟩,q⟩⟩
 .obtain⟨t,rfl⟩:=r1;have fin:∀ty,(ty="str_ascii_iterator" \/ ty="str_iterator")->PIE X aa Z tg R (.ref s1.heap.objs.size) {s1 with heap:=s1.heap.push {cls:=.type ty,data:=.fields #[.str z t,.int 0 0]}}:=λty hty=>
   ⟨s1.heap.objs.size,[s1.heap.objs.size],_,_,H1,rfl,I1.kept (t':=s1.toks) λb o e=>dX _ e,zq3 z t ty hty _,⟨_,jD _ rfl,rfl,rfl⟩,fp,q⟩
  cases ha:z.cps.all (·<128)
  .exact wpAny_pyIter_wide ha (fin _ (.inr rfl))
  .exact wpAny_pyIter_ascii ha (fin _ (.inl rfl))
 .cases r1;obtain⟨its,rv,p,hz⟩:=I1.list hq;exact FT p.isList ⟨s1.heap.objs.size,[s1.heap.objs.size],_,_,H1,rfl,I1.kept (t':=s1.toks) λb o e=>dX _ e,zpt a _,⟨_,jD _ rfl,rfl,rfl⟩,fp,q⟩
 .cases r1;obtain⟨its,rv,p,hz⟩:=I1.tuple hq;exact wpAny_pyIter_tuple (show s1.heap.IsTuple a its.toArray from p) ⟨s1.heap.objs.size,[s1.heap.objs.size],_,_,H1,rfl,I1.kept (t':=s1.toks) λb o e=>dX _ e,zm3 a _,⟨_,jD _ rfl,rfl,rfl⟩,fp,q⟩
def j8(hA:DE X c e A)(hK:c.K=X.K:=by rfl):DI X c tg e (fM A)where
 mono:=λS Q Q' k q=>hA.mono S _ _ (λd z=>zmD k z) q
 pi:=zmc (pi_X hA.pe) λZ H R ⟨S,G,r,q⟩=>⟨S,G,r,hA.mono S _ _ (λd z v H' G' t e=>by
  cases d with
  |str x=>cases e;exact .inl ⟨x,rfl,z _ H' G' t (Ae x)⟩
  |lst n xs=>
   obtain⟨l,vs,rfl,hl,_,hv⟩:=e;exact .inr ⟨l,rfl,.inl ⟨⟨vs,cz.of (t.gh _ _ hl)⟩,z _ H' G' t (hK▸zs6 hl hv)⟩⟩
  |tup xs=>
   obtain⟨l,vs,rfl,hl,hv⟩:=e;exact .inr ⟨l,rfl,.inr ⟨⟨vs,hK▸rD t.gh hl⟩,z _ H' G' t (hK▸ztZ hl hv)⟩⟩
  |_=>exact z.elim) q⟩
structure rJ(P:Program)(w:PySem.World)(K:qo)(mg:Str->Option Value)(x:Str)(kvs:List (Str×D)):Prop where
 ex:∃(a:Addr)(vvs:List (Key×V)),mg x=some (.ref a)/\(∀h:Heap,K.In h->(a==sysModules)=false/\∃vs,KV vvs vs/\h.DictOf (lG P w) a vs) /\
  ∀z:Str,(eU vvs (.inr z)=none/\kvs.lookup z=none)\/∃v d,eU vvs (.inr z)=some v/\kvs.lookup z=some d/\∀(c:Bk)(G:Hp),c.K=K->Rep c G d v
def lkD(kvs:List (Str×D))(d:D)(Q:Option D->Prop):Prop:=match d with|.str z=>Q (kvs.lookup z)|_=>False
def zqB(k:∀z,Q z->Q' z)(q:lkD kvs d Q):lkD kvs d Q':=by
 cases d<;>first|exact k _ q|exact q
def zru{kvs:List (Str×D)}{zz:Str}{o:Option D}{Q:Option D->Prop}(q:lkD kvs (.str zz) Q)(e:kvs.lookup zz=o):Q o:=e▸q
def opD(o:Option D)(Q:D->Prop):Prop:=match o with|some d=>Q d|none=>False
def zpO{o:Option D}{Q Q':D->Prop}(k:∀z,Q z->Q' z)(q:opD o Q):opD o Q':=by
 cases o<;>first|exact k _ q|exact q
abbrev Cr(kvs:List (Str×D))(A:WE):WE:=λS Q=>A S λd=>lkD kvs d λo=>opD o Q
section
variable{x:Str}{ax:Addr}{vvs:List (Key×V)}{ty:TE}
def tIxG(vvs:List (Key×V))(ty:TE):TE:=λZ H Q=>ty Z H λy H1=>∃z v,y=.str z/\eU vvs (.inr z)=some v/\Q v H1
def zuT(hm:X.mg x=some (.ref ax))(hk:∀h:Heap,X.K.In h->(ax==sysModules)=false/\∃vs,KV vvs vs/\h.DictOf (lG X.prog X.w) ax vs)(hg:Gl X x)(hdb:(x==("__debug__":Str))=false)(hi:PE X b ty)(hs:tK b):PE X (.Subscript (.Name x p) b pos) (tIxG vvs ty):=by
 intro aa s Z H Q I h;refine zpf PySem.F.slot_dict_getitem.lookup hs (xX I hg hm (bH (hi aa s Z H _ I h) λiv s2 ⟨y,H2,I2,ry,z,v,ey,l,q2⟩=>?_) hdb);subst ey;obtain⟨hd,vs,rel,dd⟩:=hk s2.heap I2.kIn;obtain⟨w',hw,rw'⟩:=iu.some_of (v:=v) (o:=valueAt vs (.inr z)) (by rw[<-l];exact rel.val (.inr z));exact⟨dd.typeIs,wpAny_getItem_of (Cv (k:=.inr z) ry) dd.mapOf hw ⟨v,H2,I2.tok _,rw',q2⟩⟩
end
def zvM(g:rJ X.prog X.w X.K X.mg x kvs)(hB:DE X c b B)(hK:c.K=X.K:=by rfl)(hg:Gl X x:=by rfl)(hdb:(x==("__debug__":Str))=false:=by decide)(hs:tK b:=by intro _ _;rfl):DE X c (.Subscript (.Name x p) b pos) (Cr kvs B)where
 mono:=λS Q Q' k q=>hB.mono S _ _ (λd z=>zqB (λo y=>zpO k y) z) q
 pe:=by
  obtain⟨ax,vvs,hm,hk,hv⟩:=g.ex;exact dM (zuT hm hk hg hdb hB.pe hs) λZ H Q ⟨S,G,r,q⟩=>⟨S,G,r,hB.mono S _ _ (λd z v H' G' t e=>by
   cases d with
   |str zz=>
    cases e;rcases hv zz with⟨e1,e2⟩|⟨v,d,e1,e2,e3⟩
    .have z:=zru z e2;exact z.elim
    .have z:=zru z e2;exact⟨zz,v,rfl,e1,z v H' G' t (e3 c G' hK)⟩
   |_=>exact z.elim) q⟩
end
def Kp:Fn:=dU 3 ((aP (pJ (vf mz mz (kW (.int 1)) (cbW f9 (aq (vW 0) ao)) (vW 2)) (cbW m8 (aq (aM (fC [none,some 1] (fM (vW 0)) (.nm 0) dq (ak (dY false) (vW 0) (vW 1)))) ao)))))
def CP:Fn:=dU 1 ((aP (bA 3 Kp (aq (vW 0) (aq (kW (.str "abcdefghijklmnopqrstuvwxyz")) (aq (kW (.int 8)) ao))))))
noncomputable def ye:Nat->Fn
 |0=>λ_ _=>False
 |n+1=>dU 2 ((aC (cW (uJ (jq (jJ "list" (vW 1))) (jq (jJ "tuple" (vW 1)))) (aC (cW (uJ (bG (ak jT (jJ "list" (vW 0)) (jJ "list" (vW 1)))) (bG (ak jT (jJ "tuple" (vW 0)) (jJ "tuple" (vW 1))))) (aP (kW (.bl false))) bL)
  (aP (pJ (ak cM (cbW f9 (aq (vW 0) ao)) (cbW f9 (aq (vW 1) ao))) (cbW m8 (aq (aM (fC [none,none] (zuB (vW 0) (vW 1)) (.tp 2 (.cons (.nm 0) (.cons (.nm 1) .nil))) dq (bA 2 (ye n) (aq (vW 0) (aq (vW 1) ao))))) ao))))) bL)
  (aC (cW (uJ (bG (kh (vW 0))) (bG (kh (vW 1)))) (aP (pJ (kh (vW 0)) (kh (vW 1)))) bL)
  (aC (cW (uJ (bG (ak jT (jJ "bool" (vW 0)) (jJ "bool" (vW 1)))) (bG (ak jT (jJ "int" (vW 0)) (jJ "int" (vW 1))))) (aP (kW (.bl false))) bL)
  (aP (pJ (ak cM (jJ "str" (vW 0)) (jJ "str" (vW 1))) (ak cM (vW 0) (vW 1))))))))
noncomputable def FN:Fn:=dU 10 ((aC (aQ (.nm 2) (kW (.str "abcdefghijklmnopqrstuvwxyz")))
  (aC (aQ (.nm 3) (ak bh (kW (.int 1)) (bA 2 dW (aq (vW 0) (aq (kW (.int 8)) ao)))))
  (aC (aQ (.nm 4) (bA 2 dW (aq (vW 0) (aq (vW 3) ao))))
  (aC (aQ (.nm 5) (ak cM (bA 2 dW (aq (vW 0) (aq (kW (.int 2)) ao))) (kW (.int 0))))
  (aC (aQ (.nm 6) (aM (fC [none,some 0] (uY (vW 3)) (.nm 0) dq (bA 2 dW (aq (vW 1) (aq (kW (.int 26)) ao))))))
  (aC (gV 7 (aX ao))
  (aC (pO (uY (vW 1)) (.nm 8) (aC (gV 9 (yr (vW 6)))
  (aC (cW (lM (jq (vW 5))) (gV 9 (fC [none,some 0] (uY (ak bh (ak bh (vW 4) (kW (.int 1))) (bA 2 dW (aq (vW 0) (aq (ak j4 (vW 3) (vW 4)) ao))))) (.nm 0) dq (bA 2 dW (aq (vW 1) (aq (kW (.int 26)) ao))))) bL)
  (aC (sJ 9 (vW 4) (ak lu (ak bh (ak aF (vW 6) (vW 4)) (ak jn (kW (.int 11)) (vW 8))) (kW (.int 26))))
  (j7 9 (je 7 (v5 wL (kW (.str "")) (aM (fC [none,some 2] (fM (vW 9)) (.nm 0) dq (ak aF (vW 1) (vW 0)))))))))))
  (j7 7 (aP (vW 7)))))))))))
def dEn(P:Params)(p:Str×Tok×Value):DictEntry:=⟨PyData.keyHash P p.1,.str p.1 p.2.1,p.2.2⟩
theorem zlC :∀ps:List (Str×Tok×Value),Pairs (lG P w) (ps.map (dEn w.params)) (ps.map λp=>((Sum.inr p.1:Key),p.2.2))
 |[]=>.nil
 |p::ps=>.cons (zgU p.1 p.2.1) rfl (zlC ps)
def zr8{P:Program}{w:PySem.World}{K:qo}{a:Addr}{n:Nat}{ps:List (Str×Tok×Value)}(hl:K.lookup a=some ⟨.type "dict",none,.dict (ps.map (dEn w.params)).toArray n,#[]⟩)(hn:(ps.map λp=>(Sum.inr p.1:Key)).Nodup)(h:Heap)(hk:K.In h) :
  h.DictOf (lG P w) a (ps.map λp=>((Sum.inr p.1:Key),p.2.2)):=by
 refine⟨_,_,_,hk a _ hl,⟨rfl,rfl,rfl⟩,rfl,λe he=>?_,by simpa using zlC ps,by rw[YAR];exact hn⟩;have he:e∈ps.map (dEn w.params):=by simpa using he
 obtain⟨p,hp,rfl⟩:=YAD.mp he;exact⟨.inr p.1,zgU p.1 p.2.1,rfl⟩
structure Iz(K:qo)(p:Str×Tok×Value)(q:Str×D):Prop where
 key:p.1=q.1
 val:∃v:V,RelV v p.2.2/\∀(c:Bk)(G:Hp),c.K=K->Rep c G q.2 v
inductive lA(K:qo):List (Str×Tok×Value)->List (Str×D)->Prop
 |nil:lA K [] []
 |cons {p:Str×Tok×Value} {q:Str×D} {ps:List (Str×Tok×Value)} {qs:List (Str×D)} (h:Iz K p q) (r:lA K ps qs):lA K (p::ps) (q::qs)
theorem zmj:∀{ps:List (Str×Tok×Value)}{kvs:List (Str×D)},lA K ps kvs->∃vvs:List (Key×V),KV vvs (ps.map λp=>((Sum.inr p.1:Key),p.2.2)) /\
  ∀z:Str,(eU vvs (.inr z)=none/\kvs.lookup z=none)\/∃v d,eU vvs (.inr z)=some v/\kvs.lookup z=some d/\∀(c:Bk)(G:Hp),c.K=K->Rep c G d v
 |_,_,.nil=>⟨[],.nil,λz=>.inl ⟨rfl,rfl⟩⟩
 |_,_,@lA.cons _ p q ps kvs h r=>by
  obtain⟨vvs,h1,h2⟩:=zmj r;obtain⟨v,rv,hv⟩:=h.val;refine⟨(Sum.inr p.1,v)::vvs,.cons ⟨rfl,rv⟩ h1,λz=>?_⟩;by_cases e:z=p.1
  .subst e;refine .inr ⟨v,q.2,Gs rfl,?_,hv⟩;rw[show q=(q.1,q.2)from rfl,<-h.key,List.lookup_cons_self]
  .have n1:¬ (Sum.inr p.1:Key)=Sum.inr z:=λk=>e (Sum.inr.inj k).symm;have n2:kvs.lookup z=(q::kvs).lookup z:=by
    rw[show q=(q.1,q.2)from rfl,<-h.key,YAS,show(z==p.1)=false from by simp[e]]
   rw[Gw n1,<-n2];exact h2 z
def zwu{P:Program}{w:PySem.World}{K:qo}{mg:Str->Option Value}{h:Heap}(X:K.In h)(G:h.Ns mainGlobals mg){x:Str}{a:Addr}{n:Nat}{ps:List (Str×Tok×Value)}{kvs:List (Str×D)}(hn:PySem.W.nsIn K mainGlobals x=some (some (.ref a)))
  (hl:K.lookup a=some ⟨.type "dict",none,.dict (ps.map (dEn w.params)).toArray n,#[]⟩) (hr:lA K ps kvs) (ha:(a==sysModules)=false) (hd:(ps.map λp=>(Sum.inr p.1:Key)).Nodup):rJ P w K mg x kvs:=by
 obtain⟨vvs,h1,h2⟩:=zmj hr;exact⟨a,vvs,YAY X G hn,λh hk=>⟨ha,_,h1,zr8 hl hd h hk⟩,h2⟩
end Fd
namespace L2
open PySem PySem.Spec PySem.Calls PyProof.Rows PySem.W Builtin Builtin.ObjectAttr Builtin.Getset_descriptor
section
variable{prog:Program}{w:World}{A:Around}{E:Value->Shared->Prop}{s:Shared}{K:qo}{x D:Addr}{ox:Obj}
structure rF(K:qo)(D:Addr):Prop where
 cls:(clsIn K D).isSome=true
 ga:findIn K (.ref D) "__getattribute__"=some (some (.builtin "BaseException.__getattribute__"))
 noga:findIn K (.ref D) "__getattr__"=some none
 fc:findIn K (.ref D) "__class__"=some (some (.builtin "object.__class__"))
 sp:specialIn K (.builtin "object.__class__") "__get__"=some (some (.builtin "getset_descriptor.__get__"))
 tk:takesIn K (.builtin "object.__class__")=some true
 ob:mroIn K D (.type "object")=some true
 be:subIn K (.ref D) (.type "BaseException")=some true
def pF(h:Heap)(x:Addr)(D:Addr):Prop:=∃o,h.get? x=some o/\o.cls=.ref D
def pF.type(I:pF h x D):Looks M h (typeOf (.ref x)) (.ref D):=by
 obtain⟨o,h1,h2⟩:=I;exact h2▸(Looks.ld h1).andThen .now
theorem rF.find(k:rF K D)(X:K.In h):Looks M h (Builtin.ObjectAttr.find (.ref x) (.ref D) "__class__") (.bind (.builtin "getset_descriptor.__get__") (.builtin "object.__class__")):=by
 refine(looks_findIn (M:=M) X k.fc).andThen ((looks_specialIn (M:=M) X k.sp).andThen ?_);exact(show Looks M h (Builtin.ObjectAttr.dataDescriptor? (some (.builtin "object.__class__")) (some (.builtin "getset_descriptor.__get__"))) (some (.builtin "getset_descriptor.__get__",.builtin "object.__class__"))from(looks_takesIn (M:=M) X k.tk).andThen .now).andThen (Looks.tag .now)
def zsM(k:rF K D)(X:K.In s.heap)(I:pF s.heap x D)
  (h:R (.ok (.ret (.ref D))) s):codeAny (model prog w) A (.call (.builtin "getset_descriptor.__get__") ⟨[.builtin "object.__class__",.ref x,tp],[]⟩) R s:=by
 obtain⟨hh,g,dr,t,os⟩:=s;have L0:=I.type (M:=model prog w);have L1:=looks_mroIn (M:=model prog w) X k.ob;refine codeAny_call_builtin KF.slot_gs.plain KF.entry_gs (KF.slot_gs.check _ _ _ _ _ _ _ _ KF.type_class (KF.args_gs _ _ _) ?_);unfold Builtin.«getset_descriptor.__get__» descrGet;rw[dga_obj];refine aL (bV ?_);unfold descrGetter descrCheckInstance descrNameAndClass isInstance;simp only[KF.owner_class]
 repeat lk
 refine⟨Code.quiet_builtin _ (by decide +kernel),codeAny_builtin KF.entry_class ?_⟩;unfold Builtin.«object.__class__» shownTypeOf
 repeat lk
 exact h
def zo8{tk:Tok}{P:Value->Shared->Prop}(k:rF K D)(X:K.In s.heap)(I:pF s.heap x D)(h:P (.ref D) s) :
  wpAny (model prog w) A (Builtin.«object.__getattribute__» ⟨[.ref x,.str "__class__" tk],[]⟩) (λfin s'=>match fin with|.done (.ret v)=>P v s'|_=>False) E s:=by
 obtain⟨hh,g,d,t,os⟩:=s;have L0:=I.type (M:=model prog w);have L1:=k.find (x:=x) (M:=model prog w) X;refine aL (bV ?_);refine aL (bV ?_);refine aL (L0.at ?_);refine aL (L1.at ?_);show wpAny _ _ (holding [Value.builtin "object.__class__"] (call (Value.builtin "getset_descriptor.__get__") [Value.builtin "object.__class__",.ref x,.ref D]) >>= ret) _ _ _;refine aL (qx (Dr (zsM k X I ?_)));exact bV h
def zot(k:rF K D)(X:K.In s.heap)(I:pF s.heap x D)(hq:Q () s):wpAny M A (checkBuiltinCall "BaseException.__getattribute__" ⟨[.ref x,nv],[]⟩) Q E s:=by
 obtain⟨hh,g,d,t,os⟩:=s;have LI:Looks M hh (isInstance (.ref x) (.type "BaseException")) true:=(I.type (M:=M)).andThen (looks_subIn (M:=M) X k.be);have hk:builtinKind "BaseException.__getattribute__"=some .slot:=by decide +kernel
 have hsplit:splitId "BaseException.__getattribute__"=some ("BaseException","__getattribute__"):=by decide +kernel
 have ha:=F.args_bexc_ga (.ref x) nv;simp only[checkBuiltinCall,hk,hsplit];refine aL (LI.at ?_)
 repeat (first|exact hq|wp_step)
def znu{Q:Option Value->Shared->Prop}(k:rF K D)(X:K.In s.heap)(I:pF s.heap x D)(h:Q (some (.ref D)) {s with toks:=s.toks+1}):wpAny (model prog w) A (getAttr? (.ref x) "__class__") Q E s:=by
 obtain⟨hh,g,d,t,os⟩:=s;have L0:=I.type (M:=model prog w);have L1:=looks_findIn (M:=model prog w) X k.ga;have L2:=looks_findIn (M:=model prog w) X k.noga;unfold getAttr? getAttrBy? getAttrBy;refine aL (wpAny_mkText (aL (zA (qx (aL (L0.at (aL (L1.at ?_))))))));show wpAny _ _ (getAttrByItsOwn _ _ _ _ _ _) _ _ _;unfold getAttrByItsOwn hookBefore callGetattribute;refine aL (L2.at ?_);refine aL (zA (qx ?_));show wpAny _ _ (boundAndCalled _ _ _) _ _ _;unfold boundAndCalled;rw[F.excAttr_ValueError.ga.bind];refine aL (bV ?_);refine Dr (codeAny_call_builtin F.excAttr_ValueError.ga.plain F.entry_bexc_ga ?_);refine zot k X I ?_;refine lD (zo8 (E:=λ_ _=>False) (P:=λv s'=>v=.ref D/\s'=⟨hh,g,d,t+1,os⟩) k X I ⟨rfl,rfl⟩) (λfin s' z=>?_) λ_ _ z=>z.elim;rcases fin with(_|_|_|v)|_
 .exact z.elim
 .exact z.elim
 .exact z.elim
 .obtain⟨rfl,rfl⟩:=z;exact handed_on rfl (bV h)
 .exact z.elim
def rF.it(k:rF K D)(X:K.In h):Looks M h (isType (.ref D)) true:=by
 obtain⟨cdD,hcD⟩:=YBK.mp k.cls;unfold clsIn at hcD;split at hcD
 .rename_i c' d' cd' sl' ho
  intro A' Q' E' s' k q;unfold isType loadHead;exact aL (wpAny_loadPart (k _ _ (X _ _ ho)) (bV q))
 .cases hcD
def zq4(k:rF K D):KitX K (.ref x) (.ref D) (λh=>pF h x D)where
 ty:=λ_ _ _ I=>I.type
 it:=λ_ _ X _=>k.it X
 ne:=λh tp dd its n sl X htp=>by
  obtain⟨cdD,hcD⟩:=YBK.mp k.cls;refine Bool.eq_false_iff.mpr λq=>?_;have e:D=tp:=Value.ref.inj (yV.mp q);subst e;unfold clsIn at hcD;split at hcD
  .rename_i c' d' cd' sl' ho
   have z:=(X _ _ ho).symm.trans htp;cases z
  .cases hcD
 ca:=λX I q=>znu k X I q
def zrZ(k:rF K D)(X:K.In s.heap)(I:pF s.heap x D)(e:kitOne K (.ref D) c=some b)(h:∀tk,Q (.bool b) {s with toks:=tk}) :
  wpAny (model prog w) A (call (.builtin "isinstance") [.ref x,c]) Q E s:=
 kia_one (zq4 k) X I e (by intro z;cases z) h
end
end L2
namespace L2
open PySem PySem.Spec PyProof.Rows PySem.W
def TrC(h base:Heap)(e:Addr)(cls fl:Value):Prop:=∃oe vs T oT ts,h.get? e=some oe/\oe.cls=cls/\oe.data=.fields vs/\vs[1]?=some (.ref T)/\vs[2]?=some .none/\base.get? T=none/\T≠e/\h.get? T=some oT/\oT.data=.fields ts/\ts[3]?=some fl
def jb(base:Heap)(l:List Env)(e:Addr)(cls fl:Value)(h:Heap):Prop:=base.StaysIn h/\base.get? e=none/\h.FunFrames base l/\TrC h base e cls fl
abbrev qL(base:Heap)(l:List Env)(e:Addr)(cls:Value)(h:Heap):Prop:=jb base l e cls .none h
def jb.first(x:jb base l e cls fl h):∃oe vs,h.get? e=some oe/\oe.cls=cls/\oe.data=.fields vs/\vs[2]?=some .none:=
 let⟨_,_,_,oe,vs,_,_,_,he,hc,hd,_,h2,_⟩:=x;⟨oe,vs,he,hc,hd,h2⟩
section
variable{M:Model}{A:Around}{E:Value->Shared->Prop}{s:Shared}{base:Heap}{env:Env}{l outer:List Env}{e L:Addr}{cls fl:Value}{Q:Unit->Shared->Prop}
def zrv(hfr:A.frames=some (env::outer))(hl:s.heap.FunFrames base (env::outer))(hf:env.frame=some L)(he:s.heap.get? e=some oe)(hkb:base.StaysIn s.heap)(hen:base.get? e=none)(hd:oe.data=.fields vs)(hsz:1<vs.size)(h2:vs[2]?=some .none)
  (h:∀h',jb base (env::outer) e oe.cls (rawInt L) h'->s.heap.UpToSlots h'->Q () {s with heap:=h'}):wpAny M A (do let a <-frameOf env;let pl <-entryPlaceOf L had;let b <-EntryCells.newEntry head a .none (rawInt L) .none pl;setField (.ref e) 1 b) Q E s:=by
 have nfr:e∉(env::outer).filterMap (·.frame):=λhm=>by
  obtain⟨_,o,ho,hnf⟩:=hl.mem hm;rw[he]at ho;cases ho;exact hnf vs hd
 refine aL (wpAny_frameOf_fun hfr hl hf λh1 s1=>aL (wpAny_entryPlaceOf λpl hpl=>?_));unfold EntryCells.newEntry newFields;refine aL (YAI ?_ (hpl.sizeOk5 _ _ _ _ _));have e1:h1.get? e=some oe:=(s1.2.1 e nfr).trans he;have b1:base.StaysIn h1:=λb o q=>(s1.2.1 b λhm=>by rw[(hl.mem hm).1]at q;cases q).trans (hkb b o q);have hT:h1.objs.size≠e:=wy (dB e1);generalize hob:({cls:=.type "traceback",dict:=none,data:=.fields ([head,.ref L,.none,rawInt L,.none]++(if pl.isEmpty then List.replicate 6 Value.none else pl)).toArray}:Obj)=ob;have e2:=dX (h:=h1) ob e1;refine zO e2 hd hsz ?_;have d3:=Fj hd (·.setIfInBounds 1 (Value.ref h1.objs.size));have keep:∀b o,b≠e->h1.get? b=some o->((h1.push ob).update e (Obj.mapFields (·.setIfInBounds 1 (Value.ref h1.objs.size)))).get? b=some o:=λb o n q=>by
  rw[YAL _ _ (YAM n)];exact dX _ q
 have rec':∀b o,s.heap.get? b=some o->(∀vs,o.data≠.fields vs)->b≠e:=λb o q n z=>by
  rw[z,he]at q;cases q;exact n vs hd
 have slots:s.heap.UpToSlots ((h1.push ob).update e (Obj.mapFields (·.setIfInBounds 1 (Value.ref h1.objs.size)))):=λb o q n=>by
  obtain⟨sl,z⟩:=s1.2.2 b o q;exact⟨sl,keep b _ (rec' b o q n) z⟩
 refine h _ ⟨λb o q=>keep b o (λz=>by rw[z,hen]at q;cases q) (b1 b o q),hen,hl.of_keeps λb o q n=>?_,?_⟩ slots
 .obtain⟨sl,z⟩:=slots b o q n;exact⟨_,z,rfl⟩
 .refine⟨_,_,h1.objs.size,ob,_,YAU _ e2 (YBU d3),YCj _ _,d3,by simp[hsz],by rw[Array.getElem?_setIfInBounds_ne (by decide)];exact h2,b1.fresh,hT,?_,by rw[<-hob],?_⟩
  .rw[YAL _ _ (YAM hT)];exact jD h1 (by rw[<-hob];rfl)
  .rcases hpl with rfl|⟨_,_,_,_,_,_,_,rfl⟩<;>simp
def zqn(hfr:A.frames=some (env::outer))(hl:s.heap.FunFrames base (env::outer))(hf:env.frame=some L)(he:s.heap.get? e=some oe)(hkb:base.StaysIn s.heap)(hen:base.get? e=none)(hd:oe.data=.fields vs)(h1:vs[1]?=some .none)(h2:vs[2]?=some .none)
  (h:∀h',jb base (env::outer) e oe.cls (rawInt L) h'->s.heap.UpToSlots h'->Q () {s with heap:=h'}):wpAny M A (noteFrame (.ref e) env) Q E s:=by
 unfold noteFrame;simp only[hf];refine aL (YAF he hd h1 ?_);rw[if_neg (by decide)];exact zrv hfr hl hf he hkb hen hd (YBC.mp h1).1 h2 h
def zpa(hfr:A.frames=some (env::outer))(hf:env.frame=some L)(x:qL base (env::outer) e cls s.heap)(h:∀h',jb base (env::outer) e cls (rawInt L) h'->s.heap.UpToSlots h'->Q () {s with heap:=h'}):wpAny M A (noteFrame (.ref e) env) Q E s:=by
 obtain⟨kb,en,fl,oe,vs,T,oT,ts,he,hc,hd,v1,v2,nT,Te,hT,dT,t3⟩:=x;subst hc;unfold noteFrame;simp only[hf];refine aL (YAF he hd v1 ?_);rw[if_pos (show(Value.ref T != Value.none)=true from by simp)];refine aL (YAF hT dT t3 ?_);rw[if_neg (show ¬ ((Value.none==rawInt L)=true)from by simp[rawInt])];refine aL (zO hT dT (YBC.mp t3).1 ?_);have oth:∀b,b≠T->(s.heap.update T (Obj.mapFields (·.setIfInBounds 3 Value.none))).get? b=s.heap.get? b:=λb n=>YAL _ _ (YAM n);have rec':∀b o,s.heap.get? b=some o->(∀vs,o.data≠.fields vs)->b≠T:=λb o q n z=>by
  rw[z,hT]at q;cases q;exact n ts dT
 refine zrv hfr (fl.of_keeps λb o q n=>⟨o,(oth b (rec' b o q n)).trans q,rfl⟩) hf ((oth e (YAM Te)).trans he) (λb o q=>(oth b λz=>by rw[z,nT]at q;cases q).trans (kb b o q)) en hd (YBC.mp v1).1 v2 λh' z u=>h h' z λb o q n=>u b o ((oth b (rec' b o q n)).trans q) n
def zi7(x:jb base l e cls fl s.heap)(h:∀h',qL base l e cls h'->s.heap.UpToSlots h'->Q () {s with heap:=h'}):wpAny M A (setFlight (.ref e) none) Q E s:=by
 obtain⟨kb,en,ff,oe,vs,T,oT,ts,he,hc,hd,v1,v2,nT,Te,hT,dT,t3⟩:=x;have oth:∀b,b≠T->(s.heap.update T (Obj.mapFields (·.setIfInBounds 3 ((none:Option Addr).elim Value.none λf=>rawInt f)))).get? b=s.heap.get? b:=λb n=>YAL _ _ (YAM n);have rec':∀b o,s.heap.get? b=some o->(∀vs,o.data≠.fields vs)->b≠T:=λb o q n z=>by
  rw[z,hT]at q;cases q;exact n ts dT
 have z3:=(YBC.mp t3).1;unfold setFlight;refine aL (YAF he hd v1 ?_);rw[if_pos (show(Value.ref T != Value.none)=true from by simp)];have dT':=Fj dT (·.setIfInBounds 3 ((none:Option Addr).elim Value.none λf=>rawInt f));refine zO hT dT z3 (h _ ⟨λb o q=>(oth b λz=>by rw[z,nT]at q;cases q).trans (kb b o q),en,ff.of_keeps λb o q n=>⟨o,(oth b (rec' b o q n)).trans q,rfl⟩,oe,vs,T,_,_,(oth e (YAM Te)).trans he,hc,hd,v1,v2,nT,Te,YAU _ hT (YBU dT'),dT',by simp[z3]⟩ λb o q n=>⟨o.slots,(oth b (rec' b o q n)).trans q⟩)
def jb.out(x:jb base (env::outer) e cls fl h):jb base outer e cls fl h:=⟨x.1,x.2.1,x.2.2.1.2.2,x.2.2.2⟩
def zpK(hfr:A.frames=some (env::outer))(hf:env.frame=some L)(x:qL base (env::outer) e cls s.heap)(h:∀h',qL base outer e cls h'->s.heap.UpToSlots h'->Q () {s with heap:=h'}):wpAny M A (leaving env (.ref e)) Q E s:=by
 unfold leaving;exact aL (zpa hfr hf x λh1 y u=>zi7 y λh2 z v=>h h2 z.out (u.trans v))
def zoA(hfr:A.frames=some (env::outer))(hf:env.frame=some L)(hkb:base.StaysIn h0)(hl:h0.FunFrames base (env::outer))(hx:Heap.MadeExcOf h0 s.heap e cls args)(h:∀h',qL base outer e cls h'->s.heap.UpToSlots h'->Q () {s with heap:=h'}):wpAny M A (leaving env (.ref e)) Q E s:=by
 obtain⟨t,he,_,_⟩:=hx.there;have en:base.get? e=none:=by
  cases q:base.get? e with
  |none=>rfl
  |some o=>have:=hkb e o q;rw[hx.new]at this;cases this
 unfold leaving;exact aL (zqn hfr (hl.of_keeps λb o q _=>⟨o,hx.keeps b o q,rfl⟩) hf he (λb o q=>hx.keeps b o (hkb b o q)) en rfl rfl rfl λh1 y u=>zi7 y λh2 z v=>h h2 z.out (u.trans v))
end
section
variable{X:Cx}{aa:List (Addr×Obj)}{Z:St}{H:Hp}{s:Shared}
def zr7(I:Inv X aa Z H s)(hN:X.N.Nodup)(hi:X.N[i]?=some x)(hk:X.env.scope.names.lookup x=some .local)(h:∀s',Inv X aa (Z.set i none) H s'->Q () s') :
  wpAny M A (do bindName X.env x .none;unbindBehindTheSuite X.env x pos) Q E s:=by
 obtain⟨m,hn,hl⟩:=id I.loc;have hcls:(X.env.scope.kind==.class || (X.env.scope.kind==.module&&X.env.locals != X.env.globals))=false:=by rw[I.ok.kind];rfl
 have hiσ:i<Z.length:=by rw[I.len];exact(jC.mp hi).1
 refine wpAny_nameGoes_keeps hk hn hcls λh' v hn' hs=>?_;obtain⟨oL,_,_,hoL,_⟩:=id hn;have neL:∀{b o},X.s₀.heap.get? b=some o->b≠X.env.locals:=λe=>fX (jA (dB e) I.ok.above);refine h _ ⟨I.ok,I.os,I.bare,⟨λb o e n hb hx=>(hs.2 b (neL e)).trans (I.base.keep b o e n hb hx),λb o e n hb hx=>?_,I.base.free,λb o e hx=>?_,I.base.tups,I.base.frzs,I.base.tbls⟩,⟨_,hn',λj y v' e1 e2 e3=>?_⟩,λy c e=>?_,I.free,I.freeC,λp hp=>?_,λb ob e=>(I.hok b ob e).stay (λc w' hc q=>(hs.2 c ?_).trans q) (λ_ q=>q) λ_ _ q=>q,by simpa using I.len⟩
 .obtain⟨sl,e1⟩:=I.base.slot b o e n hb hx;exact⟨sl,(hs.2 b (neL e)).trans e1⟩
 .obtain⟨o',e1⟩:=I.base.there b o e hx;exact⟨o',(hs.2 b (neL e)).trans e1⟩
 .by_cases hj:j=i
  .subst hj;rw[jL hiσ]at e2;cases e2
  .rw[jG (YAM hj)]at e2;obtain⟨u',r',q⟩:=hl j y v' e1 e2 e3;refine⟨u',r',?_⟩;rcases q with⟨k,e⟩|⟨k,c,e,z⟩
   .refine .inl ⟨k,?_⟩
    have:y≠x:=λe=>hj (ziO hN e1 (e▸hi))
    simp[this,e]
   .exact .inr ⟨k,c,e,z.sameBut hs (I.cne y c e)⟩
 .obtain⟨w',z⟩:=I.cell y c e;exact⟨w',z.sameBut hs (I.cne y c e)⟩
 .obtain⟨e,n,ne,nf,d⟩:=I.pin p hp;exact⟨(hs.2 p.1 ne).trans e,n,ne,nf,d⟩
 .rintro rfl;rcases hc with z|z
  .rw[<-z,I.free]at e;cases e
  .rw[I.free]at z;cases z
end
def cu.ex(x:cu P w H h a o):∃u,h.get? a=some u:=by
 cases o with
 |lst xs=>obtain⟨_,_,_,_,e⟩:=x;exact⟨_,e⟩
 |tup xs=>obtain⟨_,_,_,_,e,_⟩:=x;exact⟨_,e⟩
 |dK kvs=>obtain⟨_,_,_,_,o,_,_,e,_⟩:=x;exact⟨_,e⟩
 |dT kvs=>obtain⟨_,_,_,_,o,_,_,e,_⟩:=x;exact⟨_,e⟩
 |set qh n=>obtain⟨o,_,_,_,e,_⟩:=x;exact⟨_,e⟩
 |ins C dx fs=>obtain⟨_,_,_,e,_⟩:=x;exact⟨_,e⟩
 |own y=>obtain⟨_,e⟩:=x;exact⟨_,e⟩
 |xd fs=>obtain⟨_,⟨_,_,_,e,_⟩,_⟩:=x;exact⟨_,e⟩
 |rng lo hi=>obtain⟨_,_,_,e⟩:=x;exact⟨_,e⟩
 |jl ob u=>obtain⟨e,_⟩:=x;exact⟨_,e⟩
 |tbl ps=>exact⟨_,show h.get? a=some _ from x⟩
 |met f y=>exact⟨_,show h.get? a=some _ from x⟩
 |ext φ=>obtain⟨_,⟨_,e⟩,_⟩:=x;exact⟨_,e⟩
structure ExN(P:Program)(w:World)(outer:List Env)(H:Hp)(s:Shared)(ea C:Addr)(H':Hp)(s':Shared):Prop where
 os:s'.os=s.os
 bare:AllBare s'.gens
 un:Un (frs outer) [] H H' s.heap s'.heap
 hok:iW P w H' s'.heap
 fly:∃B,qL B outer ea (.ref C) s'.heap/\∀b o,s'.heap.get? b=some o->((∃u,H' b=some u)\/∃u,s.heap.get? b=some u)->b∉frs outer->B.get? b=some o
def dw(P:Program)(w:World):mO:=λouter H s E e s'=>∃ea C H',e=.ref ea/\ExN P w outer H s ea C H' s'/\E (.ref C) none H'
section
variable{P:Program}{w:World}{K:qo}{mg:Str->Option Value}{base:Heap}{N:List Str}{qual:Str}{scope:Scope}{f:Addr}{cd:Value}{A:Around}{outer:List Env}{s0 s:Shared}{H0 H:Hp}{E:XK}{aa:List (Addr×Obj)}{Z:St}{e C:Addr}{args:List Value}{h':Heap}
def qZ(I:Inv (dj (dw P w) P w K mg base N qual scope f cd A outer s0 H0 E) aa Z H s)(hx:Heap.MadeExcOf s.heap h' e (.ref C) args)(hE:E (.ref C) none H):(dj (dw P w) P w K mg base N qual scope f cd A outer s0 H0 E).xe (.ref e) {s with heap:=h'}:=by
 have fr:=I.stack;have nex:∀{b:Addr},b∉([]:List Addr):=λz=>nomatch z;have neL:∀{b o},s0.heap.get? b=some o->b≠s0.heap.objs.size:=λe=>fX (dB e);have hin:∀env∈(dj (dw P w) P w K mg base N qual scope f cd A outer s0 H0 E).stack,∀b,env.frame=some b->b∈frs (dj (dw P w) P w K mg base N qual scope f cd A outer s0 H0 E).stack:=λenv he b hb=>CG.mpr ⟨env,he,hb⟩;refine zoA (h0:=s.heap) (base:=hideAll s.heap (frs (dj (dw P w) P w K mg base N qual scope f cd A outer s0 H0 E).stack)) I.ok.frames rfl (λb o q=>of_hideAll _ q) (funFrames_hide fr hin) hx λh2 x1 x4=>?_;have sub:∀{b},b∉frs outer->b≠s0.heap.objs.size->b∉frs (dj (dw P w) P w K mg base N qual scope f cd A outer s0 H0 E).stack:=λh1 h2 h3=>(iU.mp (I.stkSub _ h3)).elim h2 h1;have keepB:∀{b o},s.heap.get? b=some o->b∉frs (dj (dw P w) P w K mg base N qual scope f cd A outer s0 H0 E).stack->h2.get? b=some o:=λq n=>x1.1 _ _ (hideAll_get _ q n);have vH:∀{b u},H b=some u->b∉frs (dj (dw P w) P w K mg base N qual scope f cd A outer s0 H0 E).stack:=λq z=>by rw[I.stkFree _ z]at q;cases q
 have slt:∀{b o},s.heap.get? b=some o->b∈frs outer->∃sl,h2.get? b=some {o with slots:=sl}:=λ{b o} q z=>by
  obtain⟨_,o',ho,hd⟩:=I.funs.mem z;rw[q]at ho;cases ho;exact x4 b o (hx.keeps b o q) hd
 refine⟨e,C,H,rfl,⟨I.os,I.bare,⟨λb o q n nf _=>keepB (I.base.keep b o q n nf nex) (sub nf (neL q)),λb o q n nf _=>?_,λb o q n _=>I.base.free b o q n nex,λb o q _=>?_,I.base.tups,I.base.frzs,I.base.tbls⟩,λa o q=>(I.hok a o q).stay (λb u hb q2=>keepB q2 ?_) (λ_ z=>z) λ_ _ z=>z,_,x1,λb o q hb nf=>?_⟩,hE⟩
 .obtain⟨sl,e1⟩:=I.base.slot b o q n nf nex;obtain⟨sl',e2⟩:=slt e1 nf;exact⟨sl',e2⟩
 .obtain⟨o',e1⟩:=I.base.there b o q nex;by_cases z:b∈frs outer
  .obtain⟨sl',e2⟩:=slt e1 z;exact⟨_,e2⟩
  .exact⟨_,keepB e1 (sub z (neL q))⟩
 .rcases hb with rfl|hb
  .exact vH q
  .exact vH hb
 .rcases hb with⟨u,hu⟩|⟨u,hu⟩
  .obtain⟨v,hv⟩:=(I.hok b u hu).ex
   have:=keepB hv (vH hu)
   rw[this]at q;cases q;exact hideAll_get _ hv (vH hu)
  .obtain⟨o',e1⟩:=I.base.there b u hu nex
   have:=keepB e1 (sub nf (neL hu))
   rw[this]at q;cases q;exact hideAll_get _ e1 (sub nf (neL hu))
end
abbrev Cx.sup(X:Cx)(ea:Addr)(oe:Obj)(E:Value->Shared->Prop):Cx:={X with A:=X.A.mark (some (.ref ea)),calm:=false,xe:=E,pn:=(ea,oe)::X.pn}
section
variable{X:Cx}{aa:List (Addr×Obj)}{Z:St}{H H':Hp}{s s':Shared}{ea C:Addr}{oe:Obj}{E:Value->Shared->Prop}
theorem Cx.Ok.sup(ok:X.Ok):(X.sup ea oe E).Ok:=
 ⟨ok.mod,ok.kind,ok.glob,ok.blt,ok.above,ok.inj,ok.has,ok.cab,(λz=>by cases z),ok.frames,ok.stk,ok.exf,ok.bs,ok.bsz,ok.noex,ok.exfs,ok.funs,ok.frf⟩
theorem Inv.sup(I:Inv X aa Z H s)(h1:s.heap.get? ea=some oe)(h2:H ea=none)(h3:ea≠X.env.locals)(h4:ea∉X.fs)(h5:∀v,oe.data≠.cell v):Inv (X.sup ea oe E) aa Z H s:=
 ⟨I.ok.sup,I.os,I.bare,I.base,I.loc,I.cell,I.free,I.freeC,λp hp=>by
  rcases iU.mp hp with rfl|hp
  .exact⟨h1,h2,h3,h4,h5⟩
  .exact I.pin p hp,I.hok,I.len⟩
def Inv.unsup(I:Inv (X.sup ea oe E) aa Z H s)(ok:X.Ok):Inv X aa Z H s:=⟨ok,I.os,I.bare,I.base,I.loc,I.cell,I.free,I.freeC,λp hp=>I.pin p (kj _ hp),I.hok,I.len⟩
def ExN.on(N:ExN P w outer H s ea C H' s')(hB:∀b o,s'.heap.get? b=some o->((∃u,H' b=some u)\/∃u,s.heap.get? b=some u)->b∉frs outer->B.get? b=some o)(ff:s'.heap.FunFrames B outer)(hf:∀b∈frs outer,H b=none)(st:B.StaysIn h')(sm:s'.heap.UpToSlots h')(fr:∀b∈frs outer,∃o,s.heap.get? b=some o) :
  Un (frs outer) [] H H' s.heap h'/\iW P w H' h':=by
 have nex:∀{b:Addr},b∉([]:List Addr):=λz=>nomatch z;have slt:∀{b o},s'.heap.get? b=some o->b∈frs outer->∃sl,h'.get? b=some {o with slots:=sl}:=λ{b o} q z=>by
  obtain⟨_,o',ho,hd⟩:=ff.mem z;rw[q]at ho;cases ho;exact sm b o q hd
 have vH:∀{b u},H' b=some u->b∉frs outer:=λ{b u} q z=>by
  obtain⟨o,ho⟩:=fr b z;rw[N.un.free b o ho (hf b z) nex]at q;cases q
 refine⟨⟨λb o q n nf _=>st _ _ (hB b o (N.un.keep b o q n nf nex) (.inr ⟨_,q⟩) nf),λb o q n nf _=>?_,λb o q n _=>N.un.free b o q n nex,λb o q _=>?_,N.un.tups,N.un.frzs,N.un.tbls⟩,λa o q=>(N.hok a o q).stay (λb u hb q2=>?_) (λ_ z=>z) λ_ _ z=>z⟩
 .obtain⟨sl,e1⟩:=N.un.slot b o q n nf nex;obtain⟨sl',e2⟩:=slt e1 nf;exact⟨sl',e2⟩
 .obtain⟨o',e1⟩:=N.un.there b o q nex;by_cases z:b∈frs outer
  .obtain⟨sl',e2⟩:=slt e1 z;exact⟨_,e2⟩
  .exact⟨_,st _ _ (hB b o' e1 (.inr ⟨_,q⟩) z)⟩
 .have hu:∃v,H' b=some v:=by
   rcases hb with rfl|hb
   .exact⟨_,q⟩
   .exact⟨_,hb⟩
  obtain⟨v,hv⟩:=hu;exact st _ _ (hB b u q2 (.inl ⟨v,hv⟩) (vH hv))
def zt6{Q:Flow->Shared->Prop}{x n:Str}{D:Addr}{i:Nat}{b₀:Stmt}{suite:List Stmt}{pos np:Pos}{rest:List ExceptHandler}(I:Inv X aa Z H s)(hs:X.stack=X.env::X.outer)(hf:X.env.frame=some X.env.locals)(N:ExN X.prog X.w X.stack H s ea C H' s')(hg:Gl X x)(hm:X.mg x=some (.ref D))
  (he:exmOne X.K (.ref C) (.ref D)=some true) (hN:X.N.Nodup) (hi:X.N[i]?=some n) (hk:X.env.scope.names.lookup n=some .local)
  (k:∀oe s2,oe.cls=.ref C->(∃vs,oe.data=.fields vs/\vs[2]?=some Value.none)->Inv (X.sup ea oe λ_ _=>False) aa (Z.set i (some (.ref ea))) H' s2->wpAny (model X.prog X.w) (X.A.mark (some (.ref ea))) (execs (b₀::suite) X.env) (λf s₄=>wpAny (model X.prog X.w) X.A (do bindName X.env n .none;unbindBehindTheSuite X.env n pos) (λ_ s₅=>Q f s₅) E s₄) (λ_ _=>False) s2)
  (hd:(x==("__debug__":Str))=false:=by decide) :
  wpAny (model X.prog X.w) X.A (noteFrame (.ref ea) X.env) (λ_ s₂=>wpAny (model X.prog X.w) X.A (setFlight (.ref ea) none) (λ_ s₃=>wpAny (model X.prog X.w) X.A (handleBy (.ref ea) X.env (.ExceptHandler (some (.Name x np)) (some n) (b₀::suite) pos::rest)) Q E s₃) E s₂) E s':=by
 obtain⟨B,fl,hB⟩:=id N.fly;have fl':=fl;rw[hs]at fl';have hA:X.A.frames=some (X.env::X.outer):=by rw[<-hs];exact I.ok.frames
 have frx:∀b∈frs X.stack,∃o,s.heap.get? b=some o:=λb hb=>by
  obtain⟨_,o,ho,_⟩:=I.stack.mem hb;exact⟨o,ho⟩
 refine zpa hA hf fl' λh4 held sm4=>?_;refine zi7 held λh5 fl5 sm5=>?_;have on5:=N.on hB fl.2.2.1 I.stkFree fl5.1 (sm4.trans sm5) frx;have I5:Inv X aa Z H' {s' with heap:=h5}:=I.call' (s':={s' with heap:=h5}) N.os on5.1 on5.2 N.bare λb z=>nomatch z;have sub:∀{b},b=X.env.locals\/b∈X.fs->b∈frs (X.env::X.outer):=λ{b} z=>by
  show b∈(X.env::X.outer).filterMap (·.frame);rw[YAQ,hf];exact iU.mpr z
 have apart:∀{h:Heap}{oe:Obj}{vs:Array Value},h.FunFrames B (X.env::X.outer)->h.get? ea=some oe->oe.data=.fields vs->∀{b},b=X.env.locals\/b∈X.fs->ea≠b:=λ{h oe vs} ff e1 e2 {b} z e3=>by
  obtain⟨_,o,ho,hd⟩:=ff.mem (sub z);rw[<-e3,e1]at ho;cases ho;exact hd _ e2
 have hea:H' ea=none:=by
  cases q:H' ea with
  |none=>rfl
  |some u=>
   obtain⟨v,hv⟩:=(N.hok ea u q).ex;obtain⟨oe,vs,e1,_,e3,_⟩:=fl'.first
   have nf:ea∉frs X.stack:=λz=>by
    rw[hs]at z;obtain⟨_,o,ho,hd⟩:=fl'.2.2.1.mem z;rw[e1]at ho;cases ho;exact hd _ e3
   have:=hB ea v hv (.inl ⟨u,q⟩) nf
   rw[fl.2.1]at this;cases this
 have sup:∀{h:Heap}{Z:St}{t:Nat},qL B (X.env::X.outer) ea (.ref C) h->Inv X aa Z H' {s' with heap:=h,toks:=t}->∃oe,(oe.cls=.ref C/\∃vs,oe.data=.fields vs/\vs[2]?=some Value.none)/\h.get? ea=some oe/\Inv (X.sup ea oe λ_ _=>False) aa Z H' {s' with heap:=h,toks:=t}:=λfl I=>by
  obtain⟨oe,vs,e1,e2,e3,e4⟩:=fl.first
  exact⟨oe,⟨e2,vs,e3,e4⟩,e1,I.sup e1 hea (apart fl.2.2.1 e1 e3 (.inl rfl)) (λz=>apart fl.2.2.1 e1 e3 (.inr z) rfl) λv q=>by rw[e3]at q;cases q⟩
 obtain⟨oe5,c5,g5,S5⟩:=sup fl5 I5;refine wpAny_handleBy_cons (codeAny_handlers_test (xX S5 hg hm ?_ hd)) (by intro q;cases q);refine(exm_one (M:=model X.prog X.w) I5.kIn (c5.1▸(Looks.ld g5).andThen .now) he).here (codeAny_handlers_suite_as ?_);refine zi7 fl5 λh6 fl6 sm6=>?_;have on6:=N.on hB fl.2.2.1 I.stkFree fl6.1 ((sm4.trans sm5).trans sm6) frx;have I6:Inv X aa Z H' {s' with heap:=h6}:=I.call' (s':={s' with heap:=h6}) N.os on6.1 on6.2 N.bare λb z=>nomatch z;obtain⟨oe,c6,g6,S6⟩:=sup fl6 I6;refine Ff (X:=X.sup ea oe λ_ _=>False) S6 hN hi (.inl hk) (v:=.ref ea) rfl (λs7 I7=>?_) (.inr hk);exact lD (k oe s7 c6.1 c6.2 I7) (λ_ _ z=>z) λ_ _ z=>z.elim
end
abbrev tL:List Value:=[.type "ValueError",.type "Exception",.type "BaseException",.type "object"]
def zt3{K:qo}{h:Heap}{C:Addr}{bmB:List Value}{newId:String}(X:K.In h)(q:excIn K C bmB newId=true):∃bm N nm q bs hdct sn sub ab col dd k0 k1 k2 k3 k5 mN,h.get? C=some (excClassObj nm q C N bs bm hdct sn sub ab col dd k0 k1 k2 k3 k5 newId)/\h.Ns N mN/\mN "__init__"=none/\OwnTail h bmB bm:=by
 unfold excIn at q;split at q
 .rename_i dd cd sl ho
  split at q
  .rename_i C' bm k0 k1 k2 k3 n k5 hm hs
   simp only[YAA,yV,Bool.not_eq_true']at q;obtain⟨⟨⟨⟨⟨rfl,rfl⟩,hdel⟩,ht⟩,hok⟩,hni⟩:=q;obtain⟨nm,bs,mro,ns,qn,hd,sn,sub,ab,col,del⟩:=cd;dsimp only at hm hdel hok hni;subst hm hdel;have hsl:sl=#[k0,k1,k2,k3,some (.builtin n),k5]:=by
    obtain⟨l⟩:=sl;simp only at hs;rw[hs]
   subst hsl;exact⟨bm,ns,nm,qn,bs,hd,sn,sub,ab,col,dd,k0,k1,k2,k3,k5,_,X _ _ ho,.of_isNs (isNs_of_in X hok),nsMap_none_of_in X hok hni,tail_of_in X ht⟩
  .cases q
 .cases q
section
variable{X:Cx}{aa:List (Addr×Obj)}{Z:St}{H:Hp}{s:Shared}
def zp4{x:Str}{C:Addr}{e:Expr}{es:List Expr}{t:TA}{np cpos pos:Pos}{Y:Ends->St->Hp->Prop}(hc:X.calm=true)(ho:excIn X.K C tL "ValueError.__new__"=true)(hg:Gl X x)(hm:X.mg x=some (.ref C))(ha:PA X (e::es) t)
  (hx:∀aa s Z H h' ea us,Inv X aa Z H s->Heap.MadeExcOf s.heap h' ea (.ref C) us->∀D,Y D Z H->X.xe (.ref ea) {s with heap:=h'})
  (hd:(x==("__debug__":Str))=false:=by decide) (he:starEach (e::es) X.env=(false,eval e X.env)::starEach es X.env:=by rfl) (hpl:(backTo cpos (starEach es X.env)).any (·.1)=false:=by rfl) :
  PS X (.Raise (some (.Call (.Name x np) (e::es) [] cpos)) none pos) (λD Z H=>t Z H λvs H'=>vs.length<=sizeLine/\Y D Z H'):=by
 intro aa s Z H D I h;have hh:=I.ok.hd hc;obtain⟨bm,N,nm,q,bs,hdct,sn,sub,ab,col,dd,k0,k1,k2,k3,k5,mN,hC,hN,hni,T⟩:=zt3 I.ok.mod.kin ho;refine wpAny_Raise_call_subT (C:=C) (nm:=nm) (q:=q) (N:=N) (bs:=bs) (bm:=bm) (hdct:=hdct) (sn:=sn) (sub:=sub) (ab:=ab) (col:=col) (dd:=dd) (k0:=k0) (k1:=k1) (k2:=k2) (k3:=k3) (k5:=k5) (mN:=mN) F.excBase_ValueError (T.hasType F.excBase_ValueError.hasBase) hh (by rw[he];show(false || (backTo cpos (starEach es X.env)).any (·.1))=false;rw[hpl];rfl) hni (xX I hg hm ⟨rfl,?_⟩ hd);have ha':=ha cpos aa s Z H _ I h;rw[he]at ha' ⊢;refine Calls.evalArgs_plain (lD ha' (λus s2 ⟨vs,H2,I2,r2,z,q2⟩=>?_) λ_ _ y=>y);exact⟨rfl,by rw[<-r2.length];exact z,I2.bk _ _ hC,hN.keeps I2.bk,T.keeps I2.bk,λh' e hm'=>hx aa s2 Z H2 h' e us I2 hm' D q2⟩
theorem PA.nox(h:PA X.nox es t):PA X es t:=λpos aa s Z H Q I hw=>
 lD (h pos aa s Z H Q (I.wish _) hw) (λ_ _ ⟨v,H',I',r,q⟩=>⟨v,H',I'.unwish,r,q⟩) λ_ _ z=>False.elim z
theorem PS.nox{st:Stmt}{t:TS}(h:PS X.nox st t):PS X st t:=λaa s Z H D I hw=>
 lD (h aa s Z H D (I.wish _) hw) (λ_ _ q=>q.unwish) λ_ _ z=>False.elim z
end
end L2
namespace Fd
open PySem L2
abbrev jF:=List D->(D->Prop)->(Str->Prop)->Prop
def Bh(F:jF):jF:=λds Q Y=>∃(P:D->Prop)(qg:Str->Prop),F ds P qg/\(∀d,P d->Q d)/\∀n,qg n->Y n
def Dy(F:jF)(k:∀d,Q d->Q' d)(l:∀n,Y n->Y' n):Bh F ds Q Y->Bh F ds Q' Y':=λ⟨P,qg,h1,h2,h3⟩=>⟨P,qg,h1,λd z=>k d (h2 d z),λn z=>l n (h3 n z)⟩
noncomputable def du(K:qo)(mg:Str->Option Value)(n:Nat)(F:jF):Sp:=λvs H Q E=>∃ β G ds,Same G H/\d9 β H G/\aH ⟨K,β,λ_=>none,G,True⟩ G ds vs/\vs.length=n/\Bh F ds (λd=>∀v H' G',aZ β H G H' G'->Rep ⟨K,β,H,G,True⟩ G' d v->Q v H') λnm=>∀C H' G',mg nm=some (.ref C)->aZ β H G H' G'->E (.ref C) none H'
def gZ(n:Nat)(B:(Str->Prop)->WS):jF:=λds Q Y=>B Y {nx:=λ_=>Q .non,rt:=Q,bk:=λ_=>False,ct:=λ_=>False} (fU n ds)
def qH(F:bZ K x qual st f fd)
  (hB:∀{cdv:Value}{A:Around}{outer:List PySem.Env}{s:Shared}{H:Hp}{E:XK}{β:Addr}{G:Hp}(Y:Str->Prop),(∀nm C H' G',Y nm->mg nm=some (.ref C)->aZ β H G H' G'->E (.ref C) none H')->N.Nodup->bK k (A.deeper (PyProof.Rows.envOfC qual (gF st) s.heap.objs.size f cdv)) ->
   rT (dj (dw P w) P w K mg base N qual (gF st) f cdv A outer s H E) ⟨K,β,H,G,True⟩ (nJ st) (B Y)) (qh:dh N ps (gF st):=by exact⟨rfl,rfl,rfl,by decide +kernel,rfl,by decide +kernel,by decide +kernel⟩):aN P w K mg base (dw P w) (k+1) f fd ps (du K mg ps.length (gZ N.length B)):=by
 obtain⟨oc,od,kV,doc,pm,an,cdv,ct,osl,rfl,lk,hcd⟩:=F.ex;refine zsp lk hcd qh (λvs H Q E ⟨β,G,ds,_,_,_,h,_⟩=>h) λA outer s H vs Q E hr ⟨β,G,ds,gh,bx,hv,hl,P',qg,q,hP,hZ⟩=>?_;have h:=@hB cdv A outer s H E β G qg (λnm C H' G' z hm t=>hZ nm z C H' G' hm t) qh.nd hr;refine⟨_,h.pss,fU N.length ds,G,Jm gh bx hv,h.mono {nx:=λ_=>P' .non,rt:=P',bk:=λ_=>False,ct:=λ_=>False} _ _ ⟨λS z Z H' G' r s'=>hP _ z .non H' G' r.stp rfl,λd z v H' G' t e=>hP _ z v H' G' t e,λS z=>z.elim,λS z=>z.elim⟩ q⟩
structure iC(P:Program)(w:World)(K:qo)(mg:Str->Option Value)(base:Heap)(x:Str)(k:Nat)(ps:List Str)(sp:Sp):Prop where
 ex:∃f fd,aN P w K mg base (dw P w) k f fd ps sp/\mg x=some (.ref f)/\PySem.W.keepIn K (.ref f)=true/\Binds K fd ps []
def iC.of(F:bZ K x qual st f fd)(G:aN P w K mg base (dw P w) k f fd ps sp)(hm:mg x=some (.ref f))(hb:Binds K fd ps []):iC P w K mg base x k ps sp:=
 ⟨f,fd,G,hm,F.kp,hb⟩
section
variable{X:Cx}{c:Bk}{st:Stmt}{e:Expr}{es:List Expr}{pos cpos p np:Pos}
theorem DS.nox(h:DS X.nox c st W):DS X c st W:=⟨h.mono,h.ps.nox⟩
theorem DE.nox(h:DE X.nox c e W):DE X c e W:=⟨h.mono,h.pe.nox⟩
theorem DT.nox(h:DT X.nox c e W):DT X c e W:=⟨h.mono,h.pt.nox⟩
abbrev pU(R:WL)(y:Prop):WS:=λ_ S=>R S λds=>ds.length<=1000/\y
def qG(hR:DA X.nox c (e::es) R)(hx:∀aa s Z H G h' ea us,Inv X aa Z H s->aZ c.β c.H0 c.G0 H G->Heap.MadeExcOf s.heap h' ea (.ref C) us->y->X.xe (.ref ea) {s with heap:=h'})(ho:PySem.W.excIn X.K C tL "ValueError.__new__"=true)(hm:X.mg x=some (.ref C))(hc:X.calm=true:=by rfl)(hg:Gl X x:=by rfl)
  (hd:(x==("__debug__":Str))=false:=by decide) (sk:Sk X e es cpos:=by exact⟨rfl,rfl⟩):DS X c (.Raise (some (.Call (.Name x np) (e::es) [] cpos)) none pos) (pU R y)where
 mono:=λE E' S l q=>q
 ps:=kY (zp4 (Y:=λ_ Z H=>y/\∃G,aZ c.β c.H0 c.G0 H G) hc ho hg hm (PA.nox hR.pa) (λaa s Z H h' ea us I m _ ⟨z,G,t⟩=>hx aa s Z H G h' ea us I t m z) hd sk.1 sk.2) λD Z H ⟨S,G,r,q⟩=>⟨S,G,r,hR.mono S _ _ (λds z vs H' G' t v=>⟨by rw[<-v.length,nO];have:=z.1;omega,z.2,G',r.stp.trans t⟩) q⟩
def Rel.unput(r:Rel c S Z H G):Rel c (S.set i .un) (Z.set i o) H G:=by
 refine⟨by simp[r.len],r.stp,λj s e=>?_,λj k a xs ys e1 e2 e3 e4=>?_,r.kn⟩
 .by_cases z:i=j
  .subst z;have hi:i<S.length:=by have:=(jC.mp e).1;simpa using this
   rw[jL hi]at e;cases e
   trivial
  .rw[jG z]at e ⊢;exact r.slot j s e
 .have nn:∀{j:Nat}{xs},(S.set i .un)[j]?=some (.own xs)->i≠j:=λe z=>by
   subst z;have hi:i<S.length:=by have:=(jC.mp e).1;simpa using this
   rw[jL hi]at e;cases e
  have nj:=nn e1;have nk:=nn e2;rw[jG nj]at e1 e3;rw[jG nk]at e2 e4;exact r.dis j k a xs ys e1 e2 e3 e4
end
def Hv:Fn:=dU 1 ((aP (pJ (vf mz mz (kW (.int 1)) (cbW f9 (aq (vW 0) ao)) (kW (.int 8))) (cbW m8 (aq (aM (fC [none] (fM (vW 0)) (.nm 0) dq (ak (dY false) (vW 0) (kW (.str "abcdefghijklmnopqrstuvwxyz"))))) ao)))))
structure Ob where
 C:Addr
 fs:List (Str×List D)
abbrev bN:=Addr->Option Ob
def jk(qh:bN)(p:Addr)(o:Ob):bN:=λa=>if a=p then some o else qh a
def qC:jk qh p o p=some o:=by unfold jk;rw[if_pos rfl]
def tM(h:q≠p):jk qh p o q=qh q:=by unfold jk;rw[if_neg h]
abbrev lw(K:qo)(β:Addr)(G:Hp):Bk:=⟨K,β,λ_=>none,G,True⟩
def j5(fs:List (Str×List D))(as:List Addr):List (Str×V):=(fs.zip as).map λp=>(p.1.1,V.ref p.2)
structure Kn(K:qo)(β:Addr)(G:Hp)(qh:bN)(M:Hp)(ad:Addr->List Addr):Prop where
 obj:∀p o,qh p=some o->∃dx,M p=some (.ins o.C dx (j5 o.fs (ad p)))/\(ad p).length=o.fs.length
 lst:∀p o (i:Nat) a x,qh p=some o->(ad p)[i]?=some a->o.fs[i]?=some x->∃vs,M a=some (.lst vs)/\aH (lw K β G) G x.2 vs
 dis:∀p q (i j:Nat) a,qh p≠none->qh q≠none->(ad p)[i]?=some a->(ad q)[j]?=some a->p=q/\i=j
 kin:∀a o,M a=some o->¬ yh o
 ap:∀a,M a≠none->G a=none/\a≠β
theorem Kn.mono(k:Kn K β G qh M ad)(s:Same G G')(h:∀a,M a≠none->G' a=none):Kn K β G' qh M ad:=
 ⟨k.obj,λp o i a x h1 h2 h3=>(k.lst p o i a x h1 h2 h3).imp λvs z=>⟨z.1,aH.back (c':=lw K β G) (c:=lw K β G') rfl rfl (λ_ e=>e) (z.2.mono s)⟩,k.dis,k.kin,λa z=>⟨h a z,(k.ap a z).2⟩⟩
def ov(B M:Hp):Hp:=λa=>match M a with|some o=>some o|none=>B a
def ur(h:M a=some o):ov B M a=some o:=by unfold ov;rw[h]
def sr(h:M a=none):ov B M a=B a:=by unfold ov;rw[h]
def bM:ov B M a=none↔M a=none/\B a=none:=by
 unfold ov;cases M a with
 |none=>simp
 |some o=>simp
def Dm(M M':Hp):Prop:=∀a,M a≠none->M' a≠none
def Dm.refl(M:Hp):Dm M M:=λ_ h=>h
def Dm.trans(h:Dm A B)(k:Dm B C):Dm A C:=λa z=>k a (h a z)
structure Bo where
 K:qo
 β:Addr
 H0:Hp
 G0:Hp
 M0:Hp
def dI(b:Bo)(qh:bN)(M G:Hp):Bk:=⟨b.K,b.β,ov b.H0 M,G,∃ad,Kn b.K b.β G qh M ad⟩
mutual
theorem Rep.reb(hk:c'.K=c.K)(hb:c'.β=c.β)(hn:∀a,G a≠none->c'.H0 a=none->c.H0 a=none):∀{d:D}{v:V},Rep c' G d v->Rep c G d v
 |.non,_,h=>h
 |.bl _,_,h=>h
 |.int _,_,h=>h
 |.str _,_,h=>h
 |.box,_,h=>by show _=V.ref c.β;rw[<-hb];exact h
 |.obj _,_,h=>h
 |.dct n ks xs,_,⟨a,vs,h1,h2,h4,h5,h3⟩=>⟨a,vs,h1,h2,λz=>hn a (by rw[h2];simp) (h4 z),h5,aH.reb hk hb hn h3⟩
 |.fdc ks xs,_,⟨a,vs,o,h1,h2,h5,h3⟩=>⟨a,vs,o,h1,h2,h5,aH.reb hk hb hn h3⟩
 |.tup xs,_,⟨a,vs,h1,h2,h3⟩=>⟨a,vs,h1,hk▸h2,aH.reb hk hb hn h3⟩
 |.lst n xs,_,⟨a,vs,h1,h2,h4,h3⟩=>⟨a,vs,h1,h2,λz=>hn a (by rw[h2];simp) (h4 z),aH.reb hk hb hn h3⟩
theorem aH.reb(hk:c'.K=c.K)(hb:c'.β=c.β)(hn:∀a,G a≠none->c'.H0 a=none->c.H0 a=none):∀{ds:List D}{vs:List V},aH c' G ds vs->aH c G ds vs
 |[],_,h=>h
 |_::_,_,⟨v,ws,h1,h2,h3⟩=>⟨v,ws,h1,Rep.reb hk hb hn h2,aH.reb hk hb hn h3⟩
end
structure yE(β:Addr)(M M' H G H' G':Hp):Prop where
 gg:Same G G'
 gh:Same G' H'
 fr:∀a o,a≠β->M a=none->H a=some o->H' a=some o
 mh:∀a o,M' a=some o->H' a=some o
 mn:∀a,M' a≠none->M a≠none\/H a=none
 mg:∀a,M' a≠none->G' a=none/\a≠β
 nw:∀a,G' a≠none->G a≠none\/H a=none\/∃o,H a=some o/\yh o
 bx:d9 β H' G'
 bc:∀cc p r d,H β=some (tV cc p r d)->∃p r d,H' β=some (tV cc p r d)
 dm:Dm M M'
structure Out(b:Bo)(M G1:Hp):Prop where
 mb:∀a,M a≠none->b.H0 a=none/\b.G0 a=none/\a≠b.β
 gg:Same b.G0 G1
 nw:∀a,G1 a≠none->b.G0 a≠none\/b.H0 a=none\/∃o,b.H0 a=some o/\yh o
 g0:Same b.G0 b.H0
 dm:Dm b.M0 M
def Rel.eff(r:Rel (dI b qh M G1) S Z H G)(hM:∀a,M a≠none->b.H0 a=none/\a≠b.β)(e:yE b.β M M' H G H' G')(kn:∃ad,Kn b.K b.β G' qk M' ad):Rel (dI b qk M' G') S Z H' G':=by
 have base:∀a o,b.H0 a=some o->M a=none:=λa o h=>by
  cases z:M a with
  |none=>rfl
  |some u=>have:=(hM a (by rw[z];simp)).1;rw[h]at this;cases this
 have mβ:M' b.β=none:=by
  cases z:M' b.β with
  |none=>rfl
  |some u=>exact absurd rfl (e.mg _ (by rw[z];simp)).2
 have m0:M b.β=none:=by
  cases z:M b.β with
  |none=>rfl
  |some u=>exact absurd rfl (hM _ (by rw[z];simp)).2
 refine⟨r.len,⟨Same.refl _,e.gh,λa o n h=>?_,λa z=>.inl z,e.bx,?_,?_⟩,λi s h=>?_,r.dis,kn⟩
 .cases z:M' a with
  |some u=>rw[show(dI b qk M' G').H0 a=some u from ur z]at h;cases h;exact e.mh a _ z
  |none=>
   rw[show(dI b qk M' G').H0 a=b.H0 a from sr z]at h;have z':=base a o h;exact e.fr a o n z' (r.stp.fr a o n ((sr z').trans h))
 .intro z;exact r.stp.b0 ((sr m0).trans ((sr mβ).symm.trans z))
 .intro cc p q d h;obtain⟨p1,q1,d1,h1⟩:=r.stp.bc cc p q d ((sr m0).trans ((sr mβ).symm.trans h));exact e.bc cc p1 q1 d1 h1
 .have q:=r.slot i s h;cases s with
  |un=>trivial
  |val d=>
   obtain⟨v,h1,h2⟩:=q;refine⟨v,h1,(Rep.reb (c:=dI b qk M' G') (c':=dI b qh M G1) rfl rfl (λa ga z=>?_) h2).mono e.gg⟩;obtain⟨z1,z2⟩:=bM.mp z;refine bM.mpr ⟨?_,z2⟩;cases y:M' a with
   |none=>rfl
   |some u=>
    have:=(e.mg a (by rw[y];simp)).1
    cases w:G a with
    |none=>exact absurd w ga
    |some o=>rw[e.gg a o w]at this;cases this
  |own xs=>
   obtain⟨a,vs,h1,h2,h3,h4,h5,h6⟩:=q;obtain⟨z1,z2⟩:=bM.mp h4;have m':M' a=none:=by
    cases y:M' a with
    |none=>rfl
    |some u=>
     rcases e.mn a (by rw[y];simp)with w|w
     .exact absurd z1 w
     .rw[h2]at w;cases w
   have h4':(dI b qk M' G').H0 a=none:=bM.mpr ⟨m',z2⟩;refine⟨a,vs,h1,e.fr a _ h5 z1 h2,?_,h4',h5,(aH.reb (c:=dI b qk M' G') (c':=dI b qh M G1) rfl rfl (λa ga z=>?_) h6).mono e.gg⟩
   .cases y:G' a with
    |none=>rfl
    |some o=>
     rcases e.nw a (by rw[y];simp)with w|w|⟨u,w,st⟩
     .exact absurd h3 w
     .rw[h2]at w;cases w
     .rw[h2]at w;cases w;exact st.elim
   .obtain⟨z1,z2⟩:=bM.mp z;refine bM.mpr ⟨?_,z2⟩;cases y:M' a with
    |none=>rfl
    |some u=>
     have:=(e.mg a (by rw[y];simp)).1
     cases w:G a with
     |none=>exact absurd w ga
     |some o=>rw[e.gg a o w]at this;cases this
  |dic ks xs=>
   obtain⟨a,vs,h1,h2,h3,h4,h5,h6,h7⟩:=q;obtain⟨z1,z2⟩:=bM.mp h4;have m':M' a=none:=by
    cases y:M' a with
    |none=>rfl
    |some u=>
     rcases e.mn a (by rw[y];simp)with w|w
     .exact absurd z1 w
     .rw[h2]at w;cases w
   have h4':(dI b qk M' G').H0 a=none:=bM.mpr ⟨m',z2⟩;refine⟨a,vs,h1,e.fr a _ h5 z1 h2,?_,h4',h5,(aH.reb (c:=dI b qk M' G') (c':=dI b qh M G1) rfl rfl (λa ga z=>?_) h6).mono e.gg,h7⟩
   .cases y:G' a with
    |none=>rfl
    |some o=>
     rcases e.nw a (by rw[y];simp)with w|w|⟨u,w,st⟩
     .exact absurd h3 w
     .rw[h2]at w;cases w
     .rw[h2]at w;cases w;exact st.elim
   .obtain⟨z1,z2⟩:=bM.mp z;refine bM.mpr ⟨?_,z2⟩;cases y:M' a with
    |none=>rfl
    |some u=>
     have:=(e.mg a (by rw[y];simp)).1
     cases w:G a with
     |none=>exact absurd w ga
     |some o=>rw[e.gg a o w]at this;cases this
def Out.eff(o:Out b M G1)(r:Rel (dI b qh M G1) S Z H G)(e:yE b.β M M' H G H' G'):Out b M' G':=by
 have fresh:∀a,H a=none->b.H0 a=none:=λa h=>(bM.mp (r.stp.free h)).2;have keep:∀a u,a≠b.β->b.H0 a=some u->H a=some u:=λa u n h=>r.stp.fr a u n ((sr (by
  cases z:M a with
  |none=>rfl
  |some w=>have:=(o.mb a (by rw[z];simp)).1;rw[h]at this;cases this)).trans h)
 have nwG:∀a,G a≠none->b.G0 a≠none\/b.H0 a=none\/∃u,b.H0 a=some u/\yh u:=λa z=>by
  rcases r.stp.nw a z with w|w|⟨u,w,st⟩
  .exact o.nw a w
  .exact .inr (.inl (bM.mp w).2)
  .cases y:M a with
   |none=>exact .inr (.inr ⟨u,(sr y).symm.trans w,st⟩)
   |some x=>exact .inr (.inl (o.mb a (by rw[y];simp)).1)
 refine⟨λa z=>?_,o.gg.trans (r.stp.gg.trans e.gg),λa z=>?_,o.g0,o.dm.trans e.dm⟩
 .have h0:b.H0 a=none:=by
   rcases e.mn a z with w|w
   .exact(o.mb a w).1
   .exact fresh a w
  exact⟨h0,o.g0.free h0,(e.mg a z).2⟩
 .rcases e.nw a z with w|w|⟨u,w,st⟩
  .exact nwG a w
  .exact .inr (.inl (fresh a w))
  .cases y:b.H0 a with
   |none=>exact .inr (.inl rfl)
   |some x=>
    by_cases n:a=b.β
    .subst n;obtain⟨cc,p,q,d,ns,hb,_⟩:=r.bx.ex;rw[show(dI b qh M G1).β=b.β from rfl]at hb;rw[hb]at w;cases w;exact st.elim
    .have:=keep a x n y
     rw[w]at this;cases this;exact .inr (.inr ⟨u,rfl,st⟩)
def Out.stp(o:Out b M G1)(kin:∀a u,M a=some u->¬ yh u)(t:aZ b.β (ov b.H0 M) G1 H G):aZ b.β b.H0 b.G0 H G:=by
 have out:∀a u,b.H0 a=some u->M a=none:=λa u h=>by
  cases z:M a with
  |none=>rfl
  |some w=>have:=(o.mb a (by rw[z];simp)).1;rw[h]at this;cases this
 have m0:M b.β=none:=by
  cases z:M b.β with
  |none=>rfl
  |some u=>exact absurd rfl (o.mb _ (by rw[z];simp)).2.2
 refine⟨o.gg.trans t.gg,t.gh,λa u n h=>t.fr a u n ((sr (out a u h)).trans h),λa z=>?_,t.bx,λz=>t.b0 ((sr m0).trans z),λcc p q d h=>t.bc cc p q d ((sr m0).trans h)⟩;rcases t.nw a z with w|w|⟨u,w,st⟩
 .exact o.nw a w
 .exact .inr (.inl (bM.mp w).2)
 .cases y:M a with
  |none=>exact .inr (.inr ⟨u,(sr y).symm.trans w,st⟩)
  |some x=>exact .inr (.inl (o.mb a (by rw[y];simp)).1)
def Out.apart{b:Bo}{M G1 H G:Hp}(kin:∀a u,M a=some u->¬ yh u)(h1:∀a,M a≠none->G1 a=none)(t:aZ b.β (ov b.H0 M) G1 H G)(a:Addr)(h:M a≠none):G a=none:=by
 cases z:G a with
 |none=>rfl
 |some u=>
  cases y:M a with
  |none=>exact absurd y h
  |some x=>
   rcases t.nw a (by rw[z];simp)with w|w|⟨v,w,st⟩
   .exact absurd (h1 a h) w
   .rw[show ov b.H0 M a=some x from ur y]at w;cases w
   .rw[show ov b.H0 M a=some x from ur y]at w;cases w;exact absurd st (kin a _ y)
structure pX where
 nx:bN->Env->Prop
 rt:bN->D->Prop
 bk:bN->Env->Prop
 ct:bN->Env->Prop
abbrev WF:=pX->bN->Env->Prop
structure pX.Le(E E':pX):Prop where
 nx:∀qh S,E.nx qh S->E'.nx qh S
 rt:∀qh d,E.rt qh d->E'.rt qh d
 bk:∀qh S,E.bk qh S->E'.bk qh S
 ct:∀qh S,E.ct qh S->E'.ct qh S
def zqX(W:WF):Prop:=∀E E' qh S,pX.Le E E'->W E qh S->W E' qh S
def dg(b:Bo)(qh:bN)(M:Hp)(S:Env)(Z:St)(H G:Hp):Prop:=∃G1,Out b M G1/\Rel (dI b qh M G1) S Z H G
noncomputable def sO(b:Bo)(G M:Hp)(Ds:Ends):pX where
 nx:=λqh S=>∀ Z H' G' M',dg b qh M' S Z H' G'->Same G G'->Dm M M'->Ds.nx Z H'
 rt:=λqh d=>∀v H' G' M' G1,(∃ad,Kn b.K b.β G1 qh M' ad)->Out b M' G1->aZ b.β (ov b.H0 M') G1 H' G'->Dm M M'->Rep (dI b qh M' G1) G' d v->Ds.rt v H'
 bk:=λqh S=>∀ Z H' G' M',dg b qh M' S Z H' G'->Same G G'->Dm M M'->Ds.bk Z H'
 ct:=λqh S=>∀ Z H' G' M',dg b qh M' S Z H' G'->Same G G'->Dm M M'->Ds.ct Z H'
def ziZ{b:Bo}{G G1 M M1:Hp}{Ds:Ends}(s:Same G G1)(m:Dm M M1):pX.Le (sO b G M Ds) (sO b G1 M1 Ds):=
 ⟨λqh S h Z H' G' M' r s' m'=>h Z H' G' M' r (s.trans s') (m.trans m'),λqh d h v H' G' M' G2 k o t m' e=>h v H' G' M' G2 k o t (m.trans m') e,λqh S h Z H' G' M' r s' m'=>h Z H' G' M' r (s.trans s') (m.trans m'),λqh S h Z H' G' M' r s' m'=>h Z H' G' M' r (s.trans s') (m.trans m')⟩
def tOS(b:Bo)(W:WF):TS:=λDs Z H=>∃ S G qh M,dg b qh M S Z H G/\W (sO b G M Ds) qh S
structure OS(X:Cx)(b:Bo)(st:Stmt)(W:WF):Prop where
 mono:zqX W
 ps:PS X st (tOS b W)
structure rN(X:Cx)(b:Bo)(sts:List Stmt)(W:WF):Prop where
 mono:zqX W
 pss:lH X sts (tOS b W)
section
variable{X:Cx}{b:Bo}{st:Stmt}{rest:List Stmt}{pos p p':Pos}{e:Expr}
abbrev atS(E:pX)(qh:bN):En:=⟨E.nx qh,E.rt qh,E.bk qh,E.ct qh⟩
abbrev nG(W:bN->WS):WF:=λE qh S=>W qh (atS E qh) S
def zsx{G M G1:Hp}{qh:bN}{D:Ends}(k:∃ad,Kn b.K b.β G1 qh M ad)(o:Out b M G1):En.Le (atS (sO b G M D) qh) (ends (dI b qh M G1) G D):=
 ⟨λS z Z H' G' r s=>z Z H' G' M ⟨G1,o,r⟩ s (Dm.refl M),λd z v H' G' t e=>z v H' G' M G1 k o t (Dm.refl M) e,λS z Z H' G' r s=>z Z H' G' M ⟨G1,o,r⟩ s (Dm.refl M),λS z Z H' G' r s=>z Z H' G' M ⟨G1,o,r⟩ s (Dm.refl M)⟩
def rR(h:∀qh M G1,DS X (dI b qh M G1) st (W qh)):OS X b st (nG W)where
 mono:=λE E' qh S l q=>(h qh (λ_=>none) (λ_=>none)).mono (atS E qh) (atS E' qh) S ⟨l.nx qh,l.rt qh,l.bk qh,l.ct qh⟩ q
 ps:=λaa s Z H D I ⟨S,G,qh,M,⟨G1,o,r⟩,q⟩=>(h qh M G1).ps aa s Z H D I ⟨S,G,r,(h qh M G1).mono _ _ S (zsx r.kn o) q⟩
abbrev nilF:WF:=λE qh S=>E.nx qh S
abbrev cU(A B:WF):WF:=λE qh S=>A {E with nx:=B E} qh S
def zrL:rN X b [] nilF:=⟨λE E' qh S l q=>l.nx qh S q,Em Lf λD Z H ⟨S,G,qh,M,r,q⟩=>q Z H G M r (Same.refl _) (Dm.refl M)⟩
def lQ(h1:OS X b st A)(h2:rN X b rest B):rN X b (st::rest) (cU A B)where
 mono:=λE E' qh S l q=>h1.mono {E with nx:=B E} _ qh S ⟨λqk S' z=>h2.mono _ _ qk S' l z,l.rt,l.bk,l.ct⟩ q
 pss:=Em (nH h1.ps h2.pss) λD Z H ⟨S,G,qh,M,r,q⟩=>⟨S,G,qh,M,r,h1.mono {sO b G M D with nx:=B (sO b G M D)} _ qh S ⟨λqk S' z Z' H' G' M' r' s' m'=>⟨S',G',qk,M',r',h2.mono _ _ qk S' (ziZ s' m') z⟩,λqk d z=>z,λqk S' z=>z,λqk S' z=>z⟩ q⟩
def wJ(h1:OS X b st A):rN X b [st] A:=⟨h1.mono,zq h1.ps⟩
end
def qW(t:Tg)(B:WF)(E:pX):List D->bN->Env->Prop
 |[],qh,S=>E.nx qh S
 |x::xs,qh,S=>gD t x S λS'=>B {nx:=qW t B E xs,ct:=qW t B E xs,bk:=E.nx,rt:=E.rt} qh S'
abbrev BR(I:bN->WL)(t:Tg)(B:WF):WF:=λE qh S=>I qh S λxs=>qW t B E xs qh S
theorem zf6(mB:zqX B)(l:pX.Le E E'):∀(xs:List D)(qh:bN)(S:Env),qW t B E xs qh S->qW t B E' xs qh S
 |[],qh,S,q=>l.nx qh S q
 |x::xs,qh,S,q=>t7 t x S (λS' z=>mB {nx:=qW t B E xs,ct:=qW t B E xs,bk:=E.nx,rt:=E.rt} _ qh S' ⟨λqh S z=>zf6 mB l xs qh S z,l.rt,l.nx,λqh S z=>zf6 mB l xs qh S z⟩ z) q
def Rep.carry(e:Rep (dI b qh M Ga) G d v)(s:Same G G')(h:∀a,M' a≠none->G' a=none):Rep (dI b qk M' Gb) G' d v:=
 (Rep.reb (c:=dI b qk M' Gb) (c':=dI b qh M Ga) rfl rfl (λa ga z=>by
  obtain⟨z1,z2⟩:=bM.mp z;refine bM.mpr ⟨?_,z2⟩;cases y:M' a with
  |none=>rfl
  |some u=>
   have:=h a (by rw[y];simp)
   cases w:G a with
   |none=>exact absurd w ga
   |some o=>rw[s a o w]at this;cases this) e).mono s
theorem Rel.apart(r:Rel (dI b qh M G1) S Z H G)(a:Addr)(h:M a≠none):G a=none:=by
 obtain⟨ad,k⟩:=r.kn;exact Out.apart (b:=b) k.kin (λa z=>(k.ap a z).1) r.stp a h
section
variable{X:Cx}{b:Bo}{tg iter e:Expr}{body:List Stmt}{pos p:Pos}
def zq5(t:Tg)(hI:∀qh M G1,DI X (dI b qh M G1) tg iter (I qh))(hg:PG X tg (lN b.K t))(hB:rN X b body B)(hp:PassesOwn (model X.prog X.w) X.A X.env X.xe:=by exact PassesOwn.never)(hc:X.calm=true:=by rfl)(hs:∀x,foldedSetIterable iter X.env x=pure x:=by intro _;rfl) :
  OS X b (.For tg iter body [] pos) (BR I t B)where
 mono:=λE E' qh S l q=>(hI qh (λ_=>none) (λ_=>none)).mono S _ _ (λxs z=>zf6 hB.mono l xs qh S z) q
 ps:=λaa s Z H D Iv ⟨S,G,qh,M,⟨Gb,o,r⟩,q⟩=>zrD hp hc (hI qh M Gb).pi hg hB.pss hs aa s Z H D Iv ⟨S,G,r,(hI qh M Gb).mono S _ _ (λxs z J H1 G1 t1 it=>by
  refine⟨λi m Z H=>m=xs.length-i/\i<=xs.length/\∃ S' G' qk M',dg b qk M' S' Z H G'/\Same G1 G'/\Dm M M'/\qW t B (sO b G M D) (xs.drop i) qk S',⟨xs.length,rfl,v6 _,S,G1,qh,M,⟨Gb,o,r.step t1⟩,Same.refl _,Dm.refl M,z⟩,?_⟩;rintro i m Z' H' ⟨rfl,hi,S',G',qk,M',⟨Gc,o',r'⟩,s',m',q'⟩;have free:∀a,H' a=none->(dI b qh M Gb).H0 a=none:=λa z=>by
   obtain⟨z1,z2⟩:=bM.mp (show ov b.H0 M' a=none from r'.new0 z);refine bM.mpr ⟨?_,z2⟩;cases y:M a with
   |none=>rfl
   |some u=>exact absurd z1 (m' a (by rw[y];simp))
  have ok:=it i H' G' s' r'.gh r'.bx free;by_cases hlt:i<xs.length
  .refine .inr ?_;have ed:xs.drop i=xs[i]::xs.drop (i+1):=YBJ hlt;rw[ed]at q';obtain⟨go,yl⟩:=ok.2 xs[i] (jB hlt);refine⟨go,λZ H=>∃ S' G' qk M',dg b qk M' S' Z H G'/\Same G1 G'/\Dm M M'/\qW t B (sO b G M D) (xs.drop (i+1)) qk S',λZ2 H2 h=>⟨xs.length-(i+1),by omega,rfl,by omega,h⟩,λx H3 y=>?_⟩;obtain⟨G3,t3,e3⟩:=yl x H3 y;have r3:=r'.step t3;have e4:Rep (dI b qk M' Gc) G3 xs[i] x:=e3.carry (Same.refl _) r3.apart;refine Df (c:=dI b qk M' Gc) t xs[i] x S' Z' r3 e4 (t7 t xs[i] S' (λS2 z2 Z2 r2=>?_) q');refine⟨S2,G3,qk,M',⟨Gc,o',r2⟩,hB.mono {nx:=qW t B (sO b G M D) (xs.drop (i+1)),ct:=qW t B (sO b G M D) (xs.drop (i+1)),bk:=(sO b G M D).nx,rt:=(sO b G M D).rt} _ qk S2 ⟨λqi S3 z3 Z3 H4 G4 M4 r4 s4 m4=>⟨S3,G4,qi,M4,r4,(s'.trans t3.gg).trans s4,m'.trans m4,z3⟩,λqi d z v H4 G4 M4 G5 k5 o5 t5 m5 e5=>z v H4 G4 M4 G5 k5 o5 t5 (m'.trans m5) e5,λqi S3 z3 Z3 H4 G4 M4 r4 s4 m4=>z3 Z3 H4 G4 M4 r4 (((t1.gg.trans s').trans t3.gg).trans s4) (m'.trans m4),λqi S3 z3 Z3 H4 G4 M4 r4 s4 m4=>⟨S3,G4,qi,M4,r4,(s'.trans t3.gg).trans s4,m'.trans m4,z3⟩⟩ z2⟩
  .have e:i=xs.length:=by omega
   subst e;rw[YCZ]at q';exact .inl ⟨ok.1 rfl,q' Z' H' G' M' ⟨Gc,o',r'⟩ (t1.gg.trans s') m'⟩) q⟩
end
abbrev pH:=List D->bN->(D->bN->Prop)->(Str->bN->Prop)->Prop
def zB(F:pH):pH:=λds qh Q Y=>∃(P:D->bN->Prop)(qg:Str->bN->Prop),F ds qh P qg/\(∀d qk,P d qk->Q d qk)/\∀n qk,qg n qk->Y n qk
def zV(F:pH)(k:∀d qh,Q d qh->Q' d qh)(l:∀n qh,Y n qh->Y' n qh):zB F ds qh Q Y->zB F ds qh Q' Y':=λ⟨P,qg,h1,h2,h3⟩=>⟨P,qg,h1,λd qh z=>k d qh (h2 d qh z),λn qh z=>l n qh (h3 n qh z)⟩
noncomputable def lB(K:qo)(mg:Str->Option Value)(n:Nat)(F:pH):Sp:=λvs H Q E=>∃ β G qh M ad ds,Same G H/\d9 β H G/\(∀a o,M a=some o->H a=some o)/\Kn K β G qh M ad/\aH (lw K β G) G ds vs/\vs.length=n /\
 zB F ds qh (λd qk=>∀v H' G' M' ad',yE β M M' H G H' G'->Kn K β G' qk M' ad'->Rep ⟨K,β,H,G,True⟩ G' d v->Q v H') λnm qk=>∀C H' G' M' ad',mg nm=some (.ref C)->yE β M M' H G H' G'->Kn K β G' qk M' ad'->E (.ref C) none H'
def mi(H M:Hp):Hp:=λa=>match M a with|some _=>none|none=>H a
def zub(h:M a≠none):mi H M a=none:=by
 unfold mi;cases e:M a with
 |none=>exact absurd e h
 |some o=>rfl
def yj(h:M a=none):mi H M a=H a:=by unfold mi;rw[h]
def zvY(h:∀a o,M a=some o->H a=some o):ov (mi H M) M=H:=by
 funext a
 cases e:M a with
 |none=>rw[sr e,yj e]
 |some o=>rw[ur e,h a o e]
def pQ(n:Nat)(B:(Str->bN->Prop)->WF):pH:=λds qh Q Y=>B Y {nx:=λqk _=>Q .non qk,rt:=λqk d=>Q d qk,bk:=λ_ _=>False,ct:=λ_ _=>False} qh (fU n ds)
def Out.whole(mb:M β=none)(k:Kn K β G1 qh M' ad)(o:Out ⟨K,β,mi H M,G,M⟩ M' G1)(t:aZ β (ov (mi H M) M') G1 H' G'):yE β M M' H G H' G'/\Kn K β G' qh M' ad/\∀d v,Rep (dI ⟨K,β,mi H M,G,M⟩ qh M' G1) G' d v->Rep ⟨K,β,H,G,True⟩ G' d v:=by
 have m:Dm M M':=o.dm;have ap:∀a,M' a≠none->G' a=none:=Out.apart (b:=⟨K,β,mi H M,G,M⟩) k.kin (λa z=>(k.ap a z).1) t;have w:=o.stp k.kin t;have no:∀a u,M a=none->H a=some u->M' a=none:=λa u h1 h2=>by
  cases y:M' a with
  |none=>rfl
  |some x=>
   have:=(o.mb a (by rw[y];simp)).1
   rw[show(⟨K,β,mi H M,G,M⟩:Bo).H0 a=H a from yj h1,h2]at this;cases this
 refine⟨⟨o.gg.trans t.gg,t.gh,λa u n h1 h2=>t.fr a u n ?_,λa u h=>t.fr a u (o.mb a (by rw[h];simp)).2.2 (ur h),λa h=>?_,λa h=>⟨ap a h,(o.mb a h).2.2⟩,λa h=>?_,t.bx,λcc p q d h=>w.bc cc p q d ((yj mb).trans h),m⟩,k.mono t.gg ap,λd v e=>Rep.reb (c:=⟨K,β,H,G,True⟩) (c':=dI ⟨K,β,mi H M,G,M⟩ qh M' G1) rfl rfl (λa ga z=>?_) e⟩
 .rw[sr (no a u h1 h2),yj h1];exact h2
 .have:=(o.mb a h).1
  cases e:M a with
  |some u=>exact .inl (by simp)
  |none=>exact .inr ((yj e).symm.trans this)
 .rcases w.nw a h with z|z|⟨u,z,st⟩
  .exact .inl z
  .cases e:M a with
   |none=>exact .inr (.inl ((yj e).symm.trans z))
   |some u=>exact absurd (ap a (m a (by rw[e];simp))) h
  .cases e:M a with
   |none=>exact .inr (.inr ⟨u,(yj e).symm.trans z,st⟩)
   |some x=>rw[show(⟨K,β,mi H M,G,M⟩:Bo).H0 a=none from zub (by rw[e];simp)]at z;cases z
 .obtain⟨z1,z2⟩:=bM.mp z;cases e:M a with
  |none=>exact(yj e).symm.trans z2
  |some u=>exact absurd z1 (m a (by rw[e];simp))
def Rel.hyp(r:Rel c S Z H G)(q:Q):Rel {c with P:=Q} S Z H G:=
 ⟨r.len,r.stp,λi s e=>by
  have z:=r.slot i s e;cases s with
  |un=>trivial
  |val d=>obtain⟨v,h1,h2⟩:=z;exact⟨v,h1,Rep.reb (c:={c with P:=Q}) (c':=c) rfl rfl (λ_ _ z=>z) h2⟩
  |own xs=>obtain⟨a,vs,h1,h2,h3,h4,h5,h6⟩:=z;exact⟨a,vs,h1,h2,h3,h4,h5,aH.reb (c:={c with P:=Q}) (c':=c) rfl rfl (λ_ _ z=>z) h6⟩
  |dic ks xs=>obtain⟨a,vs,h1,h2,h3,h4,h5,h6,h7⟩:=z;exact⟨a,vs,h1,h2,h3,h4,h5,aH.reb (c:={c with P:=Q}) (c':=c) rfl rfl (λ_ _ z=>z) h6,h7⟩,r.dis,q⟩
def JV(F:bZ K x qual st f fd)
  (hB:∀{cdv:Value}{A:Around}{outer:List PySem.Env}{s:Shared}{H:Hp}{E:XK}{β:Addr}{G M:Hp}(Y:Str->bN->Prop),(∀nm C H' G' qh M' G1,Y nm qh->mg nm=some (.ref C)->(∃ad,Kn K β G1 qh M' ad)->Out ⟨K,β,mi H M,G,M⟩ M' G1->aZ β (ov (mi H M) M') G1 H' G'->E (.ref C) none H')->N.Nodup->bK k (A.deeper (PyProof.Rows.envOfC qual (gF st) s.heap.objs.size f cdv)) ->
   rN (dj (dw P w) P w K mg base N qual (gF st) f cdv A outer s H E) ⟨K,β,mi H M,G,M⟩ (nJ st) (B Y)) (qh:dh N ps (gF st):=by exact⟨rfl,rfl,rfl,by decide +kernel,rfl,by decide +kernel,by decide +kernel⟩):aN P w K mg base (dw P w) (k+1) f fd ps (lB K mg ps.length (pQ N.length B)):=by
 obtain⟨oc,od,kV,doc,pm,an,cdv,ct,osl,rfl,lk,hcd⟩:=F.ex;refine zsp lk hcd qh (λvs H Q E ⟨β,G,qh,M,ad,ds,_,_,_,_,_,h,_⟩=>h) λA outer s H vs Q E hr ⟨β,G,So,M,ad,ds,gh,bx,mh,kn,hv,hl,P',qg,q,hP,hZ⟩=>?_;have mb:M β=none:=by
  cases e:M β with
  |none=>rfl
  |some u=>exact absurd rfl (kn.ap β (by rw[e];simp)).2
 have h:=@hB cdv A outer s H E β G M qg (λnm C H' G' qh M' G1 z hm ⟨ad',k'⟩ o' t=>by
  obtain⟨e1,e2,_⟩:=Out.whole mb k' o' t;exact hZ nm qh z C H' G' M' ad' hm e1 e2) qh.nd hr
 have r0:dg ⟨K,β,mi H M,G,M⟩ So M (fU N.length ds) (L2.ni N vs) H G:=by
  refine⟨G,⟨λa z=>⟨zub z,(kn.ap a z).1,(kn.ap a z).2⟩,Same.refl _,λa z=>.inl z,λa o z=>(yj (by
   cases y:M a with
   |none=>rfl
   |some u=>exact absurd ((kn.ap a (by rw[y];simp)).1.symm.trans z) (by simp))).trans (gh a o z),Dm.refl M⟩,?_⟩
  have h0:=Jm (N:=N) gh bx hv;unfold dI;rw[show ov (Bo.H0 ⟨K,β,mi H M,G,M⟩) M=H from zvY mh];exact h0.hyp ⟨ad,kn⟩
 refine⟨_,h.pss,fU N.length ds,G,So,M,r0,h.mono {nx:=λqk _=>P' .non qk,rt:=λqk d=>P' d qk,bk:=λ_ _=>False,ct:=λ_ _=>False} _ So _ ⟨λqk S z Z H' G' M' ⟨G1,o',r'⟩ s' m=>?_,λqk d z v H' G' M' G1 ⟨ad',k'⟩ o' t m e=>?_,λqh S z=>z.elim,λqh S z=>z.elim⟩ q⟩
 .obtain⟨ad',k'⟩:=r'.kn;obtain⟨e1,e2,_⟩:=Out.whole mb k' o' r'.stp;exact hP _ _ z .non H' G' M' ad' e1 e2 rfl
 .obtain⟨e1,e2,e3⟩:=Out.whole mb k' o' t;exact hP _ _ z v H' G' M' ad' e1 e2 (e3 d v e)
end Fd
namespace L2
open PySem PySem.Spec PyProof.Rows PySem.W
section
variable{P:Program}{w:World}{K:qo}{mg:Str->Option Value}{base:Heap}{N:List Str}{qual:Str}{scope:Scope}{f:Addr}{cd:Value}{A:Around}{outer:List Env}{s0:Shared}{H0:Hp}{E E1:XK}
def zve(hE:∀C H',E1 (.ref C) none H'->E (.ref C) none H'):nF (dw P w) (dj (dw P w) P w K mg base N qual scope f cd A outer s0 H0 E) E1:=by
 rintro aa Z H s _ s' I ⟨ea,C,H',rfl,N',e1⟩;have nex:∀{b:Addr},b∉([]:List Addr):=λz=>nomatch z;have neL:∀{b o},s0.heap.get? b=some o->b≠s0.heap.objs.size:=λe=>fX (dB e);have sub:∀{b},b∉frs outer->b≠s0.heap.objs.size->b∉frs (dj (dw P w) P w K mg base N qual scope f cd A outer s0 H0 E).stack:=λh1 h2 h3=>(iU.mp (I.stkSub _ h3)).elim h2 h1;obtain⟨B,fl,hB⟩:=id N'.fly;have frx:∀b∈frs (dj (dw P w) P w K mg base N qual scope f cd A outer s0 H0 E).stack,∃o,s.heap.get? b=some o:=λb hb=>by
  obtain⟨_,o,ho,_⟩:=I.stack.mem hb;exact⟨o,ho⟩
 refine zpK I.ok.frames rfl fl λh' fl' sm=>?_;have on:=N'.on hB fl.2.2.1 I.stkFree fl'.1 sm frx;have I':Inv (dj (dw P w) P w K mg base N qual scope f cd A outer s0 H0 E) aa Z H' {s' with heap:=h'}:=I.call' (s':={s' with heap:=h'}) N'.os on.1 on.2 N'.bare λb z=>nomatch z;refine⟨ea,C,H',rfl,⟨I'.os,I'.bare,I'.base,I'.hok,B,fl',λb o q hb nf=>?_⟩,hE C H' e1⟩;rcases hb with⟨u,hu⟩|⟨u,hu⟩
 .obtain⟨v,hv⟩:=(N'.hok b u hu).ex;have nb:b∉frs (dj (dw P w) P w K mg base N qual scope f cd A outer s0 H0 E).stack:=λz=>by rw[I'.stkFree b z]at hu;cases hu
  have z:=hB b v hv (.inl ⟨u,hu⟩) nb
  have:=fl'.1 b v z
  rw[this]at q;cases q;exact z
 .obtain⟨o1,q1⟩:=I.base.there b u hu nex;obtain⟨o2,q2⟩:=N'.un.there b o1 q1 nex;have z:=hB b o2 q2 (.inr ⟨o1,q1⟩) (sub nf (neL hu))
  have:=fl'.1 b o2 z
  rw[this]at q;cases q;exact z
end
end L2
namespace Fd
open PySem L2
def pq(b:Bo)(qh:bN)(M:Hp)(S:Env)(Z:St)(H G:Hp)(d:D)(v:V):Prop:=∃G1,Out b M G1/\Rel (dI b qh M G1) S Z H G/\Rep (dI b qh M G1) G d v
def lY(b:Bo)(qh:bN)(M:Hp)(S:Env)(Z:St)(H G:Hp)(ds:List D)(vs:List V):Prop:=∃G1,Out b M G1/\Rel (dI b qh M G1) S Z H G/\aH (dI b qh M G1) G ds vs
abbrev WOE:=Env->bN->(D->bN->Prop)->Prop
abbrev WOA:=Env->bN->(List D->bN->Prop)->Prop
def uT{α:Type}(W:Env->bN->(α->bN->Prop)->Prop):Prop:=∀ S qh Q Q',(∀d qk,Q d qk->Q' d qk)->W S qh Q->W S qh Q'
def Jy(b:Bo)(W:WOE):TE:=λZ H Q=>∃ S G qh M,dg b qh M S Z H G/\W S qh λd qk=>∀v H' G' M',pq b qk M' S Z H' G' d v->Same G G'->Dm M M'->Q v H'
def tOA(b:Bo)(W:WOA):TA:=λZ H Q=>∃ S G qh M,dg b qh M S Z H G/\W S qh λds qk=>∀vs H' G' M',lY b qk M' S Z H' G' ds vs->Same G G'->Dm M M'->Q vs H'
structure OE(X:Cx)(b:Bo)(e:Expr)(W:WOE):Prop where
 mono:uT W
 pe:PE X e (Jy b W)
structure OA(X:Cx)(b:Bo)(es:List Expr)(W:WOA):Prop where
 mono:uT W
 pa:PA X es (tOA b W)
def pq.rel(r:pq b qh M S Z H G d v):dg b qh M S Z H G:=let⟨G1,o,r1,_⟩:=r;⟨G1,o,r1⟩
def lY.rel(r:lY b qh M S Z H G ds vs):dg b qh M S Z H G:=let⟨G1,o,r1,_⟩:=r;⟨G1,o,r1⟩
section
variable{X:Cx}{b:Bo}{e e1:Expr}{es:List Expr}{pos p:Pos}
def zpi{A:bN->WE}(h:∀qh M G1,DE X (dI b qh M G1) e (A qh)):OE X b e (λS qh Q=>A qh S λd=>Q d qh)where
 mono:=λS qh Q Q' l q=>(h qh (λ_=>none) (λ_=>none)).mono S _ _ (λd z=>l d qh z) q
 pe:=λaa s Z H Q I ⟨S,G,qh,M,⟨G1,o,r⟩,q⟩=>(h qh M G1).pe aa s Z H Q I ⟨S,G,r,(h qh M G1).mono S _ _ (λd z v H' G' t e=>z v H' G' M ⟨G1,o,r.step t,e⟩ t.gg (Dm.refl M)) q⟩
abbrev jN:WOA:=λS qh Q=>Q [] qh
abbrev mX(A:WOE)(B:WOA):WOA:=λS qh Q=>A S qh λd S1=>B S S1 λds qj=>Q (d::ds) qj
def zol(h:PA X es t)(k:∀ Z H Q,t' Z H Q->t Z H Q):PA X es t':=λpos aa s Z H Q I q=>h pos aa s Z H Q I (k Z H Q q)
def wO:OA X b [] jN:=⟨λS qh Q Q' l q=>l _ qh q,zol jW λZ H Q ⟨S,G,qh,M,⟨G1,o,r⟩,q⟩=>q [] H G M ⟨G1,o,r,rfl⟩ (Same.refl _) (Dm.refl M)⟩
def qw(hA:OE X b e A)(hB:OA X b es B)(hs:starEach (e::es) X.env=(false,eval e X.env)::starEach es X.env:=by rfl):OA X b (e::es) (mX A B)where
 mono:=λS qh Q Q' l q=>hA.mono S qh _ _ (λd S1 z=>hB.mono S S1 _ _ (λds qj y=>l _ qj y) z) q
 pa:=zol (iI hA.pe hB.pa hs) λZ H Q ⟨S,G,qh,M,r,q⟩=>⟨S,G,qh,M,r,hA.mono S qh _ _ (λd S1 z v H1 G1 M1 r1 s1 m1=>⟨S,G1,S1,M1,r1.rel,hB.mono S S1 _ _ (λds qj y vs H2 G2 M2 r2 s2 m2=>by
   obtain⟨Ga,o,ra,ea⟩:=r1;obtain⟨Gb,o',rb,eb⟩:=r2;exact y (v::vs) H2 G2 M2 ⟨Gb,o',rb,v,vs,rfl,ea.carry s2 rb.apart,eb⟩ (s1.trans s2) (m1.trans m2)) z⟩) q⟩
def dg.called(r:dg b qh M S Z H G)(e:yE b.β M M' H G H' G')(k:Kn b.K b.β G' qk M' ad')(z:Rep ⟨b.K,b.β,H,G,True⟩ G' d v):pq b qk M' S Z H' G' d v:=by
 obtain⟨G1,o,r1⟩:=r;refine⟨G',o.eff r1 e,r1.eff (λa z=>⟨(o.mb a z).1,(o.mb a z).2.2⟩) e ⟨ad',k⟩,Rep.reb (c:=dI b qk M' G') (c':=⟨b.K,b.β,H,G,True⟩) rfl rfl (λa ga h=>?_) z⟩
 have:=bM.mp (show ov b.H0 M a=none from r1.new0 h)
 refine bM.mpr ⟨?_,this.2⟩;cases y:M' a with
 |none=>rfl
 |some u=>exact absurd (e.mg a (by rw[y];simp)).1 ga
def dg.give(hK:b.K=K)(r:lY b qh M S Z H G ds vs)(hn:ds.length=n)
  (q:zB F ds qh (λd qk=>∀v H' G' M',pq b qk M' S Z H' G' d v->Same G G'->Dm M M'->Q v H') λnm qk=>∀C H' G' M',mg nm=some (.ref C)->dg b qk M' S Z H' G'->Same G G'->Dm M M'->E1 (.ref C) none H'):lB K mg n F vs H Q E1:=by
 subst hK;have rl:=r.rel;obtain⟨G1,o,r1,e⟩:=r;obtain⟨ad,k⟩:=r1.kn;refine⟨b.β,G,qh,M,ad,ds,r1.gh,r1.bx,λa u h=>r1.stp.fr a u (o.mb a (by rw[h];simp)).2.2 (ur h),k.mono r1.stp.gg r1.apart,aH.back (c':=dI b qh M G1) (c:=lw b.K b.β G) rfl rfl (λ_ _=>rfl) e,by rw[<-e.length];exact hn,zV F (λd qk z v H' G' M' ad' ef k' e'=>z v H' G' M' (rl.called ef k' e') ef.gg ef.dm) (λnm qk z C H' G' M' ad' hm ef k'=>z C H' G' M' hm (rl.called (d:=.non) (v:=.non) ef k' rfl).rel ef.gg ef.dm) q⟩
end
structure Met(P:Program)(w:World)(K:qo)(mg:Str->Option Value)(base:Heap)(CX:mO)(C:Addr)(m:Str)(k:Nat)(ps:List Str)(sp:Sp):Prop where
 ex:∃f fd,aN P w K mg base CX k f fd ps sp/\pK K C/\Meth K C m f/\Binds K fd ps []
def XO(b:Bo)(mg:Str->Option Value)(y:Str->bN->Prop):XK:=λv _ H'=>∃nm C qk M' S Z G',v=.ref C/\y nm qk/\mg nm=some (.ref C)/\dg b qk M' S Z H' G'
theorem zfJ{m:Str}:∀{fs:List (Str×List D)}{as:List Addr},(∀x∈fs,x.1≠m)->(j5 fs as).lookup m=none
 |[],_,_=>rfl
 |_::_,[],_=>rfl
 |x::fs,a::as,h=>by
  show((x.1,V.ref a)::j5 fs as).lookup m=none;rw[YAS]
  have:(m==x.1)=false:=by
   rw[YAW];exact YAM (h x (by simp))
  rw[this];exact zfJ λy hy=>h y (by simp[hy])
section
variable{X:Cx}{b:Bo}{e:Expr}{es:List Expr}{pos p apos:Pos}{y:Str->bN->Prop}
abbrev xr(n:Nat)(F:pH)(y:Str->bN->Prop)(R:WOA):WOE:=λS qh Q=>R S qh λds S1=>ds.length=n/\zB F ds S1 Q y
def zfU(h:uT R):uT (xr n F y R):=λS qh Q Q' l q=>h S qh _ _ (λds S1 z=>⟨z.1,zV F l (λ_ _ w=>w) z.2⟩) q
def zkF(C:iC X.prog X.w X.K X.mg X.base x k ps (lB X.K X.mg n F))(hR:OA X b (e::es) R)(hx:nF (dw X.prog X.w) X (XO b X.mg y))(hg:Gl X x:=by rfl)
  (hdb:(x==("__debug__":Str))=false:=by decide) (sk:Sk X e es pos:=by exact⟨rfl,rfl⟩) (hK:b.K=X.K:=by rfl) (hr:bK k X.A:=by decreasing_trivial) :
  OE X b (.Call (.Name x p) (e::es) [] pos) (xr n F y R)where
 mono:=zfU hR.mono
 pe:=by
  obtain⟨f,fd,FO,hm,hk,hb⟩:=C.ex;refine dM (wZ FO hr hg hm hk hb .nil hx hR.pa hdb sk.1 sk.2) λZ H Q ⟨S,G,qh,M,r,q⟩=>⟨S,G,qh,M,r,hR.mono S qh _ _ (λds S1 z vs H' G' M' r' s' m'=>?_) q⟩;show lB X.K X.mg n F (vs++[]) H' Q _;rw[YAK];exact dg.give hK r' z.1 (zV F (λd qk w v H2 G2 M2 r2 s2 m2=>w v H2 G2 M2 r2 (s'.trans s2) (m'.trans m2)) (λnm qk w C H2 G2 M2 hc r2 s2 m2=>⟨nm,C,qk,M2,S,Z,G2,rfl,w,hc,r2⟩) z.2)
abbrev uV(i:Nat)(C:Addr)(m:Str)(n:Nat)(F:pH)(y:Str->bN->Prop)(R:WOA):WOE:=λS qh Q=>match S[i]? with
 |some (.val (.obj a))=>(∃o,qh a=some o/\o.C=C/\∀x∈o.fs,x.1≠m)/\R S qh λds S1=>ds.length+1=n/\zB F (.obj a::ds) S1 Q y
 |_=>False
def znj(h:uT R):uT (uV i C m n F y R):=λS qh Q Q' l q=>by
 unfold uV at q ⊢;split at q
 .exact⟨q.1,h S qh _ _ (λds S1 z=>⟨z.1,zV F l (λ_ _ w=>w) z.2⟩) q.2⟩
 .exact q.elim
def dg.at{qh:bN}{M H G:Hp}{S:Env}{Z:St}{a:Addr}{o:Ob}(r:dg b qh M S Z H G)(h:qh a=some o):∃dx as,H a=some (.ins o.C dx (j5 o.fs as)):=by
 obtain⟨G1,u,r1⟩:=r;obtain⟨ad,k⟩:=r1.kn;obtain⟨dx,h1,_⟩:=k.obj a o h;exact⟨dx,ad a,r1.stp.fr a _ (u.mb a (by rw[h1];simp)).2.2 (ur h1)⟩
def zm9{qh:bN}{M G:Hp}{S:Env}{Z:St}{H:Hp}{Q:VK}{i:Nat}{C:Addr}{m:Str}{n:Nat}{F:pH}{R:WOA}{E:XK}{t:TA}{x:Str}(hK:b.K=X.K)(hR:uT R)(r:dg b qh M S Z H G)(q:uV i C m n F y R S qh λd qk=>∀v H' G' M',pq b qk M' S Z H' G' d v->Same G G'->Dm M M'->Q v H')(hE:∀nm C qk M' H' G',y nm qk->X.mg nm=some (.ref C)->dg b qk M' S Z H' G'->Same G G'->Dm M M'->E (.ref C) none H')(ht:∀ Z H Q,tOA b R Z H Q->t Z H Q) :
  Jq C m (lB X.K X.mg n F) [] E (Jy b (λS qh Q=>vW i S λd=>Q d qh)) t Z H Q:=by
 unfold uV at q;split at q
 .rename_i a ea
  obtain⟨⟨o,h1,h2,h3⟩,q⟩:=q;refine⟨S,G,qh,M,r,?_⟩;show vW i S _;unfold vW;rw[ea];intro v H1 G1 M1 r1 s1 m1;obtain⟨dx,as,h4⟩:=r1.rel.at h1;obtain⟨Ga,oa,ra,e⟩:=r1;have ev:v=V.ref a:=e;subst ev;rw[h2]at h4;refine⟨a,dx,j5 o.fs as,rfl,h4,zfJ h3,ht _ _ _ ⟨S,G1,qh,M1,⟨Ga,oa,ra⟩,hR S qh _ _ (λds S1 z vs H' G' M' r' s' m'=>?_) q⟩⟩;show lB X.K X.mg n F (V.ref a::(vs++[])) H' Q _;rw[YAK];have r2:lY b S1 M' S Z H' G' (.obj a::ds) (V.ref a::vs):=by
   obtain⟨Gb,ob,rb,eb⟩:=r';exact⟨Gb,ob,rb,V.ref a,vs,rfl,rfl,eb⟩
  exact dg.give hK r2 z.1 (zV F (λd qk w v H2 G2 M2 r2 s2 m2=>w v H2 G2 M2 r2 ((s1.trans s').trans s2) ((m1.trans m').trans m2)) (λnm qk w C H2 G2 M2 hc r2 s2 m2=>hE nm C qk M2 H2 G2 w hc r2 ((s1.trans s').trans s2) ((m1.trans m').trans m2)) z.2)
 .exact q.elim
def zno{Z:St}{H:Hp}{Q:VK}{i:Nat}{C:Addr}{m:Str}{n:Nat}{F:pH}{R:WOA}{sp:Sp}{E:XK}{t:TA}{x:Str}(hK:b.K=X.K)(hsp:sp=lB X.K X.mg n F)(hE:E=XO b X.mg y)(hR:uT R)(hv:∀qh M G1,DE X (dI b qh M G1) (.Name x p) (vW i))(q:Jy b (uV i C m n F y R) Z H Q)(ht:∀ Z H Q,tOA b R Z H Q->t Z H Q) :
  Jq C m sp [] E (Jy b (λS qh Q=>vW i S λd=>Q d qh)) t Z H Q:=by
 subst hsp hE;obtain⟨S,G,qh,M,r,q⟩:=q;exact zm9 (X:=X) (x:=x) hK hR r q (λnm C qk M' H' G' w hc r2 _ _=>⟨nm,C,qk,M',S,Z,G',rfl,w,hc,r2⟩) ht
def zrN(T:Met X.prog X.w X.K X.mg X.base (dw X.prog X.w) C m k ps (lB X.K X.mg n F))(hv:∀qh M G1,DE X (dI b qh M G1) (.Name x p) (vW i))(hR:OA X b (e::es) R)(hx:nF (dw X.prog X.w) X (XO b X.mg y))
  (sk:Sk X e es pos:=by exact⟨rfl,rfl⟩)
  (ht:eval (.Call (.Attribute (.Name x p) m apos) (e::es) [] pos) X.env=(do
   let ov <-eval (.Name x p) X.env
   standAt apos.atName
   let(f,first) <-holding [ov] (getMethod ov m pl)
   callWith pos f first (backTo pos (starEach (e::es) X.env)) (backToKw pos (keywordEach [] X.env))):=by rfl) (hK:b.K=X.K:=by rfl) (hr:bK k X.A:=by decreasing_trivial) :
  OE X b (.Call (.Attribute (.Name x p) m apos) (e::es) [] pos) (uV i C m n F y R)where
 mono:=znj hR.mono
 pe:=by
  obtain⟨f,fd,FO,hc,hm,hb⟩:=T.ex;exact dM (ztr (zpi (A:=λ_=>vW i) hv).pe hc hm FO hr hb .nil hx hR.pa sk.1 sk.2 ht) λZ H Q q=>zno hK rfl rfl hR.mono hv q λ_ _ _ z=>z
abbrev zuM(A:WOE):WF:=λE qh S=>A S qh λ_ qk=>E.nx qk S
def zta(hA:OE X b e A)(hs:swapsWith e none pos.line X.env=pure false:=by rfl):OS X b (.Expr e pos) (zuM A)where
 mono:=λE E' qh S l q=>hA.mono S qh _ _ (λ_ qk z=>l.nx qk S z) q
 ps:=kY (Jg hA.pe hs) λD Z H ⟨S,G,qh,M,r,q⟩=>⟨S,G,qh,M,r,hA.mono S qh _ _ (λd qk z v H' G' M' r' s' m'=>z Z H' G' M' r'.rel s' m') q⟩
abbrev JM(A:WOE):WF:=λE qh S=>A S qh λd qk=>E.rt qk d
def ztW(hA:OE X b e A):OS X b (.Return (some e) pos) (JM A)where
 mono:=λE E' qh S l q=>hA.mono S qh _ _ (λd qk z=>l.rt qk d z) q
 ps:=kY (yJ hA.pe) λD Z H ⟨S,G,qh,M,r,q⟩=>⟨S,G,qh,M,r,hA.mono S qh _ _ (λd qk z v H' G' M' ⟨G1,o,r',e⟩ s' m'=>z v H' G' M' G1 r'.kn o r'.stp m' e) q⟩
abbrev sW(t:Tg)(A:WOE):WF:=λE qh S=>A S qh λd qk=>gD t d S (E.nx qk)
def zpc(h:uT A):zqX (sW t A):=λE E' qh S l q=>h S qh _ _ (λd qk z=>t7 t d S (λS' z=>l.nx qk S' z) z) q
def znI(mA:uT A)(D:Ends)(Z:St)(H:Hp)(h:tOS b (sW t A) D Z H):tX (Jy b A) (lN b.K t) D Z H:=by
 obtain⟨S,G,qh,M,r,q⟩:=h;refine⟨S,G,qh,M,r,mA S qh _ _ (λd qk z v H' G' M' ⟨G1,o,r',e⟩ s' m'=>?_) q⟩;exact Df (c:=dI b qk M' G1) t d v S Z r' e (t7 t d S (λS' w Z' r2=>w Z' H' G' M' ⟨G1,o,r2⟩ s' m') z)
def zpA(i:Nat)(hA:OE X b e A)(hi:X.N[i]?=some x:=by rfl)(hx:Loc X.env.scope x:=by first|exact Or.inl rfl|exact Or.inr rfl)(hs:swapsWith e (some (.Name x p)) pos.line X.env=pure false:=by rfl)(hf:X.fn x=true\/X.env.scope.names.lookup x=some .local:=by first|exact .inl rfl|exact .inr rfl|assumption)(hN:X.N.Nodup:=by decreasing_trivial):OS X b (.Assign [.Name x p] e pos) (sW (.nm i) A):=
 ⟨zpc hA.mono,kY (uB hN hi hx hA.pe hs hf) λD Z H h=>znI (t:=.nm i) hA.mono D Z H h⟩
end
theorem zpe :∀{fs:List (Str×List D)}{as:List Addr}{j:Nat}{xs:List D},fs[j]?=some (f,xs)->j5 (fs.set j (f,ys)) as=j5 fs as
 |[],_,_,_,h=>by simp at h
 |_::_,[],0,_,_=>rfl
 |_::_,[],_+1,_,_=>rfl
 |x::fs,a::as,0,xs,h=>by
  have:x=(f,xs):=by simpa using h
  subst this;rfl
 |x::fs,a::as,j+1,xs,h=>by
  show(x.1,V.ref a)::j5 (fs.set j (f,ys)) as=(x.1,V.ref a)::j5 fs as;rw[zpe (by simpa using h)]
theorem zmv:∀{fs:List (Str×List D)}{as:List Addr}{j:Nat}{xs:List D},(∀i y,i<j->fs[i]?=some y->y.1≠f)->fs[j]?=some (f,xs)->as.length=fs.length->∃a,as[j]?=some a/\(j5 fs as).lookup f=some (.ref a)
 |[],_,_,_,_,h,_=>by simp at h
 |_::_,[],_,_,_,_,h=>by simp at h
 |x::fs,a::as,0,xs,_,h,_=>by
  have:x=(f,xs):=by simpa using h
  subst this;exact⟨a,rfl,by show((f,V.ref a)::j5 fs as).lookup f=_;simp⟩
 |x::fs,a::as,j+1,xs,hn,h,hl=>by
  obtain⟨b,h1,h2⟩:=zmv (fs:=fs) (as:=as) (j:=j) (λi y hi e=>hn (i+1) y (by omega) (by simpa using e)) (by simpa using h) (by simpa using hl);refine⟨b,by simpa using h1,?_⟩;show((x.1,V.ref a)::j5 fs as).lookup f=_;rw[YAS]
  have:(f==x.1)=false:=by rw[YAW];exact YAM (hn 0 x (by omega) rfl)
  rw[this];exact h2
def sU(o:Ob)(j:Nat)(f:Str)(ys:List D):Ob:=⟨o.C,o.fs.set j (f,ys)⟩
section
variable{b:Bo}
def wD(o:Ob)(f:Str)(j:Nat)(xs:List D):Prop:=o.fs[j]?=some (f,xs)/\∀i y,i<j->o.fs[i]?=some y->y.1≠f
def Kn.at(k:Kn K β G qh M ad)(h:qh p=some o)(hf:wD o f j xs):∃dx a vs,M p=some (.ins o.C dx (j5 o.fs (ad p)))/\(j5 o.fs (ad p)).lookup f=some (.ref a)/\(ad p)[j]?=some a/\M a=some (.lst vs)/\aH (lw K β G) G xs vs:=by
 obtain⟨dx,h1,h2⟩:=k.obj p o h;obtain⟨a,h3,h4⟩:=zmv hf.2 hf.1 h2;obtain⟨vs,h5,h6⟩:=k.lst p o j a _ h h3 hf.1;exact⟨dx,a,vs,h1,h4,h3,h5,h6⟩
def Kn.put(k:Kn K β G qh M ad)(h:qh p=some o)(hf:wD o f j xs)(ha:(ad p)[j]?=some a)(hm:M a=some (.lst vs))(hy:aH (lw K β G) G ys ws):Kn K β G (jk qh p (sU o j f ys)) (upd M a (.lst ws)) ad:=by
 have ins:∀q u,qh q=some u->q≠a:=λq u hq z=>by
  obtain⟨dx,h1,_⟩:=k.obj q u hq;rw[z,hm]at h1;cases h1
 have some':∀q,jk qh p (sU o j f ys) q≠none->qh q≠none:=λq hq z=>by
  by_cases e:q=p
  .subst e;rw[h]at z;cases z
  .rw[tM e]at hq;exact hq z
 refine⟨λq u hq=>?_,λq u i c x hq hc hx=>?_,λq r i l c hq hr=>k.dis q r i l c (some' q hq) (some' r hr),λc u hc=>?_,λc hc=>?_⟩
 .by_cases e:q=p
  .subst e;rw[qC]at hq;cases hq;obtain⟨dx,h1,h2⟩:=k.obj q o h;exact⟨dx,by rw[au (ins q o h)];show M q=some (.ins o.C dx (j5 (o.fs.set j (f,ys)) (ad q)));rw[zpe hf.1];exact h1,by show(ad q).length=(o.fs.set j (f,ys)).length;rw[Io];exact h2⟩
  .rw[tM e]at hq;obtain⟨dx,h1,h2⟩:=k.obj q u hq;exact⟨dx,by rw[au (ins q u hq)];exact h1,h2⟩
 .by_cases e:q=p
  .subst e;rw[qC]at hq;cases hq;by_cases ij:i=j
   .subst ij;rw[ha]at hc;cases hc;have hx':(o.fs.set i (f,ys))[i]?=some x:=hx;rw[jL (jC.mp hf.1).1]at hx';cases hx';exact⟨ws,cJ,hy⟩
   .have hx':(o.fs.set j (f,ys))[i]?=some x:=hx;rw[jG (YAM ij)]at hx';obtain⟨us,h1,h2⟩:=k.lst q o i c x h hc hx'
    have:c≠a:=λz=>ij (k.dis q q i j c (by rw[h];simp) (by rw[h];simp) hc (z▸ha)).2
    exact⟨us,by rw[au this];exact h1,h2⟩
  .rw[tM e]at hq;obtain⟨us,h1,h2⟩:=k.lst q u i c x hq hc hx
   have:c≠a:=λz=>e (k.dis q p i j c (by rw[hq];simp) (by rw[h];simp) hc (z▸ha)).1
   exact⟨us,by rw[au this];exact h1,h2⟩
 .by_cases e:c=a
  .subst e;rw[cJ]at hc;cases hc;exact λz=>z
  .rw[au e]at hc;exact k.kin c u hc
 .by_cases e:c=a
  .subst e;exact k.ap c (by rw[hm];simp)
  .rw[au e]at hc;exact k.ap c hc
def dg.put'(u:Out b M G1)(r:Rel (dI b qh M G1) S Z H G)(k:Kn b.K b.β G1 qh M ad)(h:qh p=some o)(hf:wD o f j xs)(ha:(ad p)[j]?=some a)(hm:M a=some (.lst vs))(hy:aH (lw b.K b.β G) G ys ws):Out b (upd M a (.lst ws)) G/\Rel (dI b (jk qh p (sU o j f ys)) (upd M a (.lst ws)) G) S Z (upd H a (.lst ws)) G/\Kn b.K b.β G (jk qh p (sU o j f ys)) (upd M a (.lst ws)) ad/\Dm M (upd M a (.lst ws)):=by
 have ma:M a≠none:=by rw[hm];simp
 have ab:=(u.mb a ma).2.2;have hH:∀c w,M c=some w->H c=some w:=λc w hc=>r.stp.fr c w (u.mb c (by rw[hc];simp)).2.2 (ur hc);have dom:∀c,upd M a (.lst ws) c≠none->M c≠none:=λc hc=>by
  by_cases e:c=a
  .subst e;exact ma
  .rw[au e]at hc;exact hc
 have dm:Dm M (upd M a (.lst ws)):=λc hc=>by
  by_cases e:c=a
  .subst e;rw[cJ];simp
  .rw[au e];exact hc
 have ef:yE b.β M (upd M a (.lst ws)) H G (upd H a (.lst ws)) G:=by
  refine⟨Same.refl _,λc w hc=>?_,λc w n hc hw=>?_,λc w hc=>?_,λc hc=>.inl (dom c hc),λc hc=>⟨r.apart c (dom c hc),(u.mb c (dom c hc)).2.2⟩,λc hc=>.inl hc,?_,λcc q s d hb=>⟨q,s,d,by rw[au (YAM ab)];exact hb⟩,dm⟩
  .rw[au (λz=>by rw[z,r.apart a ma]at hc;cases hc)];exact r.gh c w hc
  .rw[au (λz=>by rw[z]at hc;exact ma hc)];exact hw
  .by_cases e:c=a
   .subst e;rw[cJ]at hc ⊢;exact hc
   .rw[au e]at hc ⊢;exact hH c w hc
  .obtain⟨cc,q,s,d,ns,hb,z⟩:=r.bx.ex;exact⟨⟨cc,q,s,d,ns,by rw[au (YAM ab)];exact hb,z⟩,r.bx.still⟩
 have k':=(k.mono r.stp.gg r.apart).put h hf ha hm hy;exact⟨u.eff r ef,r.eff (λc hc=>⟨(u.mb c hc).1,(u.mb c hc).2.2⟩) ef ⟨ad,k'⟩,k',dm⟩
def dg.put(u:Out b M G1)(r:Rel (dI b qh M G1) S Z H G)(k:Kn b.K b.β G1 qh M ad)(h:qh p=some o)(hf:wD o f j xs)(ha:(ad p)[j]?=some a)(hm:M a=some (.lst vs))(hy:aH (lw b.K b.β G) G ys ws):dg b (jk qh p (sU o j f ys)) (upd M a (.lst ws)) S Z (upd H a (.lst ws)) G/\Dm M (upd M a (.lst ws)):=
 let⟨h1,h2,_,h4⟩:=dg.put' u r k h hf ha hm hy
 ⟨⟨G,h1,h2⟩,h4⟩
end
section
variable{X:Cx}{b:Bo}{c:Bk}{e:Expr}{pos p fpos apos cpos:Pos}
def zrt(h:aH (lw K β G) G ds vs)(s:Same G G'):aH (lw K β G') G' ds vs:=aH.back (c':=lw K β G) (c:=lw K β G') rfl rfl (λ_ e=>e) (h.mono s)
def j9(i:Nat)(f:Str)(C:Addr)(A:bN->WE):WF:=λE qh S=>match S[i]? with
 |some (.val (.obj q))=>∃o j xs,qh q=some o/\o.C=C/\wD o f j xs/\A qh S λd=>xs.length<100000/\E.nx (jk qh q (sU o j f (xs++[d.old]))) S
 |_=>False
def zrR(i:Nat)(hA:∀qh M G1,DE X (dI b qh M G1) e (A qh))(hc:pK X.K C)(hn:dJ X.K C f)(nk:Nk X i x:=by decreasing_trivial)
  (hb0:attributeBase (.Name x p) f X.env (eval (.Name x p) X.env)=eval (.Name x p) X.env:=by rfl)
  (hbase:attributeBase (.Attribute (.Name x p) f fpos) "append" X.env (eval (.Attribute (.Name x p) f fpos) X.env)=eval (.Attribute (.Name x p) f fpos) X.env:=by rfl)
  (hfew:((backTo cpos (starEach [e] X.env)).all (λx=>!x.1)&&(backToKw cpos (keywordEach [] X.env)).all (λx=>x.1.isSome)
   && decide (([e]:List Expr).length+([]:List Keyword).length+(if ([]:List Keyword).isEmpty then 0 else 1)<30))=true:=by rfl)
  (hline:(apos.endLine==cpos.line)=true:=by rfl) (hs:starEach [e] X.env=(false,eval e X.env)::starEach [] X.env:=by rfl)
  (hsw:swapsWith (.Call (.Attribute (.Attribute (.Name x p) f fpos) "append" apos) [e] [] cpos) none pos.line X.env=pure false:=by rfl) (hK:b.K=X.K:=by rfl):OS X b (.Expr (.Call (.Attribute (.Attribute (.Name x p) f fpos) "append" apos) [e] [] cpos) pos) (j9 i f C A)where
 mono:=λE E' qh S l q=>by
  unfold j9 at q ⊢;split at q
  .obtain⟨o,j,xs,h1,h2,h3,q⟩:=q;exact⟨o,j,xs,h1,h2,h3,(hA qh (λ_=>none) (λ_=>none)).mono S _ _ (λd z=>⟨z.1,l.nx _ _ z.2⟩) q⟩
  .exact q.elim
 ps:=λaa s Z H D I ⟨S,G,qh,M,⟨G1,u,r⟩,q⟩=>Jg (Jr YBO YB3 YB4 zfB (zoT (kO nk.N nk.v nk.d nk.c) hb0) (iI (hA qh M G1).pe jW hs) hbase hfew hline hs rfl) hsw aa s Z H D I (by
  unfold j9 at q;split at q
  .rename_i a0 ei
   obtain⟨o,j,xs,h1,h2,h3,q⟩:=q;obtain⟨ad,k⟩:=r.kn;obtain⟨dx,a,vs,k1,k2,k3,k4,k5⟩:=k.at h1 h3;obtain⟨v,ev,rv⟩:=r.slot i _ ei;have rv':v=V.ref a0:=rv;subst rv';have hM:∀c w,M c=some w->H c=some w:=λc w hc=>r.stp.fr c w (u.mb c (by rw[hc];simp)).2.2 (ur hc);refine⟨.ref a0,ev,a0,o.C,dx,_,.ref a,rfl,hM _ _ k1,h2▸hc,h2▸hn,k2,.inl ⟨rfl,vs,cz.of (hM _ _ k4)⟩,S,G,r,(hA qh M G1).mono S _ _ (λd z w H' G' t e=>?_) q⟩;have r':=r.step t;have ab:=(u.mb a (by rw[k4];simp)).2.2;have hy:aH (lw b.K b.β G') G' (xs++[d.old]) (vs++[w]):=(zrt k5 r'.stp.gg).append (.one (Rep.hand (c:=dI b qh M G1) (c':=lw b.K b.β G') rfl rfl e));obtain⟨r2,dm⟩:=dg.put u r' k h1 h3 k3 k4 hy;exact⟨a,vs,w,rfl,rfl,t.fr a _ ab (hM _ _ k4),by rw[<-k5.length,nO];have:=z.1;omega,z.2 Z _ G' _ r2 t.gg dm⟩
  .exact q.elim)
def xZ(qh:bN)(i:Nat)(f:Str)(C:Addr)(B:WE):WE:=λS Q=>match S[i]? with
 |some (.val (.obj q))=>∃o j xs,qh q=some o/\o.C=C/\wD o f j xs/\B S λy=>Bf xs y λd=>Q d.old
 |_=>False
def wu(c:Bk)(qh:bN):Prop:=∃M ad,Kn c.K c.β c.G0 qh M ad/\∀a o,M a=some o->c.H0 a=some o
def zrz(h:(dI b qh M G1).P):wu (dI b qh M G1) qh:=let⟨ad,k⟩:=h;⟨M,ad,k,λ_ _ e=>ur e⟩
def Rel.obj(r:Rel c S Z H G)(kw:wu c qh)(h:qh q=some o)(hf:wD o f j xs):∃dx fs a vs,H q=some (.ins o.C dx fs)/\fs.lookup f=some (.ref a)/\H a=some (.lst vs)/\aH (lw c.K c.β G) G xs vs/\a≠c.β/\G a=none:=by
 obtain⟨M,ad,k,sub⟩:=kw;obtain⟨dx,a,vs,k1,k2,k3,k4,k5⟩:=k.at h hf;have ma:M a≠none:=by rw[k4];simp
 refine⟨dx,_,a,vs,r.stp.fr q _ (k.ap q (by rw[k1];simp)).2 (sub _ _ k1),k2,r.stp.fr a _ (k.ap a ma).2 (sub _ _ k4),zrt k5 r.stp.gg,(k.ap a ma).2,?_⟩;cases e:G a with
 |none=>rfl
 |some w=>
  rcases r.stp.nw a (by rw[e];simp)with z|z|⟨w',z,st⟩
  .exact absurd (k.ap a ma).1 z
  .rw[sub _ _ k4]at z;cases z
  .rw[sub _ _ k4]at z;cases z;exact st.elim
end
section
variable{X:Cx}{b:Bo}{c:Bk}{e:Expr}{qh:bN}{C:Addr}{f:Str}{pos p fpos lp:Pos}
def zwx(i:Nat)(hB:DE X c e B)(hk:c.P->wu c qh)(hc:pK X.K C)(hn:dJ X.K C f)(hs:zio e:=by intro _ _;rfl)(nk:Nk X i x:=by decreasing_trivial)(hb0:attributeBase (.Name x p) f X.env (eval (.Name x p) X.env)=eval (.Name x p) X.env:=by rfl)(hK:c.K=X.K:=by rfl):DE X c (.Subscript (.Attribute (.Name x p) f fpos) e pos) (xZ qh i f C B)where
 mono:=λS Q Q' k q=>by
  unfold xZ at q ⊢;split at q
  .obtain⟨o,j,xs,h1,h2,h3,q⟩:=q;exact⟨o,j,xs,h1,h2,h3,hB.mono S _ _ (λy z=>zil (λd w=>k _ w) z) q⟩
  .exact q.elim
 pe:=dM (uA (hK▸zoC (X:=X)) (zoT (kO nk.N nk.v nk.d nk.c) hb0) hB.pe hs) λZ H Q ⟨S,G,r,q⟩=>by
  unfold xZ at q;split at q
  .rename_i a0 ei
   obtain⟨o,j,xs,h1,h2,h3,q⟩:=q;obtain⟨dx,fs,a,vs,g1,g2,g3,g4,g5,g6⟩:=r.obj (hk r.kn) h1 h3;obtain⟨v,ev,rv⟩:=r.slot i _ ei;have rv':v=V.ref a0:=rv;subst rv';refine⟨.ref a0,ev,a0,o.C,dx,fs,.ref a,rfl,g1,h2▸hc,h2▸hn,g2,S,G,r,hB.mono S _ _ (λy z w H1 G1 t1 e1=>?_) q⟩;cases y with
   |int k=>
    cases e1;have z:(match gO xs k with|some d=>_|none=>False):=z;split at z
    .rename_i d' e'
     obtain⟨w',f',rw'⟩:=ziP g4 e';exact .inl ⟨a,vs,k,w',rfl,rfl,cz.of (t1.fr a _ g5 g3),f',z w' H1 G1 t1 ((Rep.hand (c:=lw c.K c.β G) (c':=c) rfl rfl rw').mono t1.gg)⟩
    .exact z.elim
   |_=>exact z.elim
  .exact q.elim
def xG(qh:bN)(i:Nat)(f:Str)(C:Addr):WL:=λS Q=>match S[i]? with
 |some (.val (.obj q))=>∃o j xs,qh q=some o/\o.C=C/\wD o f j xs/\Q (xs.map D.old)
 |_=>False
def zvQ(i:Nat)(hk:c.P->wu c qh)(hc:pK X.K C)(hn:dJ X.K C f)(nk:Nk X i x:=by decreasing_trivial)(hb0:attributeBase (.Name x p) f X.env (eval (.Name x p) X.env)=eval (.Name x p) X.env:=by rfl)(hg:Gl X "list":=by rfl)(he:starEach [.Attribute (.Name x p) f fpos] X.env=(false,eval (.Attribute (.Name x p) f fpos) X.env)::starEach [] X.env:=by rfl)(hK:c.K=X.K:=by rfl)(hm:X.mg "list"=none:=by decreasing_trivial):DF X c (.Call (.Name "list" lp) [.Attribute (.Name x p) f fpos] [] pos) (xG qh i f C)where
 mono:=λS Q Q' k q=>by
  unfold xG at q ⊢;split at q
  .obtain⟨o,j,xs,h1,h2,h3,q⟩:=q;exact⟨o,j,xs,h1,h2,h3,k _ q⟩
  .exact q.elim
 pe:=dM (zu zei hg hm Hn (iI (zoT (kO nk.N nk.v nk.d nk.c) hb0) jW he) (by decide) (by decide) he rfl) λZ H Q ⟨S,G,r,q⟩=>by
  unfold xG at q;split at q
  .rename_i a0 ei
   obtain⟨o,j,xs,h1,h2,h3,q⟩:=q;obtain⟨dx,fs,a,vs,g1,g2,g3,g4,g5,g6⟩:=r.obj (hk r.kn) h1 h3;obtain⟨v,ev,rv⟩:=r.slot i _ ei;have rv':v=V.ref a0:=rv;subst rv';refine⟨.ref a0,ev,a0,o.C,dx,fs,.ref a,rfl,g1,h2▸hc,h2▸hn,g2,a,vs,rfl,.inl (cz.of g3),λl hl=>q l vs _ _ (aZ.own r.gh r.bx hl) cJ (lU r.gh hl) hl (aH.hand (c:=lw c.K c.β G) (c':=c) rfl rfl g4)⟩
  .exact q.elim
end
def jg(K:qo)(n:Nat)(F:bN->Fn):Sp:=λvs H Q _=>∃ β G qh ds,Same G H/\d9 β H G/\(∃M ad,Kn K β G qh M ad/\∀a o,M a=some o->H a=some o)/\aH (lw K β G) G ds vs/\vs.length=n /\
 up (F qh) ds λd=>∀v H' G',aZ β H G H' G'->Rep ⟨K,β,H,G,True⟩ G' d v->Q v H'
abbrev GD(K:qo)(β:Addr)(H G:Hp)(qh:bN):Bk:=⟨K,β,H,G,∃M ad,Kn K β G qh M ad/\∀a o,M a=some o->H a=some o⟩
def nQ(h:(GD K β H G qh).P):wu (GD K β H G qh) qh:=h
def vL{P:Program}{w:World}{K:qo}{mg:Str->Option Value}{base:Heap}{x qual:Str}{st:Stmt}{f:Addr}{fd:FuncData}{N ps:List Str}{k:Nat}{B:bN->WS}(F:bZ K x qual st f fd)
  (hB:∀{cdv:Value}{A:Around}{outer:List PySem.Env}{s:Shared}{H:Hp}{E:XK}{β:Addr}{G:Hp}(qh:bN),N.Nodup->bK k (A.deeper (PyProof.Rows.envOfC qual (gF st) s.heap.objs.size f cdv)) ->
   rT (dj cL P w K mg base N qual (gF st) f cdv A outer s H E).nox (GD K β H G qh) (nJ st) (B qh)) (qh:dh N ps (gF st):=by exact⟨rfl,rfl,rfl,by decide +kernel,rfl,by decide +kernel,by decide +kernel⟩):aN P w K mg base cL (k+1) f fd ps (jg K ps.length λSo=>dU N.length (B So)):=by
 refine F.ok qh (λvs H Q E ⟨β,G,So,ds,_,_,_,_,h,_⟩=>h) (λcdv A outer s H vs Q E hr ⟨β,G,So,ds,gh,bx,kn,hv,hl,P',q,hP⟩=>?_);have h:=@hB cdv A outer s H E β G So qh.nd hr;have r0:Rel (GD K β H G So) (fU N.length ds) (L2.ni N vs) H G:=(Jm (N:=N) gh bx hv).hyp kn;refine⟨_,h.pss,fU N.length ds,G,r0,h.mono {nx:=λ_=>P' .non,rt:=P',bk:=λ_=>False,ct:=λ_=>False} _ _ ⟨λS z Z H' G' r s'=>hP _ z .non H' G' r.stp rfl,λd z v H' G' t e=>hP _ z v H' G' t (Rep.reb (c:=⟨K,β,H,G,True⟩) (c':=GD K β H G So) rfl rfl (λ_ _ w=>w) e),λS z=>z.elim,λS z=>z.elim⟩ q⟩
section
variable{X:Cx}{c:Bk}{e:Expr}{es:List Expr}{qh:bN}{pos p apos:Pos}
def Rel.know(r:Rel c S Z H G)(kw:wu c qh):∃M ad,Kn c.K c.β G qh M ad/\∀a o,M a=some o->H a=some o:=by
 obtain⟨M,ad,k,sub⟩:=kw;refine⟨M,ad,k.mono r.stp.gg λa ma=>?_,λa o h=>r.stp.fr a o (k.ap a (by rw[h];simp)).2 (sub a o h)⟩;cases e:G a with
 |none=>rfl
 |some w=>
  cases y:M a with
  |none=>exact absurd y ma
  |some u=>
   rcases r.stp.nw a (by rw[e];simp)with z|z|⟨w',z,st⟩
   .exact absurd (k.ap a ma).1 z
   .rw[sub _ _ y]at z;cases z
   .rw[sub _ _ y]at z;cases z;exact absurd st (k.kin a _ y)
def Rel.read(r:Rel c S Z H G)(kw:wu c qh)(hK:c.K=X.K)(e:aH c G ds vs)(hn:ds.length=n)(q:up (F qh) ds λd=>∀v H' G',aZ c.β H G H' G'->Rep c G' d v->Q v H'):jg X.K n F vs H Q E:=by
 obtain⟨M,ad,k,sub⟩:=r.know kw;exact⟨c.β,G,qh,ds,r.gh,r.bx,⟨M,ad,hK▸k,sub⟩,aH.back (c':=c) (c:=lw X.K c.β G) hK rfl (λ_ _=>rfl) e,by rw[<-e.length];exact hn,
  qD (F qh) ds _ _ (λd z v H2 G2 t2 e2=>z v H2 G2 t2 (Rep.back (c':=⟨X.K,c.β,H,G,True⟩) (c:=c) hK.symm rfl (λa h=>r.new0 h) e2)) q⟩
abbrev ztL(qh:bN)(n:Nat)(F:bN->Fn)(R:WL):WE:=λS Q=>R S λds=>ds.length=n/\up (F qh) ds Q
def zsr(C:eQ X.prog X.w X.K X.mg X.base x k ps (jg X.K n F))(hR:DA X c (e::es) R)(hk:c.P->wu c qh)(hg:Gl X x:=by rfl)
  (hdb:(x==("__debug__":Str))=false:=by decide) (sk:Sk X e es pos:=by exact⟨rfl,rfl⟩) (hK:c.K=X.K:=by rfl) (hr:bK k X.A:=by decreasing_trivial) :
  DE X c (.Call (.Name x p) (e::es) [] pos) (ztL qh n F R)where
 mono:=λS Q Q' k q=>hR.mono S _ _ (λds z=>⟨z.1,qD (F qh) ds _ _ k z.2⟩) q
 pe:=by
  obtain⟨f,fd,FO,hm,hkp,hb⟩:=C.ex;refine dM (wZ FO hr hg hm hkp hb .nil zp hR.pa hdb sk.1 sk.2) λZ H Q ⟨S,G,r,q⟩=>⟨S,G,r,hR.mono S _ _ (λds z vs H' G' t e=>?_) q⟩;show jg X.K n F (vs++[]) H' Q E0;rw[YAK];exact(r.step t).read (hk r.kn) hK e z.1 (qD (F qh) ds _ _ (λd w v H2 G2 t2 e2=>w v H2 G2 (t.trans t2) e2) z.2)
def jU(qh:bN)(i:Nat)(C:Addr)(m:Str)(n:Nat)(F:bN->Fn)(R:WL):WE:=λS Q=>match S[i]? with
 |some (.val (.obj a))=>(∃o,qh a=some o/\o.C=C/\∀x∈o.fs,x.1≠m)/\R S λds=>ds.length+1=n/\up (F qh) (.obj a::ds) Q
 |_=>False
def znh(h:sZ R):jP (jU qh i C m n F R):=λS Q Q' k q=>by
 unfold jU at q ⊢;split at q
 .exact⟨q.1,h S _ _ (λds z=>⟨z.1,qD (F qh) _ _ _ k z.2⟩) q.2⟩
 .exact q.elim
def zmH(hk:c.P->wu c qh)(hK:c.K=X.K)(hR:sZ R)(ht:∀ Z H Q,tDs c R Z H Q->t Z H Q)(q:tD c (jU qh i C m n F R) Z H Q) :
  Jq C m (jg X.K n F) [] E0 (λZ H Q=>∃v,Z[i]?=some (some v)/\Q v H) t Z H Q:=by
 obtain⟨S,G,r,q⟩:=q;unfold jU at q;split at q
 .rename_i a ei
  obtain⟨⟨o,h1,h2,h3⟩,q⟩:=q;obtain⟨v,ev,rv⟩:=r.slot i _ ei;have rv':v=V.ref a:=rv;subst rv';obtain⟨M,ad,k,sub⟩:=r.know (hk r.kn);obtain⟨dx,g1,_⟩:=k.obj a o h1;refine⟨.ref a,ev,a,dx,_,rfl,h2▸sub _ _ g1,zfJ h3,ht _ _ _ ⟨S,G,r,hR S _ _ (λds z vs H' G' t e=>?_) q⟩⟩;show jg X.K n F (V.ref a::(vs++[])) H' Q E0;rw[YAK];exact(r.step t).read (hk r.kn) hK (ds:=.obj a::ds) ⟨V.ref a,vs,rfl,rfl,e⟩ z.1 (qD (F qh) _ _ _ (λd w v H2 G2 t2 e2=>w v H2 G2 (t.trans t2) e2) z.2)
 .exact q.elim
def qt(T:Met X.prog X.w X.K X.mg X.base cL C m k ps (jg X.K n F))(hk:c.P->wu c qh)(nk:Nk X i x:=by decreasing_trivial)
  (ht:eval (.Call (.Attribute (.Name x p) m apos) [] [] pos) X.env=(do
   let ov <-eval (.Name x p) X.env
   standAt apos.atName
   let(f,first) <-holding [ov] (getMethod ov m pl)
   callWith pos f first (backTo pos (starEach [] X.env)) (backToKw pos (keywordEach [] X.env))):=by rfl) (hK:c.K=X.K:=by rfl) (hr:bK k X.A:=by decreasing_trivial) :
  DE X c (.Call (.Attribute (.Name x p) m apos) [] [] pos) (jU qh i C m n F (λ_ Q=>Q []))where
 mono:=znh (λ_ Q Q' k q=>k _ q)
 pe:=by
  obtain⟨f,fd,FO,hc,hm,hb⟩:=T.ex;exact dM (zqm (kO nk.N nk.v nk.d nk.c) hc hm FO hr hb .nil zp ht) λZ H Q q=>zmH hk hK (λ_ Q Q' k q=>k _ q) (λZ H Q ⟨S,G,r,q⟩=>q [] H G r.refl rfl) q
end
def dZ{α:Type}:List Str->List α->Str->Option α
 |k::ks,x::xs,z=>if k=z then some x else dZ ks xs z
 |_,_,_=>none
theorem Fg:∀{ks:List Str}{vs:List V}{z:Str},eU (dD ks vs) (Sum.inr z)=dZ ks vs z
 |[],_,_=>rfl
 |_::_,[],_=>rfl
 |k::ks,v::vs,z=>by
  show eU (((Sum.inr k:Key),v)::dD ks vs) (Sum.inr z)=if k=z then some v else dZ ks vs z;by_cases e:k=z
  .rw[if_pos e,Gs (p:=((Sum.inr k:Key),v)) (by rw[e])]
  .rw[if_neg e,Gw (p:=((Sum.inr k:Key),v)) (λy=>e (Sum.inr.inj y)),Fg]
theorem Kw :∀{ks:List Str}{xs:List D}{vs:List V}{z:Str}{d:D},aH c G xs vs->dZ ks xs z=some d->∃v,dZ ks vs z=some v/\Rep c G d v
 |[],_,_,_,_,_,h=>by simp[dZ]at h
 |_::_,[],_,_,_,_,h=>by simp[dZ]at h
 |k::ks,x::xs,vs,z,d,⟨v,ws,h1,h2,h3⟩,h=>by
  subst h1;unfold dZ at h ⊢;by_cases e:k=z
  .rw[if_pos e]at h ⊢;cases h;exact⟨v,rfl,h2⟩
  .rw[if_neg e]at h ⊢;exact Kw h3 h
def mU(o:Option D)(Q:D->Prop):Prop:=match o with|some d=>Q d|none=>False
def zg6(k:∀d,Q d->Q' d)(q:mU o Q):mU o Q':=by
 cases o with
 |none=>exact q
 |some d=>exact k _ q
def bQ:F2
 |.dct _ ks xs,.str z,Q=>mU (dZ ks xs z) Q
 |.fdc ks xs,.str z,Q=>mU (dZ ks xs z) Q
 |_,_,_=>False
def zox:lK bQ:=λx y Q Q' k q=>by
 unfold bQ at q ⊢;split at q
 .exact zg6 k q
 .exact zg6 k q
 .exact q.elim
section
variable{X:Cx}{c:Bk}{a i:Expr}{pos p:Pos}
def cH(hA:DE X c a A)(hB:DE X c i B)(hs:tK i:=by intro _ _;rfl)(hu:X.A.units+1<cLine:=by decreasing_trivial):DE X c (.Subscript a i pos) (ak bQ A B)where
 mono:=Fp zox hA.mono hB.mono
 pe:=dM (zpb hu hA.pe hB.pe hs) λZ H Q ⟨S,G,r,q⟩=>⟨S,G,r,hA.mono S _ _ (λx zx vx H1 G1 t1 e1=>⟨S,G1,r.step t1,hB.mono S _ _ (λy zy vy H2 G2 t2 e2=>by
  unfold bQ at zy;split at zy
  .rename_i n ks xs z
   obtain⟨d0,vs,h1,h2,_,h4,h5⟩:=e1;subst h1;have ey:vy=V.str z:=e2;subst ey;cases e:dZ ks xs z with
   |none=>rw[e]at zy;exact zy.elim
   |some d=>
    rw[e]at zy;obtain⟨v,f1,f2⟩:=Kw h5 e;refine⟨d0,v,rfl,?_,zy v H2 G2 (t1.trans t2) (f2.mono t2.gg)⟩
    have:=jd.k (k:=Sum.inr z) (t2.gh _ _ (t2.gg _ _ h2))
    rw[Fg,f1]at this;exact this
  .rename_i ks xs z
   obtain⟨d0,vs,o,h1,h2,h4,h5⟩:=e1;subst h1;have ey:vy=V.str z:=e2;subst ey;cases e:dZ ks xs z with
   |none=>rw[e]at zy;exact zy.elim
   |some d=>
    rw[e]at zy;obtain⟨v,f1,f2⟩:=Kw h5 e;refine⟨d0,v,rfl,?_,zy v H2 G2 (t1.trans t2) (f2.mono t2.gg)⟩
    have:jd H2 d0 (V.str z) (eU (dD ks vs) (Sum.inr z)):=.inl ⟨_,.inr z,.inr ⟨o,t2.gh _ _ (t2.gg _ _ h2)⟩,rfl,rfl⟩
    rw[Fg,f1]at this;exact this
  .exact zy.elim) zx⟩) q⟩
def zeh:cY X (.type "dict") (λxs H Q=>∃a kvs,xs=[.ref a]/\Rd H a (.dK kvs)/\∀l,H l=none->Q (.ref l) (upd H l (.dK kvs))):=by
 intro aa s Z H xs us Q I r h;obtain⟨a,kvs,rfl,ha,q⟩:=h;obtain⟨u,rfl,rx⟩:=qQ r;cases rx;exact zqP I ha λp s' hp I'=>⟨.ref p,_,I',rfl,q p hp⟩
end
def bF(ks:List Str)(z:Str):List Str:=if ks.contains z then ks else ks++[z]
def aW{α:Type}(ks:List Str)(vs:List α)(z:Str)(w:α):List α:=if ks.contains z then List.zipWith (λk x=>if k=z then w else x) ks vs else vs++[w]
theorem zoB:∀{ks:List Str}{vs:List V},ks.length=vs.length->(dD ks vs).any (λkv=>decide (kv.1=(Sum.inr z:Key)))=ks.contains z
 |[],[],_=>rfl
 |k::ks,v::vs,h=>by
  show(decide ((Sum.inr k:Key)=Sum.inr z) || (dD ks vs).any _)=_;rw[zoB (by simpa using h),List.contains_cons];congr 1;by_cases e:k=z
  .subst e;simp
  .rw[gY (λy=>e (Sum.inr.inj y))];symm;rw[YAW];exact λy=>e y.symm
theorem zoj :∀{ks:List Str}{vs:List V},ks.length=vs.length->(dD ks vs).map (λkv=>if kv.1=(Sum.inr z:Key)then(kv.1,w)else kv)=dD ks (List.zipWith (λk x=>if k=z then w else x) ks vs)
 |[],[],_=>rfl
 |k::ks,v::vs,h=>by
  show(if (Sum.inr k:Key)=Sum.inr z then((Sum.inr k:Key),w)else(Sum.inr k,v))::(dD ks vs).map _=(Sum.inr k,if k=z then w else v)::dD ks _;rw[zoj (by simpa using h)];congr 1;by_cases e:k=z
  .subst e;simp
  .rw[if_neg (λy=>e (Sum.inr.inj y)),if_neg e]
def ziE(h:ks.length=vs.length):putK (dD ks vs) (Sum.inr z) w=dD (bF ks z) (aW ks vs z w):=by
 unfold putK bF aW;rw[zoB h];by_cases e:ks.contains z=true
 .rw[if_pos e,if_pos e,if_pos e,zoj h]
 .rw[if_neg e,if_neg e,if_neg e];unfold dD;rw[List.zip_append h,qT];rfl
theorem zma(hd:Rep c G d w):∀{ks:List Str}{xs:List D}{vs:List V},aH c G xs vs->aH c G (List.zipWith (λk x=>if k=z then d else x) ks xs) (List.zipWith (λk x=>if k=z then w else x) ks vs)
 |[],_,_,_=>rfl
 |_::_,[],_,h=>by cases h;rfl
 |k::ks,x::xs,_,⟨v,ws,h1,h2,h3⟩=>by
  subst h1;refine⟨if k=z then w else v,_,rfl,?_,zma hd h3⟩;show Rep c G (if k=z then d else x) (if k=z then w else v);by_cases e:k=z
  .rw[if_pos e,if_pos e];exact hd
  .rw[if_neg e,if_neg e];exact h2
def zfD(hd:Rep c G d w)(h:aH c G xs vs):aH c G (aW ks xs z d) (aW ks vs z w):=by
 unfold aW;by_cases e:ks.contains z=true
 .rw[if_pos e,if_pos e];exact zma hd h
 .rw[if_neg e,if_neg e];exact h.append (.one hd)
def ziG(h:ks.length=vs.length):(bF ks z).length=(aW ks vs z w).length:=by
 unfold bF aW;by_cases e:ks.contains z=true
 .rw[if_pos e,if_pos e,List.length_zipWith,<-h];simp
 .rw[if_neg e,if_neg e,gU,gU,h];rfl
section
variable{X:Cx}{c:Bk}{p1 p2 p3 p4 p5 p6 p7 p8 p9 p10 p11 p12:Pos}
def zqK(ib iw iv i:Nat):WS:=λE S=>match S[ib]?,S[iw]?,S[iv]? with
 |some (.val (.dct _ ks xs)),some (.val (.str z)),some (.val d)=>i<S.length/\ks.length<1000/\E.rt (.dct true (bF ks z) (aW ks xs z d))
 |_,_,_=>False
def zt2(ib iw iv i:Nat)(hi:X.N[i]?=some x:=by rfl)(hx:X.env.scope.names.lookup x=some .local:=by rfl)(hdx:(x==("__debug__":Str))=false:=by decide)(hcx:(x==("__classdict__":Str))=false:=by decide)
  (hb:PE X (.Name nb p3) (tE ib)) (hw:PE X (.Name nw p6) (tE iw)) (hv:PE X (.Name nv p7) (tE iv)) (nb':i≠ib:=by decide) (nw':i≠iw:=by decide) (nv':i≠iv:=by decide)
  (hg:Gl X "dict":=by rfl) (he:starEach [.Name nb p3] X.env=(false,eval (.Name nb p3) X.env)::starEach [] X.env:=by rfl) (hm:X.mg "dict"=none:=by decreasing_trivial)
  (hs1:swapsWith (.Call (.Name "dict" p2) [.Name nb p3] [] p4) (some (.Name x p1)) p5.line X.env=pure false:=by rfl) (hs2:swapsWith (.Name nv p7) (some (.Subscript (.Name x p8) (.Name nw p6) p9)) p10.line X.env=pure false:=by rfl)
  (hu:X.A.units+1<cLine:=by decreasing_trivial) (hN:X.N.Nodup:=by decreasing_trivial) :
  rT X c [.Assign [.Name x p1] (.Call (.Name "dict" p2) [.Name nb p3] [] p4) p5,.Assign [.Subscript (.Name x p8) (.Name nw p6) p9] (.Name nv p7) p10,.Return (some (.Name x p11)) p12] (zqK ib iw iv i)where
 mono:=λE E' S l q=>by
  unfold zqK at q ⊢;split at q
  .exact⟨q.1,q.2.1,l.rt _ q.2.2⟩
  .exact q.elim
 pss:=by
  have pvx:∀{p:Pos},PE X (.Name x p) (tE i):=λ{p}=>kO hi (.inl hx) hdx hcx;refine Em (nH (uB hN hi (.inl hx) (zu zeh hg hm YCf (iI hb jW he) (by decide) (by decide) he rfl) hs1 (.inr hx)) (nH (zkM hu pvx hw hv hs2) (zq (yJ pvx)))) λD Z H ⟨S,G,r,q⟩=>?_;unfold zqK at q;split at q
  .rename_i n ks xs z d e1 e2 e3
   obtain⟨hl,q⟩:=q;rw[r.len]at hl;obtain⟨v1,s1,a,vs,h1,h2,_,h4,h5⟩:=r.slot ib _ e1;obtain⟨v2,s2,r2⟩:=r.slot iw _ e2;obtain⟨v3,s3,r3⟩:=r.slot iv _ e3;subst h1;have e:v2=V.str z:=r2;subst e;have qf:∀{j:Nat}{l:Addr},i≠j->(Z.set i (some (.ref l)))[j]?=Z[j]?:=λh=>jG h;refine⟨.ref a,s1,a,_,rfl,.inl (r.gh _ _ h2),λl hl0=>?_⟩;have at_:(Z.set i (some (.ref l)))[i]?=some (some (.ref l)):=jL hl;have len:(dD ks vs).length<sizeLine:=by
    unfold dD;rw[b8,yz,<-h4,wY,nO];have:=q.1;omega
   refine⟨v3,(qf nv').trans s3,.ref l,at_,.str z,(qf nw').trans s2,l,_,rfl,nu.k (k:=.inr z) cJ len,?_⟩;rw[zlf,ziE h4];refine⟨.ref l,at_,?_⟩;have gl:=lU r.gh hl0;have sg:Same G (upd G l (.dK (dD (bF ks z) (aW ks vs z v3)))):=nW gl;exact q.2 (.ref l) _ _ (r.stp.trans (aZ.new r.gh r.bx hl0)) ⟨l,_,rfl,cJ,λ_=>r.new0 hl0,ziG h4,(zfD r3 h5).mono sg⟩
  .exact q.elim
end
def aZ.wrS(s:aZ β H G H2 G2)(h0:H p=none)(hb:p≠β)(g2:G2 p=none):aZ β H G (upd H2 p o) (upd G2 p o):=
 ⟨s.gg.trans (nW g2),λa u e=>by
  by_cases z:a=p
  .subst z;rw[cJ]at e ⊢;exact e
  .rw[au z]at e ⊢;exact s.gh a u e,
 λa u n e=>by
  have z:a≠p:=λz=>by rw[z,h0]at e;cases e
  rw[au z];exact s.fr a u n e,
 λa e=>by
  by_cases z:a=p
  .subst z;exact .inr (.inl h0)
  .rw[au z]at e;exact s.nw a e,
 ⟨by
   obtain⟨cc,q,r,d,ns,h,p1,p2,p3,p4,hc,w⟩:=s.bx.ex;exact⟨cc,q,r,d,ns,by rw[au (YAM hb)];exact h,p1,p2,p3,p4,by rw[au (lO hc g2)];exact hc,w⟩,by rw[au (YAM hb)];exact s.bx.still⟩,
 s.b0,λcc q r d h=>by
  obtain⟨q1,r1,d1,h1⟩:=s.bc cc q r d h;exact⟨q1,r1,d1,by rw[au (YAM hb)];exact h1⟩⟩
structure DP(X:Cx)(c:Bk)(pos:Pos)(keys:List (Option Expr))(values:List Expr)(ks:List Str)(R:WL):Prop where
 mono:sZ R
 ex:∃trs,Jx X pos keys values trs/\∀ Z H (Q:List (V×V)->Hp->Prop),(∃ S G,Rel c S Z H G/\R S λds=>∀vs H' G',aZ c.β H G H' G'->aH c G' ds vs->Q ((ks.zip vs).map λp=>(V.str p.1,p.2)) H')->zlZ trs Z H Q
section
variable{X:Cx}{c:Bk}{pos kpos:Pos}{keys:List (Option Expr)}{values:List Expr}{e:Expr}{ks:List Str}{R:WL}
def zrF:DP X c pos [] [] [] (λ_ Q=>Q []):=⟨λS Q Q' k q=>k _ q,[],zr5,λZ H Q ⟨S,G,r,q⟩=>q [] H G r.refl rfl⟩
def uv(hA:DE X c e A)(hR:DP X c pos keys values ks R):DP X c pos (some (.Constant (.str k) n kpos)::keys) (e::values) (k::ks) (λS Q=>A S λd=>R S λds=>Q (d::ds)):=by
 obtain⟨m,trs,h1,h2⟩:=hR;refine⟨λS Q Q' k q=>hA.mono S _ _ (λd z=>m S _ _ (λds y=>k _ y) z) q,_,zqO zra hA.pe h1,λZ H Q ⟨S,G,r,q⟩=>?_⟩;exact⟨S,G,r,hA.mono S _ _ (λd z v H1 G1 t1 e1=>h2 Z H1 _ ⟨S,G1,r.step t1,m S _ _ (λds y vs H2 G2 t2 e2=>y (v::vs) H2 G2 (t1.trans t2) ⟨v,vs,rfl,e1.mono t2.gg,e2⟩) z⟩) q⟩
theorem zme:∀{ks:List Str}{vs:List V},ks.length=vs.length->(dD ks vs).map (·.1)=ks.map (Sum.inr:Str->Key)
 |[],[],_=>rfl
 |k::ks,v::vs,h=>by
  show(Sum.inr k:Key)::(dD ks vs).map (·.1)=_;rw[zme (by simpa using h)];rfl
theorem zkx:∀{ks:List Str},ks.Nodup->(ks.map (Sum.inr:Str->Key)).Nodup
 |[],_=>YDb
 |k::ks,h=>by
  rw[wG]at h;rw[d7,wG];refine⟨λm=>?_,zkx h.2⟩;obtain⟨x,hx,e⟩:=YAD.mp m;exact h.1 (Sum.inr.inj e▸hx)
abbrev ztq(ks:List Str)(R:WL):WE:=λS Q=>R S λxs=>xs.length=ks.length/\Q (.dct true ks xs)
def zrl(hR:DP X c pos keys values ks R)(hn:ks.Nodup:=by decide +kernel)(hl:ks.length<=15:=by decide)(ha:keys.all (·.isSome)=true:=by rfl)(hkl:keys.length=values.length:=by rfl)(h0:keys≠[]:=by intro z;cases z)(h15:keys.length<=15:=by decide):DE X c (.Dict keys values pos) (ztq ks R)where
 mono:=λS Q Q' k q=>hR.mono S _ _ (λds z=>⟨z.1,k _ z.2⟩) q
 pe:=by
  obtain⟨m,trs,h1,h2⟩:=hR;refine dM (zs2 h1 ha hkl h0 h15) λZ H Q ⟨S,G,r,q⟩=>λp hp=>?_;have st:=aZ.own (o:=.dK []) r.gh r.bx hp;have pb:=r.neβ hp;refine h2 Z _ _ ⟨S,G,r.step st,m S _ _ (λxs z vs H2 G2 t2 e2=>?_) q⟩;have hlen:ks.length=vs.length:=z.1.symm.trans e2.length;have g2:G2 p=none:=by
   cases w:G2 p with
   |none=>rfl
   |some o=>
    rcases t2.nw p (by rw[w];simp)with y|y|⟨u,y,su⟩
    .exact absurd (lU r.gh hp) y
    .rw[cJ]at y;cases y
    .rw[cJ]at y;cases y;exact su.elim
  refine⟨t2.fr p _ pb cJ,dD ks vs,by unfold dD;rw[YAR];rfl,by unfold dD;rw[b8,yz,<-hlen,wY];exact hl,?_⟩;rw[zfj (dD ks vs) [] (λk _=>by simp) (by rw[zme hlen];exact zkx hn),YC1];exact z.2 (.ref p) _ _ ((st.trans t2).wrS hp pb g2) ⟨p,vs,rfl,cJ,λ_=>r.new0 hp,hlen,e2.mono (nW g2)⟩
end
def zG(ad:Addr->List Addr)(p:Addr)(as:List Addr):Addr->List Addr:=λq=>if q=p then as else ad q
def Bb:zG ad p as p=as:=by unfold zG;rw[if_pos rfl]
def Bv(h:q≠p):zG ad p as q=ad q:=by unfold zG;rw[if_neg h]
structure GZ(fs fs':List (Str×List D))(as as':List Addr)(j:Nat)(f:Str)(xs:List D)(l:Addr):Prop where
 len:as'.length=fs'.length
 new:fs'[j]?=some (f,xs)
 at_:∀(i:Nat) a,as'[i]?=some a->(i=j/\a=l)\/(i≠j/\as[i]?=some a/\fs'[i]?=fs[i]?)
def Kn.newL(k:Kn K β G qh M ad)(h:qh p=some o)(hl:M l=none)(gl:G l=none)(lb:l≠β)(g:GZ o.fs fs' (ad p) as' j f xs l)(hw:aH (lw K β G) G xs ws) :
  Kn K β G (jk qh p ⟨o.C,fs'⟩) (upd (upd M l (.lst ws)) p (.ins o.C dx (j5 fs' as'))) (zG ad p as'):=by
 have mp:∀q u,qh q=some u->M q≠none:=λq u hq=>by obtain⟨_,h1,_⟩:=k.obj q u hq;rw[h1];simp
 have pl:p≠l:=λz=>mp p o h (z▸hl);have mlst:∀q u (i:Nat) a x,qh q=some u->(ad q)[i]?=some a->u.fs[i]?=some x->a≠p/\a≠l:=λq u i a x hq ha hx=>by
  obtain⟨vs,h1,_⟩:=k.lst q u i a x hq ha hx;refine⟨λz=>?_,λz=>?_⟩
  .obtain⟨_,h2,_⟩:=k.obj p o h;rw[z,h2]at h1;cases h1
  .rw[z,hl]at h1;cases h1
 have inFs:∀q u (i:Nat) a,qh q=some u->(ad q)[i]?=some a->∃x,u.fs[i]?=some x:=λq u i a hq ha=>by
  obtain⟨_,_,h2⟩:=k.obj q u hq
  have:=(jC.mp ha).1
  exact⟨_,jB (by rw[<-h2];exact this)⟩
 have some':∀q,jk qh p ⟨o.C,fs'⟩ q≠none->∃u,qh q=some u:=λq hq=>by
  by_cases e:q=p
  .exact⟨o,e▸h⟩
  .rw[tM e]at hq;cases z:qh q with
   |none=>exact absurd z hq
   |some u=>exact⟨u,rfl⟩
 refine⟨λq u hq=>?_,λq u i a x hq ha hx=>?_,λq r i n a hq hr ha hb=>?_,λa u ha=>?_,λa ha=>?_⟩
 .by_cases e:q=p
  .subst e;rw[qC]at hq;cases hq;exact⟨dx,by rw[cJ,Bb],by rw[Bb];exact g.len⟩
  .rw[tM e]at hq;obtain⟨d,h1,h2⟩:=k.obj q u hq;have ql:q≠l:=λz=>mp q u hq (z▸hl);exact⟨d,by rw[au e,au ql,Bv e];exact h1,by rw[Bv e];exact h2⟩
 .by_cases e:q=p
  .subst e;rw[qC]at hq;cases hq;rw[Bb]at ha;rcases g.at_ i a ha with⟨z1,z2⟩|⟨z1,z2,z3⟩
   .subst z1 z2;have hx':fs'[i]?=some x:=hx;rw[g.new]at hx';cases hx';exact⟨ws,by rw[au (YAM pl),cJ],hw⟩
   .have hx':fs'[i]?=some x:=hx;rw[z3]at hx';obtain⟨vs,h1,h2⟩:=k.lst q o i a x h z2 hx';obtain⟨n1,n2⟩:=mlst q o i a x h z2 hx';exact⟨vs,by rw[au n1,au n2];exact h1,h2⟩
  .rw[tM e]at hq;rw[Bv e]at ha;obtain⟨vs,h1,h2⟩:=k.lst q u i a x hq ha hx;obtain⟨n1,n2⟩:=mlst q u i a x hq ha hx;exact⟨vs,by rw[au n1,au n2];exact h1,h2⟩
 .have old:∀q (i:Nat),jk qh p ⟨o.C,fs'⟩ q≠none->(zG ad p as' q)[i]?=some a->(q=p/\i=j/\a=l)\/((q=p->i≠j)/\(ad q)[i]?=some a/\a≠l):=λq i hq ha=>by
   obtain⟨u,hu⟩:=some' q hq;by_cases e:q=p
   .subst e;rw[Bb]at ha;rcases g.at_ i a ha with⟨z1,z2⟩|⟨z1,z2,z3⟩
    .exact .inl ⟨rfl,z1,z2⟩
    .obtain⟨x,hx⟩:=inFs q u i a hu z2;exact .inr ⟨λ_=>z1,z2,(mlst q u i a x hu z2 hx).2⟩
   .rw[Bv e]at ha;obtain⟨x,hx⟩:=inFs q u i a hu ha;exact .inr ⟨λz=>absurd z e,ha,(mlst q u i a x hu ha hx).2⟩
  rcases old q i hq ha with⟨a1,a2,a3⟩|⟨a1,a2,a3⟩
  .rcases old r n hr hb with⟨b1,b2,b3⟩|⟨b1,b2,b3⟩
   .exact⟨a1.trans b1.symm,a2.trans b2.symm⟩
   .exact absurd a3 b3
  .rcases old r n hr hb with⟨b1,b2,b3⟩|⟨b1,b2,b3⟩
   .exact absurd b3 a3
   .obtain⟨u,hu⟩:=some' q hq;obtain⟨w,hw'⟩:=some' r hr;exact k.dis q r i n a (by rw[hu];simp) (by rw[hw'];simp) a2 b2
 .by_cases e:a=p
  .subst e;rw[cJ]at ha;cases ha;exact λz=>z
  .rw[au e]at ha;by_cases e':a=l
   .subst e';rw[cJ]at ha;cases ha;exact λz=>z
   .rw[au e']at ha;exact k.kin a u ha
 .by_cases e:a=p
  .subst e;exact k.ap a (mp a o h)
  .rw[au e]at ha;by_cases e':a=l
   .subst e';exact⟨gl,lb⟩
   .rw[au e']at ha;exact k.ap a ha
def jh(f:Str)(xs:List D):List (Str×List D)->List (Str×List D)
 |[]=>[(f,xs)]
 | (g,y)::r=>if g=f then(g,xs)::r else(g,y)::jh f xs r
def lV(f:Str)(l:Addr):List (Str×List D)->List Addr->List Addr
 |[],_=>[l]
 | (g,_)::r,a::as=>if g=f then l::as else a::lV f l r as
 |_::_,[]=>[]
theorem zob :∀{fs:List (Str×List D)}{as:List Addr},as.length=fs.length->gQ f (.ref l) (j5 fs as)=j5 (jh f xs fs) (lV f l fs as)
 |[],[],_=>rfl
 | (g,y)::fs,a::as,h=>by
  show(if g=f then(g,V.ref l)::j5 fs as else(g,V.ref a)::gQ f (.ref l) (j5 fs as))=j5 (if g=f then(g,xs)::fs else(g,y)::jh f xs fs) (if g=f then l::as else a::lV f l fs as);by_cases e:g=f
  .rw[if_pos e,if_pos e,if_pos e];rfl
  .rw[if_neg e,if_neg e,if_neg e,zob (xs:=xs) (by simpa using h)];rfl
theorem Gv :∀{fs:List (Str×List D)}{as:List Addr},as.length=fs.length->∃j,GZ fs (jh f xs fs) as (lV f l fs as) j f xs l
 |[],[],_=>⟨0,rfl,rfl,λi a h=>by
  cases i with
  |zero=>exact .inl ⟨rfl,by simpa[lV]using h.symm⟩
  |succ i=>simp[lV]at h⟩
 | (g,y)::fs,a::as,h=>by
  unfold jh lV;by_cases e:g=f
  .rw[if_pos e,if_pos e];subst e;refine⟨0,by simpa using h,rfl,λi c hc=>?_⟩;cases i with
   |zero=>exact .inl ⟨rfl,by simpa using hc.symm⟩
   |succ i=>exact .inr ⟨by omega,by simpa using hc,rfl⟩
  .rw[if_neg e,if_neg e];obtain⟨j,g1,g2,g3⟩:=Gv (f:=f) (xs:=xs) (l:=l) (fs:=fs) (as:=as) (by simpa using h);refine⟨j+1,by simpa using g1,by simpa using g2,λi c hc=>?_⟩;cases i with
   |zero=>exact .inr ⟨by omega,by simpa using hc,rfl⟩
   |succ i=>
    rcases g3 i c (by simpa using hc)with⟨z1,z2⟩|⟨z1,z2,z3⟩
    .exact .inl ⟨by omega,z2⟩
    .exact .inr ⟨by omega,by simpa using z2,by simpa using z3⟩
section
variable{X:Cx}{b:Bo}{e:Expr}{pos p fpos:Pos}
def jr(i:Nat)(f:Str)(C:Addr)(F:bN->WL):WF:=λE qh S=>match S[i]? with
 |some (.val (.obj q))=>F qh S λxs=>∃o,qh q=some o/\o.C=C/\o.fs.length<100/\E.nx (jk qh q ⟨o.C,jh f (xs.map D.old) o.fs⟩) S
 |_=>False
def zis(i:Nat)(hF:∀qh M G1,DF X (dI b qh M G1) e (F qh))(hc:pK X.K C)(hn:dJ X.K C f)(nk:Nk X i x:=by decreasing_trivial)(hs:swapsWith e (some (.Attribute (.Name x p) f fpos)) pos.line X.env=pure false:=by rfl):OS X b (.Assign [.Attribute (.Name x p) f fpos] e pos) (jr i f C F)where
 mono:=λE E' qh S l q=>by
  unfold jr at q ⊢;split at q
  .exact(hF qh (λ_=>none) (λ_=>none)).mono S _ _ (λxs ⟨o,h1,h2,h3,h4⟩=>⟨o,h1,h2,h3,l.nx _ _ h4⟩) q
  .exact q.elim
 ps:=λaa s Z H Ds I ⟨S,G,qh,M,⟨G1,u,r⟩,q⟩=>zvm (kO nk.N nk.v nk.d nk.c) (hF qh M G1).pe hs aa s Z H Ds I (by
  unfold jr at q;split at q
  .rename_i a0 ei
   refine⟨S,G,r,(hF qh M G1).mono S _ _ (λxs ⟨o,h1,h2,h3,h4⟩ l vs H1 G' t hl gl hl0 hv0=>?_) q⟩;obtain⟨v,ev,rv⟩:=r.slot i _ ei;have rv':v=V.ref a0:=rv;subst rv';have r1:=r.step t;obtain⟨ad,k⟩:=r.kn;have k1:Kn b.K b.β G' qh M ad:=k.mono r1.stp.gg r1.apart;obtain⟨dx,g1,g2⟩:=k1.obj a0 o h1;have qm:M a0≠none:=by rw[g1];simp
   have qb:=(u.mb a0 qm).2.2;have lb:l≠b.β:=r.neβ hl0;have hM:∀c w,M c=some w->H c=some w:=λc w hc=>r.stp.fr c w (u.mb c (by rw[hc];simp)).2.2 (ur hc);have hM1:∀c w,M c=some w->H1 c=some w:=λc w hc=>t.fr c w (u.mb c (by rw[hc];simp)).2.2 (hM c w hc);have ml:M l=none:=by
    cases z:M l with
    |none=>rfl
    |some w=>rw[hM l w z]at hl0;cases hl0
   have ql:a0≠l:=λz=>qm (z▸ml);obtain⟨j,g⟩:=Gv (f:=f) (xs:=xs.map D.old) (l:=l) g2;have hw:aH (lw b.K b.β G') G' (xs.map D.old) vs:=aH.hand (c:=dI b qh M G1) (c':=lw b.K b.β G') rfl rfl hv0;have k2:=k1.newL (dx:=dx) h1 ml gl lb g hw;refine⟨.ref a0,ev,a0,o.C,dx,_,rfl,hM1 _ _ g1,h2▸hc,h2▸hn,by unfold j5;rw[b8,yz,g2,wY];omega,?_⟩;rw[zob (xs:=xs.map D.old) g2];have dm:Dm M (upd (upd M l (.lst vs)) a0 (.ins o.C dx (j5 (jh f (xs.map D.old) o.fs) (lV f l o.fs (ad a0))))):=λc hc=>by
    by_cases e:c=a0
    .subst e;rw[cJ];simp
    .rw[au e];by_cases e':c=l
     .subst e';rw[cJ];simp
     .rw[au e'];exact hc
   have ef:yE b.β M (upd (upd M l (.lst vs)) a0 (.ins o.C dx (j5 (jh f (xs.map D.old) o.fs) (lV f l o.fs (ad a0))))) H G (upd H1 a0 (.ins o.C dx (j5 (jh f (xs.map D.old) o.fs) (lV f l o.fs (ad a0))))) G':=by
    refine⟨t.gg,λc w hc=>?_,λc w n hc hw=>?_,λc w hc=>?_,λc hc=>?_,λc hc=>k2.ap c hc,t.nw,?_,λcc q1 r1 d1 hb=>?_,dm⟩
    .rw[au (λz=>by rw[z,r1.apart a0 qm]at hc;cases hc)];exact t.gh c w hc
    .rw[au (λz=>by rw[z]at hc;exact qm hc)];exact t.fr c w n hw
    .by_cases e:c=a0
     .subst e;rw[cJ]at hc ⊢;exact hc
     .rw[au e]at hc ⊢;by_cases e':c=l
      .subst e';rw[cJ]at hc;cases hc;exact hl
      .rw[au e']at hc;exact hM1 c w hc
    .by_cases e:c=a0
     .subst e;exact .inl qm
     .rw[au e]at hc;by_cases e':c=l
      .subst e';exact .inr hl0
      .rw[au e']at hc;exact .inl hc
    .obtain⟨cc,q1,r2,d1,ns,hb,z⟩:=t.bx.ex;exact⟨⟨cc,q1,r2,d1,ns,by rw[au (YAM qb)];exact hb,z⟩,t.bx.still⟩
    .obtain⟨q2,r2,d2,hb'⟩:=t.bc cc q1 r1 d1 hb;exact⟨q2,r2,d2,by rw[au (YAM qb)];exact hb'⟩
   exact h4 Z _ G' _ ⟨G',u.eff r ef,r.eff (λc hc=>⟨(u.mb c hc).1,(u.mb c hc).2.2⟩) ef ⟨_,k2⟩⟩ t.gg dm
  .exact q.elim)
end
section
variable{X:Cx}{b:Bo}{pos p:Pos}{y:Str->bN->Prop}
abbrev zss(C:Addr)(F:pH)(y:Str->bN->Prop):WOE:=λ_ qh Q=>∀a,qh a=none->zB F [.obj a] (jk qh a ⟨C,[]⟩) (λd qj=>d=.non/\Q (.obj a) qj) y
def Kn.new(k:Kn K β G qh M ad)(hm:M a=none)(ga:G a=none)(ab:a≠β):Kn K β G (jk qh a ⟨C,[]⟩) (upd M a (.ins C dx [])) (zG ad a []):=by
 have mp:∀q u,qh q=some u->M q≠none:=λq u hq=>by obtain⟨_,h1,_⟩:=k.obj q u hq;rw[h1];simp
 have nl:∀{q:Addr}{i:Nat}{c:Addr},(zG ad a [] q)[i]?=some c->q≠a/\(ad q)[i]?=some c:=λ{q i c} h=>by
  by_cases e:q=a
  .subst e;rw[Bb]at h;simp at h
  .rw[Bv e]at h;exact⟨e,h⟩
 refine⟨λq u hq=>?_,λq u i c x hq hc hx=>?_,λq r i n c hq hr hc hd=>?_,λc u hc=>?_,λc hc=>?_⟩
 .by_cases e:q=a
  .subst e;rw[qC]at hq;cases hq;exact⟨dx,by rw[cJ,Bb];rfl,by rw[Bb];rfl⟩
  .rw[tM e]at hq;obtain⟨d,h1,h2⟩:=k.obj q u hq;exact⟨d,by rw[au e,Bv e];exact h1,by rw[Bv e];exact h2⟩
 .obtain⟨e,hc'⟩:=nl hc;rw[tM e]at hq;obtain⟨vs,h1,h2⟩:=k.lst q u i c x hq hc' hx;exact⟨vs,by rw[au (λz=>by rw[z,hm]at h1;cases h1)];exact h1,h2⟩
 .obtain⟨e1,c1⟩:=nl hc;obtain⟨e2,c2⟩:=nl hd;rw[tM e1]at hq;rw[tM e2]at hr;exact k.dis q r i n c hq hr c1 c2
 .by_cases e:c=a
  .subst e;rw[cJ]at hc;cases hc;exact λz=>z
  .rw[au e]at hc;exact k.kin c u hc
 .by_cases e:c=a
  .subst e;exact⟨ga,ab⟩
  .rw[au e]at hc;exact k.ap c hc
def zrA(T:Mk X.K C f)(FO:aN X.prog X.w X.K X.mg X.base (dw X.prog X.w) k f fd ps (lB X.K X.mg 1 F))(hm:X.mg x=some (.ref C))(hb:Binds X.K fd ps [])(hx:nF (dw X.prog X.w) X (XO b X.mg y))(hg:Gl X x:=by rfl)
  (hdb:(x==("__debug__":Str))=false:=by decide) (hK:b.K=X.K:=by rfl) (hr:bK (k+1) X.A:=by decreasing_trivial):OE X b (.Call (.Name x p) [] [] pos) (zss C F y)where
 mono:=λS qh Q Q' l q a ha=>zV F (λd qj z=>⟨z.1,l _ _ z.2⟩) (λ_ _ z=>z) (q a ha)
 pe:=dM (zpU T FO hr hg hm hb .nil hx hdb) λZ H Q ⟨S,G,qh,M,⟨G1,u,r⟩,q⟩=>by
  intro a dx ha hdx ne;obtain⟨ad,kn⟩:=r.kn;have k1:Kn b.K b.β G qh M ad:=kn.mono r.stp.gg r.apart;have hM:∀c w,M c=some w->H c=some w:=λc w hc=>r.stp.fr c w (u.mb c (by rw[hc];simp)).2.2 (ur hc);have free:∀{c},H c=none->M c=none:=λ{c} h=>by
   cases z:M c with
   |none=>rfl
   |some w=>rw[hM c w z]at h;cases h
  have ma:=free ha;have sa:qh a=none:=by
   cases z:qh a with
   |none=>rfl
   |some o=>obtain⟨_,h1,_⟩:=k1.obj a o z;rw[ma]at h1;cases h1
  have ab:a≠b.β:=r.neβ ha;have db:dx≠b.β:=r.neβ hdx;have k2:=k1.new (a:=a) (dx:=dx) (C:=C) ma (lU r.gh ha) ab;have ha':upd H dx (.own a) a=none:=by rw[au (YAM ne)];exact ha
  have dm:Dm M (upd M a (.ins C dx [])):=λc hc=>by
   by_cases e:c=a
   .subst e;rw[cJ];simp
   .rw[au e];exact hc
  have keep:∀c w,H c=some w->upd (upd H dx (.own a)) a (.ins C dx []) c=some w:=λc w hc=>by
   rw[au (λz=>by rw[z,ha]at hc;cases hc),au (λz=>by rw[z,hdx]at hc;cases hc)];exact hc
  have ef:yE b.β M (upd M a (.ins C dx [])) H G (upd (upd H dx (.own a)) a (.ins C dx [])) G:=by
   refine⟨Same.refl _,λc w hc=>keep c w (r.gh c w hc),λc w _ _ hc=>keep c w hc,λc w hc=>?_,λc hc=>?_,λc hc=>k2.ap c hc,λc hc=>.inl hc,(r.bx.new hdx).new ha',λcc q1 r1 d1 hb=>⟨q1,r1,d1,keep _ _ hb⟩,dm⟩
   .by_cases e:c=a
    .subst e;rw[cJ]at hc ⊢;exact hc
    .rw[au e]at hc;exact keep c w (hM c w hc)
   .by_cases e:c=a
    .subst e;exact .inr ha
    .rw[au e]at hc;exact .inl hc
  have rs:lY b (jk qh a ⟨C,[]⟩) (upd M a (.ins C dx [])) S Z (upd (upd H dx (.own a)) a (.ins C dx [])) G [.obj a] [.ref a]:=
   ⟨G,u.eff r ef,r.eff (λc hc=>⟨(u.mb c hc).1,(u.mb c hc).2.2⟩) ef ⟨_,k2⟩,.ref a,[],rfl,rfl,rfl⟩
  refine dg.give hK rs rfl (zV F (λd qj z v H2 G2 M2 r2 s2 m2=>?_) (λnm qj z C2 H2 G2 M2 hc r2 s2 m2=>⟨nm,C2,qj,M2,S,Z,G2,rfl,z,hc,r2⟩) (q a sa));obtain⟨z1,z2⟩:=z;subst z1;obtain⟨Ga,oa,ra,ea⟩:=r2;have ev:v=V.non:=ea;exact⟨ev,z2 (.ref a) H2 G2 M2 ⟨Ga,oa,ra,rfl⟩ s2 (dm.trans m2)⟩
end
section
variable{X:Cx}{b:Bo}{e:Expr}{es:List Expr}{pos p npos:Pos}
abbrev ztj(n:Nat)(F:Fn)(R:WOA):WOE:=λS qh Q=>R S qh λds S1=>ds.length=n/\up F ds λd=>Q d S1
def zrB(C:eQ X.prog X.w X.K X.mg X.base x k ps (cZ X.K n F))(hR:OA X b (e::es) R)(hg:Gl X x:=by rfl)
  (hdb:(x==("__debug__":Str))=false:=by decide) (sk:Sk X e es pos:=by exact⟨rfl,rfl⟩) (hK:b.K=X.K:=by rfl) (hr:bK k X.A:=by decreasing_trivial) :
  OE X b (.Call (.Name x p) (e::es) [] pos) (ztj n F R)where
 mono:=λS qh Q Q' l q=>hR.mono S qh _ _ (λds S1 z=>⟨z.1,qD F ds _ _ (λd w=>l d S1 w) z.2⟩) q
 pe:=by
  obtain⟨f,fd,FO,hm,hk,hb⟩:=C.ex;refine dM (wZ FO hr hg hm hk hb .nil zp hR.pa hdb sk.1 sk.2) λZ H Q ⟨S,G,qh,M,r,q⟩=>⟨S,G,qh,M,r,hR.mono S qh _ _ (λds S1 z vs H' G' M' r' s' m'=>?_) q⟩;show cZ X.K n F (vs++[]) H' Q E0;rw[YAK];obtain⟨Ga,oa,ra,ea⟩:=r';exact⟨b.β,G',ds,ra.gh,ra.bx,aH.back (c':=dI b S1 M' Ga) (c:=⟨X.K,b.β,λ_=>none,G',True⟩) hK rfl (λ_ _=>rfl) ea,by rw[<-ea.length];exact z.1,
   qD F ds _ _ (λd w v H2 G2 t2 e2=>w v H2 G2 M' ⟨Ga,oa,ra.step t2,Rep.back (c':=⟨X.K,b.β,H',G',True⟩) (c:=dI b S1 M' Ga) hK.symm rfl (λa h=>ra.new0 h) e2⟩ (s'.trans t2.gg) m') z.2⟩
abbrev Ay(A:WOE)(U V:WF):WF:=λE qh S=>A S qh λd S1=>nD d λt=>if t=true then V E S1 S else U E S1 S
def zrc{A:WOE}{U V:WF}{x y:List Stmt}(hA:OE X b e A)(hU:rN X b x U)(hV:rN X b y V)(he:∀whole,isTrue e X.env whole=(do let v <-whole;standAt e.pos;holding [v] (truthy v)):=by intro _;rfl)(hK:b.K=X.K:=by rfl):OS X b (.If (.UnaryOp .Not e npos) x y pos) (Ay A U V)where
 mono:=λE E' qh S l q=>hA.mono S qh _ _ (λd S1 z=>zg3 d (λt z=>by
  cases t
  .exact hU.mono _ _ S1 S l z
  .exact hV.mono _ _ S1 S l z) z) q
 ps:=kY (Kf (zrJ (zlF hA.pe he)) hU.pss hV.pss) λD Z H ⟨S,G,qh,M,r,q⟩=>⟨S,G,qh,M,r,hA.mono S qh _ _ (λd S1 z v H' G' M' r' s' m'=>by
  obtain⟨Ga,oa,ra,ea⟩:=r';unfold nD at z;split at z
  .rename_i k hk
   refine⟨k,hK▸zkR ra.gh ea hk,?_⟩;cases k
   .exact⟨S,G',S1,M',⟨Ga,oa,ra⟩,hU.mono _ _ S1 S (ziZ s' m') z⟩
   .exact⟨S,G',S1,M',⟨Ga,oa,ra⟩,hV.mono _ _ S1 S (ziZ s' m') z⟩
  .exact z.elim) q⟩
end
section
variable{X:Cx}{b:Bo}{c:Bk}{e:Expr}{es:List Expr}{pos cpos p np:Pos}
abbrev zq8(n:Nat)(F:jF)(y:Str->bN->Prop)(R:WOA):WOE:=λS qh Q=>R S qh λds S1=>ds.length=n/\Bh F ds (λd=>Q d S1) λnm=>y nm S1
def ztf(C:iC X.prog X.w X.K X.mg X.base x k ps (du X.K X.mg n F))(hR:OA X b (e::es) R)(hx:nF (dw X.prog X.w) X (XO b X.mg y))(hg:Gl X x:=by rfl)
  (hdb:(x==("__debug__":Str))=false:=by decide) (sk:Sk X e es pos:=by exact⟨rfl,rfl⟩) (hK:b.K=X.K:=by rfl) (hr:bK k X.A:=by decreasing_trivial) :
  OE X b (.Call (.Name x p) (e::es) [] pos) (zq8 n F y R)where
 mono:=λS qh Q Q' l q=>hR.mono S qh _ _ (λds S1 z=>⟨z.1,Dy F (λd w=>l d S1 w) (λ_ w=>w) z.2⟩) q
 pe:=by
  obtain⟨f,fd,FO,hm,hk,hb⟩:=C.ex;refine dM (wZ FO hr hg hm hk hb .nil hx hR.pa hdb sk.1 sk.2) λZ H Q ⟨S,G,qh,M,r,q⟩=>⟨S,G,qh,M,r,hR.mono S qh _ _ (λds S1 z vs H' G' M' r' s' m'=>?_) q⟩;show du X.K X.mg n F (vs++[]) H' Q _;rw[YAK];obtain⟨Ga,oa,ra,ea⟩:=r';exact⟨b.β,G',ds,ra.gh,ra.bx,aH.back (c':=dI b S1 M' Ga) (c:=⟨X.K,b.β,λ_=>none,G',True⟩) hK rfl (λ_ _=>rfl) ea,by rw[<-ea.length];exact z.1,
   Dy F (λd w v H2 G2 t2 e2=>w v H2 G2 M' ⟨Ga,oa,ra.step t2,Rep.back (c':=⟨X.K,b.β,H',G',True⟩) (c:=dI b S1 M' Ga) hK.symm rfl (λa h=>ra.new0 h) e2⟩ (s'.trans t2.gg) m') (λnm w C H2 G2 hc t2=>⟨nm,C,S1,M',S,Z,G2,rfl,w,hc,Ga,oa,ra.step t2⟩) z.2⟩
def XD(c:Bk)(mg:Str->Option Value)(y:Str->Prop):XK:=λv _ H'=>∃nm C G',v=.ref C/\y nm/\mg nm=some (.ref C)/\aZ c.β c.H0 c.G0 H' G'
abbrev pZ(n:Nat)(F:jF)(y:Str->Prop)(R:WL):WE:=λS Q=>R S λds=>ds.length=n/\Bh F ds Q y
def uE(C:iC X.prog X.w X.K X.mg X.base x k ps (du X.K X.mg n F))(hR:DA X c (e::es) R)(hx:nF (dw X.prog X.w) X (XD c X.mg y))(hg:Gl X x:=by rfl)
  (hdb:(x==("__debug__":Str))=false:=by decide) (sk:Sk X e es pos:=by exact⟨rfl,rfl⟩) (hK:c.K=X.K:=by rfl) (hr:bK k X.A:=by decreasing_trivial) :
  DE X c (.Call (.Name x p) (e::es) [] pos) (pZ n F y R)where
 mono:=λS Q Q' l q=>hR.mono S _ _ (λds z=>⟨z.1,Dy F l (λ_ w=>w) z.2⟩) q
 pe:=by
  obtain⟨f,fd,FO,hm,hk,hb⟩:=C.ex;refine dM (wZ FO hr hg hm hk hb .nil hx hR.pa hdb sk.1 sk.2) λZ H Q ⟨S,G,r,q⟩=>⟨S,G,r,hR.mono S _ _ (λds z vs H' G' t ea=>?_) q⟩;show du X.K X.mg n F (vs++[]) H' Q _;rw[YAK];have ra:=r.step t;exact⟨c.β,G',ds,t.gh,t.bx,aH.back (c':=c) (c:=⟨X.K,c.β,λ_=>none,G',True⟩) hK rfl (λ_ _=>rfl) ea,by rw[<-ea.length];exact z.1,
   Dy F (λd w v H2 G2 t2 e2=>w v H2 G2 (t.trans t2) (Rep.back (c':=⟨X.K,c.β,H',G',True⟩) (c:=c) hK.symm rfl (λa h=>ra.new0 h) e2)) (λnm w C H2 G2 hc t2=>⟨nm,C,G2,rfl,w,hc,ra.stp.trans t2⟩) z.2⟩
end
end Fd
namespace L2
open PySem PySem.Spec PyProof.Rows PySem.W
section
variable{X:Cx}{CX:mO}{E:XK}{x:Str}{i:Nat}{p pos:Pos}{e:Expr}{es:List Expr}{t:TA}
def zuH(X:Cx)(CX:mO)(i:Nat)(E:XK)(t:TA):TE:=λZ H Q=>∃f fd k ps sp,Z[i]?=some (some (V.ref f))/\aN X.prog X.w X.K X.mg X.base CX k f fd ps sp/\bK k X.A/\PySem.W.keepIn X.K (.ref f)=true/\Binds X.K fd ps []/\t Z H λvs H1=>sp (vs++[]) H1 Q E
def zq1(hN:X.N[i]?=some x)(hv:Dh X.env.scope x)(hx:nF CX X E)(ha:PA X (e::es) t)(hd:(x==("__debug__":Str))=false:=by decide)(hcd:(x==("__classdict__":Str))=false:=by decide)
  (he:starEach (e::es) X.env=(false,eval e X.env)::starEach es X.env:=by rfl) (hpl:(backTo pos (starEach es X.env)).any (·.1)=false:=by rfl):PE X (.Call (.Name x p) (e::es) [] pos) (zuH X CX i E t):=by
 intro aa s Z H Q I ⟨f,fd,k,ps,sp,ev,F,hr,hk,hb,h⟩;obtain⟨m,hn,hl⟩:=id I.loc;obtain⟨u,r,l⟩:=hl i x _ hN ev hv;obtain rfl:u=Value.ref f:=r;have go:wpAny (model X.prog X.w) X.A (callWith pos (.ref f) [] (backTo pos (starEach (e::es) X.env)) (backToKw pos (keywordEach [] X.env))) (EP X aa Z Q) X.xe s:=
  G7 (h₀:=X.base) I.ok.mod.kin hk (bH (ha pos aa s Z H _ I h) λus s1 ⟨vs,H1,I1,r,q⟩=>⟨I1.kIn,JC F hr hb .nil hx I1 r q⟩) he hpl
 rcases l with⟨hk,hm⟩|⟨hk,c,hc,hcell⟩
 .exact v9 (Ez (wpAny_loadName_local I.ok.kind hk hn hm go) hd)
 .rcases hk with hk|hk
  .exact v9 (Ez (wpAny_loadName_cell I.ok.kind hk hc hcell go) hd)
  .exact v9 (Ez (wpAny_loadName_free I.ok.kind hk hc hcell go hcd) hd)
end
end L2
namespace Fd
open PySem L2
structure Tab(X:Cx)(n:Nat)(T:List (Addr×jF)):Prop where
 ex:∀q∈T,∃fd k ps,aN X.prog X.w X.K X.mg X.base (dw X.prog X.w) k q.1 fd ps (du X.K X.mg n q.2)/\bK k X.A/\PySem.W.keepIn X.K (.ref q.1)=true/\Binds X.K fd ps []
section
variable{X:Cx}{c:Bk}{e:Expr}{es:List Expr}{pos p:Pos}{y:Str->Prop}
def zl1(i n:Nat)(T:List (Addr×jF))(y:Str->Prop)(R:WL):WE:=λS Q=>match S[i]? with
 |some (.val (.obj f))=>∃F,(f,F)∈T/\R S λds=>ds.length=n/\Bh F ds Q y
 |_=>False
def zsA(hT:Tab X n T)(hR:DA X c (e::es) R)(hx:nF (dw X.prog X.w) X (XD c X.mg y))(nk:Nk X i x:=by decreasing_trivial)(sk:Sk X e es pos:=by exact⟨rfl,rfl⟩)(hK:c.K=X.K:=by rfl) :
  DE X c (.Call (.Name x p) (e::es) [] pos) (zl1 i n T y R)where
 mono:=λS Q Q' l q=>by
  unfold zl1 at q ⊢;split at q
  .obtain⟨F,h1,q⟩:=q;exact⟨F,h1,hR.mono S _ _ (λds z=>⟨z.1,Dy F l (λ_ w=>w) z.2⟩) q⟩
  .exact q.elim
 pe:=dM (zq1 nk.N nk.v hx hR.pa nk.d nk.c sk.1 sk.2) λZ H Q ⟨S,G,r,q⟩=>by
  unfold zl1 at q;split at q
  .rename_i f ei
   obtain⟨F,h1,q⟩:=q;obtain⟨fd,k,ps,FO,hr,hk,hb⟩:=hT.ex _ h1;obtain⟨v,ev,rv⟩:=r.slot i _ ei;have rv':v=V.ref f:=rv;subst rv';refine⟨f,fd,k,ps,_,ev,FO,hr,hk,hb,S,G,r,hR.mono S _ _ (λds z vs H' G' t ea=>?_) q⟩;show du X.K X.mg n F (vs++[]) H' Q _;rw[YAK];have ra:=r.step t;exact⟨c.β,G',ds,t.gh,t.bx,aH.back (c':=c) (c:=⟨X.K,c.β,λ_=>none,G',True⟩) hK rfl (λ_ _=>rfl) ea,by rw[<-ea.length];exact z.1,
    Dy F (λd w v H2 G2 t2 e2=>w v H2 G2 (t.trans t2) (Rep.back (c':=⟨X.K,c.β,H',G',True⟩) (c:=c) hK.symm rfl (λa h=>ra.new0 h) e2)) (λnm w C H2 G2 hc t2=>⟨nm,C,G2,rfl,w,hc,ra.stp.trans t2⟩) z.2⟩
  .exact q.elim
end
end Fd
namespace L2
open PySem PySem.Spec PyProof.Rows
def mG(d:Addr)(es:Array DictEntry)(ep:Nat)(h:Heap):Prop:=∃o,h.get? d=some o/\o.data=.dict es ep
def mG.keep(x:mG d es ep h)(k:∀o,h.get? d=some o->h'.get? d=some o):mG d es ep h':=let⟨o,e,z⟩:=x;⟨o,k _ e,z⟩
section
variable{prog:Program}{w:World}{A:Around}{E:Value->Shared->Prop}{s:Shared}{it d v:Addr}{i ep:Nat}{es:Array DictEntry}
def zoq:Builtin.Dict_items.ownsTuple "dict_keyiterator"=false:=by decide
def zlX(hit:s.heap.IsKeyIter it d i es.size ep)(hm:mG d es ep s.heap)(hi:i<es.size)
  (q:∀h',h'.IsKeyIter it d (i+1) es.size ep->Heap.SameBut it s.heap h'->Q (some es[i].key) {s with heap:=h'}):wpAny (model prog w) A (pyNext (.ref it)) Q E s:=by
 obtain⟨o,ho,hc,hd⟩:=id hit;obtain⟨od,h1,h2⟩:=hm;unfold pyNext;refine aL (zA (YAH (name:=Str.ofString "__next__") hit.typeIs Jp (vJ Jp hit.typeIs F.entry_dict_keyiterator_next ?_ (F.args_dict_keyiterator_next_1 _))));refine aL (bV (aL (aL (aL (YBr hit.typeIs (bV (aL (wpAny_fieldsOf ho hd ?_))))))));simp only[zoq,BJ,uM];show wpAny _ _ (if (Value.ref d==Value.none)=true then _ else _) _ _ s;refine Ar zQ (aL (bV (aL (YCV h1 h2 ?_))));refine Ar (by simp) (aL (bV (aL (YC6 h1 h2 ?_))));refine Ar (by simp) (bV ?_);simp only[show ¬ ((i:Int)<0)from by omega,uM,Ht,Hr hi];refine aL (aL (YBr hit.typeIs (bV (aL (wpAny_isOneOf_keyiter hit.typeIs ?_)))));show wpAny _ _ (setField (.ref it) 1 (rawInt ((i:Int)+1)) >>= _) _ _ s;refine aL (zO ho hd (by simp) ?_);have hit':(s.heap.update it (Obj.mapFields (·.setIfInBounds 1 (rawInt ((i:Int)+1))))).IsKeyIter it d (i+1) es.size ep:=
  ⟨_,YAU _ ho (YBU (Fj hd _)),(YCj ..).trans hc,by rw[Fj hd];simp[rawInt]⟩
 generalize s.heap.update it (Obj.mapFields (·.setIfInBounds 1 (rawInt ((i:Int)+1))))=h3,(YB1 s.heap it (Obj.mapFields (·.setIfInBounds 1 (rawInt ((i:Int)+1)))):Heap.SameBut it s.heap _)=sb at hit' ⊢;refine aL (qx (aL (wpAny_isOneOf_keyiter (s:={s with heap:=h3}) hit'.typeIs ?_)));show wpAny _ _ (pure es[i].key) _ _ _;exact bV (bV ⟨_,rfl,bV (q _ hit' sb)⟩)
def zpl(hh:A.handled=none)(hit:s.heap.IsKeyIter it d es.size es.size ep)(hm:mG d es ep s.heap)
  (q:∀h',Heap.ExtBut it s.heap h'->Q none {s with heap:=h'}):wpAny (model prog w) A (pyNext (.ref it)) Q E s:=by
 obtain⟨o,ho,hc,hd⟩:=id hit;obtain⟨od,h1,h2⟩:=hm;unfold pyNext;refine aL (zA (YAH (name:=Str.ofString "__next__") hit.typeIs Jp (vJ Jp hit.typeIs F.entry_dict_keyiterator_next ?_ (F.args_dict_keyiterator_next_1 _))));refine aL (bV (aL (aL (aL (YBr hit.typeIs (bV (aL (wpAny_fieldsOf ho hd ?_))))))));simp only[zoq,BJ,uM];show wpAny _ _ (if (Value.ref d==Value.none)=true then _ else _) _ _ s;refine Ar zQ (aL (bV (aL (YCV h1 h2 ?_))));refine Ar (by simp) (aL (bV (aL (YC6 h1 h2 ?_))));refine Ar (by simp) (bV ?_);simp only[show ¬ ((es.size:Int)<0)from by omega,uM,Ht,Array.getElem?_eq_none (dG _)];refine aL (aL (YBr hit.typeIs (bV ?_)));show wpAny _ _ (setField (.ref it) 0 .none >>= _) _ _ s;refine aL (zO ho hd (by simp) ?_);show wpAny _ _ (newExc (.type "StopIteration") [] >>= _) _ _ _;refine aL ?_;simp only[newExc,newTuple];refine aL (YAI ?_ (by size_fits));refine aL (m:=firstArgMember _ _) (wpAny_of_eq (a:=Value.none) (by first|rfl|(simp only[firstArgMember];rfl)) ?_);refine YAI ?_ (by size_fits);simp only[raiseNew];refine aL (wpAny_handled ?_);rw[show A.in1.handled=none from hh];refine aL (bV (wpAny_throw ?_));refine aL (JL (T:="StopIteration") (b:=true) ⟨_,jD _ rfl,rfl⟩ YCM ?_);exact bV (q _ (((YB1 ..).extBut.push _).push _))
def znC(hh:A.handled=none)(I d:Addr)(hne:d≠I)(es:Array DictEntry)(ep:Nat):Walks prog w A I [I,d] [I] es.size (λi v=>(es.map (·.key))[i]?=some v) (λi h=>h.IsKeyIter I d i es.size ep/\mG d es ep h)where
 sub:=λb hb=>by simp at hb;simp[hb]
 frame:=λ_ _ _ st hk=>⟨st.1.at λo e=>hk I (by simp) o e,st.2.keep λo e=>hk d (by simp) o e⟩
 item:=λi s Q E hi st q=>zlX st.1 st.2 hi λh' a b=>q _ h' s.toks (by simp[hi]) ⟨a,st.2.keep λo e=>b.extBut d o hne e⟩ λb' o hb e=>b.extBut b' o (λh=>hb (by simp[h])) e
 done:=λs Q E st q=>zpl hh st.1 st.2 λh' a=>q h' s.toks λb o hb e=>a b o (λh=>hb (by simp[h])) e
 self:=λ_ _ _ _ st q=>wpAny_pyIter_keyiter st.1 q
def zmb(hd:(d==sysModules)=false)(hT:s.TypeIs (.ref d) "dict")(hm:mG d es ep s.heap)
  (q:Q (.ref s.heap.objs.size) {s with heap:=s.heap.push {cls:=.type "dict_keyiterator",data:=.fields #[.ref d,.int 0 0,.int es.size 0,.int ep 0]}}):wpAny (model prog w) A (pyIter (.ref d)) Q E s:=by
 obtain⟨o,e1,e2⟩:=hm;refine wpAny_pyIter_slot hT F.slot_dict_iter (vJ F.slot_dict_iter hT F.entry_dict_iter ?_ (F.args_dict_iter_1 _));unfold Builtin.«dict.__iter__»;refine aL ?_;unfold Builtin.Dict.dictSlotNone;refine aL (wpAny_notOrdered_dict hT ?_);show wpAny _ _ (pure (Value.ref d)) _ _ s;refine bV ?_;show wpAny _ _ (Builtin.Dict.showsAll d >>= _) _ _ s;unfold Builtin.Dict.showsAll;rw[if_neg (by rw[hd];exact zQ)];refine aL (bV (aL (YCV e1 e2 (aL (YC6 e1 e2 ?_)))));refine aL (YAI (bV ⟨_,rfl,"dict_keyiterator",_,⟨_,jD _ rfl,rfl⟩,Jp.lookup,?_⟩))
 simpa[rawInt]using q
def zn3(hh:A.handled=none)(hd:(d==sysModules)=false)(hT:∀h,(∀o,s.heap.get? d=some o->h.get? d=some o)->Shared.TypeIs {s with heap:=h} (.ref d) "dict")(hm:mG d es ep s.heap)(hz:es.size<=1000)
  (q:∀h' tk c,(∀b o,s.heap.get? b=some o->h'.get? b=some o)->h'.get? s.heap.objs.size=some {cls:=.type "list",dict:=none,data:=.seq (es.map (·.key)) c,slots:=#[]}->Q (.ref s.heap.objs.size) {s with heap:=h',toks:=tk}) :
  wpAny (model prog w) A (call (.type "list") [.ref d]) Q E s:=by
 refine callType_codes (Q₁:=λobj s₁=>obj=.ref s.heap.objs.size/\s₁={s with heap:=s.heap.push {cls:=.type "list",data:=.seq #[]}}) F.called_list (F.typeCall_list_1 _) F.entry_list_init (code_list_new _ ⟨rfl,rfl⟩) λobj s₁ h₁=>?_;obtain⟨rfl,rfl⟩:=h₁;have hS:(s.heap.push {cls:=.type "list",data:=.seq #[]}).get? s.heap.objs.size=some {cls:=.type "list",data:=.seq #[]}:=jD _ rfl;have dlt:d<s.heap.objs.size:=let⟨o,e,_⟩:=hm;dB e
 have k1:∀b o,s.heap.get? b=some o->(s.heap.push {cls:=.type "list",data:=.seq #[]}).get? b=some o:=λb o e=>dX _ e;have z1:(s.heap.push {cls:=.type "list",data:=.seq #[]}).objs.size=s.heap.objs.size+1:=xm ..;refine⟨⟨_,hS,rfl⟩,F.args_list_init_2 _ _,?_⟩;generalize s.heap.push {cls:=.type "list",data:=.seq #[]}=h1 at *;show wpAny _ _ (do let old <-Builtin.List.listItems (.ref s.heap.objs.size);Builtin.List.listUpdate (.ref s.heap.objs.size) (λ_=>#[]);letGo old.toList.reverse;Builtin.List.listExtendWith (.ref s.heap.objs.size) (.ref d) .none) _ _ {s with heap:=h1};refine aL ?_;unfold Builtin.List.listItems;refine aL (wz hS rfl (bV ?_));show wpAny _ _ (updateSeq s.heap.objs.size (λ_=>#[]) >>=λ_=>letGo (#[]:Array Value).toList.reverse >>=λ_=>Builtin.List.listExtendWith (.ref s.heap.objs.size) (.ref d) .none) _ _ {s with heap:=h1};refine aL (YC7 (s:={s with heap:=h1}) hS rfl ?_);have hS2:=YAU (Obj.mapSeq (λ_=>(#[]:Array Value))) hS rfl;have o2:∀b o,b≠s.heap.objs.size->h1.get? b=some o->(h1.update s.heap.objs.size (Obj.mapSeq (λ_=>(#[]:Array Value)))).get? b=some o:=λb o hb e=>(YAL _ _ (YAM hb)).trans e;have z2:(h1.update s.heap.objs.size (Obj.mapSeq (λ_=>(#[]:Array Value)))).objs.size=s.heap.objs.size+1:=by rw[Heap.size_update];exact z1
 refine aL (YDc ?_);generalize h1.update s.heap.objs.size (Obj.mapSeq (λ_=>(#[]:Array Value)))=h2 at *;have low:∀b o,s.heap.get? b=some o->h2.get? b=some o:=λb o e=>o2 b o (fX (dB e)) (k1 b o e);have hm2:mG d es ep h2:=hm.keep λo e=>low _ _ e;have ty:Shared.TypeIs {s with heap:=h2} (.ref d) "dict":=hT h2 λo e=>low _ _ e;unfold Builtin.List.listExtendWith;refine aL (HX ty ?_);simp only[show Builtin.List.listSameRef (.ref s.heap.objs.size) (.ref d)=false by simp[Builtin.List.listSameRef,wy dlt],show(Value.type "dict"==Value.type "list")=false by decide,show(Value.type "dict"==Value.type "tuple")=false by decide,Bool.or_false,BJ,uM];refine aL (zmb (s:={s with heap:=h2}) hd ty hm2 ?_);rw[show({s with heap:=h2}:Shared).heap.objs.size=s.heap.objs.size+1 from z2];have hI:(h2.push {cls:=.type "dict_keyiterator",data:=.fields #[.ref d,.int 0 0,.int es.size 0,.int ep 0]}).IsKeyIter (s.heap.objs.size+1) d 0 es.size ep:=⟨_,by rw[<-z2];exact jD _ rfl,rfl,rfl⟩;have k3:∀b o,h2.get? b=some o->(h2.push {cls:=.type "dict_keyiterator",data:=.fields #[.ref d,.int 0 0,.int es.size 0,.int ep 0]}).get? b=some o:=λb o e=>dX _ e;generalize h2.push {cls:=.type "dict_keyiterator",data:=.fields #[.ref d,.int 0 0,.int es.size 0,.int ep 0]}=h3 at *;have ty3:Shared.TypeIs {s with heap:=h3} (.ref d) "dict":=hT h3 λo e=>k3 _ _ (low _ _ e);refine aL (qx ?_);unfold Builtin.List.listLengthHint;refine aL (YC3 ty3 PySem.F.slot_dict_len.lookup ?_);dsimp only;rw[zib];dsimp only;refine aL (JL ty3 isSubtype_dict_dict ?_);refine Ar (by decide) (zrK (by decide +kernel) (aL (HX ty3 (bV ?_))));refine zrK (by decide +kernel) (aL (zW (aL ?_)));show wpAny _ _ (updateSeq s.heap.objs.size (·.push .none) >>=λ_=>updateSeq s.heap.objs.size (·.pop)) _ _ _;have hS3:=k3 _ _ hS2;refine aL (YC7 (s:={s with heap:=h3}) hS3 rfl ?_);have hS4:=YAU (Obj.mapSeq (·.push Value.none)) hS3 rfl;refine YC7 (hz:=by seq_fits) hS4 rfl ?_;have hS5:=YAU (Obj.mapSeq (·.pop)) hS4 rfl;have o4:∀b o,b≠s.heap.objs.size->h3.get? b=some o->((h3.update s.heap.objs.size (Obj.mapSeq (·.push Value.none))).update s.heap.objs.size (Obj.mapSeq (·.pop))).get? b=some o:=λb o hb e=>
  (YAL _ _ (YAM hb)).trans ((YAL _ _ (YAM hb)).trans e)
 have nS:s.heap.objs.size∉[s.heap.objs.size+1,d]:=by
  simp only[iU,lz,uL,not_or];exact⟨fX (YCr _),wy dlt⟩
 have W:=(znC (prog:=prog) (w:=w) (A:=A.in1.in1) hh (s.heap.objs.size+1) d (fX (YCk dlt)) es ep).toS;refine bV ⟨plainId_quiet PySem.F.plain_extend_loop _,codeAny_extend_loopS W (by rw[nO];omega) _ nS _ es.size 0 _ _ _ rfl (v6 _) ⟨hI.at λo e=>o4 _ _ (wy (YCr _)) e,(hm2.keep λo e=>k3 _ _ e).keep λo e=>o4 _ _ (fX dlt) e⟩ hS5 (ItemsOf.nil _) λs' acc' c' hm' hS' hacc=>?_⟩;have ev:acc'=es.map (·.key):=by
  apply Array.ext
  .rw[hacc.1,Array.size_map]
  .intro j j1 j2
   have:(es.map (·.key))[j]?=some acc'[j]:=hacc.2 j acc'[j] (by simp[j1])
   rw[Hr j2]at this;exact(Option.some.inj this).symm
 subst ev;obtain⟨hh',g',d',tk',o'⟩:=s';have eg:g'=s.gens:=hm'.gens;have ed:d'=s.drawn:=hm'.drawn;have eo:o'=s.os:=hm'.os;subst eg ed eo;exact⟨rfl,q hh' tk' c' (λb o e=>hm'.heap b o (by
  have hb1:=dB e;simp only[iU,lz,uL,not_or];exact⟨fX hb1,fX (YCk hb1)⟩) (o4 b o (fX (dB e)) (k3 b o (low b o e)))) hS'⟩
end
section
variable{X:Cx}{e:Expr}{st:Stmt}
def zuc(h:PE X e t):PE X e (λZ H Q=>t Z H λv H1=>∃a kvs,v=.ref a/\H1 a=some (.dK kvs)/\∀o,Q v (upd H1 a (.jl o (.dK kvs)))):=λaa s Z H Q I q=>
 bH (h aa s Z H _ I q) λu s1 ⟨v,H1,I1,r,a,kvs,ev,ha,q1⟩=>by
  obtain⟨o,ho⟩:=(I1.hok a _ ha).ex;exact⟨v,_,I1.freeze ha ho,r,q1 o⟩
def zui(h:PS X st t):PS X st (λD Z H=>t {D with nx:=λZ1 H1=>∃a kvs,H1 a=some (.dK kvs)/\∀o,D.nx Z1 (upd H1 a (.jl o (.dK kvs)))} Z H):=λaa s Z H D I q=>
 bH (h aa s Z H _ I q) λf s1 z=>by
  cases f with
  |next=>
   obtain⟨Z1,H1,I1,a,kvs,ha,q1⟩:=z;obtain⟨o,ho⟩:=(I1.hok a _ ha).ex;exact⟨Z1,_,I1.freeze ha ho,q1 o⟩
  |brk=>exact z
  |cont=>exact z
  |ret u=>exact z
end
theorem zgD :∀{es:List DictEntry}{vs:List (Key×Value)},Pairs (lG P w) es vs->es.length=vs.length/\∀(i:Nat) e,es[i]?=some e->∃p,vs[i]?=some p/\RelV (kV p.1) e.key
 |_,_,.nil=>⟨rfl,λi e h=>by simp at h⟩
 |_,_,.cons h1 _ h3=>by
  obtain⟨l,f⟩:=zgD h3;refine⟨by simp[l],λi e h=>?_⟩;cases i with
  |zero=>simp at h;subst h;exact⟨_,rfl,zuk h1⟩
  |succ i=>rw[rO]at h ⊢;exact f i e h
def Itk(d:Addr)(o:Obj)(kvs:List (Key×V)):It:=
 ⟨λi H=>i<kvs.length/\H d=some (.jl o (.dK kvs)),λi H v H'=>H'=H/\∃p,kvs[i]?=some p/\v=kV p.1,λi H=>i=kvs.length/\H d=some (.jl o (.dK kvs))⟩
def zpk{P:Program}{w:World}{K:qo}{tg:Expr}{it d:Addr}{o:Obj}{kvs:List (Key×V)}{ents:Array DictEntry}{ep:Nat}(ho:o.data=.dict ents ep) :
  Turn P w K tg (Itk d o kvs) [it] it (λi h=>h.IsKeyIter it d i ents.size ep)where
 mem:=by simp
 obj:=λk h st c hc=>by
  rw[lC.mp hc];obtain⟨u,e,_,z⟩:=st;exact⟨u,e,λv q=>by rw[z]at q;cases q⟩
 keep:=λk h h' ⟨u,e,r⟩ q=>⟨u,q it (by simp) u e,r⟩
 item:=by
  intro X hP hw hK hc k aa s Z H E I hf st hg;subst hP hw hK;obtain⟨hk,hd⟩:=hg;obtain⟨eo,z,hS,vs,rel,o',es',ep',e',xd,dd,kk,pp,nn⟩:=I.hok d _ hd;rw[eo]at e';cases e';rw[ho]at dd;cases dd;have hlen:kvs.length=vs.length:=rel.length;obtain⟨l,f⟩:=zgD pp;have hke:k<ents.size:=by rw[<-Cq,l,<-hlen];exact hk
  refine zlX st ⟨o,eo,ho⟩ hke λh' a b=>⟨_,rfl,?_⟩;obtain⟨f0,f1,f2,f3,f4,f5⟩:=hf it (by simp);have I1:Inv X aa Z H {s with heap:=h',toks:=s.toks}:=I.turned (t':=s.toks) (λc u hb e=>b.extBut c u hb e) f0 f1 f3 f4 f5;obtain⟨p,hp,rk⟩:=f k ents[k] (by rw[YCo,Hr hke]);obtain⟨q,hq⟩:∃q,kvs[k]?=some q:=⟨_,jB hk⟩;have e1:q.1=p.1:=(zjD rel hq hp).1;obtain⟨u,g1,g2,g3⟩:=id a;exact Ey (s:={s with heap:=h'}) g1 g2 g3 (by decide) ⟨kV p.1,H,I1,rk,⟨rfl,q,hq,by rw[e1]⟩,a,λc hc=>(hf c hc).1⟩
 done:=by
  intro X hP hw hK hc k aa s Z H E I hf st hg;subst hP hw hK;obtain⟨hk,hd⟩:=hg;obtain⟨eo,z,hS,vs,rel,o',es',ep',e',xd,dd,kk,pp,nn⟩:=I.hok d _ hd;rw[eo]at e';cases e';rw[ho]at dd;cases dd;have hlen:kvs.length=vs.length:=rel.length;obtain⟨l,f⟩:=zgD pp;have hke:k=ents.size:=by rw[<-Cq,l,<-hlen];exact hk
  subst hke;refine zpl (I.ok.hd hc) st ⟨o,eo,ho⟩ λh' eb=>⟨rfl,?_⟩;obtain⟨f0,f1,f2,f3,f4,f5⟩:=hf it (by simp);exact I.turned (t':=s.toks) (λb u hb e=>eb b u hb e) f0 f1 f3 f4 f5
 self:=λ_ _ _ _ _ st h=>wpAny_pyIter_keyiter st h
def zwG(td:TE):TI:=λZ H R=>td Z H λx H1=>∃d o kvs,x=.ref d/\H1 d=some (.jl o (.dK kvs))/\R (Itk d o kvs) H1
def ztl{X:Cx}{tg e:Expr}{td:TE}(ho:PE X e td):PI X tg e (zwG td):=by
 intro aa s Z H R I h;refine bH (ho aa s Z H _ I h) λu s1 ⟨x,H1,I1,rx,d,o,kvs,ex,hd,q⟩=>?_;subst ex;obtain rfl:u=Value.ref d:=rx;obtain⟨eo,z,hS,vs,rel,o',es',ep',e',xd,dd,kk,pp,nn⟩:=I1.hok d _ hd;rw[eo]at e';cases e';refine zmb hS ⟨o,eo,xd.1⟩ ⟨o,eo,dd⟩ ?_;refine⟨s1.heap.objs.size,[s1.heap.objs.size],_,_,H1,rfl,I1.kept (t':=s1.toks) λb u e=>dX _ e,zpk dd,⟨_,jD _ rfl,rfl,rfl⟩,λb hb=>?_,q⟩;rw[lC.mp hb];exact I1.fpOk (dG _) (I1.hok.fresh (dG _))
def zjd(hc:X.calm=true):cY X (.type "list") (λvs H Q=>∃d kvs,vs=[.ref d]/\Rd H d (.dK kvs)/\kvs.length<=1000/\∀l,H l=none->Q (.ref l) (upd H l (.lst (kvs.map λp=>kV p.1)))):=by
 intro aa s Z H vs us Q I r h;obtain⟨d,kvs,rfl,hd,hz,q⟩:=h;obtain⟨u,rfl,rx⟩:=qQ r;cases rx;obtain⟨z,sy,xs,rel,o,es,ep,h1,h2,h3,h4,h5,h6⟩:=yO I.hok hd;obtain⟨l,f⟩:=zgD h5;have lx:xs.length=kvs.length:=rel.length.symm;have hsz:es.size=kvs.length:=by rw[<-Cq,l,lx]
 refine zn3 (I.ok.hd hc) sy (λh' k=>⟨o,k _ h1,h2.1⟩) ⟨o,h1,h3⟩ (by omega) λh' tk c' k g=>?_;refine⟨.ref s.heap.objs.size,upd H s.heap.objs.size (.lst (kvs.map λp=>kV p.1)),I.laid (t':=tk) k (dG _) ⟨by rw[b8,nO];omega,es.toList.map (·.key),c',?_,by rw[g,<-Array.toList_map,Array.toArray_toList]⟩,rfl,q _ (I.hok.fresh (dG _))⟩;have go:∀{es:List DictEntry}{xs:List (Key×Value)}{kvs:List (Key×V)},Pairs (lG X.prog X.w) es xs->KV kvs xs->Vals (kvs.map λp=>kV p.1) (es.map (·.key)):=by
  intro es xs kvs hp
  induction hp generalizing kvs with
  |nil=>intro h;cases h;exact .nil
  |cons a _ _ ih=>intro h;cases h with|cons b t=>exact .cons (by show RelV (kV _) _;rw[b.1];exact zuk a) (ih t)
 exact go h5 rel
end L2
namespace Fd
open PySem L2
def noD:Env->Bool
 |[]=>true
 |.dic _ _::_=>false
 |_::r=>noD r
def BX:Nat->Env->Bool
 |_,[]=>true
 |0,_::r=>noD r
 |_+1,.dic _ _::_=>false
 |i+1,_::r=>BX i r
theorem zmo:∀{S:Env},noD S=true->∀(j:Nat) ks xs,S[j]?≠some (.dic ks xs)
 |[],_,j,ks,xs=>by simp
 |.dic _ _::_,h,_,_,_=>by cases h
 |.un::r,h,0,ks,xs=>by simp
 |.val _::r,h,0,ks,xs=>by simp
 |.own _::r,h,0,ks,xs=>by simp
 |.un::r,h,j+1,ks,xs=>by rw[rO];exact zmo (S:=r) h j ks xs
 |.val _::r,h,j+1,ks,xs=>by rw[rO];exact zmo (S:=r) h j ks xs
 |.own _::r,h,j+1,ks,xs=>by rw[rO];exact zmo (S:=r) h j ks xs
theorem ziH:∀{i:Nat}{S:Env},BX i S=true->∀(j:Nat) ks xs,S[j]?=some (.dic ks xs)->j=i
 |_,[],_,j,ks,xs,e=>by simp at e
 |0,s::r,h,0,ks,xs,e=>rfl
 |0,s::r,h,j+1,ks,xs,e=>absurd (by rw[rO]at e;exact e) (zmo (S:=r) h j ks xs)
 |_+1,.dic _ _::_,h,_,_,_,_=>by cases h
 |i+1,.un::r,h,0,ks,xs,e=>by simp at e
 |i+1,.val _::r,h,0,ks,xs,e=>by simp at e
 |i+1,.own _::r,h,0,ks,xs,e=>by simp at e
 |i+1,.un::r,h,j+1,ks,xs,e=>by rw[ziH (i:=i) (S:=r) h j ks xs (by rw[rO]at e;exact e)]
 |i+1,.val _::r,h,j+1,ks,xs,e=>by rw[ziH (i:=i) (S:=r) h j ks xs (by rw[rO]at e;exact e)]
 |i+1,.own _::r,h,j+1,ks,xs,e=>by rw[ziH (i:=i) (S:=r) h j ks xs (by rw[rO]at e;exact e)]
section
variable{c:Bk}{S:Env}{Z:St}{H G:Hp}{i:Nat}
def Rel.putDic(r:Rel c S Z H G)(hl:H l=some (.dK (dD ks vs)))(hg:G l=none)(h0:c.H0 l=none)(hb:l≠c.β)(h:aH c G xs vs)(hn:ks.length=vs.length):Rel c (S.set i (.dic ks xs)) (Z.set i (some (.ref l))) H G:=by
 refine⟨by simp[r.len],r.stp,λj s e=>?_,λj k a xs' ys e1 e2 e3 e4=>?_,r.kn⟩
 .by_cases z:i=j
  .subst z;have hi:i<S.length:=by have:=(jC.mp e).1;simpa using this
   rw[jL hi]at e;cases e;exact⟨l,vs,by rw[jL (by rw[<-r.len];exact hi)],hl,hg,h0,hb,h,hn⟩
  .rw[jG z]at e ⊢;exact r.slot j s e
 .have nn:∀{j:Nat}{xs},(S.set i (.dic ks xs'))[j]?=some (.own xs)->True:=λ_=>trivial;have nj:i≠j:=λz=>by
   subst z;have hi:i<S.length:=by have:=(jC.mp e1).1;simpa using this
   rw[jL hi]at e1;cases e1
  have nk:i≠k:=λz=>by
   subst z;have hi:i<S.length:=by have:=(jC.mp e2).1;simpa using this
   rw[jL hi]at e2;cases e2
  rw[jG nj]at e1 e3;rw[jG nk]at e2 e4;exact r.dis j k a xs' ys e1 e2 e3 e4
def Rel.writeD(r:Rel c S Z H G)(hi:S[i]?=some (.dic ks xs))(hs:Z[i]?=some (some (.ref l)))(h:aH c G ys ws)(hn:ks'.length=ws.length)(ho:BX i S=true) :
  Rel c (S.set i (.dic ks' ys)) Z (upd H l (.dK (dD ks' ws))) G:=by
 obtain⟨a,vs,h1,h2,h3,h4,h5,h6,h7⟩:=r.slot i _ hi;rw[hs]at h1;cases h1;have hil:i<S.length:=(jC.mp hi).1;refine⟨by simp[r.len],⟨r.stp.gg,λb u e=>?_,λb u n e=>?_,r.stp.nw,?_,r.stp.b0,λcc p q d e=>by
  obtain⟨p',q',d',e'⟩:=r.stp.bc cc p q d e;exact⟨p',q',d',by rw[au (YAM h5)];exact e'⟩⟩,λj s e=>?_,λj k b xs' ys' e1 e2 e3 e4=>?_,r.kn⟩
 .rw[au (λz=>by rw[z,h3]at e;cases e)];exact r.gh b u e
 .rw[au (λz=>by rw[z,h4]at e;cases e)];exact r.stp.fr b u n e
 .obtain⟨cc,p,q,d,ns,e,z⟩:=r.bx.ex;exact⟨⟨cc,p,q,d,ns,by rw[au (YAM h5)];exact e,z⟩,r.bx.still⟩
 .by_cases z:i=j
  .subst z;rw[jL hil]at e;cases e;exact⟨l,ws,hs,cJ,h3,h4,h5,h,hn⟩
  .rw[jG z]at e;have q:=r.slot j s e;cases s with
   |un=>trivial
   |val d=>exact q
   |own zs=>
    obtain⟨b,us,g1,g2,g3⟩:=q;have nb:b≠l:=λy=>by rw[y,h2]at g2;cases g2
    exact⟨b,us,g1,by rw[au nb];exact g2,g3⟩
   |dic k2 zs=>exact absurd (ziH ho j k2 zs e).symm z
 .have f:∀(m:Nat) zs,(S.set i (.dic ks' ys))[m]?=some (.own zs)->S[m]?=some (.own zs):=λm zs e=>by
   by_cases z:i=m
   .subst z;rw[jL hil]at e;cases e
   .rw[jG z]at e;exact e
  exact r.dis j k b _ _ (f j _ e1) (f k _ e2) e3 e4
end
def dcV:D->Option (List Str×List D)
 |.dct _ ks xs=>some (ks,xs)
 |.fdc ks xs=>some (ks,xs)
 |_=>none
def KR(h:Rep c G d v)(e:dcV d=some (ks,xs)):∃a vs,v=.ref a/\Rd G a (.dK (dD ks vs))/\ks.length=vs.length/\aH c G xs vs:=by
 cases d with
 |dct n ks' xs'=>cases e;obtain⟨a,vs,h1,h2,_,h4,h5⟩:=h;exact⟨a,vs,h1,.inl h2,h4,h5⟩
 |fdc ks' xs'=>cases e;obtain⟨a,vs,o,h1,h2,h4,h5⟩:=h;exact⟨a,vs,h1,.inr ⟨o,h2⟩,h4,h5⟩
 |_=>cases e
def Hf(s:Same G H):Rd G a u->Rd H a u
 |.inl h=>.inl (s _ _ h)
 |.inr ⟨o,h⟩=>.inr ⟨o,s _ _ h⟩
def sH(d:D)(Q:List Str->List D->Prop):Prop:=match dcV d with|some p=>Q p.1 p.2|none=>False
def Kl(k:∀a b,Q a b->Q' a b)(q:sH d Q):sH d Q':=by
 unfold sH at q ⊢;split at q
 .exact k _ _ q
 .exact q.elim
section
variable{X:Cx}{c:Bk}{e ie ve:Expr}{es:List Expr}{rest:List Stmt}{pos p p2 cp tp pos2:Pos}
abbrev Bm(i:Nat)(A:WE):WS:=λE S=>A S λd=>sH d λks xs=>E.nx (S.set i (.dic ks xs))
def zvV(i:Nat)(hA:DE X c e A)(hi:X.N[i]?=some x:=by rfl)(hx:Loc X.env.scope x:=by first|exact Or.inl rfl|exact Or.inr rfl)(hg:Gl X "dict":=by rfl)(he:starEach [e] X.env=(false,eval e X.env)::starEach [] X.env:=by rfl)
  (hs:swapsWith (.Call (.Name "dict" p2) [e] [] cp) (some (.Name x p)) pos.line X.env=pure false:=by rfl) (hf:X.fn x=true\/X.env.scope.names.lookup x=some .local:=by first|exact .inl rfl|exact .inr rfl|assumption) (hm:X.mg "dict"=none:=by decreasing_trivial) (hN:X.N.Nodup:=by decreasing_trivial):DS X c (.Assign [.Name x p] (.Call (.Name "dict" p2) [e] [] cp) pos) (Bm i A)where
 mono:=λE E' S l q=>hA.mono S _ _ (λd z=>Kl (λa b y=>l.nx _ y) z) q
 ps:=kY (uB hN hi hx (zu zeh hg hm YCf (iI hA.pe jW he) (by decide) (by decide) he rfl) hs hf) λD Z H ⟨S,G,r,q⟩=>⟨S,G,r,hA.mono S _ _ (λd z v H' G' t e=>by
  unfold sH at z;split at z
  .rename_i pr ed
   obtain⟨a,vs,h1,h2,h3,h4⟩:=KR e ed;subst h1;refine⟨a,_,rfl,Hf t.gh h2,λl hl=>?_⟩;have r1:=r.step t;have r2:=r1.step (aZ.own (o:=.dK (dD pr.1 vs)) r1.gh r1.bx hl);exact z _ _ G' (r2.putDic cJ (lU r1.gh hl) (r1.new0 hl) (r1.neβ hl) h4 h3) t.gg
  .exact z.elim) q⟩
def gP(i:Nat)(I A:WE):WS:=λE S=>match S[i]? with
 |some (.dic ks xs)=>BX i S=true/\ks.length<1000/\A S λd=>I S λk=>(match k with|.str z=>E.nx (S.set i (.dic (bF ks z) (aW ks xs z d)))|_=>False)
 |_=>False
def Bc(i:Nat)(hA:DE X c e A)(hI:DE X c ie I)(nk:Nk X i x:=by decreasing_trivial)(hs:swapsWith e (some (.Subscript (.Name x p) ie tp)) pos.line X.env=pure false:=by rfl)(hu:X.A.units+1<cLine:=by decreasing_trivial):DS X c (.Assign [.Subscript (.Name x p) ie tp] e pos) (gP i I A)where
 mono:=λE E' S l q=>by
  unfold gP at q ⊢;split at q
  .exact⟨q.1,q.2.1,hA.mono S _ _ (λd z=>hI.mono S _ _ (λk y=>by
    cases k<;>first|exact l.nx _ y|exact y) z) q.2.2⟩
  .exact q.elim
 ps:=kY (zkM hu (kO nk.N nk.v nk.d nk.c) hI.pe hA.pe hs) λD Z H ⟨S,G,r,q⟩=>by
  unfold gP at q;split at q
  .rename_i ks xs ek
   obtain⟨ho,hk,q⟩:=q;refine⟨S,G,r,hA.mono S _ _ (λd z v H1 G1 t1 e1=>?_) q⟩;obtain⟨a,vs,h1,h2,h3,h4,h5,h6,h7⟩:=(r.step t1).slot i _ ek;refine⟨.ref a,h1,S,G1,r.step t1,hI.mono S _ _ (λk y w H2 G2 t2 e2=>?_) z⟩;cases k with
   |str z=>
    have ew:w=V.str z:=e2;subst ew;have len:(dD ks vs).length<sizeLine:=by
     unfold dD;rw[b8,yz,<-h7,wY,nO];omega
    refine⟨a,_,rfl,nu.k (k:=.inr z) (t2.fr a _ h5 h2) len,?_⟩;rw[ziE h7];exact y Z _ G2 (((r.step t1).step t2).writeD ek h1 (zfD (e1.mono t2.gg) (h6.mono t2.gg)) (ziG h7) ho) (t1.gg.trans t2.gg)
   |_=>exact y.elim
  .exact q.elim
noncomputable def Ao(i:Nat)(I A:WE):WS:=λE S=>match S[i]? with
 |some (.dic ks xs)=>BX i S=true/\ks.length<1000/\I S λk=>(match k with
  |.str z=>(match dZ ks xs z with
   |some (.int a)=>A S λd=>intD d λb=>E.nx (S.set i (.dic (bF ks z) (aW ks xs z (.int (a+b)))))
   |_=>False)
  |_=>False)
 |_=>False
def zt4(i:Nat)(hI:DE X c ie I)(hA:DE X c e A)(nk:Nk X i x:=by decreasing_trivial)
  (ha:∀ov iv new,augStore ie ov iv new=(do holding [new,ov,iv] (setItem ov iv new);release [new,ov,iv] [];pure .next):=by intros;rfl) (hu:X.A.units+1<cLine:=by decreasing_trivial):DS X c (.AugAssign (.Subscript (.Name x p) ie tp) .Add e pos) (Ao i I A)where
 mono:=λE E' S l q=>by
  unfold Ao at q ⊢;split at q
  .refine⟨q.1,q.2.1,hI.mono S _ _ (λk y=>?_) q.2.2⟩;split at y
   .split at y
    .exact hA.mono S _ _ (λd w=>zod (λb=>l.nx _) w) y
    .exact y.elim
   .exact y.elim
  .exact q.elim
 ps:=kY (zsl hu (kO nk.N nk.v nk.d nk.c) hI.pe hA.pe zu2 ha) λD Z H ⟨S,G,r,q⟩=>by
  unfold Ao at q;split at q
  .rename_i ks xs ek
   obtain⟨ho,hk,q⟩:=q;obtain⟨a,vs,h1,h2,h3,h4,h5,h6,h7⟩:=r.slot i _ ek;refine⟨.ref a,h1,S,G,r,hI.mono S _ _ (λk y w H1 G1 t1 e1=>?_) q⟩;split at y
   .rename_i z
    have ew:w=V.str z:=e1;subst ew;split at y
    .rename_i n en
     obtain⟨v,f1,f2⟩:=Kw h6 en;have ev:v=V.int n:=f2;subst ev;have g0:=jd.k (k:=Sum.inr z) (t1.fr a _ h5 h2);rw[Fg,f1]at g0;refine⟨a,_,rfl,g0,S,G1,r.step t1,hA.mono S _ _ (λd z2 u H2 G2 t2 e2=>?_) y⟩;cases d with
     |int b=>
      have eu:u=V.int b:=e2;subst eu;have len:(dD ks vs).length<sizeLine:=by
       unfold dD;rw[b8,yz,<-h7,wY,nO];omega
      refine⟨n,b,rfl,rfl,_,nu.k (k:=.inr z) (t2.fr a _ h5 (t1.fr a _ h5 h2)) len,?_⟩;rw[ziE h7];exact z2 Z _ G2 (((r.step t1).step t2).writeD ek h1 (zfD (d:=.int (n+b)) rfl (h6.mono (t1.gg.trans t2.gg))) (ziG h7) ho) (t1.gg.trans t2.gg)
     |_=>exact z2.elim
    .exact y.elim
   .exact y.elim
  .exact q.elim
def mq(i:Nat)(B:WE):WE:=λS Q=>match S[i]? with
 |some (.dic ks xs)=>B S λy=>(match y with|.str z=>mU (dZ ks xs z) Q|_=>False)
 |_=>False
def rE(i:Nat)(hB:DE X c e B)(hs:tK e:=by intro _ _;rfl)(nk:Nk X i x:=by decreasing_trivial)(hu:X.A.units+1<cLine:=by decreasing_trivial):DE X c (.Subscript (.Name x p) e pos) (mq i B)where
 mono:=λS Q Q' k q=>by
  unfold mq at q ⊢;split at q
  .exact hB.mono S _ _ (λy z=>by
    cases y<;>first|exact zg6 k z|exact z) q
  .exact q.elim
 pe:=dM (zpb hu (kO nk.N nk.v nk.d nk.c) hB.pe hs) λZ H Q ⟨S,G,r,q⟩=>by
  unfold mq at q;split at q
  .rename_i ks xs ek
   obtain⟨a,vs,h1,h2,h3,h4,h5,h6,h7⟩:=r.slot i _ ek;refine⟨.ref a,h1,S,G,r,hB.mono S _ _ (λy z w H1 G1 t1 e1=>?_) q⟩;cases y with
   |str z0=>
    have ew:w=V.str z0:=e1;subst ew;have z:mU (dZ ks xs z0) _:=z;cases e0:dZ ks xs z0 with
    |none=>rw[e0]at z;exact z.elim
    |some d=>
     rw[e0]at z;obtain⟨v,f1,f2⟩:=Kw h6 e0;have g0:=jd.k (k:=Sum.inr z0) (t1.fr a _ h5 h2);rw[Fg,f1]at g0;exact⟨a,v,rfl,g0,z v H1 G1 t1 (f2.mono t1.gg)⟩
   |_=>exact z.elim
  .exact q.elim
end
def del(G:Hp)(a:Addr):Hp:=λb=>if b=a then none else G b
def zlz(h:b≠a):del G a b=G b:=by unfold del;rw[if_neg h]
def zlM:del G a a=none:=by unfold del;rw[if_pos rfl]
def aZ.lend(s:aZ β H (upd G a o) H2 G3)(ga:G a=none)(bx:d9 β H G):aZ β H G H2 (del G3 a):=by
 have na:∀b u,G b=some u->b≠a:=λb u e z=>by rw[z,ga]at e;cases e
 refine⟨λb u e=>?_,λb u e=>?_,s.fr,λb e=>?_,⟨?_,?_⟩,s.b0,s.bc⟩
 .rw[zlz (na b u e)];exact s.gg b u (by rw[au (na b u e)];exact e)
 .by_cases z:b=a
  .rw[z,zlM]at e;cases e
  .rw[zlz z]at e;exact s.gh b u e
 .have z:b≠a:=λz=>e (by rw[z,zlM]);rw[zlz z]at e;rcases s.nw b e with y|y
  .rw[au z]at y;exact .inl y
  .exact .inr y
 .obtain⟨cc,p,r,d,ns,h,p1,p2,p3,p4,hc,q⟩:=s.bx.ex;obtain⟨c0,p',r',d',ns',h',_,_,_,_,hc',_⟩:=bx.ex;obtain⟨x1,x2,x3,h2⟩:=s.bc c0 p' r' d' h';rw[h]at h2;have e:cc=c0:=by unfold tV at h2;injection h2 with h2;injection h2 with h2;injection h2 with h2;injection h2
  subst e;exact⟨cc,p,r,d,ns,h,p1,p2,p3,p4,by rw[zlz (na cc _ hc')];exact hc,q⟩
 .unfold del;split
  .rfl
  .exact s.bx.still
def zsT:D->Prop
 |.non=>True
 |.bl _=>True
 |.int _=>True
 |.str _=>True
 |_=>False
def zqA(f:zsT d)(h:Rep c' G' d v):Rep c G d v:=by
 cases d<;>first|exact h|exact f.elim
section
variable{X:Cx}{c:Bk}{e ie ve:Expr}{es:List Expr}{rest:List Stmt}{pos p p1 p2 p3 cp tp pos2:Pos}
def u9(i n:Nat)(F:Fn)(R:WL):WE:=λS Q=>match S[i]? with
 |some (.dic ks xs)=>R S λds=>ds.length+1=n/\up F (.dct true ks xs::ds) λd=>zsT d/\Q d
 |_=>False
def zoD(i:Nat)(C:eQ X.prog X.w X.K X.mg X.base f k ps (cZ X.K n F))(hR:DA X c (e::es) R)(nk:Nk X i x:=by decreasing_trivial)(hg:Gl X f:=by rfl)
  (hdb:(f==("__debug__":Str))=false:=by decide) (he:starEach (.Name x p2::e::es) X.env=(false,eval (.Name x p2) X.env)::starEach (e::es) X.env:=by rfl) (hpl:(backTo pos (starEach (e::es) X.env)).any (·.1)=false:=by rfl) (hK:c.K=X.K:=by rfl) (hr:bK k X.A:=by decreasing_trivial) :
  DE X c (.Call (.Name f p) (.Name x p2::e::es) [] pos) (u9 i n F R)where
 mono:=λS Q Q' k q=>by
  unfold u9 at q ⊢;split at q
  .exact hR.mono S _ _ (λds z=>⟨z.1,qD F _ _ _ (λd w=>⟨w.1,k d w.2⟩) z.2⟩) q
  .exact q.elim
 pe:=by
  obtain⟨fa,fd,FO,hm,hk,hb⟩:=C.ex;refine dM (wZ FO hr hg hm hk hb .nil zp (iI (kO nk.N nk.v nk.d nk.c) hR.pa he) hdb he hpl) λZ H Q ⟨S,G,r,q⟩=>?_;unfold u9 at q;split at q
  .rename_i ks xs ek
   obtain⟨a,vs,h1,h2,h3,h4,h5,h6,h7⟩:=r.slot i _ ek;refine⟨.ref a,h1,S,G,r,hR.mono S _ _ (λds z us H' G' t ea=>?_) q⟩;show cZ X.K n F (.ref a::us++[]) H' Q E0;rw[YAK];have r1:=r.step t;obtain⟨a',vs',g1,g2,g3,g4,g5,g6,g7⟩:=r1.slot i _ ek;rw[h1]at g1;cases g1;have sg:Same G' (upd G' a (.dK (dD ks vs'))):=nW g3;have bx':d9 c.β H' (upd G' a (.dK (dD ks vs'))):=by
    obtain⟨cc,p,r,d,ns,h,p1,p2,p3,p4,hc,q⟩:=t.bx.ex;exact⟨⟨cc,p,r,d,ns,h,p1,p2,p3,p4,sg _ _ hc,q⟩,by rw[au (YAM g5)];exact t.bx.still⟩
   refine⟨c.β,upd G' a (.dK (dD ks vs')),.dct true ks xs::ds,λb u e=>?_,bx',⟨.ref a,us,rfl,⟨a,vs',rfl,cJ,λ_=>rfl,g7,?_⟩,?_⟩,by rw[YAE,<-ea.length];exact z.1,qD F _ _ _ (λd w v H2 G2 t2 e2=>?_) z.2⟩
   .by_cases y:b=a
    .subst y;rw[cJ]at e;cases e;exact g2
    .rw[au y]at e;exact t.gh b u e
   .exact(aH.back (c':=c) (c:=⟨X.K,c.β,λ_=>none,upd G' a (.dK (dD ks vs')),True⟩) hK rfl (λ_ _=>rfl) g6).mono sg
   .exact(aH.back (c':=c) (c:=⟨X.K,c.β,λ_=>none,upd G' a (.dK (dD ks vs')),True⟩) hK rfl (λ_ _=>rfl) ea).mono sg
   .exact w.2 v H2 _ (t.trans (t2.lend g3 t.bx)) (zqA w.1 e2)
  .exact q.elim
def xf(i:Nat):WS:=λE S=>match S[i]? with
 |some (.dic ks xs)=>E.rt (.dct true ks xs)
 |_=>False
def zvE(i:Nat)(nk:Nk X i x:=by decreasing_trivial):DS X c (.Return (some (.Name x p)) pos) (xf i)where
 mono:=λE E' S l q=>by
  unfold xf at q ⊢;split at q
  .exact l.rt _ q
  .exact q.elim
 ps:=kY (yJ (kO nk.N nk.v nk.d nk.c)) λD Z H ⟨S,G,r,q⟩=>by
  unfold xf at q;split at q
  .rename_i ks xs ek
   obtain⟨a,vs,h1,h2,h3,h4,h5,h6,h7⟩:=r.slot i _ ek;refine⟨.ref a,h1,q (.ref a) H (upd G a (.dK (dD ks vs))) (r.stp.still h2 h4 h5 h3) ⟨a,vs,rfl,cJ,λ_=>h4,h7,h6.mono (nW h3)⟩⟩
  .exact q.elim
abbrev xn(i:Nat)(A V I:WE)(B:WS):WS:=λE S=>i<S.length/\A S λd=>sH d λks xs=>ks.length<1000/\V (S.set i .un) λv=>I (S.set i .un) λk=>(match k with|.str z=>B E (S.set i (.val (.fdc (bF ks z) (aW ks xs z v))))|_=>False)
def zwp(i:Nat){x:Str}{A V I:WE}{B:WS}(hA:DE X c e A)(hV:DE X c ve V)(hI:DE X c ie I)(hB:rT X c rest B)(hi:X.N[i]?=some x:=by rfl)(hx:Loc X.env.scope x:=by first|exact Or.inl rfl|exact Or.inr rfl)(hv:Dh X.env.scope x:=by first|exact Or.inl rfl|exact Or.inr (Or.inl rfl)|exact Or.inr (Or.inr rfl))
  (hd:(x==("__debug__":Str))=false:=by decide) (hcd:(x==("__classdict__":Str))=false:=by decide) (hg:Gl X "dict":=by rfl) (he:starEach [e] X.env=(false,eval e X.env)::starEach [] X.env:=by rfl)
  (hs:swapsWith (.Call (.Name "dict" p2) [e] [] cp) (some (.Name x p)) pos.line X.env=pure false:=by rfl) (hs2:swapsWith ve (some (.Subscript (.Name x p3) ie tp)) pos2.line X.env=pure false:=by rfl) (hf:X.fn x=true\/X.env.scope.names.lookup x=some .local:=by first|exact .inl rfl|exact .inr rfl|assumption) (hm:X.mg "dict"=none:=by decreasing_trivial) (hu:X.A.units+1<cLine:=by decreasing_trivial) (hN:X.N.Nodup:=by decreasing_trivial) :
  rT X c (.Assign [.Name x p] (.Call (.Name "dict" p2) [e] [] cp) pos::.Assign [.Subscript (.Name x p3) ie tp] ve pos2::rest) (xn i A V I B)where
 mono:=λE E' S l q=>⟨q.1,hA.mono S _ _ (λd z=>Kl (λa b y=>⟨y.1,hV.mono _ _ _ (λv w=>hI.mono _ _ _ (λk u=>by
  cases k<;>first|exact hB.mono _ _ _ l u|exact u) w) y.2⟩) z) q.2⟩
 pss:=Em (nH (uB hN hi hx (zu zeh hg hm YCf (iI hA.pe jW he) (by decide) (by decide) he rfl) hs hf) (nH (zui (zkM hu (kO hi hv hd hcd) hI.pe hV.pe hs2)) hB.pss)) λD Z H ⟨S,G,r,q⟩=>⟨S,G,r,hA.mono S _ _ (λd z v H' G' t e=>by
  have hil:i<Z.length:=by rw[<-r.len];exact q.1
  unfold sH at z;split at z
  .rename_i pr ed
   obtain⟨a,vs,h1,h2,h3,h4⟩:=KR e ed;subst h1;refine⟨a,_,rfl,Hf t.gh h2,λl hl=>?_⟩;have r1:=r.step t;have t1:aZ c.β H' G' (upd H' l (.dK (dD pr.1 vs))) G':=aZ.own r1.gh r1.bx hl;have r2:Rel c (S.set i .un) (Z.set i (some (.ref l))) (upd H' l (.dK (dD pr.1 vs))) G':=(r1.step t1).unput;have lb:l≠c.β:=r1.neβ hl;refine⟨_,_,r2,hV.mono _ _ _ (λdv y w H2 G2 t2 e2=>?_) z.2⟩;have r3:=r2.step t2;have at_:(Z.set i (some (L2.V.ref l)))[i]?=some (some (.ref l)):=jL hil;refine⟨.ref l,at_,_,_,r3,hI.mono _ _ _ (λk u wk H3 G3 t3 e3=>?_) y⟩;cases k with
   |str zz=>
    have ek:wk=L2.V.str zz:=e3;subst ek;have hl3:H3 l=some (.dK (dD pr.1 vs)):=t3.fr l _ lb (t2.fr l _ lb cJ);have len:(dD pr.1 vs).length<sizeLine:=by
     unfold dD;rw[b8,yz,<-h3,wY,nO];have:=z.1;omega
    refine⟨l,_,rfl,nu.k (k:=.inr zz) hl3 len,l,_,cJ,λo=>?_⟩;rw[zlf,ziE h3];have g3:G3 l=none:=by
     have nn:∀{Ga Gb Ha Hb:Hp}{o:HO},aZ c.β Ha Ga Hb Gb->Ga l=none->Ha l=some o->¬ yh o->Gb l=none:=λ{Ga Gb Ha Hb o} tt g h ns=>by
      cases zz:Gb l with
      |none=>rfl
      |some u=>
       rcases tt.nw l (by rw[zz];simp)with y|y|⟨u',y,su⟩
       .exact absurd g y
       .rw[h]at y;cases y
       .rw[h]at y;cases y;exact absurd su ns
     exact nn t3 (nn t2 (lU r1.gh hl) cJ (λz=>z)) (t2.fr l _ lb cJ) (λz=>z)
    have tt:aZ c.β H' G' H3 G3:=(t1.trans t2).trans t3;have tw:aZ c.β H' G' (upd H3 l (.jl o (.dK (dD (bF pr.1 zz) (aW pr.1 vs zz w))))) (upd G3 l (.jl o (.dK (dD (bF pr.1 zz) (aW pr.1 vs zz w))))):=tt.wrS hl lb g3;have rp:Rep c (upd G3 l (.jl o (.dK (dD (bF pr.1 zz) (aW pr.1 vs zz w))))) (.fdc (bF pr.1 zz) (aW pr.1 pr.2 zz dv)) (.ref l):=⟨l,_,o,rfl,cJ,ziG h3,(zfD (e2.mono t3.gg) (h4.mono tt.gg)).mono (nW g3)⟩;exact⟨_,_,(r1.step tw).put rp,hB.mono _ _ _ (Jt (t.gg.trans tw.gg)) u⟩
   |_=>exact u.elim
  .exact z.elim) q.2⟩
abbrev zuq:WE:=λ_ Q=>Q (.fdc [] [])
def zsU:DE X c (.Dict [] [] pos) zuq where
 mono:=λS Q Q' k q=>k _ q
 pe:=dM (zuc zpH) λZ H Q ⟨S,G,r,q⟩=>λl hl=>⟨l,[],rfl,cJ,λo=>by
  rw[zlf];exact q (.ref l) _ _ (aZ.new r.gh r.bx hl) ⟨l,[],o,rfl,cJ,rfl,rfl⟩⟩
abbrev Ih(A:WE):WL:=λS Q=>A S λd=>sH d λks xs=>ks.length<=1000/\Q (ks.map D.str)
theorem zpj:∀{ks:List Str}{vs:List V},ks.length=vs.length->(dD ks vs).map (λp=>kV p.1)=ks.map V.str
 |[],[],_=>rfl
 |k::ks,v::vs,h=>by
  show kV (Sum.inr k)::(dD ks vs).map (λp=>kV p.1)=_;rw[zpj (by simpa using h)];rfl
def znv(hA:DE X c e A)(hg:Gl X "list":=by rfl)(he:starEach [e] X.env=(false,eval e X.env)::starEach [] X.env:=by rfl)(hc:X.calm=true:=by rfl)(hm:X.mg "list"=none:=by decreasing_trivial):DF X c (.Call (.Name "list" lp) [e] [] pos) (Ih A)where
 mono:=λS Q Q' k q=>hA.mono S _ _ (λd z=>Kl (λa b y=>⟨y.1,k _ y.2⟩) z) q
 pe:=dM (zu (zjd hc) hg hm Hn (iI hA.pe jW he) (by decide) (by decide) he rfl) λZ H Q ⟨S,G,r,q⟩=>⟨S,G,r,hA.mono S _ _ (λd z v H' G' t e=>by
  unfold sH at z;split at z
  .rename_i pr ed
   obtain⟨a,vs,h1,h2,h3,h4⟩:=KR e ed;subst h1;refine⟨a,_,rfl,Hf t.gh h2,by unfold dD;rw[b8,yz,<-h3,wY];exact z.1,λl hl=>?_⟩;rw[zpj h3];exact z.2 l _ _ _ (t.trans (aZ.own t.gh t.bx hl)) cJ (lU t.gh hl) (t.free hl) (gq.mpr rfl)
  .exact z.elim) q⟩
abbrev zqG(A:WE):WL:=λS Q=>A S λd=>(match d with|.fdc ks _=>Q (ks.map D.str)|_=>False)
def zsD(ha:G a=some (.jl o (.dK (dD ks vs))))(hl:ks.length=vs.length):rC c (Itk a o (dD ks vs)) (ks.map D.str) G:=by
 intro i H2 G2 s1 s2 bx h0;have hh:H2 a=some (.jl o (.dK (dD ks vs))):=s2 _ _ (s1 _ _ ha);have hz:(dD ks vs).length=ks.length:=by unfold dD;rw[b8,yz,<-hl,wY]
 refine⟨λe=>⟨by rw[e,hz,b8],hh⟩,λd e=>?_⟩;have hi:i<ks.length:=by have:=(jC.mp e).1;simpa using this
 refine⟨⟨by rw[hz];exact hi,hh⟩,λx H3 y=>?_⟩;obtain⟨rfl,p,hp,rfl⟩:=y;have e1:((dD ks vs).map (λp=>kV p.1))[i]?=some (kV p.1):=by rw[jV,hp];rfl
 rw[zpj hl,jV]at e1;rw[jV]at e;cases hk:ks[i]? with
 |none=>rw[hk]at e;cases e
 |some k=>
  rw[hk]at e e1;cases e;exact⟨G2,aZ.refl s2 bx,(Option.some.inj e1).symm⟩
def zrp(hA:DE X c e A):DI X c tg e (zqG A)where
 mono:=λS Q Q' k q=>hA.mono S _ _ (λd z=>by
  cases d<;>first|exact k _ z|exact z) q
 pi:=zmc (ztl hA.pe) λZ H R ⟨S,G,r,q⟩=>⟨S,G,r,hA.mono S _ _ (λd z v H' G' t e=>by
  cases d with
  |fdc ks xs=>
   obtain⟨a,vs,o,h1,h2,h4,h5⟩:=e;exact⟨a,o,_,h1,t.gh _ _ h2,z _ H' G' t (zsD h2 h4)⟩
  |_=>exact z.elim) q⟩
end
def Ij:jk (jk qh p o) p u=jk qh p u:=by
 funext a
 by_cases e:a=p
 .subst e;rw[qC,qC]
 .rw[tM e,tM e,tM e]
section
variable{X:Cx}{c:Bk}{o e:Expr}{A B:WE}{apos cpos:Pos}
def Bp(x:D)(Q:List D->Prop):Prop:=match x with|.lst _ xs=>Q xs|_=>False
def zwK(k:∀xs,Q xs->Q' xs)(q:Bp x Q):Bp x Q':=by
 cases x<;>first|exact k _ q|exact q
end
structure Bd(mg:Str->Option Value):Prop where
 dict:mg "dict"=none
 abs:mg "abs"=none
def yt(n:Nat)(B:WF):Prop:=B {nx:=λ_ _=>False,rt:=λ_ d=>d=.bl true,bk:=λ_ _=>False,ct:=λ_ _=>False} (λ_=>none) (.un::.val .box::List.replicate n .un)
def qF:FL
 |[.int i],Q=>Q (.int (if i<0 then -i else i))
 |_,_=>False
def zwh:uw qF:=λds Q Q' k q=>by
 unfold qF at q ⊢;split at q<;>first|exact k _ q|exact q.elim
section
variable{X:Cx}{c:Bk}{b:Bo}{st:Stmt}{e a:Expr}{es:List Expr}{sts x y:List Stmt}{pos p npos bpos:Pos}
def zqS:cY X (.builtin "abs") (λxs H Q=>∃i,xs=[.int i]/\Q (.int (if i<0 then -i else i)) H):=by
 intro aa s Z H xs us Q I r h;obtain⟨i,rfl,q⟩:=h;obtain⟨u,rfl,t,rfl⟩:=qQ r;exact PyProof.Rows.call_abs_int λu tk=>⟨.int _,H,I.tok _,⟨_,rfl⟩,q⟩
def zuK:vY c qF (λxs H Q=>∃i,xs=[.int i]/\Q (.int (if i<0 then -i else i)) H):=by
 intro H G ds vs Q gh bx h0 rv q;unfold qF at q;split at q
 .obtain⟨v,rfl,h⟩:=uX rv;cases h;exact⟨_,rfl,q _ H G (aZ.refl gh bx) rfl⟩
 .exact q.elim
def zwb(hR:DA X c [e] R)(hg:Gl X "abs":=by rfl)(he:starEach [e] X.env=(false,eval e X.env)::starEach [] X.env:=by rfl)(hm:X.mg "abs"=none:=by decreasing_trivial):DE X c (.Call (.Name "abs" p) [e] [] pos) (cbW qF R):=
 ziW zwh zqS zuK hm PyProof.Rows.boot_abs hR hg (by decide) (by decide) he rfl
def zps{x:Str}{k:Nat}{ps:List Str}{F:Fn}(C:eQ X.prog X.w X.K X.mg X.base x k ps (cZ X.K 0 F))(hg:Gl X x:=by rfl)(hdb:(x==("__debug__":Str))=false:=by decide)(hK:c.K=X.K:=by rfl)(hr:bK k X.A:=by decreasing_trivial):DE X c (.Call (.Name x p) [] [] pos) (bA 0 F ao)where
 mono:=λS Q Q' k q=>⟨q.1,qD F _ _ _ k q.2⟩
 pe:=by
  obtain⟨f,fd,FO,hm,hk,hb⟩:=C.ex;refine dM (zqE FO hr hg hm hk hb .nil zp hdb) λZ H Q ⟨S,G,r,q⟩=>?_;show cZ X.K 0 F ([]++[]) H Q E0;exact⟨c.β,G,[],r.gh,r.bx,rfl,rfl,qD F _ _ _ (λd z v H2 G2 t2 e2=>z v H2 G2 t2 (Rep.back (c':=⟨X.K,c.β,H,G,True⟩) (c:=c) hK.symm rfl (λa h=>r.new0 h) e2)) q.2⟩
abbrev qy(A:bN->WE):WOE:=λS qh Q=>A qh S λd=>Q d qh
def jH(h:∀qh M G1,DE X (dI b qh M G1) e (A qh)):OE X b e (qy A):=zpi h
theorem DA.nox(h:DA X.nox c es W):DA X c es W:=⟨h.mono,PA.nox h.pa⟩
theorem lH.nox(h:lH X.nox sts t):lH X sts t:=λaa s Z H D I hw=>lD (h aa s Z H D (I.wish _) hw) (λf s1 z=>by
 cases f with
 |next=>obtain⟨Z1,H1,I1,z⟩:=z;exact⟨Z1,H1,I1.unwish,z⟩
 |brk=>obtain⟨Z1,H1,I1,z⟩:=z;exact⟨Z1,H1,I1.unwish,z⟩
 |cont=>obtain⟨Z1,H1,I1,z⟩:=z;exact⟨Z1,H1,I1.unwish,z⟩
 |ret u=>obtain⟨v,Z1,H1,I1,rv,z⟩:=z;exact⟨v,Z1,H1,I1.unwish,rv,z⟩) λ_ _ z=>z.elim
theorem rN.nox(h:rN X.nox b sts W):rN X b sts W:=⟨h.mono,lH.nox h.pss⟩
end
def zvz(r:bK k A):A.units+1<cLine:=by have:=bK.units r;omega
def Ks:nF (dw X.prog X.w) X (XO b X.mg λ_ _=>False):=by
 rintro aa Z H s _ s' I ⟨ea,C,H',rfl,N,nm,C',qk,M',S,Z',G',ec,y,r⟩;exact y.elim
section
variable{P:Program}{w:World}{K:qo}{mg:Str->Option Value}{base:Heap}{N:List Str}{qual:Str}{scope:Scope}{f:Addr}{cd:Value}{A:Around}{outer:List PySem.Env}{s0:Shared}{H0 H G M:Hp}{E:XK}{β:Addr}
def t6(hY:∀nm C H' G',Y nm->mg nm=some (.ref C)->aZ β H G H' G'->E (.ref C) none H'):nF (dw P w) (dj (dw P w) P w K mg base N qual scope f cd A outer s0 H0 E) (XD ⟨K,β,H,G,True⟩ mg Y):=
 zve λC H' ⟨nm,C',G',ec,y,hm,t⟩=>by cases ec;exact hY nm C H' G' y hm t
def zsy(hY:∀nm C H' G' qh M' G1,Y nm qh->mg nm=some (.ref C)->(∃ad,Kn K β G1 qh M' ad)->Out ⟨K,β,mi H M,G,M⟩ M' G1->aZ β (ov (mi H M) M') G1 H' G'->E (.ref C) none H'):nF (dw P w) (dj (dw P w) P w K mg base N qual scope f cd A outer s0 H0 E) (XO ⟨K,β,mi H M,G,M⟩ mg Y):=
 zve λC H' ⟨nm,C',qk,M',S,Z,G',ec,y,hm,G1,o,r⟩=>by cases ec;exact hY nm C H' G' qk M' G1 y hm r.kn o r.stp
end
structure gK(P:Program)(w:World)(K:qo)(mg:Str->Option Value)(base:Heap)(lv n:Nat)(T:List (Addr×jF)):Prop where
 ex:∀q∈T,∃fd k ps,aN P w K mg base (dw P w) k q.1 fd ps (du K mg n q.2)/\k<=lv/\PySem.W.keepIn K (.ref q.1)=true/\Binds K fd ps []
def gK.at(h:gK X.prog X.w X.K X.mg X.base lv n T)(hr:bK lv X.A):Tab X n T:=
 ⟨λq hq=>by
  obtain⟨fd,k,ps,h1,h2,h3,h4⟩:=h.ex q hq;exact⟨fd,k,ps,h1,hr.mono h2,h3,h4⟩⟩
def gK.nil:gK P w K mg base lv n []:=⟨λq h=>by cases h⟩
def gK.cons{P:Program}{w:World}{K:qo}{mg:Str->Option Value}{base:Heap}{lv n k:Nat}{T:List (Addr×jF)}{f:Addr}{fd:FuncData}{ps:List Str}{F:jF}{x qual:Str}{st:Stmt}(Fu:bZ K x qual st f fd)(h:aN P w K mg base (dw P w) k f fd ps (du K mg n F))(hb:Binds K fd ps [])(r:gK P w K mg base lv n T)(hk:k<=lv:=by decide):gK P w K mg base lv n ((f,F)::T):=
 ⟨λq hq=>by
  rcases iU.mp hq with rfl|hq
  .exact⟨fd,k,ps,h,hk,Fu.kp,hb⟩
  .exact r.ex q hq⟩
def xU:Iz K (x,t,.ref f) (x,.obj f):=⟨rfl,.ref f,rfl,λc G hK=>rfl⟩
def zwE(K:qo):V->List V->Hp->VK->Prop:=λx vs H Q=>∃(c:Bk)(G:Hp)(n:Bool)(ds:List D)(d:D)(v:V)(j:Nat)(e:D),c.K=K/\Same G H/\Rep c G (.lst n ds) x/\vs=[v]/\Rep c G d v/\rm d ds/\ds.length<=100000/\ds[j]?=some e/\eqB e d=true/\(∀m,m<j->∀y,ds[m]?=some y->eqB y d=false)/\Q (.int j) H
def zsu(hu:X.A.units+64<cLine):JH X "list.index" (zwE X.K):=by
 intro aa s Z H x vs v us Q I rx rv ⟨c,G,n,ds,d,v1,j,e,hK,gh,hx,e1,hv,⟨lx,ly,ld⟩,hl,hj,he,hno,q⟩;subst e1;obtain⟨u,rfl,ru⟩:=rv.one;obtain⟨as,qa⟩:=hv.reads hK I gh d ru lx;obtain⟨bs,qb⟩:=hx.reads hK I gh (.lst n ds) rx (by unfold dF;exact ly);unfold toPy at qb;have hxs:=zH ds ly;have hd:=wH d lx;obtain⟨ra,_,er,_⟩:=id hx;subst er;obtain rfl:v=Value.ref ra:=rx;cases qb with
 |@list _ o items n2 _ as2 h1 h2 h3 h4=>
  have ho:s.heap.get? ra=some {cls:=.type "list",dict:=o.dict,data:=.seq items n2,slots:=o.slots}:=by rw[h1,<-h2,<-h3]
  have mp:=SeqAt.readsAll_map _ _ _ hxs h4;have hsz:items.size=ds.length:=by
   have:=congrArg List.length mp
   rw[zho,b8,b8,Cq]at this;exact this
  have at_:∀(m:Nat)(hm:m<items.size)(y:D),ds[m]?=some y->SeqAt.readOf s.heap items[m]=toPy y:=λm hm y hy=>by
   have:=congrArg (λl=>l[m]?) mp
   simp only[zho,jV,hy,YCo,Hr hm,YC5,YCT]at this;exact this
  have hjl:j<ds.length:=(jC.mp hj).1;refine CV F.slot_list_index ⟨_,ho,rfl⟩ F.entry_list_index (F.args_list_index_2 _ _) (SeqAt.list_indexAt ra items n2 o.dict o.slots u (λy=>PyData.eqv (SeqAt.readOf s.heap y) (toPy d)) j (by omega) (by omega) ?_ ?_) ⟨ho,?_,⟨.int j,H,I.tok _,⟨_,rfl⟩,q⟩⟩
  .show PyData.eqv (SeqAt.readOf s.heap items[j]) (toPy d)=true;rw[at_ j (by omega) e hj];exact he
  .intro m hm hmj;show PyData.eqv (SeqAt.readOf s.heap items[m]) (toPy d)=false;rw[at_ m hm _ (jB (by omega))];exact hno m hmj _ (jB (by omega))
  .exact SeqAt.items_eqAt h4 qa hxs hd (by omega)
def zva(xs:List D)(y:D)(Q:D->Prop):Prop:=rm y xs/\xs.length<=100000/\∃(j:Nat)(e:D),xs[j]?=some e/\eqB e y=true/\(∀m,m<j->∀z,xs[m]?=some z->eqB z y=false)/\Q (.int j)
abbrev ztg(A B:WE):WE:=λS Q=>A S λx=>Bp x λxs=>B S λy=>zva xs y Q
def ztC(hA:DE X c o A)(hB:DE X c e B)(hbase:attributeBase o "index" X.env (eval o X.env)=eval o X.env:=by rfl)
  (hfew:((backTo cpos (starEach [e] X.env)).all (λx=>!x.1)&&(backToKw cpos (keywordEach [] X.env)).all (λx=>x.1.isSome)
   && decide (([e]:List Expr).length+([]:List Keyword).length+(if ([]:List Keyword).isEmpty then 0 else 1)<30))=true:=by rfl)
  (hline:(apos.endLine==cpos.line)=true:=by rfl) (hs:starEach [e] X.env=(false,eval e X.env)::starEach [] X.env:=by rfl) (hplain:(backTo cpos (starEach [] X.env)).any (·.1)=false:=by rfl) (hK:c.K=X.K:=by rfl) (hu:X.A.units+64<cLine:=by decreasing_trivial) :
  DE X c (.Call (.Attribute o "index" apos) [e] [] cpos) (ztg A B)where
 mono:=λS Q Q' k q=>hA.mono S _ _ (λx z=>zwK (λt y=>hB.mono S _ _ (λy ⟨h1,h2,j,e,h3,h4,h5,h6⟩=>⟨h1,h2,j,e,h3,h4,h5,k _ h6⟩) y) z) q
 pe:=dM (Jr YBO PySem.F.slot_list_index PySem.F.type_list_index (zsu hu) hA.pe (iI hB.pe jW hs) hbase hfew hline hs hplain) λZ H Q ⟨S,G,R,q⟩=>⟨S,G,R,hA.mono S _ _ (λx z v H1 G1 t1 e1=>by
  cases x with
  |lst n xs=>
   obtain⟨a,vs,ea,ha,hn,rv⟩:=id e1;subst ea;refine⟨.inl ⟨rfl,vs,cz.of (t1.gh _ _ ha)⟩,S,G1,R.step t1,hB.mono S _ _ (λy ⟨h1,h2,j,e,h3,h4,h5,h6⟩ v H2 G2 t2 e2=>?_) z⟩;exact⟨c,G2,n,xs,y,v,j,e,hK,t2.gh,e1.mono t2.gg,rfl,e2,h1,h2,h3,h4,h5,h6 _ H2 G2 (t1.trans t2) rfl⟩
  |_=>exact z.elim) q⟩
end Fd
namespace L2
open PySem PySem.Spec PyProof.Rows PySem.W
def ziI:entryFor table "proto.unchain"=some Builtin.«proto.unchain»:=entryFor_of_fast (by kernel_rfl)
def jm(h:Heap)(ea:Addr):Prop:=∃oe vs,h.get? ea=some oe/\oe.data=.fields vs/\vs[2]?=some Value.none
section
variable{prog:Program}{w:World}{A:Around}{E:Value->Shared->Prop}{s:Shared}{ea a:Addr}
def zqC{α:Type}{Q:α->Shared->Prop}{o:Obj}{vs:Array Value}(hh:A.handled=some (.ref ea))(hc:jm s.heap ea)(ho:s.heap.get? a=some o)(hd:o.data=.fields vs)(hz:2<vs.size)(hne:ea≠a)
  (h:E (.ref a) {s with heap:=s.heap.update a (Obj.mapFields (·.setIfInBounds 2 (.ref ea)))}):wpAny (model prog w) A (raiseNew (.ref a):Sem α) Q E s:=by
 obtain⟨oe,us,g1,g2,g3⟩:=hc;unfold raiseNew;refine aL (wpAny_handled ?_);rw[hh];dsimp only;rw[if_pos (show(Value.ref ea != Value.ref a)=true by simpa using hne)];refine aL (qx (wpAny_runValue (codeAny_builtin ziI ?_)));unfold Builtin.«proto.unchain»;dsimp only;refine aL (YAF g1 g2 g3 ?_);rw[if_pos (by rfl)];refine aL (bV (bV ?_));exact aL (zO (x:=.ref ea) ho hd hz (wpAny_throw h))
theorem jm.push(x:jm h ea):jm (h.push o) ea:=let⟨oe,vs,g,r⟩:=x;⟨oe,vs,dX _ g,r⟩
def jm.lt(x:jm h ea):ea<h.objs.size:=let⟨_,_,g,_⟩:=x;dB g
def zjh{it:Addr}{x left step:Int}{Q:Option Value->Shared->Prop}(hh:A.handled=some (.ref ea))(hc:jm s.heap ea)(hit:IsRangeIter s.heap it x left step)(hleft:left<=0)(hQ:∀h',Heap.ExtBut it s.heap h'->Q none {s with heap:=h'}):wpAny (model prog w) A (pyNext (.ref it)) Q E s:=by
 have hT:s.TypeIs (.ref it) "range_iterator":=⟨_,hit,rfl⟩;unfold pyNext;refine aL (zA (YAH (name:=Str.ofString "__next__") hT F.slot_range_iterator_next (vJ F.slot_range_iterator_next hT F.entry_range_iterator_next ?_ (F.args_range_iterator_next_1 _))));show wpAny _ _ (field (.ref it) 0 >>= _) _ _ s;refine aL (YAF hit rfl (x:=rawInt x) rfl ?_);show wpAny _ _ (field (.ref it) 1 >>= _) _ _ s;refine aL (YAF hit rfl (x:=rawInt left) rfl ?_);show wpAny _ _ (field (.ref it) 2 >>= _) _ _ s;refine aL (YAF hit rfl (x:=rawInt step) rfl ?_);show wpAny _ _ (if left<=0 then _ else _) _ _ s;rw[if_pos hleft];refine aL (zW (aL ?_));show wpAny _ _ (newExc (.type "StopIteration") [] >>= _) _ _ _;refine aL ?_;unfold newExc newTuple;refine aL (YAI ?_ (by size_fits));refine aL (m:=firstArgMember _ _) (wpAny_of_eq (a:=Value.none) (by first|rfl|(simp only[firstArgMember];rfl)) ?_);refine YAI ?_ (by size_fits);have g:=jD (s.heap.push {cls:=.type "tuple",data:=.seq ([]:List Value).toArray}) (o:={cls:=.type "StopIteration",data:=.fields (#[.ref s.heap.objs.size,.none,.none,.none,.bool false,.none]++ownMembersOf (.type "StopIteration") [])}) rfl;refine zqC (ea:=ea) hh hc.push.push g rfl (by show 2<(#[Value.ref _,.none,.none,.none,.bool false,.none]++#[]).size;simp) (fX hc.push.lt) ?_;refine aL (JL (T:="StopIteration") (b:=true) ⟨_,YAU _ g rfl,YCj _ _⟩ YCM ?_);refine bV (hQ _ λb o n q=>?_);have l:=dB q;rw[YAL _ _ (by show(s.heap.push _).objs.size≠b;rw[xm];exact wy (YCk l))];exact dX _ (dX _ q)
end
structure uz(X:Cx)(ea:Addr):Prop where
 hd:X.A.handled=some (.ref ea)
 at_:jm X.s₀.heap ea
 un:X.H₀ ea=none
 fs:ea∉X.fs
 ex:ea∉X.ex
section
variable{X:Cx}{aa:List (Addr×Obj)}{Z:St}{H:Hp}{s:Shared}{ea:Addr}{tg iter elt a:Expr}{Nc:List Str}{scope:Scope}{sub:List (Option Nat)}
def uz.now(h:uz X ea)(I:Inv X aa Z H s):jm s.heap ea:=by
 obtain⟨oe,vs,g,r⟩:=h.at_;exact⟨oe,vs,I.base.keep ea oe g h.un h.fs h.ex,r⟩
def uz.turn{it:Addr}{lo:Int}{n:Nat}(h:uz X ea):zmx X tg (Eb lo n) [it] it (λi h=>IsRangeIter h it (lo+(i:Nat)*1) ((n:Int)-(i:Nat)) 1):=by
 intro i s Z H I hf st;obtain⟨f0,f1,f2,f3,f4,f5⟩:=hf it (by simp);refine⟨λgo E=>?_,λstop E=>?_⟩
 .have go:i<n:=go;refine wpAny_pyNext_range_item st (by omega) λh' st' sb=>?_;have I1:Inv X [] Z H {s with heap:=h',toks:=s.toks+1}:=I.turned (λb o hb e=>(sb.2 b hb).trans e) f0 f1 f3 f4 f5;have st2:IsRangeIter h' it (lo+((i+1:Nat):Int)*1) ((n:Int)-((i+1:Nat):Int)) 1:=by
   have e1:lo+((i+1:Nat):Int)*1=lo+(i:Int)*1+1:=by omega
   have e2:(n:Int)-((i+1:Nat):Int)=(n:Int)-(i:Int)-1:=by omega
   rw[e1,e2];exact st'
  refine⟨_,rfl,Ey (s:={s with heap:=h',toks:=s.toks+1}) (n:="range_iterator") st2 rfl rfl (by decide) ⟨.int (lo+i),H,I1,⟨s.toks,?_⟩,⟨rfl,rfl⟩,st2,λb hb=>(hf b hb).1⟩⟩;rw[Int.mul_one]
 .have stop:n<=i:=stop;exact zjh h.hd (h.now I) st (by omega) λh' eb=>⟨rfl,I.turned (t':=s.toks) (λb o hb e=>eb b o hb e) f0 f1 f3 f4 f5⟩
def uz.comp(h:uz X ea)(I:Inv X aa Z H s)(hk:∀b o,s.heap.get? b=some o->s0.heap.get? b=some o)(hl:s.heap.objs.size<=l)(hf:iB X aa H it):uz (g8 X Nc scope cl s0.heap.objs.size s0 (upd H l o) [it]) ea:=by
 obtain⟨oe,vs,g,r⟩:=h.now I;have lt:ea<X.s₀.heap.objs.size:=h.at_.lt;refine⟨h.hd,⟨oe,vs,hk _ _ g,r⟩,?_,λz=>?_,λz=>?_⟩
 .show upd H l o ea=none;rw[au (fX (jA (dB g) hl))];obtain⟨oe',_,g',_⟩:=h.at_;exact I.base.free ea oe' g' h.un h.ex
 .rcases iU.mp (I.stkSub ea z)with e|e
  .exact absurd lt (by have:=I.ok.above;rw[e];exact Nat.not_lt.mpr this)
  .exact h.fs e
 .have e:ea=it:=lC.mp z;subst e;rcases hf.2.2.2.1 with z|z
  .exact h.ex z
  .exact absurd lt (Nat.not_lt.mpr z)
def uz.pit(h:uz X ea)(hg:Gl X "range")(hm:X.mg "range"=none)(ha:PA X [a] ta)(hs:starEach [a] X.env=[(false,eval a X.env)]:=by rfl):PIT X Nc scope tg (.Call (.Name "range" p) [a] [] pos) (zuQ ta):=by
 intro aa s Z H R I q;refine Call_ (Fi I hg hm boot_range (YBy (bH (ha pos aa s Z H _ I q) λus s1 ⟨vs,H1,I1,r1,q1⟩=>?_) hs rfl));obtain⟨j,e,q1,q2,q⟩:=q1;subst e;cases r1 with
 |cons r rr=>
  cases rr;obtain⟨t,rfl⟩:=r;refine call_range_1 ?_;refine wpAny_pyIter_range (IsRange.new ..) (small_one (by decide) (by decide) q1 q2) ?_;generalize ho:({cls:=.type "range",data:=.fields #[.int 0 s1.toks,.int j t,.int 1 (s1.toks+1)]}:Obj)=ob;have I2:Inv X aa Z H1 {s1 with heap:=s1.heap.push ob,toks:=s1.toks+1+1}:=I1.kept λb o e=>dX _ e;generalize hs2:({s1 with heap:=s1.heap.push ob,toks:=s1.toks+1+1}:Shared)=s2 at I2 ⊢;generalize hit:({cls:=.type "range_iterator",data:=.fields #[rawInt 0,rawInt (Builtin.Range.rangeSize 0 j 1),rawInt 1]}:Obj)=io;have I3:Inv X aa Z H1 {s2 with heap:=s2.heap.push io}:=I2.kept (t':=s2.toks) λb o e=>dX _ e;have fp:=I2.fpOk (H':=H1) (dG _) (I2.hok.fresh (dG _));refine⟨s2.heap.objs.size,[s2.heap.objs.size],_,Eb 0 j.toNat,H1,rfl,I3,zhP _ 0 j.toNat,?_,λb hb=>by rw[lC.mp hb];exact fp,q,λcl s0 hk=>(h.comp (aa:=aa) I3 hk (dG _) fp).turn⟩;show IsRangeIter _ _ (0+((0:Nat):Int)*1) (((j.toNat:Nat):Int)-((0:Nat):Int)) 1;have e1:(0:Int)+((0:Nat):Int)*1=0:=by simp
  have e2:((j.toNat:Nat):Int)-((0:Nat):Int)=Builtin.Range.rangeSize 0 j 1:=by rw[rangeSize_one];split<;>omega
  rw[e1,e2];exact hit▸jD _ rfl
end
abbrev _root_.PySem.Around.calmed(A:Around):Around:={A with handled:=none}
abbrev vz(CX:mO)(P:Program)(w:World)(K:qo)(mg:Str->Option Value)(base:Heap)(N:List Str)(qual:Str)(scope:Scope)(f:Addr)(cd:Value)(A:Around)(outer:List Env)(s:Shared)(H:Hp)(E:XK)(ea:Addr)(oe:Obj):Cx:=
 {dj CX P w K mg base N qual scope f cd A outer s H E with calm:=false,pn:=[(ea,oe)]}
section
variable{CX:mO}{P:Program}{w:World}{K:qo}{mg:Str->Option Value}{base:Heap}{N ps:List Str}{name qual:Str}{params:Arguments}{body:List Stmt}{scope:Scope}{f ea:Addr}{oe:Obj}{cd dV kV doc pm ct oc:Value}{an od:Option Addr}{osl:Array (Option Value)}{A:Around}{outer:List Env}{s s1:Shared}{H:Hp}{Q:VK}{E:XK}{us:List Value}{vs:List V}{fs:Array Value}{k:Nat}
def zvC(hh:A.handled=some (.ref ea))(ho:s.heap.get? ea=some oe)(hd:oe.data=.fields fs)(h2:fs[2]?=some Value.none)(hH:H ea=none)(hf:ea∉frs outer):uz (vz CX P w K mg base N qual scope f cd A outer s H E ea oe) ea:=
 ⟨hh,⟨oe,fs,ho,hd,h2⟩,hH,hf,λz=>nomatch z⟩
def zu9(I:Inv (dj CX P w K mg base N qual scope f cd A.calmed outer s H E) [] (ni N vs) H s1)(hk:∀b o,s.heap.get? b=some o->s1.heap.get? b=some o)(ho:s.heap.get? ea=some oe)(hd:oe.data=.fields fs)(hH:H ea=none)(hf:ea∉frs outer):Inv (vz CX P w K mg base N qual scope f cd A outer s H E ea oe) [] (ni N vs) H s1:=
 ⟨⟨I.ok.mod,I.ok.kind,I.ok.glob,I.ok.blt,I.ok.above,I.ok.inj,I.ok.has,I.ok.cab,(λz=>by cases z),I.ok.frames,I.ok.stk,I.ok.exf,I.ok.bs,I.ok.bsz,I.ok.noex,I.ok.exfs,I.ok.funs,I.ok.frf⟩,I.os,I.bare,I.base,I.loc,I.cell,I.free,I.freeC,λp hp=>by
  have e:p=(ea,oe):=lC.mp hp;subst e;exact⟨hk _ _ ho,hH,fX (dB ho),hf,λv z=>by rw[hd]at z;cases z⟩,I.hok,I.len⟩
def zvL(lk:K.lookup f=some ⟨oc,od,.func (PySem.W.fnOf name qual params body scope dV kV doc pm an cd ct),osl⟩)(hcd:PySem.W.codeIn K cd qual=true)(qh:dh N ps scope)(hr:bK (k+1) A.calmed)
  (ho:s.heap.get? ea=some oe) (hd:oe.data=.fields fs) (hH:H ea=none) (hf:ea∉frs outer) (e0:mH P w K mg base A outer s H) (hb:BindsTo s (PySem.W.fnOf name qual params body scope dV kV doc pm an cd ct) args (ps.zip us)) (r:Vals vs us) (hl:vs.length=ps.length)
  (ht:lH (vz CX P w K mg base N qual scope f cd A outer s H E ea oe) body t) (hq:t {nx:=λ_ H'=>Q .non H',rt:=Q} (ni N vs) H):codeAny (model P w) A (.call (.ref f) args) (CR CX outer P w H s Q E) s:=by
 have KX:K.In s.heap:=e0.mod.kin.keeps λb o e=>(e0.bs b o e).1;have lim:s.heap.NoLimit:=e0.mod.nolimit.keeps λb o e=>(e0.bs b o e).1;have hkind:∀y∈ps.zip us,scope.names.lookup y.1=some .local\/(scope.names.lookup y.1=some .cell/\((cellsFrom (s.heap.objs.size+1) scope.names []).lookup y.1).isSome=true):=λy hy=>
  (qh.par y.1 (YCE hy).1).elim .inl λq=>.inr ⟨q,YCc _ _ _ (.inl q)⟩
 refine codeAny_call_function (show A.depth<_ from hr.depth) (KX _ _ lk) rfl qh.co qh.gen rfl (PySem.W.codeRec_of KX hcd) (hb _ _ _ _ ?_);refine wpAny_newFunctionEnv_cells qh.kind hkind λenv he s1 x=>?_;subst he;refine⟨lim.keeps x.toInCall.keep,codeAny_func ?_⟩;have I0:Inv (dj CX P w K mg base N qual scope f cd A.calmed outer s H E) [] (ni N vs) H s1:=zjW qh rfl ⟨e0.frames,e0.mod,e0.bs,e0.bsz,e0.funs,e0.frf,e0.hok,e0.bare⟩ hl r x;have I:=zu9 (A:=A) I0 x.toInCall.keep ho hd hH hf;refine lD (ht [] s1 (ni N vs) H _ I hq) (λfl s' hs=>?_) λe s' hs=>hs;cases fl with
 |ret u=>obtain⟨v,Z',H',J,rv,q⟩:=hs;exact⟨v,H',J.os,J.bare,J.base,J.hok,rv,q⟩
 |next=>obtain⟨Z',H',J,q⟩:=hs;exact⟨.non,H',J.os,J.bare,J.base,J.hok,rfl,q⟩
 |brk=>obtain⟨_,_,_,q⟩:=hs;exact False.elim q
 |cont=>obtain⟨_,_,_,q⟩:=hs;exact False.elim q
end
variable{X:Cx}
def zp9(hp:(ea,oe)∈X.pn)(hc:oe.cls=.ref C)(kC:rF X.K C)(hu:∀u',RelV v u'->u'=u)(he:kitOne X.K (.ref C) u=some b):cY X (.builtin "isinstance") (λxs H Q=>xs=[.ref ea,v]/\Q (.bl b) H):=by
 intro aa s Z H xs us Q I r h;obtain⟨rfl,q⟩:=h;obtain⟨u1,u2,rfl,r1,r2⟩:=zsK r;cases r1;cases hu _ r2;obtain⟨g,_⟩:=I.pin (ea,oe) (CJ _ hp);exact zrZ kC I.kIn ⟨oe,g,hc⟩ he λtk=>⟨.bl b,H,I.tok tk,rfl,q⟩
def zsz:bootBuiltins "ValueError"=some (.type "ValueError"):=by decide +kernel
end L2
namespace Fd
open PySem L2
section
variable{X:Cx}{c:Bk}{e a elt tg:Expr}{ifs:List Expr}{A E:WE}{C:WT}{ea Ca:Addr}{oe:Obj}{b:Bool}{x:Str}{p p' pos:Pos}{scope:Scope}{Nc:List Str}{sub:List (Option Nat)}
abbrev d8(A:WE)(ea:Addr)(b:Bool):WE:=λS Q=>A S λd=>d=.obj ea/\Q (.bl b)
def ztU(hA:DE X c e A)(hp:(ea,oe)∈X.pn)(hc:oe.cls=.ref Ca)(kC:rF X.K Ca)(hv:PE X (.Name x p') (tC v))(hu:∀u',RelV v u'->u'=u)(he:PySem.W.kitOne X.K (.ref Ca) u=some b)(hm:X.mg "isinstance"=none)(hg:Gl X "isinstance":=by rfl)
  (hs:starEach [e,.Name x p'] X.env=(false,eval e X.env)::starEach [.Name x p'] X.env:=by rfl):DE X c (.Call (.Name "isinstance" p) [e,.Name x p'] [] pos) (d8 A ea b)where
 mono:=λS Q Q' k q=>hA.mono S _ _ (λd z=>⟨z.1,k _ z.2⟩) q
 pe:=dM (Dz (zp9 hp hc kC hu he) hg hm PyProof.Rows.boot_isinstance (iI hA.pe (iI hv jW) hs) (by decide) (by decide) hs rfl) λZ H Q ⟨S,G,r,q⟩=>⟨S,G,r,hA.mono S _ _ (λd z w H' G' t er=>by
  obtain⟨rfl,z⟩:=z;cases (show w=V.ref ea from er);exact⟨rfl,z (.bl b) H' G' t rfl⟩) q⟩
def zs0(h:PIT X Nc scope tg iter wi)(k:∀ Z H R,wi' Z H R->wi Z H R):PIT X Nc scope tg iter wi':=λaa s Z H R I q=>h aa s Z H R I (k Z H R q)
def znM(t:Tg)(h:uz X ea)(hA:DE X c a A)(hg:∀{cl L s0 H0 ex},PG (g8 X Nc scope cl L s0 H0 ex) tg (lN c.K t))(hC:∀{cl L s0 H0 ex},Dp (g8 X Nc scope cl L s0 H0 ex) c ifs C)(hE:∀{cl L s0 H0 ex},DE (g8 X Nc scope cl L s0 H0 ex) c elt E)(hm:X.mg "range"=none)
  (hS:Es X.N X.env.scope scope Nc sub=true:=by kernel_rfl) (hok:wV sub t=true:=by decide +kernel) (hs:∀y,foldedSetIterable (.Call (.Name "range" p) [a] [] p') X.env y=pure y:=by intro _;rfl) (hr:Gl X "range":=by rfl) (hs1:starEach [a] X.env=[(false,eval a X.env)]:=by rfl) :
  DF X c (.ListComp elt [⟨tg,.Call (.Name "range" p) [a] [] p',ifs,0⟩] scope pos) (fC sub (uY A) t C E):=
 have mC:=(@hC [] 0 X.s₀ (λ_=>none) []).mono;have mE:=(@hE [] 0 X.s₀ (λ_=>none) []).mono;have mI:sZ (uY A):=λS Q Q' k q=>hA.mono S _ _ (λd z=>by cases d<;>first|exact⟨z.1,k _ z.2⟩|exact z) q;have pit:PIT X Nc scope tg (.Call (.Name "range" p) [a] [] p') (tDI c (uY A)):=zs0 (h.pit hr hm (iI hA.pe jW hs1) hs1) λZ H R ⟨S,G,r,q⟩=>⟨S,G,r,hA.mono S _ _ (λd z v H' G' t e=>by
  cases d with
  |int n=>exact⟨n,by cases e;rfl,z.1.1,z.1.2,z.2 _ H' G' t (uQ 0 _)⟩
  |_=>exact z.elim) q⟩
 ⟨zeD mI mC mE,dM (zjj (bO.of hS) pit (λcl L s0 H0 ex=>@hg cl L s0 H0 ex) (Il c.K sub t hok) (Ei c.K t) (λcl L s0 H0 ex=>(@hC cl L s0 H0 ex).pf) (λcl L s0 H0 ex=>(@hE cl L s0 H0 ex).pe) hs) (ze9 mI mC mE)⟩
end
structure xq(P:Program)(w:World)(K:qo)(mg:Str->Option Value)(base:Heap)(k:Nat)(x:Str)(NS:List Str)(W:Str->Addr->Fn):Prop where
 ex:∃f fd y,mg x=some (.ref f)/\PySem.W.keepIn K (.ref f)=true/\Binds K fd [y] []/\∀(A:Around)(outer:List PySem.Env)(s:Shared)(H:Hp)(nm:Str)(ea C:Addr)(oe:Obj)(fs:Array Value)(Q:VK)(β:Addr)(G:Hp),nm∈NS->mg nm=some (.ref C)->bK k A.calmed->A.handled=some (.ref ea)->s.heap.get? ea=some oe->oe.cls=.ref C->oe.data=.fields fs->fs[2]?=some Value.none->H ea=none->ea∉frs outer ->
  mH P w K mg base A outer s H->Same G H->d9 β H G->up (W nm ea) [.obj ea] (λd=>∀v H' G',aZ β H G H' G'->Rep ⟨K,β,H,G,True⟩ G' d v->Q v H')->codeAny (model P w) A (.call (.ref f) ⟨[.ref ea],[]⟩) (CR cL outer P w H s Q (λ_ _ _=>False)) s
def zwJ{P:Program}{w:World}{K:qo}{mg:Str->Option Value}{base:Heap}{x qual y:Str}{st:Stmt}{f:Addr}{fd:FuncData}{N NS:List Str}{k:Nat}{B:Str->Addr->WS}(F:bZ K x qual st f fd)(hm:mg x=some (.ref f))(hb:Binds K fd [y] [])
  (hB:∀{cdv:Value}{A:Around}{outer:List PySem.Env}{s:Shared}{H:Hp}{β:Addr}{G:Hp}(nm:Str)(ea C:Addr)(oe:Obj),N.Nodup->nm∈NS->mg nm=some (.ref C)->oe.cls=.ref C->uz (vz cL P w K mg base N qual (gF st) f cdv A outer s H (λ_ _ _=>False) ea oe) ea ->
   rT (vz cL P w K mg base N qual (gF st) f cdv A outer s H (λ_ _ _=>False) ea oe) ⟨K,β,H,G,True⟩ (nJ st) (B nm ea)) (qh:dh N [y] (gF st):=by exact⟨rfl,rfl,rfl,by decide +kernel,rfl,by decide +kernel,by decide +kernel⟩):xq P w K mg base (k+1) x NS (λnm ea=>dU N.length (B nm ea)):=by
 obtain⟨oc,od,kV,doc,pm,an,cdv,ct,osl,e,lk,hcd⟩:=F.ex;refine⟨f,fd,y,hm,F.kp,hb,λA outer s H nm ea C oe fs Q β G hn hmn hr hh ho hc hd h2 hH hf e0 gh bx ⟨P',q,hP⟩=>?_⟩;have h:=@hB cdv A outer s H β G nm ea C oe qh.nd hn hmn hc (zvC hh ho hd h2 hH hf);subst e;have KX:K.In s.heap:=e0.mod.kin.keeps λb o e=>(e0.bs b o e).1;refine zvL (vs:=[.ref ea]) lk hcd qh hr ho hd hH hf e0 (hb s [.ref ea] KX rfl) (.cons rfl .nil) rfl h.pss ⟨fU N.length [.obj ea],G,Jm gh bx ⟨.ref ea,[],rfl,rfl,rfl⟩,h.mono {nx:=λ_=>P' .non,rt:=P',bk:=λ_=>False,ct:=λ_=>False} _ _ ⟨λS z Z H' G' r s'=>hP _ z .non H' G' r.stp rfl,λd z v H' G' t e=>hP _ z v H' G' t e,λS z=>z.elim,λS z=>z.elim⟩ q⟩
structure ug(K:qo)(mg:Str->Option Value)(xc:Str)(NT NS:List Str):Prop where
 cl:∀x∈NT,∃D,mg x=some (.ref D)/\∀nm∈NS,∀C,mg nm=some (.ref C)->PySem.W.kitOne K (.ref C) (.ref D)=some (decide (nm=x))
 ve:∀nm∈NS,∀C,mg nm=some (.ref C)->rF K C/\PySem.W.kitOne K (.ref C) (.type "ValueError")=some true
 top:∃D,mg xc=some (.ref D)/\∀nm∈NS,∀C,mg nm=some (.ref C)->PySem.W.exmOne K (.ref C) (.ref D)=some true
def ztI(ts ns:List (Str×Addr))(e1:NT=ts.map (·.1))(e2:NS=ns.map (·.1))(m1:∀p∈ts,mg p.1=some (.ref p.2))(m2:∀p∈ns,mg p.1=some (.ref p.2))(m3:mg xc=some (.ref fe))
  (h1:∀q∈ts,∀p∈ns,PySem.W.kitOne K (.ref p.2) (.ref q.2)=some (decide (p.1=q.1))) (h2:∀p∈ns,rF K p.2/\PySem.W.kitOne K (.ref p.2) (.type "ValueError")=some true/\PySem.W.exmOne K (.ref p.2) (.ref fe)=some true):ug K mg xc NT NS:=by
 subst e1 e2;have at_:∀nm∈ns.map (·.1),∀C,mg nm=some (.ref C)->∃p∈ns,p.1=nm/\p.2=C:=λnm hn C hm=>by
  obtain⟨p,hp,rfl⟩:=YAD.mp hn
  have:=(m2 p hp).symm.trans hm
  cases this;exact⟨p,hp,rfl,rfl⟩
 refine⟨λx hx=>?_,λnm hn C hm=>?_,fe,m3,λnm hn C hm=>?_⟩
 .obtain⟨q,hq,rfl⟩:=YAD.mp hx;refine⟨q.2,m1 q hq,λnm hn C hm=>?_⟩;obtain⟨p,hp,rfl,rfl⟩:=at_ nm hn C hm;exact h1 q hq p hp
 .obtain⟨p,hp,rfl,rfl⟩:=at_ nm hn C hm;exact⟨(h2 p hp).1,(h2 p hp).2.1⟩
 .obtain⟨p,hp,rfl,rfl⟩:=at_ nm hn C hm;exact(h2 p hp).2.2
section
variable{X:Cx}{c:Bk}{e:Expr}{A:WE}{ea C:Addr}{oe:Obj}{nm x xc:Str}{NT NS:List Str}{p p' pos:Pos}
def nP(xk:ug X.K X.mg xc NT NS)(hA:DE X c e A)(hp:(ea,oe)∈X.pn)(hc:oe.cls=.ref C)(hn:nm∈NS)(hmn:X.mg nm=some (.ref C))(hx:x∈NT:=by decide)(hm:X.mg "isinstance"=none:=by decreasing_trivial)(hg:Gl X "isinstance":=by rfl)(hg2:Gl X x:=by rfl)(hd:(x==("__debug__":Str))=false:=by decide)
  (hs:starEach [e,.Name x p'] X.env=(false,eval e X.env)::starEach [.Name x p'] X.env:=by rfl):DE X c (.Call (.Name "isinstance" p) [e,.Name x p'] [] pos) (d8 A ea (decide (nm=x))):=by
 obtain⟨D,h1,h2⟩:=xk.cl x hx;exact ztU (v:=.ref D) hA hp hc (xk.ve nm hn C hmn).1 (zkV hg2 h1 rfl hd) (λ_ z=>z) (h2 nm hn C hmn) hm hg hs
def zvS(xk:ug X.K X.mg xc NT NS)(hA:DE X c e A)(hp:(ea,oe)∈X.pn)(hc:oe.cls=.ref C)(hn:nm∈NS)(hmn:X.mg nm=some (.ref C))(hm2:X.mg "ValueError"=none)(hm:X.mg "isinstance"=none:=by decreasing_trivial)(hg:Gl X "isinstance":=by rfl)(hg2:Gl X "ValueError":=by rfl)
  (hs:starEach [e,.Name "ValueError" p'] X.env=(false,eval e X.env)::starEach [.Name "ValueError" p'] X.env:=by rfl):DE X c (.Call (.Name "isinstance" p) [e,.Name "ValueError" p'] [] pos) (d8 A ea true):=
 ztU (v:=.ty "ValueError") hA hp hc (xk.ve nm hn C hmn).1 (zn0 hg2 hm2 zsz rfl) (λ_ z=>z) (xk.ve nm hn C hmn).2 hm hg hs
end
def kdN(NS:List Str)(nm:Str):Option D:=if nm∈NS then some (.lst true [.str nm])else none
theorem zlP{α:Type}:∀{ks:List Str}{vs:List α}{z:Str},ks.length=vs.length->(dZ ks vs z).isSome=ks.contains z
 |[],[],z,_=>rfl
 |k::ks,v::vs,z,h=>by
  show(if k=z then some v else dZ ks vs z).isSome=(k::ks).contains z;by_cases e:k=z
  .subst e;simp
  .rw[if_neg e,zlP (by simpa using h)];simp[YAM e]
section
variable{X:Cx}{c:Bk}{a b e:Expr}{A B:WE}{pos p:Pos}
abbrev lR(neg:Bool)(A B:WE):WT:=λS Q=>A S λx=>B S λd=>match x with|.str z=>sH d λks _=>Q (neg != ks.contains z)|_=>False
def zl0(hA:jP A)(hB:jP B):wQ (lR neg A B):=λS Q Q' k q=>hA S _ _ (λx z=>hB S _ _ (λd y=>by
 cases x with
 |str s=>exact Kl (λ_ _ w=>k _ w) y
 |_=>exact y.elim) z) q
def zmn(hA:DE X c a A)(hB:DE X c b B)(Z:St)(H:Hp)(Q:Bool->Hp->Prop)(R:Bool->Hp->Prop)(hR:∀b H',Q (neg != b) H'->R b H')(h:Dk c (lR neg A B) Z H Q):tD c A Z H λy H1=>tD c B Z H1 λx H2=>∃a o,x=.ref a/\jd H2 a y o/\R o.isSome H2:=by
 obtain⟨S,G,r,q⟩:=h;refine⟨S,G,r,hA.mono S _ _ (λx zx vx H1 G1 t1 e1=>⟨S,G1,r.step t1,hB.mono S _ _ (λd zd vd H2 G2 t2 e2=>?_) zx⟩) q⟩;cases x with
 |str s=>
  cases (show vx=V.str s from e1);have zd:sH d λks _=>∀H' G',aZ c.β H G H' G'->Q (neg != ks.contains s) H':=zd;unfold sH at zd;cases ed:dcV d with
  |none=>rw[ed]at zd;exact zd.elim
  |some pr=>
   rw[ed]at zd;obtain⟨d0,vs,h1,h2,h3,h4⟩:=KR e2 ed;refine⟨d0,_,h1,.inl ⟨_,Sum.inr s,Hf t2.gh h2,rfl,rfl⟩,?_⟩;rw[Fg,zlP h3];exact hR _ _ (zd H2 G2 (t1.trans t2))
 |_=>exact zd.elim
def zwH(hA:DE X c a A)(hB:DE X c b B)(hm:behindInMarks .In b=false:=by with_unfolding_all rfl)(hu:X.A.units+1<cLine:=by decreasing_trivial):DT X c (.Compare a [.In] [b] pos) (lR false A B)where
 mono:=zl0 hA.mono hB.mono
 pt:=BL (zoy (zvd hu hA.pe hB.pe) hm) λZ H Q h=>zmn hA hB Z H Q (λb H'=>∃c,V.bl b=.bl c/\Q c H') (λb H' z=>⟨b,rfl,by simpa using z⟩) h
def zid(hA:DE X c a A)(hB:DE X c b B)(hm:behindInMarks .NotIn b=false:=by with_unfolding_all rfl)(hu:X.A.units+1<cLine:=by decreasing_trivial):DT X c (.Compare a [.NotIn] [b] pos) (lR true A B)where
 mono:=zl0 hA.mono hB.mono
 pt:=BL (zoy (znK hu hA.pe hB.pe) hm) λZ H Q h=>zmn hA hB Z H Q (λb H'=>∃c,V.bl (!b)=.bl c/\Q c H') (λb H' z=>⟨!b,rfl,by simpa using z⟩) h
abbrev Ew(A:WE):WE:=λS Q=>A S λd=>sH d λks _=>Q (.int ks.length)
def zpp:cY X (.builtin "len") (λxs H Q=>∃a kvs,xs=[V.ref a]/\Rd H a (.dK kvs)/\Q (.int kvs.length) H):=by
 intro aa s Z H xs us Q I r h;obtain⟨a,kvs,rfl,e,q⟩:=h;obtain⟨u,rfl,rx⟩:=qQ r;cases rx;exact L2.zws I e λt s' I'=>⟨.int kvs.length,H,I',⟨t,rfl⟩,q⟩
def zl4(hA:DE X c e A)(hg:Gl X "len":=by rfl)(he:starEach [e] X.env=(false,eval e X.env)::starEach [] X.env:=by rfl)(hm:X.mg "len"=none:=by decreasing_trivial):DE X c (.Call (.Name "len" p) [e] [] pos) (Ew A)where
 mono:=λS Q Q' k q=>hA.mono S _ _ (λd z=>Kl (λ_ _ y=>k _ y) z) q
 pe:=dM (Dz zpp hg hm YCN (iI hA.pe jW he) (by decide) (by decide) he rfl) λZ H Q ⟨S,G,r,q⟩=>⟨S,G,r,hA.mono S _ _ (λd z v H' G' t e=>by
  unfold sH at z;split at z
  .rename_i pr ed
   obtain⟨a,vs,h1,h2,h3,h4⟩:=KR e ed;subst h1;refine⟨a,_,rfl,Hf t.gh h2,?_⟩;rw[show(dD pr.1 vs).length=pr.1.length by unfold dD;rw[b8,yz,<-h3,wY]];exact z (.int pr.1.length) H' G' t rfl
  .exact z.elim) q⟩
end
end Fd
namespace L2
open PySem PySem.Spec PyProof.Rows
section
variable{X:Cx}{a b:Expr}{rest:List Expr}{pos:Pos}{ta tb:TE}
def ztV(ha:PE X a ta)(hb:PE X (.BoolOp .Or (b::rest) pos) tb):PE X (.BoolOp .Or (a::b::rest) pos) (λZ H Q=>ta Z H λx H1=>∃k,wR X.K x H1 k/\if k=true then Q x H1 else tb Z H1 Q):=by
 intro aa s Z H Q I h;refine BoolOp_or (bH (ha aa s Z H _ I h) λv s1 ⟨x,H1,I1,r1,q1⟩=>?_);obtain⟨k,tv,q1⟩:=q1;refine bH (zrn aa s1 Z H1 x v (λb H'=>b=k/\if k=true then Q x H' else tb Z H' Q) I1 r1 ⟨k,tv,rfl,q1⟩) λc s2 ⟨H2,I2,e,q2⟩=>?_;subst e;cases c with
 |false=>exact hb aa s2 Z H2 Q I2 q2
 |true=>exact⟨x,H2,I2,r1,q2⟩
end
end L2
namespace Fd
open PySem L2
section
variable{X:Cx}{c:Bk}{a b:Expr}{rest:List Expr}{A B:WE}{pos:Pos}
abbrev Ah(A B:WE):WE:=λS Q=>A S λx=>nD x λk=>if k=true then Q x else B S Q
def zwB(hA:DE X c a A)(hB:DE X c (.BoolOp .Or (b::rest) pos) B)(hK:c.K=X.K:=by rfl):DE X c (.BoolOp .Or (a::b::rest) pos) (Ah A B)where
 mono:=λS Q Q' k q=>hA.mono S _ _ (λd z=>zg3 d (λb z=>by
  cases b
  .exact hB.mono S _ _ k z
  .exact k _ z) z) q
 pe:=dM (ztV hA.pe hB.pe) λZ H Q ⟨S,G,r,q⟩=>⟨S,G,r,hA.mono S _ _ (λd z v H' G' t e=>by
  unfold nD at z;split at z
  .rename_i k hk
   refine⟨k,hK▸zkR t.gh e hk,?_⟩;cases k
   .exact⟨S,G',r.step t,hB.mono S _ _ (λb' z' v2 H2 G2 t2=>z' v2 H2 G2 (t.trans t2)) z⟩
   .exact z v H' G' t e
  .exact z.elim) q⟩
end
structure il where
 fen:Addr
 mark_entered:Addr
 hand_entered:Addr
 run_entered:Addr
 run_struck:Addr
 run_mended:Addr
 mark_settled:Addr
 hand_set_aside:Addr
 hand_heeded:Addr
 number_allowed:Addr
def NTx:List Str:=["BadName","Taken","Full","NoMark","NoHand","Same","BadRise","NoRun","Aside","NotAside","BadNumber","NothingLeft","Steady","NoDeed","Known","NoFen","Settled","NoPage"]
def tO:List Str:=["BadName","Taken","Full","NoMark","NoHand","Same","BadRise","NoRun","Aside","NotAside","BadNumber"]
def DK:Fn:=dU 0 ((aP (ztq ["stands","hands","aside","runs","entered","allowed"] (aq (bu ao) (aq (bu ao) (aq (bu ao) (aq (bu ao) (aq (kW (.int 0)) (aq (kW (.int 0)) ao)))))))))
def J9(A:il):pH:=pQ 1 (λY=>(cU (jr 0 "kept" A.fen (λqh=>(aX ao)))
  (cU (jr 0 "books" A.fen (λqh=>(aX (aq (bA 0 DK ao) ao))))
  (jr 0 "undone" A.fen (λqh=>(aX ao))))))
def K7:Fn:=dU 0 ((aP (ztq ["places","heeded","rows","entered","many","deeds"] (aq (aM (aX ao)) (aq zuq (aq (aM (aX ao)) (aq (kW (.int 0)) (aq (kW (.int 0)) (aq (aM (aX ao)) ao)))))))))
def sG:Fn:=dU 2 ((aP (cbW f9 (aq (aM (fC [none,some 1] (fM (ak bQ (vW 0) (kW (.str "places")))) (.nm 0) (bG (ak cM (ak aF (vW 0) (kW (.int 0))) (vW 1))) (vW 0))) ao))))
def vK:Fn:=dU 2 ((aP (ztg (ak bQ (vW 0) (kW (.str "places"))) (bu (aq (vW 1) (aq (bA 2 sG (aq (vW 0) (aq (vW 1) ao))) ao))))))
noncomputable def Gm:Fn:=dU 6 ((aC (Bm 0 (vW 0))
  (aC (gP 0 (kW (.str "deeds")) (ak bh (mq 0 (kW (.str "deeds"))) (aM (aX (aq (vW 1) ao)))))
  (aC (aQ (.nm 2) (ak aF (vW 1) (kW (.int 0))))
  (aC (cW (uJ (bG (ak cM (vW 2) (kW (.str "mark")))) (bG (ak cM (vW 2) (kW (.str "settle"))))) (gP 0 (kW (.str "places")) (ak bh (mq 0 (kW (.str "places"))) (aM (aX (aq (bu (aq (ak aF (vW 1) (kW (.int 1))) (aq (ak bh (u9 0 2 sG (aq (ak aF (vW 1) (kW (.int 1))) ao)) (kW (.int 1))) ao))) ao))))) (cW (bG (ak (dY false) (vW 2) (bu (aq (kW (.str "hand")) (aq (kW (.str "heed")) (aq (kW (.str "aside")) ao)))))) (xn 3 (mq 0 (kW (.str "heeded"))) (ak jT (vW 2) (kW (.str "aside"))) (ak aF (vW 1) (kW (.int 1)))
  (gP 0 (kW (.str "heeded")) (vW 3))) (cW (bG (ak cM (vW 2) (kW (.str "run")))) (aC (Ao 0 (kW (.str "entered")) (kW (.int 1)))
  (aC (aQ (.nm 4) (ak bh (bu (aq (mq 0 (kW (.str "entered"))) (aq (u9 0 2 vK (aq (ak aF (vW 1) (kW (.int 1))) ao)) (aq (u9 0 2 vK (aq (ak aF (vW 1) (kW (.int 2))) ao)) ao)))) (ji (vW 1) (rH (kW (.int 3))) rK)))
  (gP 0 (kW (.str "rows")) (ak bh (mq 0 (kW (.str "rows"))) (aM (aX (aq (vW 4) ao))))))) (cW (bG (ak cM (vW 2) (kW (.str "strike")))) (gP 0 (kW (.str "rows")) (aM (fC [none,some 1] (fM (mq 0 (kW (.str "rows")))) (.nm 0) (bG (ak jT (ak aF (vW 0) (kW (.int 0))) (ak aF (vW 1) (kW (.int 1))))) (vW 0)))) (cW (bG (ak cM (vW 2) (kW (.str "mend")))) (aC (gV 5 (aX ao))
  (aC (pO (fM (mq 0 (kW (.str "rows")))) (.nm 4) (je 5 (ak aF (aM (aX (aq (vW 4) (aq (ak bh (ji (vW 4) rK (rH (kW (.int 3)))) (bu (aq (ak aF (vW 1) (kW (.int 2))) (aq (ak aF (vW 4) (kW (.int 4))) ao)))) ao)))) (cbW lL (aq (ak cM (ak aF (vW 4) (kW (.int 0))) (ak aF (vW 1) (kW (.int 1)))) ao)))))
  (j7 5 (gP 0 (kW (.str "rows")) (vW 5))))) (gP 0 (kW (.str "many")) (ak aF (vW 1) (kW (.int 1)))))))))
  (xf 0))))))
def qp:Fn:=dU 4 ((zqK 0 1 2 3))
def Ai:Fn:=dU 2 ((aP (cbW f9 (aq (aM (fC [none,none,some 1] (fM (vW 0)) (.tp 2 (.cons (.nm 0) (.cons (.nm 1) .nil))) (bG (ak cM (vW 0) (vW 2))) (vW 1))) ao))))
def zdb:Fn:=dU 2 ((aP (bu (aq (vW 1) (aq (ak bh (bA 2 Ai (aq (vW 0) (aq (vW 1) ao))) (kW (.int 1))) ao)))))
noncomputable def JZ:jF:=gZ 3 (λY=>(aC (aQ (.nm 2) (ak bQ (vW 0) (kW (.str "stands"))))
  (aC (cW (bG (ak Fq (cbW f9 (aq (vW 2) ao)) (kW (.int 12)))) (pU (aq (kW (.str "there is no room for another stand")) ao) (Y "Full")) bL)
  (aP (bA 3 qp (aq (vW 0) (aq (kW (.str "stands")) (aq (ak bh (vW 2) (bu (aq (bA 2 zdb (aq (vW 2) (aq (vW 1) ao))) ao))) ao))))))))
noncomputable def zcV:jF:=gZ 4 (λY=>(aC (aQ (.tp 2 (.cons (.nm 2) (.cons (.nm 3) .nil))) (vW 1))
  (aC (cW (lM (jq (bA 1 CP (aq (vW 3) ao)))) (pU (aq (kW (.str "a mark's name is 1 to 8 small letters")) ao) (Y "BadName")) bL)
  (aC (cW (bG (ak xP (bA 2 Ai (aq (ak bQ (vW 0) (kW (.str "stands"))) (aq (vW 3) ao))) (kW (.int 0)))) (pU (aq (kW (.str "there is a mark of this name")) ao) (Y "Taken")) bL)
  (aP (pZ 2 JZ Y (aq (vW 0) (aq (vW 3) ao))))))))
noncomputable def zc4:jF:=gZ 5 (λY=>(aC (aQ (.tp 2 (.cons (.nm 2) (.cons (.nm 3) .nil))) (vW 1))
  (aC (aQ (.nm 4) (ak bQ (vW 0) (kW (.str "hands"))))
  (aC (cW (lM (jq (bA 1 CP (aq (vW 3) ao)))) (pU (aq (kW (.str "a hand's name is 1 to 8 small letters")) ao) (Y "BadName")) bL)
  (aC (cW (bG (ak (dY false) (vW 3) (vW 4))) (pU (aq (kW (.str "there is a hand of this name")) ao) (Y "Taken")) bL)
  (aC (cW (bG (ak Fq (cbW f9 (aq (vW 4) ao)) (kW (.int 10)))) (pU (aq (kW (.str "there is no room for another hand")) ao) (Y "Full")) bL)
  (aP (bA 3 qp (aq (vW 0) (aq (kW (.str "hands")) (aq (ak bh (vW 4) (bu (aq (vW 3) ao))) ao)))))))))))
def Dl:jF:=gZ 3 (λY=>(aC (aQ (.nm 2) (bA 2 Ai (aq (vW 0) (aq (vW 1) ao))))
  (aC (cW (bG (ak cM (vW 2) (kW (.int 0)))) (pU (aq (kW (.str "there is no mark of this name")) ao) (Y "NoMark")) bL)
  (aP (bu (aq (vW 1) (aq (vW 2) ao)))))))
def CW:jF:=gZ 2 (λY=>(cW (bG (ak (dY true) (vW 1) (ak bQ (vW 0) (kW (.str "hands"))))) (pU (aq (kW (.str "there is no hand of this name")) ao) (Y "NoHand")) bL))
def Lb:jF:=gZ 1 (λY=>(cW (bG (ak xP (cbW qF (aq (vW 0) ao)) (kW (.int 1000000000)))) (pU (aq (kW (.str "the rise is beyond the bounds")) ao) (Y "BadRise")) bL))
noncomputable def zdj:jF:=gZ 13 (λY=>(aC (aQ (.tp 5 (.cons (.nm 2) (.cons (.nm 3) (.cons (.nm 4) (.cons (.nm 5) (.cons (.nm 6) .nil)))))) (vW 1))
  (aC (aQ (.tp 2 (.cons (.nm 7) (.cons (.nm 8) .nil))) (pZ 2 Dl Y (aq (ak bQ (vW 0) (kW (.str "stands"))) (aq (vW 3) ao))))
  (aC (aQ (.tp 2 (.cons (.nm 9) (.cons (.nm 10) .nil))) (pZ 2 Dl Y (aq (ak bQ (vW 0) (kW (.str "stands"))) (aq (vW 4) ao))))
  (aC (cW (bG (ak cM (vW 3) (vW 4))) (pU (aq (kW (.str "a run goes between two marks")) ao) (Y "Same")) bL)
  (aC (xV (pZ 2 CW Y (aq (vW 0) (aq (vW 6) ao))))
  (aC (xV (pZ 1 Lb Y (aq (vW 5) ao)))
  (aC (cW (bG (ak Fq (cbW f9 (aq (ak bQ (vW 0) (kW (.str "runs"))) ao)) (kW (.int 40)))) (pU (aq (kW (.str "there is no room for another run")) ao) (Y "Full")) bL)
  (aC (aQ (.nm 11) (ak bh (ak bQ (vW 0) (kW (.str "entered"))) (kW (.int 1))))
  (aC (aQ (.nm 12) (bu (aq (vW 11) (aq (vW 7) (aq (vW 8) (aq (vW 9) (aq (vW 10) (aq (vW 5) (aq (vW 6) ao)))))))))
  (aP (bA 3 qp (aq (bA 3 qp (aq (vW 0) (aq (kW (.str "entered")) (aq (vW 11) ao)))) (aq (kW (.str "runs")) (aq (ak bh (ak bQ (vW 0) (kW (.str "runs"))) (bu (aq (vW 12) ao))) ao)))))))))))))))
def K1:jF:=gZ 2 (λY=>(cW (bG (ak (dY true) (vW 1) (aM (fC [none] (fM (ak bQ (vW 0) (kW (.str "runs")))) (.nm 0) dq (ak aF (vW 0) (kW (.int 0))))))) (pU (aq (kW (.str "no run of this number stands")) ao) (Y "NoRun")) bL))
noncomputable def zdO:jF:=gZ 4 (λY=>(aC (aQ (.tp 2 (.cons (.nm 2) (.cons (.nm 3) .nil))) (vW 1))
  (aC (xV (pZ 2 K1 Y (aq (vW 0) (aq (vW 3) ao))))
  (aP (bA 3 qp (aq (vW 0) (aq (kW (.str "runs")) (aq (cbW wg (aq (aM (fC [none,some 3] (fM (ak bQ (vW 0) (kW (.str "runs")))) (.nm 0) (bG (ak jT (ak aF (vW 0) (kW (.int 0))) (vW 1))) (vW 0))) ao)) ao))))))))
noncomputable def zdC:jF:=gZ 6 (λY=>(aC (aQ (.tp 3 (.cons (.nm 2) (.cons (.nm 3) (.cons (.nm 4) .nil)))) (vW 1))
  (aC (xV (pZ 2 K1 Y (aq (vW 0) (aq (vW 3) ao))))
  (aC (xV (pZ 1 Lb Y (aq (vW 4) ao)))
  (aC (aQ (.nm 5) (aM (fC [none,some 3,some 4] (fM (ak bQ (vW 0) (kW (.str "runs")))) (.nm 0) dq (ifW (bG (ak cM (ak aF (vW 0) (kW (.int 0))) (vW 1))) (ak bh (ji (vW 0) rK (rH (kW (.int 5)))) (bu (aq (vW 2) (aq (ak aF (vW 0) (kW (.int 6))) ao)))) (vW 0)))))
  (aP (bA 3 qp (aq (vW 0) (aq (kW (.str "runs")) (aq (cbW wg (aq (vW 5) ao)) ao))))))))))
def zc5:jF:=gZ 6 (λY=>(aC (aQ (.tp 2 (.cons (.nm 2) (.cons (.nm 3) .nil))) (vW 1))
  (aC (aQ (.tp 2 (.cons (.nm 4) (.cons (.nm 5) .nil))) (pZ 2 Dl Y (aq (ak bQ (vW 0) (kW (.str "stands"))) (aq (vW 3) ao))))
  (aP (pZ 2 JZ Y (aq (vW 0) (aq (vW 4) ao)))))))
noncomputable def zb9:jF:=gZ 4 (λY=>(aC (aQ (.tp 2 (.cons (.nm 2) (.cons (.nm 3) .nil))) (vW 1))
  (aC (xV (pZ 2 CW Y (aq (vW 0) (aq (vW 3) ao))))
  (aC (cW (bG (ak (dY false) (vW 3) (ak bQ (vW 0) (kW (.str "aside"))))) (pU (aq (kW (.str "the hand is set aside already")) ao) (Y "Aside")) bL)
  (aP (bA 3 qp (aq (vW 0) (aq (kW (.str "aside")) (aq (ak bh (ak bQ (vW 0) (kW (.str "aside"))) (bu (aq (vW 3) ao))) ao)))))))))
noncomputable def zdi:jF:=gZ 4 (λY=>(aC (aQ (.tp 2 (.cons (.nm 2) (.cons (.nm 3) .nil))) (vW 1))
  (aC (xV (pZ 2 CW Y (aq (vW 0) (aq (vW 3) ao))))
  (aC (cW (bG (ak (dY true) (vW 3) (ak bQ (vW 0) (kW (.str "aside"))))) (pU (aq (kW (.str "the hand isn't set aside")) ao) (Y "NotAside")) bL)
  (aP (bA 3 qp (aq (vW 0) (aq (kW (.str "aside")) (aq (cbW wg (aq (aM (fC [none,some 3] (fM (ak bQ (vW 0) (kW (.str "aside")))) (.nm 0) (bG (ak jT (vW 0) (vW 1))) (vW 0))) ao)) ao)))))))))
noncomputable def zby:jF:=gZ 4 (λY=>(aC (aQ (.tp 2 (.cons (.nm 2) (.cons (.nm 3) .nil))) (vW 1))
  (aC (cW (uJ (bG (ak wB (vW 3) (kW (.int 0)))) (bG (ak xP (vW 3) (kW (.int 3))))) (pU (aq (kW (.str "so many false hands can't be allowed for")) ao) (Y "BadNumber")) bL)
  (aP (bA 3 qp (aq (vW 0) (aq (kW (.str "allowed")) (aq (vW 3) ao))))))))
def zP(A:il):List (Str×D):=[("mark",.obj A.mark_entered),("hand",.obj A.hand_entered),("run",.obj A.run_entered),("strike",.obj A.run_struck),("mend",.obj A.run_mended),("settle",.obj A.mark_settled),("aside",.obj A.hand_set_aside),("heed",.obj A.hand_heeded),("allow",.obj A.number_allowed)]
def jx(A:il):List (Addr×jF):=[(A.mark_entered,zcV),(A.hand_entered,zc4),(A.run_entered,zdj),(A.run_struck,zdO),(A.run_mended,zdC),(A.mark_settled,zc5),(A.hand_set_aside,zb9),(A.hand_heeded,zdi),(A.number_allowed,zby)]
def K9(A:il):jF:=gZ 3 (λY=>(aC (aQ (.nm 2) (Cr (zP A) (ak aF (vW 1) (kW (.int 0)))))
  (aP (zl1 2 2 (jx A) Y (aq (vW 0) (aq (vW 1) ao))))))
def rP(A:il):bN->Fn:=λqh=>dU 1 ((aP (xZ qh 0 "books" A.fen (my gG (kW (.int 1))))))
noncomputable def Ex(A:il):pH:=pQ 3 (λY=>(cU (sW (.nm 2) (zq8 2 (K9 A) Y (mX (qy λqh=>(jU qh 0 A.fen "now" 1 (rP A) (λ_ Q=>Q []))) (mX (qy λqh=>(vW 1)) jN))))
  (cU (j9 0 "kept" A.fen (λqh=>(vW 1)))
  (cU (j9 0 "books" A.fen (λqh=>(vW 2)))
  (cU (jr 0 "undone" A.fen (λqh=>(aX ao)))
  (cU (nG λqh=>(cW (bG (ak cM (ak aF (vW 1) (kW (.int 0))) (kW (.str "run")))) (aP (ak bQ (vW 2) (kW (.str "entered")))) bL))
  (nG λqh=>(aP (kW .non)))))))))
def Kq:Fn:=dU 2 ((aP (ak aF (aM (aX (aq (kW .non) (aq (ak bh (ak bQ (vW 0) (kW (.str "entered"))) (kW (.int 1))) ao)))) (cbW lL (aq (ak cM (ak aF (vW 1) (kW (.int 0))) (kW (.str "run"))) ao)))))
noncomputable def zdT(A:il):pH:=pQ 3 (λY=>(cU (Ay (ztj 2 (ye 6) (mX (uV 0 A.fen "deed" 2 (Ex A) (λ_ _=>False) (mX (qy λqh=>(vW 2)) jN)) (mX (qy λqh=>(bA 2 Kq (aq (vW 1) (aq (vW 2) ao)))) jN))) (nG λqh=>(aP (kW .non))) nilF)
  (nG λqh=>(aP (bA 2 Gm (aq (vW 1) (aq (vW 2) ao)))))))
def yS:Fn:=dU 1 ((aP (aM (fC [none,none] (fM (ak bQ (vW 0) (kW (.str "places")))) (.tp 2 (.cons (.nm 0) (.cons (.nm 1) .nil))) (bG (ak cM (vW 1) (kW (.int 1)))) (vW 0)))))
def Be:Fn:=dU 1 ((aP (ak j4 (ak lu (ak jn (ak jn (vW 0) (vW 0)) (kW (.int 3))) (kW (.int 17))) (vW 0))))
noncomputable def zbS:Fn:=dU 8 ((aC (aQ (.nm 2) (bA 1 yS (aq (vW 1) ao)))
  (aC (aQ (.nm 3) (aM (Ih (ak bQ (vW 1) (kW (.str "heeded"))))))
  (aC (cW (uJ (bG (ak wB (cbW f9 (aq (vW 2) ao)) (kW (.int 2)))) (uJ (bG (ak cM (vW 3) (aM (aX ao)))) (bG (ak Fq (cbW f9 (aq (ak bQ (vW 1) (kW (.str "rows"))) ao)) (kW (.int 40)))))) (aP (kW .non)) bL)
  (aC (aQ (.nm 4) (bA 2 dW (aq (vW 0) (aq (cbW f9 (aq (vW 2) ao)) ao))))
  (aC (HB 5 6 (ak aF (vW 2) (vW 4)) (ak aF (vW 2) (ak lu (ak bh (ak bh (vW 4) (kW (.int 1))) (bA 2 dW (aq (vW 0) (aq (ak j4 (cbW f9 (aq (vW 2) ao)) (kW (.int 1))) ao)))) (cbW f9 (aq (vW 2) ao)))))
  (aC (aQ (.nm 7) (ak j4 (bA 1 Be (aq (bA 2 vK (aq (vW 1) (aq (vW 6) ao))) ao)) (bA 1 Be (aq (bA 2 vK (aq (vW 1) (aq (vW 5) ao))) ao))))
  (aC (cW (bG (ak cM (bA 2 dW (aq (vW 0) (aq (kW (.int 4)) ao))) (kW (.int 0)))) (aQ (.nm 7) (ak aF (aM (aX (aq (ak bh (vW 7) (kW (.int 1))) (aq (ak j4 (vW 7) (kW (.int 2))) (aq (bA 2 dW (aq (vW 0) (aq (kW (.int 1000000000)) ao))) (aq (my gG (kW (.int 1000000000))) ao)))))) (bA 2 dW (aq (vW 0) (aq (kW (.int 4)) ao))))) bL)
  (aP (bu (aq (kW (.str "run")) (aq (vW 5) (aq (vW 6) (aq (vW 7) (aq (ak aF (vW 3) (bA 2 dW (aq (vW 0) (aq (cbW f9 (aq (vW 3) ao)) ao)))) ao)))))))))))))))
noncomputable def zb0:Fn:=dU 7 ((aC (aQ (.tp 5 (.cons (.nm 2) (.cons (.nm 3) (.cons (.nm 4) (.cons (.nm 5) (.cons (.nm 6) .nil)))))) (vW 1))
  (aC (cW (uJ (bG (ak cM (bA 2 sG (aq (vW 0) (aq (vW 3) ao))) (kW (.int 0)))) (bG (ak cM (bA 2 sG (aq (vW 0) (aq (vW 4) ao))) (kW (.int 0))))) (aP (kW (.str "NoMark"))) bL)
  (aC (cW (bG (ak cM (vW 3) (vW 4))) (aP (kW (.str "Same"))) bL)
  (aC (cW (lR true (vW 6) (ak bQ (vW 0) (kW (.str "heeded")))) (aP (kW (.str "NoHand"))) bL)
  (aC (cW (lM (bG (vf mz mz (my gG (kW (.int 1000000000))) (vW 5) (kW (.int 1000000000))))) (aP (kW (.str "BadRise"))) bL)
  (aP (ak aF (aM (aX (aq (kW (.str "")) (aq (kW (.str "Full")) ao)))) (cbW lL (aq (ak cM (cbW f9 (aq (ak bQ (vW 0) (kW (.str "rows"))) ao)) (kW (.int 40))) ao))))))))))
noncomputable def Hz:Fn:=dU 2 ((aC (cW (lM (jq (bA 1 Hv (aq (ak aF (vW 1) (kW (.int 1))) ao)))) (aP (kW (.str "BadName"))) bL)
  (aC (cW (bG (ak cM (ak aF (vW 1) (kW (.int 0))) (kW (.str "hand")))) (aC (cW (lR false (ak aF (vW 1) (kW (.int 1))) (ak bQ (vW 0) (kW (.str "heeded")))) (aP (kW (.str "Taken"))) bL)
  (aP (ak aF (aM (aX (aq (kW (.str "")) (aq (kW (.str "Full")) ao)))) (cbW lL (aq (ak cM (Ew (ak bQ (vW 0) (kW (.str "heeded")))) (kW (.int 10))) ao))))) bL)
  (aC (cW (bG (ak xP (bA 2 sG (aq (vW 0) (aq (ak aF (vW 1) (kW (.int 1))) ao))) (kW (.int 0)))) (aP (kW (.str "Taken"))) bL)
  (aP (ak aF (aM (aX (aq (kW (.str "")) (aq (kW (.str "Full")) ao)))) (cbW lL (aq (ak cM (cbW f9 (aq (ak bQ (vW 0) (kW (.str "places"))) ao)) (kW (.int 12))) ao))))))))
noncomputable def zE:Fn:=dU 2 ((aC (cW (bG (ak cM (ak aF (vW 1) (kW (.int 0))) (kW (.str "run")))) (aP (bA 2 zb0 (aq (vW 0) (aq (vW 1) ao)))) bL)
  (aC (cW (bG (ak (dY false) (ak aF (vW 1) (kW (.int 0))) (bu (aq (kW (.str "mark")) (aq (kW (.str "hand")) ao))))) (aP (bA 2 Hz (aq (vW 0) (aq (vW 1) ao)))) bL)
  (aC (cW (bG (ak cM (ak aF (vW 1) (kW (.int 0))) (kW (.str "settle")))) (aC (cW (bG (ak cM (bA 2 sG (aq (vW 0) (aq (ak aF (vW 1) (kW (.int 1))) ao))) (kW (.int 0)))) (aP (kW (.str "NoMark"))) bL)
  (aP (ak aF (aM (aX (aq (kW (.str "")) (aq (kW (.str "Full")) ao)))) (cbW lL (aq (ak cM (cbW f9 (aq (ak bQ (vW 0) (kW (.str "places"))) ao)) (kW (.int 12))) ao))))) bL)
  (aC (cW (bG (ak (dY false) (ak aF (vW 1) (kW (.int 0))) (bu (aq (kW (.str "strike")) (aq (kW (.str "mend")) ao))))) (aC (cW (lM (jq (cbW anyF (aq (aM (fC [none,some 1] (fM (ak bQ (vW 0) (kW (.str "rows")))) (.nm 0) dq (ak cM (ak aF (vW 0) (kW (.int 0))) (ak aF (vW 1) (kW (.int 1)))))) ao)))) (aP (kW (.str "NoRun"))) bL)
  (aP (ak aF (aM (aX (aq (kW (.str "")) (aq (kW (.str "BadRise")) ao)))) (cbW lL (aq (pJ (ak cM (ak aF (vW 1) (kW (.int 0))) (kW (.str "mend"))) (xF (vf mz mz (my gG (kW (.int 1000000000))) (ak aF (vW 1) (kW (.int 2))) (kW (.int 1000000000))))) ao))))) bL)
  (aC (cW (bG (ak cM (ak aF (vW 1) (kW (.int 0))) (kW (.str "allow")))) (aP (ak aF (aM (aX (aq (kW (.str "BadNumber")) (aq (kW (.str "")) ao)))) (cbW lL (aq (vf mz mz (kW (.int 0)) (ak aF (vW 1) (kW (.int 1))) (kW (.int 3))) ao)))) bL)
  (aC (cW (lR true (ak aF (vW 1) (kW (.int 1))) (ak bQ (vW 0) (kW (.str "heeded")))) (aP (kW (.str "NoHand"))) bL)
  (aC (cW (bG (ak cM (ak aF (vW 1) (kW (.int 0))) (kW (.str "aside")))) (aP (ak aF (aM (aX (aq (kW (.str "Aside")) (aq (kW (.str "")) ao)))) (cbW lL (aq (ak bQ (ak bQ (vW 0) (kW (.str "heeded"))) (ak aF (vW 1) (kW (.int 1)))) ao)))) bL)
  (aP (ak aF (aM (aX (aq (kW (.str "")) (aq (kW (.str "NotAside")) ao)))) (cbW lL (aq (ak bQ (ak bQ (vW 0) (kW (.str "heeded"))) (ak aF (vW 1) (kW (.int 1)))) ao))))))))))))
noncomputable def zdf(nm:Str)(ea:Addr):Fn:=dU 3 ((aC (aQ (.nm 1) (aM (aX (aq (d8 (vW 0) ea (decide (nm="BadName"))) (aq (d8 (vW 0) ea (decide (nm="Taken"))) (aq (d8 (vW 0) ea (decide (nm="Full"))) (aq (d8 (vW 0) ea (decide (nm="NoMark"))) ao)))))))
  (aC (aQ (.nm 1) (ak bh (vW 1) (aM (aX (aq (d8 (vW 0) ea (decide (nm="NoHand"))) (aq (d8 (vW 0) ea (decide (nm="Same"))) (aq (d8 (vW 0) ea (decide (nm="BadRise"))) (aq (d8 (vW 0) ea (decide (nm="NoRun"))) ao))))))))
  (aC (aQ (.nm 1) (ak bh (vW 1) (aM (aX (aq (d8 (vW 0) ea (decide (nm="Aside"))) (aq (d8 (vW 0) ea (decide (nm="NotAside"))) (aq (d8 (vW 0) ea (decide (nm="BadNumber"))) (aq (d8 (vW 0) ea (decide (nm="NothingLeft"))) ao))))))))
  (aC (aQ (.nm 1) (ak bh (vW 1) (aM (aX (aq (d8 (vW 0) ea (decide (nm="Steady"))) (aq (d8 (vW 0) ea (decide (nm="NoDeed"))) (aq (d8 (vW 0) ea (decide (nm="Known"))) (aq (d8 (vW 0) ea (decide (nm="NoFen"))) ao))))))))
  (aC (aQ (.nm 1) (ak bh (vW 1) (aM (aX (aq (d8 (vW 0) ea (decide (nm="Settled"))) (aq (d8 (vW 0) ea (decide (nm="NoPage"))) (aq (xF (d8 (vW 0) ea true)) ao)))))))
  (aC (aQ (.nm 2) (kW (.str "BadName Taken Full NoMark NoHand Same BadRise NoRun Aside NotAside BadNumber NothingLeft")))
  (aC (aQ (.nm 2) (v5 K3 (ak bh (vW 2) (kW (.str " Steady NoDeed Known NoFen Settled NoPage nothing"))) (kW (.str " "))))
  (aP (aM (fC [none,some 2,some 1] (uY (cbW f9 (aq (vW 2) ao))) (.nm 0) (jq (ak aF (vW 2) (vW 0))) (ak aF (vW 1) (vW 0)))))))))))))
def zeB:Fn:=dU 1 ((aP (aM (fC [none,none] (fM (vW 0)) (.tp 2 (.cons (.nm 0) (.cons (.nm 1) .nil))) (bG (ak cM (vW 1) (kW (.int 1)))) (vW 0)))))
def zdN(A:il):bN->Fn:=λqh=>dU 1 ((aP (bA 1 zeB (aq (ak bQ (jU qh 0 A.fen "now" 1 (rP A) (λ_ Q=>Q [])) (kW (.str "stands"))) ao))))
def zdJ(A:il):bN->Fn:=λqh=>dU 1 ((aP (aM (yr (ak bQ (jU qh 0 A.fen "now" 1 (rP A) (λ_ Q=>Q [])) (kW (.str "hands")))))))
def zc8(A:il):bN->Fn:=λqh=>dU 2 ((aC (aQ (.nm 1) (jU qh 0 A.fen "now" 1 (rP A) (λ_ Q=>Q [])))
  (aP (aM (fC [none,some 1] (fM (ak bQ (vW 1) (kW (.str "hands")))) (.nm 0) (bG (ak (dY false) (vW 0) (ak bQ (vW 1) (kW (.str "aside"))))) (vW 0))))))
def zda(A:il):bN->Fn:=λqh=>dU 1 ((aP (aM (yr (ak bQ (jU qh 0 A.fen "now" 1 (rP A) (λ_ Q=>Q [])) (kW (.str "stands")))))))
def zcH(A:il):bN->Fn:=λqh=>dU 1 ((aP (ak bQ (jU qh 0 A.fen "now" 1 (rP A) (λ_ Q=>Q [])) (kW (.str "allowed")))))
def zeC(A:il):bN->Fn:=λqh=>dU 1 ((aP (aM (yr (ak bQ (jU qh 0 A.fen "now" 1 (rP A) (λ_ Q=>Q [])) (kW (.str "runs")))))))
def zbz:Fn:=dU 1 ((aP (aM (fC [none,some 0] (fM (ak bQ (vW 0) (kW (.str "runs")))) (.nm 0) (bG (ak (dY true) (ak aF (vW 0) (kW (.int 6))) (ak bQ (vW 1) (kW (.str "aside"))))) (vW 0)))))
def zch(A:il):bN->Fn:=λqh=>dU 1 ((aP (aM (fC [none] (fM (bA 1 zbz (aq (jU qh 0 A.fen "now" 1 (rP A) (λ_ Q=>Q [])) ao))) (.nm 0) dq (ak aF (vW 0) (kW (.int 0)))))))
def zdG(A:il):bN->Fn:=λqh=>dU 1 ((aP (aM (xG qh 0 "kept" A.fen))))
noncomputable def zdR(A:il):bN->Fn:=λqh=>dU 2 ((aC (aQ (.nm 1) (aM (aX (aq (jU qh 0 A.fen "marks" 1 (zdN A) (λ_ Q=>Q [])) (aq (jU qh 0 A.fen "hands" 1 (zdJ A) (λ_ Q=>Q [])) (aq (jU qh 0 A.fen "asides" 1 (zc8 A) (λ_ Q=>Q [])) (aq (jU qh 0 A.fen "stands" 1 (zda A) (λ_ Q=>Q [])) (aq (jU qh 0 A.fen "allowed" 1 (zcH A) (λ_ Q=>Q [])) (aq (jU qh 0 A.fen "runs" 1 (zeC A) (λ_ Q=>Q [])) (aq (jU qh 0 A.fen "counting" 1 (zch A) (λ_ Q=>Q [])) ao))))))))))
  (aP (ak bh (vW 1) (aM (aX (aq (jU qh 0 A.fen "deeds" 1 (zdG A) (λ_ Q=>Q [])) ao)))))))
def zcl:Fn:=dU 1 ((aP (aM (fC [none,some 0] (fM (ak bQ (vW 0) (kW (.str "rows")))) (.nm 0) (jq (ak bQ (ak bQ (vW 1) (kW (.str "heeded"))) (ak aF (vW 0) (kW (.int 4))))) (vW 0)))))
noncomputable def zeE:Fn:=dU 5 ((aC (aQ (.nm 1) (ak bQ (vW 0) (kW (.str "places"))))
  (aC (aQ (.nm 2) (aM (fC [none,some 1] (fM (ak bQ (vW 0) (kW (.str "rows")))) (.nm 0) dq (ak bh (ak bh (ak bh (bu (aq (ak aF (vW 0) (kW (.int 0))) ao)) (ak aF (vW 1) (ak aF (vW 0) (kW (.int 1))))) (ak aF (vW 1) (ak aF (vW 0) (kW (.int 2))))) (ji (vW 0) (rH (kW (.int 3))) rK)))))
  (aC (aQ (.nm 3) (aM (fC [none,some 0] (zqG (ak bQ (vW 0) (kW (.str "heeded")))) (.nm 0) (lM (jq (ak bQ (ak bQ (vW 1) (kW (.str "heeded"))) (vW 0)))) (vW 0))))
  (aC (aQ (.nm 4) (aM (aX (aq (bA 1 yS (aq (vW 0) ao)) (aq (aM (Ih (ak bQ (vW 0) (kW (.str "heeded"))))) (aq (vW 3) (aq (vW 1) (aq (ak bQ (vW 0) (kW (.str "many"))) (aq (vW 2) ao)))))))))
  (aP (ak bh (vW 4) (aM (aX (aq (aM (fC [none] (fM (bA 1 zcl (aq (vW 0) ao))) (.nm 0) dq (ak aF (vW 0) (kW (.int 0))))) (aq (ak bQ (vW 0) (kW (.str "deeds"))) ao)))))))))))
def zc7(A:il):bN->Fn:=λqh=>dU 2 ((aP (bA 2 (ye 6) (aq (ztL qh 1 (zdR A) (aq (vW 0) ao)) (aq (bA 1 zeE (aq (vW 1) ao)) ao)))))
def qu(h:F ds P)(k:∀d,P d->Q d):up F ds Q:=⟨P,h,k⟩
def Bu(t:Tg)(C:WT)(E:WE)(Sc:Env)(x:D)(o:Option D):Prop:=∀(Y:D->Prop)(N:Prop),(match o with|some d=>Y d|none=>N)->gD t x Sc λS2=>C S2 λb=>if b=true then E S2 Y else N
theorem zgz{α:Type}(emb:α->D)(g:α->Option D):∀(xs:List α)(acc:List D),(∀x∈xs,Bu t C E Sc (emb x) (g x))->Q (acc++xs.filterMap g)->lJ t C E Sc Q (xs.map emb) acc
 |[],acc,_,q=>by simpa[lJ]using q
 |x::xs,acc,h,q=>by
  show gD t (emb x) Sc λS2=>C S2 λb=>if b=true then E S2 λd=>lJ t C E Sc Q (xs.map emb) (acc++[d])else lJ t C E Sc Q (xs.map emb) acc;refine h x gC _ _ ?_;cases e:g x with
  |none=>
   refine zgz emb g xs acc (λy hy=>h y (kj _ hy)) ?_;rw[YAQ,e]at q;exact q
  |some d=>
   refine zgz emb g xs (acc++[d]) (λy hy=>h y (kj _ hy)) ?_;rw[YAQ,e]at q;rw[YCi];exact q
theorem zjo{α β:Type}(emb:α->D)(out:β->D)(R:α->β->Prop):∀(xs:List α)(ys:List β),(∀x∈xs,∀Y:D->Prop,(∀y,R x y->Y (out y))->gD t (emb x) Sc λS2=>C S2 λb=>b=true/\E S2 Y) ->
  wQ C->(∀zs:List β,zs.length=xs.length->(∀z∈zs,∃x∈xs,R x z)->Q ((ys++zs).map out))->lJ t C E Sc Q (xs.map emb) (ys.map out)
 |[],ys,_,_,q=>by simpa[lJ]using q [] rfl (λz h=>by cases h)
 |x::xs,ys,h,mC,q=>by
  show gD t (emb x) Sc λS2=>C S2 λb=>if b=true then E S2 λd=>lJ t C E Sc Q (xs.map emb) (ys.map out++[d])else lJ t C E Sc Q (xs.map emb) (ys.map out);refine t7 t (emb x) Sc (λS2 z=>mC S2 _ _ (λb z=>?_) z) (h x gC (λd=>lJ t C E Sc Q (xs.map emb) (ys.map out++[d])) λy hy=>?_)
  .rw[z.1,if_pos rfl];exact z.2
  .have:=zjo (t:=t) (C:=C) (E:=E) (Sc:=Sc) (Q:=Q) emb out R xs (ys++[y]) (λx' hx'=>h x' (kj _ hx')) mC (λzs hl hz=>by
    have:=q (y::zs) (by simp[hl]) (λz hz'=>by
     rcases iU.mp hz' with e|e
     .exact⟨x,gC,e▸hy⟩
     .obtain⟨x',h1,h2⟩:=hz z e;exact⟨x',kj _ h1,h2⟩)
    simpa using this)
   simpa using this
def zou:wQ dq:=λS Q Q' k q=>k _ q
theorem zgw(I:List D->Env->Prop)
  (hs:∀x rest S (E':En),(∀ S,I rest S->E'.nx S)->(∀ S,I rest S->E'.ct S)->(∀d,E.rt d->E'.rt d)->(∀ S,E.nx S->E'.bk S)->I (x::rest) S->gD t x S λS'=>B E' S') (hd:∀ S,I [] S->E.nx S) :
  ∀(xs:List D)(S:Env),I xs S->pB t B E xs S
 |[],S,h=>hd S h
 |x::xs,S,h=>hs x xs S {nx:=pB t B E xs,ct:=pB t B E xs,bk:=E.nx,rt:=E.rt} (zgw I hs hd xs) (zgw I hs hd xs) (λd z=>z) (λS z=>z) h
theorem Gx(P:D->Prop)(I:List D->Env->Prop)
  (hs:∀x rest S (E':En),P x->(∀ S,I rest S->E'.nx S)->(∀ S,I rest S->E'.ct S)->(∀d,E.rt d->E'.rt d)->(∀ S,E.nx S->E'.bk S)->I (x::rest) S->gD t x S λS'=>B E' S') (hd:∀ S,I [] S->E.nx S) :
  ∀(xs:List D)(S:Env),(∀d∈xs,P d)->I xs S->pB t B E xs S
 |[],S,_,h=>hd S h
 |x::xs,S,hp,h=>hs x xs S {nx:=pB t B E xs,ct:=pB t B E xs,bk:=E.nx,rt:=E.rt} (hp x gC) (λS=>Gx P I hs hd xs S λd hd=>hp d (kj _ hd)) (λS=>Gx P I hs hd xs S λd hd=>hp d (kj _ hd)) (λd z=>z) (λS z=>z) h
def j0(i:Int):D.old (.int i)=.int i:=by unfold D.old;rfl
theorem zl5(x:Int):∀hs:List Int,inB (.int x) (hs.map D.int)=hs.contains x
 |[]=>rfl
 |y::hs=>by
  have:=zl5 x hs
  unfold inB at this ⊢;rw[d7,lZ,Ax,this,List.contains_cons];congr 1;show(y==x)=(x==y);exact Bool.beq_comm
theorem zmg:∀hs:List Int,cD (hs.map D.int)=true
 |[]=>rfl
 |y::hs=>by rw[d7,cD,zmg hs];rfl
theorem zl6:∀hs:List Int,PyData.depthAll (lZ (hs.map D.int))=0
 |[]=>rfl
 |y::hs=>by rw[d7,lZ,PyData.depthAll,zl6 hs];rfl
def zoE(x:Int)(hs:List Int):rm (.int x) (hs.map D.int):=⟨rfl,zmg hs,by rw[zl6];exact YAB (Nat.min_le_left _ _) (by decide)⟩
def Bq(x y:Int):qI (.int x) (.int y):=⟨rfl,rfl,by show min 0 0<=50;decide⟩
def KQ(x y:Int):eqB (.int x) (.int y)=decide (x=y):=by
 show(x==y)=_;by_cases h:x=y<;>simp[h]
def sV(x y:Bool):qI (.bl x) (.bl y):=⟨rfl,rfl,by show min 0 0<=50;decide⟩
def zpn{x:Int}{hs:List Int}{n:Bool}{Q:D->Prop}(q:Q (.bl (!hs.contains x))):inD true (.int x) (.lst n (hs.map D.int)) Q:=⟨zoE _ _,by
 have:(if true=true then !inB (.int x) (hs.map D.int)else inB (.int x) (hs.map D.int)) = !hs.contains x:=congrArg (!·) (zl5 x hs)
 rw[this];exact q⟩
def zrb(q:Q (.bl (decide (x=y)))):cM (.int x) (.int y) Q:=⟨Bq _ _,by rw[KQ];exact q⟩
def zuj(q:Q (.bl (!decide (x=y)))):jT (.int x) (.int y) Q:=⟨Bq _ _,by rw[KQ];exact q⟩
def zkG:D.old .box=.box:=by rw[D.old]
def iy(x:Str):D.old (.str x)=.str x:=by rw[D.old]
def zrh(x:Bool):D.old (.bl x)=.bl x:=by rw[D.old]
def DY(h0:0<m)(h1:m<2^64)(k:∀x:Int,0<=x->x<m->Q (.int x)):up dW [.box,.int m] Q:=⟨Q,⟨⟨h0,h1⟩,k⟩,λd z=>z⟩
def znU(m:Int)(n:Nat):iR m (n+1)=.int m::iR (m+1) n:=by
 unfold iR;rw[YCe,d7,YAR];congr 1
 .simp
 .refine JN λk _=>?_;simp only[Function.comp_apply,Nat.succ_eq_add_one];congr 1;omega
def zqv(n:Nat):iR 0 n=(List.range n).map λ(k:Nat)=>D.int (k:Int):=by
 unfold iR;refine JN λk _=>?_;simp
def zdS(m:Int)(n:Nat):(iR m n).length=n:=by unfold iR;simp
def zu5{α:Type}(f:α->Bool)(xs:List α):(xs.map λx=>D.bl (f x))=(xs.map f).map D.bl:=by rw[YAR];rfl
def zgx{α:Type}{f:α->Bool}{xs:List α}{n:Bool}{Q:D->Prop}(q:Q (.bl (xs.all f))):m8 [.lst n (xs.map λx=>D.bl (f x))] Q:=
 ⟨xs.map f,zu5 f xs,by rw[List.all_map];exact q⟩
def Eh{α β:Type}(f:α->β)(xs:List α):xs.filterMap (λx=>some (f x))=xs.map f:=by rw[List.filterMap_eq_map']
def zfo{α:Type}(emb:α->D)(g:α->D)(xs:List α)(h:∀x∈xs,Bu t C E Sc (emb x) (some (g x)))(q:Q (xs.map g)):lJ t C E Sc Q (xs.map emb) []:=
 zgz emb (λx=>some (g x)) xs [] h (by rw[Eh];exact q)
mutual
def eF:D->Nat->Bool
 |.non,_=>true
 |.bl _,_=>true
 |.int _,_=>true
 |.str x,_=>PyData.canLay0 (.str x)
 |.box,_=>false
 |.obj _,_=>false
 |.dct _ _ _,_=>false
 |.fdc _ _,_=>false
 |.tup xs,n+1=>decide (xs.length<=1000)&&tQ xs n
 |.lst _ xs,n+1=>decide (xs.length<=1000)&&tQ xs n
 |.tup _,0=>false
 |.lst _ _,0=>false
def tQ:List D->Nat->Bool
 |[],_=>true
 |x::xs,n=>eF x n&&tQ xs n
end
theorem zeU:∀{xs:List D}{n:Nat}{x:D},tQ xs n=true->x∈xs->eF x n=true
 |y::ys,n,x,h,hx=>by
  rw[tQ,YAA]at h;rcases iU.mp hx with e|e
  .rw[e];exact h.1
  .exact zeU h.2 e
theorem zhv:∀xs:List D,iT xs xs=xs.map λx=>.tup [x,x]
 |[]=>rfl
 |x::xs=>by rw[iT,zhv xs];rfl
mutual
theorem zlb:∀d:D,d.old.old=d.old
 |.non=>by simp[D.old]
 |.bl _=>by simp[D.old]
 |.int _=>by simp[D.old]
 |.str _=>by simp[D.old]
 |.box=>by simp[D.old]
 |.obj _=>by simp[D.old]
 |.dct _ _ xs=>by rw[D.old,D.old,YAR];congr 1;exact Hk xs
 |.fdc _ xs=>by rw[D.old,D.old,YAR];congr 1;exact Hk xs
 |.tup xs=>by rw[D.old,D.old,YAR];congr 1;exact Hk xs
 |.lst _ xs=>by rw[D.old,D.old,YAR];congr 1;exact Hk xs
theorem Hk:∀xs:List D,xs.map (D.old∘D.old)=xs.map D.old
 |[]=>rfl
 |x::xs=>by rw[d7,d7,Hk xs,Function.comp_apply,zlb x]
end
mutual
theorem zez:∀(d:D)(n:Nat),eF d.old n=eF d n
 |.non,_=>by rw[D.old]
 |.bl _,_=>by rw[D.old]
 |.int _,_=>by rw[D.old]
 |.str _,_=>by rw[D.old]
 |.box,_=>by rw[D.old]
 |.obj _,_=>by rw[D.old]
 |.dct _ _ _,_=>by rw[D.old,eF,eF]
 |.fdc _ _,_=>by rw[D.old,eF,eF]
 |.tup xs,n+1=>by rw[D.old,eF,eF,b8,zeW xs n]
 |.lst _ xs,n+1=>by rw[D.old,eF,eF,b8,zeW xs n]
 |.tup xs,0=>by rw[D.old,eF,eF]
 |.lst _ xs,0=>by rw[D.old,eF,eF]
theorem zeW:∀(xs:List D)(n:Nat),tQ (xs.map D.old) n=tQ xs n
 |[],_=>rfl
 |x::xs,n=>by rw[d7,tQ,tQ,zez x n,zeW xs n]
end
def vU:∀{d:D}{n:Nat},eF d n=true->(∀xs,d≠.tup xs)->(∀b xs,d≠.lst b xs)->dF d=true
 |.non,_,_,_,_=>rfl
 |.bl _,_,_,_,_=>rfl
 |.int _,_,_,_,_=>rfl
 |.str x,_,h,_,_=>by rw[eF]at h;rw[dF];exact h
 |.box,_,h,_,_=>by rw[eF]at h;cases h
 |.obj _,_,h,_,_=>by rw[eF]at h;cases h
 |.dct _ _ _,_,h,_,_=>by rw[eF]at h;cases h
 |.fdc _ _,_,h,_,_=>by rw[eF]at h;cases h
 |.tup xs,_,_,h,_=>absurd rfl (h xs)
 |.lst b xs,_,_,_,h=>absurd rfl (h b xs)
theorem Hj:∀(n:Nat)(d e:D),d.old=e.old->eF d n=true->ye (n+1) [d,e] (·=.bl true)
 |n,d,e,he,h=>by
  have ho:=h;rw[<-zez]at ho;unfold ye dU fU;rw[d7,d7,<-he];have hoo:d.old.old=d.old:=zlb d;revert ho hoo;generalize d.old=x;intro ho hoo;cases x with
  |non=>rfl
  |bl b=>exact⟨sV _ _,sV _ _,sV _ _,⟨rfl,rfl,by show min 0 0<=50;decide⟩,by show D.bl (b==b)=_;simp⟩
  |int i=>exact⟨sV _ _,sV _ _,sV _ _,Bq _ _,by show D.bl (i==i)=_;simp⟩
  |str z=>exact⟨sV _ _,sV _ _,sV _ _,⟨vU ho (λ_ h=>by cases h) (λ_ _ h=>by cases h),vU ho (λ_ h=>by cases h) (λ_ _ h=>by cases h),by show min 0 0<=50;decide⟩,by show D.bl (z==z)=_;simp⟩
  |box=>rw[eF]at ho;cases ho
  |obj a=>rw[eF]at ho;cases ho
  |dct n ks xs=>rw[eF]at ho;cases ho
  |fdc ks xs=>rw[eF]at ho;cases ho
  |tup xs=>
   cases n with
   |zero=>rw[eF]at ho;cases ho
   |succ n=>
    rw[eF,YAA]at ho;have hl:=km ho.1;refine⟨sV _ _,sV _ _,Bq _ _,?_⟩;show zM (.bl (eqB (.int (xs.length:Int)) (.int (xs.length:Int)))) _;rw[KQ,gB rfl];show _/\lJ _ _ _ _ _ (iT xs xs) [];rw[zhv];refine⟨by rw[b8];omega,zfo (λx=>.tup [x,x]) (λ_=>.bl true) xs (λx hx Y N y=>⟨rfl,rfl,qu (Hj n x x rfl (zeU ho.2 hx)) λd hd=>by subst hd;exact y⟩) ?_⟩;exact zgx (f:=λ_=>true) (xs:=xs) (n:=true) (by show D.bl _=_;congr 1;simp)
  |lst b xs=>
   cases n with
   |zero=>rw[eF]at ho;cases ho
   |succ n=>
    rw[eF,YAA]at ho;have hl:=km ho.1;refine⟨sV _ _,sV _ _,Bq _ _,?_⟩;show zM (.bl (eqB (.int (xs.length:Int)) (.int (xs.length:Int)))) _;rw[KQ,gB rfl];show _/\lJ _ _ _ _ _ (iT xs xs) [];rw[zhv];refine⟨by rw[b8];omega,zfo (λx=>.tup [x,x]) (λ_=>.bl true) xs (λx hx Y N y=>⟨rfl,rfl,qu (Hj n x x rfl (zeU ho.2 hx)) λd hd=>by subst hd;exact y⟩) ?_⟩;exact zgx (f:=λ_=>true) (xs:=xs) (n:=true) (by show D.bl _=_;congr 1;simp)
abbrev sg(x:Str):List Nat:=x.cps.toList
def zoG(x:Str):x.length=(sg x).length:=by unfold Str.length;simp
def zms(x y:Str):sg (x++y)=sg x++sg y:=by show(x.cps++y.cps).toList=_;simp
def zi1(x y:Str):eqB (.str x) (.str y)=decide (x=y):=by
 show(x==y)=_;by_cases h:x=y<;>simp[h]
def cA(x:Str):Bool:=PyData.canLay0 (.str x)
def zoJ(h:∀ch∈sg x,ch<0x110000):cA x=true:=by
 show x.cps.all (·<0x110000)=true;rw[<-Array.all_toList,yQ];intro ch hc;exact gB (h ch hc)
def bR(h:(sg x).all (λch=>decide (ch<0x110000))=true:=by decide +kernel):cA x=true:=zoJ λch hc=>km (yQ.mp h ch hc)
def zmu(hx:cA x=true)(hy:cA y=true):qI (.str x) (.str y):=⟨by rw[dF];exact hx,by rw[dF];exact hy,by show min 0 0<=50;decide⟩
def zpC(s:Str)(ch:Nat):mK s ⟨#[ch]⟩=decide (ch∈sg s):=StrLaws.found_one s ch
def yF(x signs:Str)(n:Int):Bool:=(decide (1<=(x.length:Int))&&decide ((x.length:Int)<=n))&&(sg x).all λch=>decide (ch∈sg signs)
def yI(h:S[i]?=some (.val d))(q:Q d):vW i S Q:=by unfold vW;rw[h];exact q
def IV(q:f b):zM (.bl b) f:=q
def zu0{p q:Prop}(h:p):if true=true then p else q:=h
def zmh(q:Q (.bl (decide (i<=j)))):mz (.int i) (.int j) Q:=q
def zhz(x signs:Str)(n:Int)(hx:x.length<=100000):Kp [.str x,.str signs,.int n] (·=.bl (yF x signs n)):=by
 unfold Kp dU fU;rw[d7,d7,d7,iy,iy,j0];refine⟨hx,zmh ?_⟩;unfold yF;cases decide (1<=(x.length:Int))with
 |false=>rfl
 |true=>
  refine IV (zu0 (yI (d:=.int n) rfl (zmh ?_)));cases decide ((x.length:Int)<=n)with
  |false=>rfl
  |true=>
   show _/\lJ _ _ _ _ _ (wM x) [];refine⟨by unfold wM;rw[b8,<-zoG];exact hx,?_⟩;unfold wM;refine zfo (λch=>D.str ⟨#[ch]⟩) (λch=>.bl (decide (ch∈sg signs))) (sg x) (λch _ Y N y=>?_) ?_
   .show Y (.bl (if false=true then !mK signs ⟨#[ch]⟩else mK signs ⟨#[ch]⟩));rw[if_neg (by decide),zpC];exact y
   .exact zgx (f:=λch=>decide (ch∈sg signs)) (xs:=sg x) (n:=true) (by simp)
abbrev LET:Str:="abcdefghijklmnopqrstuvwxyz"
def zk1(ch:Nat):ch∈sg LET↔97<=ch/\ch<=122:=by
 have:sg LET=List.range' 97 26:=by decide +kernel
 rw[this,List.mem_range'];constructor
 .rintro⟨i,h,rfl⟩;omega
 .intro h;exact⟨ch-97,by omega,by omega⟩
def nameB(x:Str):Bool:=yF x LET 8
def zls(x:Str)(hx:x.length<=100000):CP [.str x] (·=.bl (nameB x)):=by
 unfold CP dU fU;rw[d7,iy];exact⟨rfl,qu (zhz x LET 8 hx) λd z=>z⟩
def zn5(h:cA x=true):∀ch∈sg x,ch<0x110000:=by
 have h:x.cps.all (·<0x110000)=true:=h;rw[<-Array.all_toList,yQ]at h;intro ch hc;exact km (h ch hc)
abbrev sE:Str:=""
theorem zlW:∀ts:List Str,sg (Str.join sE ts)=(ts.map sg).flatten
 |[]=>rfl
 |[t]=>by show sg t=_;simp
 |t::u::r=>by
  show sg (t++sE++Str.join sE (u::r))=_;rw[zms,zms,zlW (u::r)]
  have:sg sE=[]:=by decide +kernel
  rw[this,YAK];rfl
def zjJ(cs:List Nat):sg (Str.join sE (cs.map λch=>⟨#[ch]⟩))=cs:=by
 rw[zlW,YAR]
 induction cs with
 |nil=>rfl
 |cons ch cs ih=>rw[d7,BV,ih];rfl
def zr1{cs:List Nat}(h1:1<=cs.length)(h2:cs.length<=8)(h:∀ch∈cs,ch∈sg LET):nameB (Str.join sE (cs.map λch=>⟨#[ch]⟩))=true:=by
 unfold nameB yF;rw[zoG,zjJ,gB (by omega:1<=(cs.length:Int)),gB (by omega:(cs.length:Int)<=8),yQ.mpr λch hc=>gB (h ch hc)];rfl
def t8(ns:List Int):Prop:=∀n∈ns,0<=n/\n<26
def znJ(d e:D)(n:Nat):fU (n+2) [d,e]=.val d.old::.val e.old::List.replicate n .un:=by unfold fU;rfl
def zrQ(hj:S[j]?=some (.val .box))(hn:n<=1000)(q:∀ns:List Int,ns.length=n->t8 ns->Q (ns.map D.int)) :
  (iR 0 n).length<=100000/\lJ (.nm 0) dq (bA 2 dW (aq (vW 1) (aq (kW (.int 26)) ao))) (eE [none,some j] S) Q (iR 0 n) []:=by
 refine⟨by rw[zdS];omega,?_⟩;rw[zqv]
 have:=zjo (t:=.nm 0) (C:=dq) (E:=bA 2 dW (aq (vW 1) (aq (kW (.int 26)) ao))) (Sc:=eE [none,some j] S) (Q:=Q) (λk:Nat=>D.int (k:Int)) D.int (λ_ x=>0<=x/\x<26) (List.range n) [] (λx hx Y y=>by
  have e:(eE [none,some j] S)[1]?=some (.val .box):=by
   unfold eE;simp only[d7,rZ,rO,List.getElem?_cons_zero];rw[hj]
  have e2:((eE [none,some j] S).set 0 (.val (.int x)))[1]?=some (.val .box):=by rw[jG (by decide)];exact e
  exact⟨rfl,yI e2 ⟨rfl,DY (by decide) (by decide) λz z0 z1=>y z ⟨z0,z1⟩⟩⟩) zou (λzs hl hz=>q zs (by rw[hl,List.length_range]) λz hz'=>by obtain⟨x,_,h⟩:=hz z hz';exact h)
 exact this
def Ev(A:WE)(S:Env)(d:D):Prop:=∀P:D->Prop,P d->A S P
def jc(A:WL)(S:Env)(ds:List D):Prop:=∀P:List D->Prop,P ds->A S P
def fG(A:WT)(S:Env)(b:Bool):Prop:=∀P:Bool->Prop,P b->A S P
def Dw(A:WO)(S:Env)(o:Option Int):Prop:=∀P:Option Int->Prop,P o->A S P
section
variable{S:Env}{A B V:WE}{R:WL}{C C':WT}{d x y:D}{ds xs:List D}{i n:Nat}{b b':Bool}
def aA(h:S[i]?=some (.val d)):Ev (vW i) S d:=λP p=>yI h p
def aG:Ev (kW d) S d:=λP p=>p
def lE(hA:Ev A S x)(hB:Ev B S y)(h:∀P:D->Prop,P d->f x y P):Ev (ak f A B) S d:=λP p=>hA _ (hB _ (h P p))
def zrY(hA:Ev A S x)(h:∀P:D->Prop,P d->f x P):Ev (my f A) S d:=λP p=>hA _ (h P p)
def aY:jc ao S []:=λP p=>p
def aJ(hA:Ev A S d)(hR:jc R S ds):jc (aq A R) S (d::ds):=λP p=>hA _ (hR _ p)
def iG(hR:jc R S ds)(h:ds.length<=100000:=by simp):Ev (bu R) S (.tup ds):=λP p=>hR _ ⟨h,p⟩
def jR(hR:jc R S ds)(h:ds.length<=100000:=by simp):jc (aX R) S ds:=λP p=>hR _ ⟨h,p⟩
def fu(hR:jc R S ds):Ev (aM R) S (.lst true ds):=λP p=>hR _ p
def iY(hR:jc R S ds)(h:F ds (·=d))(hl:ds.length=n:=by rfl):Ev (bA n F R) S d:=λP p=>hR _ ⟨hl,qu h λe z=>by subst z;exact p⟩
def wK(hR:jc R S ds)(h:∀P:D->Prop,P d->f ds P):Ev (cbW f R) S d:=λP p=>hR _ (h P p)
def zwy(hC:fG C S b)(h:if b=true then Ev A S d else Ev B S d):Ev (ifW C A B) S d:=λP p=>hC _ (by cases b<;>exact h P p)
def Cd(hA:Ev A S (.dct nn ks xs))(h:dZ ks xs z=some d):Ev (ak bQ A (kW (.str z))) S d:=lE hA aG λP p=>by show mU (dZ ks xs z) P;rw[h];exact p
def Er(hA:Ev A S (.fdc ks xs))(hB:Ev B S (.str z))(h:dZ ks xs z=some d):Ev (ak bQ A B) S d:=lE hA hB λP p=>by show mU (dZ ks xs z) P;rw[h];exact p
def jY(hA:Ev A S (.tup t))(hB:Ev B S (.int k))(h:gO t k=some d):Ev (ak aF A B) S d:=lE hA hB λP p=>by show(match gO t k with|some d=>P d|none=>False);rw[h];exact p
def uD(hA:Ev A S (.lst m t))(hB:Ev B S (.int k))(h:gO t k=some d):Ev (ak aF A B) S d:=lE hA hB λP p=>by show(match gO t k with|some d=>P d|none=>False);rw[h];exact p
def Cp(hA:Ev A S (.int j))(hB:Ev B S (.int k)):Ev (ak bh A B) S (.int (j+k)):=lE hA hB λP p=>p
def zi4(hA:Ev A S (.int j))(hB:Ev B S (.int k)):Ev (ak j4 A B) S (.int (j-k)):=lE hA hB λP p=>p
def zkZ(hA:Ev A S (.int j))(hB:Ev B S (.int k))(h:∀P:D->Prop,P (.int (j*k))->jn (.int j) (.int k) P):Ev (ak jn A B) S (.int (j*k)):=lE hA hB h
def zn6(hA:Ev A S (.int j))(hB:Ev B S (.int k))(h:0<k:=by decide):Ev (ak lu A B) S (.int (j % k)):=lE hA hB λP p=>⟨h,p⟩
def wN(hA:Ev A S (.tup s))(hB:Ev B S (.tup t))(h:s.length+t.length<=100000):Ev (ak bh A B) S (.tup (s++t)):=lE hA hB λP p=>⟨h,p⟩
def vo(hA:Ev A S (.lst m s))(hB:Ev B S (.lst l t))(h:s.length+t.length<=100000):Ev (ak bh A B) S (.lst true (s++t)):=lE hA hB λP p=>⟨h,p⟩
def Hy(hA:Ev A S (.tup t)):Ev (cbW f9 (aq A ao)) S (.int t.length):=wK (aJ hA aY) λP p=>p
def pY(hA:Ev A S (.lst m t)):Ev (cbW f9 (aq A ao)) S (.int t.length):=wK (aJ hA aY) λP p=>p
def yX(hA:Ev A S (.str s))(hB:Ev B S (.str t))(hs:cA s=true)(ht:cA t=true):Ev (ak cM A B) S (.bl (decide (s=t))):=lE hA hB λP p=>⟨zmu hs ht,by rw[zi1];exact p⟩
def zri(hA:Ev A S (.str s))(hB:Ev B S (.str t))(hs:cA s=true)(ht:cA t=true):Ev (ak jT A B) S (.bl (!decide (s=t))):=lE hA hB λP p=>⟨zmu hs ht,by rw[zi1];exact p⟩
def pN(hA:Ev A S (.int s))(hB:Ev B S (.int t)):Ev (ak cM A B) S (.bl (decide (s=t))):=lE hA hB λP p=>zrb p
def zre(hA:Ev A S (.int s))(hB:Ev B S (.int t)):Ev (ak jT A B) S (.bl (!decide (s=t))):=lE hA hB λP p=>zuj p
def zc(hA:Ev A S (.int s))(hB:Ev B S (.int t)):Ev (ak wB A B) S (.bl (decide (s<t))):=lE hA hB λP p=>p
def zT(hA:Ev A S (.int s))(hB:Ev B S (.int t)):Ev (ak xP A B) S (.bl (decide (t<s))):=lE hA hB λP p=>p
def Fe(hA:Ev A S (.int s))(hB:Ev B S (.int t)):Ev (ak Fq A B) S (.bl (decide (t<=s))):=lE hA hB λP p=>p
def zoM(hA:Ev A S x):Ev (kh A) S (.bl (isN x)):=λP p=>hA _ p
def dC(h:Ev A S (.bl b)):fG (bG A) S b:=λP p=>h _ p
def xQ(h:Ev A S (.bl b)):fG (jq A) S b:=λP p=>h _ p
def BZ(h:fG C S b):fG (lM C) S (!b):=λP p=>h _ p
def Am(h:fG C S b)(h':b=false->fG C' S b'):fG (uJ C C') S (b || b'):=λP p=>h _ (by
 cases b
 .exact h' rfl P p
 .exact p)
def bU(h:fG C S b)(e:b=b'):fG C S b':=e▸h
def lW(h:Ev A S x)(e:x=y):Ev A S y:=e▸h
def DR:Dw rK S none:=λP p=>p
def Fb(h:Ev A S (.int k)):Dw (rH A) S (some k):=λP p=>h _ p
def zlE(hA:Ev A S (.tup t))(hL:Dw L S l)(hU:Dw U S u):Ev (ji A L U) S (.tup (cutD t l u)):=λP p=>hA _ (hL _ (hU _ p))
def tR{α:Type}(emb:α->D)(g:α->Option D)(ys:List α)(hI:jc I S (ys.map emb))(hl:ys.length<=100000)(h:∀x∈ys,Bu t C E (eE sub S) (emb x) (g x)):jc (fC sub I t C E) S (ys.filterMap g):=λP p=>
 hI _ ⟨by rw[b8];exact hl,zgz emb g ys [] h (by rw[YC1];exact p)⟩
def yR(hA:Ev A S (.tup t)):jc (fM A) S t:=λP p=>hA _ p
def rQ(hA:Ev A S (.lst m t)):jc (fM A) S t:=λP p=>hA _ p
def zk0(hA:Ev A S (.tup t)):jc (yr A) S t:=λP p=>hA _ p
def vG(hC:fG C (Sc.set i (.val x)) true)(hE:Ev E (Sc.set i (.val x)) d):Bu (.nm i) C E Sc x (some d):=λY N q=>by
 unfold gD;exact hC _ (hE _ q)
def DX(hC:fG C (Sc.set i (.val x)) false):Bu (.nm i) C E Sc x none:=λY N q=>by
 unfold gD;exact hC _ q
def zt1(hC:fG C ((Sc.set i (.val x)).set j (.val y)) true)(hE:Ev E ((Sc.set i (.val x)).set j (.val y)) d):Bu (.tp 2 (.cons (.nm i) (.cons (.nm j) .nil))) C E Sc (.tup [x,y]) (some d):=λY N q=>by
 unfold gD;refine⟨rfl,?_⟩;unfold ik gD ik gD ik;exact hC _ (hE _ q)
def zrI(hC:fG C ((Sc.set i (.val x)).set j (.val y)) false):Bu (.tp 2 (.cons (.nm i) (.cons (.nm j) .nil))) C E Sc (.tup [x,y]) none:=λY N q=>by
 unfold gD;refine⟨rfl,?_⟩;unfold ik gD ik gD ik;exact hC _ q
def Hw:fG dq S true:=λP p=>p
end
section
variable{C:WT}{A B R:WS}{E:En}{S:Env}{V:WE}{d x y:D}{i j k:Nat}
def gw(h:fG C S false)(q:R E S):aC (cW C A bL) R E S:=h _ q
def Cz(h:fG C S false)(q:B E S):cW C A B E S:=h _ q
def Dn(h:fG C S true)(q:A E S):cW C A B E S:=h _ q
def nZ(h:fG C S false)(q:aC B R E S):aC (cW C A B) R E S:=h _ q
def jj(h:fG C S true)(q:aC A R E S):aC (cW C A B) R E S:=h _ q
def jt(h:Ev V S d)(q:R E (S.set i (.val d))):aC (aQ (.nm i) V) R E S:=h _ (by unfold gD;exact q)
def iV(h:Ev V S d)(q:E.rt d):aP V E S:=h _ q
def Bg(h:Ev V S (.tup [x,y]))(q:R E ((S.set i (.val x)).set j (.val y))):aC (aQ (.tp 2 (.cons (.nm i) (.cons (.nm j) .nil))) V) R E S:=by
 refine h _ ?_;unfold gD;refine⟨rfl,?_⟩;unfold ik gD ik gD ik;exact q
def znn(h:Ev V S (.tup [x1,x2,x3,x4,x5]))(q:R E (((((S.set i1 (.val x1)).set i2 (.val x2)).set i3 (.val x3)).set i4 (.val x4)).set i5 (.val x5))) :
  aC (aQ (.tp 5 (.cons (.nm i1) (.cons (.nm i2) (.cons (.nm i3) (.cons (.nm i4) (.cons (.nm i5) .nil)))))) V) R E S:=by
 refine h _ ?_;unfold gD;refine⟨rfl,?_⟩;unfold ik gD ik gD ik gD ik gD ik gD ik;exact q
def zs8(h:Ev V S (.tup [x1,x2,x3]))(q:R E (((S.set i1 (.val x1)).set i2 (.val x2)).set i3 (.val x3))) :
  aC (aQ (.tp 3 (.cons (.nm i1) (.cons (.nm i2) (.cons (.nm i3) .nil)))) V) R E S:=by
 refine h _ ?_;unfold gD;refine⟨rfl,?_⟩;unfold ik gD ik gD ik gD ik;exact q
end
def KW:List Str:=["BadName","Taken","Full","NoMark","NoHand","Same","BadRise","NoRun","Aside","NotAside","BadNumber","NothingLeft","Steady","NoDeed","Known","NoFen","Settled","NoPage","nothing"]
def rA(nm:Str):List Bool:=(KW.take 18).map (λx=>decide (nm=x))++[false]
def Ad(nm:Str)(k:Nat):Option Str:=if (rA nm).getD k false then some (KW.getD k "")else none
def zqf:tO.all (λnm=>decide ((List.range 19).filterMap (Ad nm)=[nm]))=true:=by decide +kernel
def zqJ:Txt.split ("BadName Taken Full NoMark NoHand Same BadRise NoRun Aside NotAside BadNumber NothingLeft"++" Steady NoDeed Known NoFen Settled NoPage nothing") " "=KW:=by decide +kernel
def ztX(h:Ev A S (.obj ea)):Ev (d8 A ea b) S (.bl b):=λP p=>h _ ⟨rfl,p⟩
def zow(h:Ev A S (.bl b)):Ev (xF A) S (.bl (!b)):=λP p=>h _ p
def zun{A:WE}{S:Env}{n:Nat}(h:Ev A S (.int n))(hn:n<=100000):jc (uY A) S ((List.range n).map λ(k:Nat)=>D.int k):=λP p=>h _ ⟨⟨by omega,by omega⟩,by
 have e:iR 0 (n:Int).toNat=(List.range n).map λ(k:Nat)=>D.int k:=by
  unfold iR
  simp
 rw[e];exact p⟩
def zqs(hA:Ev A S (.str z))(hB:Ev B S (.str b))(h1:b.length≠0)(h2:z.length<=100000):Ev (v5 K3 A B) S (.lst true ((Txt.split z b).map D.str)):=λP p=>hA _ (hB _ ⟨⟨h1,h2⟩,p⟩)
def zph(hA:Ev A S (.str z))(hB:Ev B S (.str b))(h:z.length+b.length<=100000):Ev (ak bh A B) S (.str (z++b)):=lE hA hB λP p=>⟨h,p⟩
def zo2{nm:Str}(hn:nm∈tO){s0:Sl}:Ev (aM (fC [none,some 2,some 1] (uY (cbW f9 (aq (vW 2) ao))) (.nm 0) (jq (ak aF (vW 2) (vW 0))) (ak aF (vW 1) (vW 0)))) [s0,.val (.lst true ((rA nm).map D.bl)),.val (.lst true (KW.map D.str))] (.lst true [.str nm]):=by
 have h:=km (yQ.mp zqf nm hn);have e:(List.range 19).filterMap (λk=>(Ad nm k).map D.str)=[D.str nm]:=by
  have:=congrArg (List.map D.str) h
  rw[List.map_filterMap]at this;exact this
 rw[<-e];refine fu (tR (λk:Nat=>D.int k) _ (List.range 19) (zun (n:=19) (pY (t:=KW.map D.str) (aA rfl)) (by decide)) (by decide) λk hk=>?_);have hk:k<19:=List.mem_range.mp hk;have lb:(rA nm).length=19:=rfl;have hb:Ev (ak aF (vW 2) (vW 0)) [.val (.int k),.val (.lst true (KW.map D.str)),.val (.lst true ((rA nm).map D.bl))] (.bl ((rA nm).getD k false)):=uD (aA rfl) (aA rfl) (by
  refine fL ?_;rw[jV,jB (by rw[lb];exact hk),YAN,jB (by rw[lb];exact hk)];rfl)
 have hw:Ev (ak aF (vW 1) (vW 0)) [.val (.int k),.val (.lst true (KW.map D.str)),.val (.lst true ((rA nm).map D.bl))] (.str (KW.getD k "")):=uD (aA rfl) (aA rfl) (by
  refine fL ?_;rw[jV,jB (show k<KW.length from hk),YAN,jB (show k<KW.length from hk)];rfl)
 unfold Ad;cases hq:(rA nm).getD k false with
 |true=>exact vG (xQ (hq▸hb)) hw
 |false=>exact DX (xQ (hq▸hb))
def zqW:∀nm∈tO,∀ea,up (zdf nm ea) [.obj ea] (λd'=>d'=.lst true [.str nm]):=λnm hn ea=>by
 refine⟨λd=>d=.lst true [.str nm],?_,λ_ z=>z⟩;have e0:∀{S:Env},S[0]?=some (.val (.obj ea))->∀b,Ev (d8 (vW 0) ea b) S (.bl b):=λh b=>ztX (aA h);unfold zdf dU;rw[show fU 3 [D.obj ea]=[.val (.obj ea),.un,.un] by simp[fU,D.old]];refine jt (fu (jR (aJ (e0 rfl _) (aJ (e0 rfl _) (aJ (e0 rfl _) (aJ (e0 rfl _) aY)))))) ?_;refine jt (vo (aA rfl) (fu (jR (aJ (e0 rfl _) (aJ (e0 rfl _) (aJ (e0 rfl _) (aJ (e0 rfl _) aY)))))) (by simp)) ?_;refine jt (vo (aA rfl) (fu (jR (aJ (e0 rfl _) (aJ (e0 rfl _) (aJ (e0 rfl _) (aJ (e0 rfl _) aY)))))) (by simp)) ?_;refine jt (vo (aA rfl) (fu (jR (aJ (e0 rfl _) (aJ (e0 rfl _) (aJ (e0 rfl _) (aJ (e0 rfl _) aY)))))) (by simp)) ?_;refine jt (vo (aA rfl) (fu (jR (aJ (e0 rfl _) (aJ (e0 rfl _) (aJ (zow (e0 rfl true)) aY))))) (by simp)) ?_;refine jt aG ?_;refine jt (zqJ▸zqs (zph (aA rfl) aG (by decide +kernel)) aG (by decide +kernel) (by decide +kernel)) ?_;exact iV (zo2 hn) rfl
structure Yr where
 n:Int
 a:Nat
 b:Nat
 r:Int
 h:Str
structure Ya where
 pl:List (Str×Nat)
 hs:List (Str×Bool)
 sd:List Str
 rs:List Yr
 en:Int
 al:Int
 ds:List D
def dO(p:Str×Nat):D:=.tup [.str p.1,.int p.2]
def gR(pl:List (Str×Nat))(i:Nat):Str×Nat:=pl.getD i ("",0)
def cX(pl:List (Str×Nat))(r:Yr):D:=.tup [.int r.n,.str (gR pl r.a).1,.int (gR pl r.a).2,.str (gR pl r.b).1,.int (gR pl r.b).2,.int r.r,.str r.h]
def b7(r:Yr):D:=.tup [.int r.n,.int r.a,.int r.b,.int r.r,.str r.h]
abbrev BK:List Str:=["stands","hands","aside","runs","entered","allowed"]
abbrev MK:List Str:=["places","heeded","rows","entered","many","deeds"]
abbrev aR(s:Ya):List Str:=s.hs.map (·.1)
def iD(s:Ya):List D:=[.tup (s.pl.map dO),.tup ((aR s).map D.str),.tup (s.sd.map D.str),.tup (s.rs.map (cX s.pl)),.int s.en,.int s.al]
def bW(s:Ya):D:=.dct false BK (iD s)
def iQ(s:Ya):List D:=[.lst false (s.pl.map dO),.fdc (aR s) (s.hs.map λp=>.bl p.2),.lst false (s.rs.map b7),.int s.en,.int s.al,.lst false s.ds]
def aV(s:Ya):D:=.dct false MK (iQ s)
def FW{xs:List D}(h:∀x∈xs,x.old=x):xs.map D.old=xs:=by
 conv=>rhs;rw[<-List.map_id xs]
 exact JN h
def jE{xs:List D}(h:∀x∈xs,x.old=x):(D.tup xs).old=.tup xs:=by rw[D.old,FW h]
def iH{n:Bool}{xs:List D}(h:∀x∈xs,x.old=x):(D.lst n xs).old=.lst false xs:=by rw[D.old,FW h]
def K8{n:Bool}{ks:List Str}{xs:List D}(h:∀x∈xs,x.old=x):(D.dct n ks xs).old=.dct false ks xs:=by rw[D.old,FW h]
def zlg{ks:List Str}{xs:List D}(h:∀x∈xs,x.old=x):(D.fdc ks xs).old=.fdc ks xs:=by rw[D.old,FW h]
def rY(a:Addr):D.old (.obj a)=.obj a:=by rw[D.old]
def qz(x:Str×Nat):(dO x).old=dO x:=jE (by simp[iy,j0])
def J0(pl:List (Str×Nat))(r:Yr):(cX pl r).old=cX pl r:=jE (by simp[iy,j0])
def Az(r:Yr):(b7 r).old=b7 r:=jE (by simp[iy,j0])
def gj{α:Type}{f:α->D}(h:∀x,(f x).old=f x)(xs:List α):∀y∈xs.map f,y.old=y:=λy hy=>by
 obtain⟨x,_,rfl⟩:=YAD.mp hy;exact h x
def yP(s:Ya):∀x∈iD s,x.old=x:=by
 unfold iD;simp only[YAG,lz,vZ,vP,vp];exact⟨jE (gj qz _),jE (gj iy _),jE (gj iy _),jE (gj (J0 _) _),j0 _,j0 _⟩
def qU(s:Ya):(bW s).old=bW s:=K8 (yP s)
def zsW{s:Ya}(h:∀d∈s.ds,d.old=d):∀x∈iQ s,x.old=x:=by
 unfold iQ;simp only[YAG,lz,vZ,vP,vp];exact⟨iH (gj qz _),zlg (gj (λ_=>zrh _) _),iH (gj Az _),j0 _,j0 _,iH h⟩
def Bs(h:∀d∈s.ds,d.old=d):(aV s).old=aV s:=K8 (zsW h)
def cR(e:fU n ds=S)(q:B {nx:=λ_=>Q .non,rt:=Q,bk:=λ_=>False,ct:=λ_=>False} S):dU n B ds Q:=by unfold dU;rw[e];exact q
def rB(e:fU n ds=S)(q:B Y {nx:=λ_=>Q .non,rt:=Q,bk:=λ_=>False,ct:=λ_=>False} S):gZ n B ds Q Y:=by unfold gZ;rw[e];exact q
def IK(e:fU n ds=S)(q:B Y {nx:=λqk _=>Q .non qk,rt:=λqk d=>Q d qk,bk:=λ_ _=>False,ct:=λ_ _=>False} qh S):pQ n B ds qh Q Y:=by unfold pQ;rw[e];exact q
def Ik(h:F ds P qg)(k:∀d,P d->Q d)(l:∀n,qg n->Y n):Bh F ds Q Y:=⟨P,qg,h,k,l⟩
def J6(h:F ds qh P qg)(k:∀d qh,P d qh->Q d qh)(l:∀n qh,qg n qh->Y n qh):zB F ds qh Q Y:=⟨P,qg,h,k,l⟩
def lq(hd:d.old=d)(he:e.old=e):fU (n+2) [d,e]=.val d::.val e::List.replicate n .un:=by rw[znJ,hd,he]
def zgB(h:nameB x=true):cA x=true:=by
 unfold nameB yF at h;rw[YAA]at h;exact zoJ λch hc=>by
  have:=km (yQ.mp h.2 ch hc)
  have:=(zk1 ch).mp this
  omega
def bw(pl:List (Str×Nat))(x:Str):Nat:=(pl.filter λp=>decide (p.1=x)).length
def kJ:0<bw pl x↔x∈pl.map (·.1):=by
 unfold bw;rw[List.length_pos_iff_exists_mem,YAD];exact⟨λ⟨p,hp⟩=>⟨p,(YAZ.mp hp).1,km (YAZ.mp hp).2⟩,λ⟨p,hp,e⟩=>⟨p,YAZ.mpr ⟨hp,gB e⟩⟩⟩
theorem zlA{α β:Type}{p:α->Bool}{f:α->β}:∀xs:List α,(xs.filterMap λx=>if p x then some (f x)else none).length=(xs.filter p).length
 |[]=>rfl
 |x::xs=>by
  rw[YAQ,YCu];cases p x
  .exact zlA xs
  .exact congrArg (·+1) (zlA xs)
def zn2{pl:List (Str×Nat)}{x:Str}(hm:∀y∈pl,cA y.1=true)(hx:cA x=true)(hl:pl.length<=1000):Ai [.tup (pl.map dO),.str x] (·=.int (bw pl x)):=by
 refine cR (S:=[.val (.tup (pl.map dO)),.val (.str x)]) (lq (n:=0) (jE (gj qz pl)) (iy _)) ?_;refine iV (pY (fu (tR dO (λp=>if decide (p.1=x)then some (.int p.2)else none) pl (yR (aA rfl)) (by omega) λy hy=>?_))) ?_
 .have ev:∀{S:Env},S[0]?=some (.val (.str y.1))->S[2]?=some (.val (.str x))->fG (bG (ak cM (vW 0) (vW 2))) S (decide (y.1=x)):=λh1 h2=>dC (yX (aA h1) (aA h2) (hm y hy) hx);cases e:decide (y.1=x)with
  |true=>exact zt1 (e▸ev rfl rfl) (aA rfl)
  |false=>exact zrI (e▸ev rfl rfl)
 .rw[zlA];rfl
def bk5:dZ BK [a,b,c,d,e,f] "entered"=some e:=by kernel_rfl
def mk1:dZ MK [a,b,c,d,e,f] "places"=some a:=by kernel_rfl
def mk2:dZ MK [a,b,c,d,e,f] "heeded"=some b:=by kernel_rfl
def mk3:dZ MK [a,b,c,d,e,f] "rows"=some c:=by kernel_rfl
def mk4:dZ MK [a,b,c,d,e,f] "entered"=some d:=by kernel_rfl
def b1(s:Ya):dZ BK (iD s) "stands"=some (.tup (s.pl.map dO)):=by kernel_rfl
def b2(s:Ya):dZ BK (iD s) "hands"=some (.tup ((aR s).map D.str)):=by kernel_rfl
def b3(s:Ya):dZ BK (iD s) "aside"=some (.tup (s.sd.map D.str)):=by kernel_rfl
def b4(s:Ya):dZ BK (iD s) "runs"=some (.tup (s.rs.map (cX s.pl))):=by kernel_rfl
def b5(s:Ya):dZ BK (iD s) "entered"=some (.int s.en):=by kernel_rfl
def b6(s:Ya):dZ BK (iD s) "allowed"=some (.int s.al):=by kernel_rfl
def m1(s:Ya):dZ MK (iQ s) "places"=some (.lst false (s.pl.map dO)):=by kernel_rfl
def m2(s:Ya):dZ MK (iQ s) "heeded"=some (.fdc (aR s) (s.hs.map λp=>.bl p.2)):=by kernel_rfl
def m3(s:Ya):dZ MK (iQ s) "rows"=some (.lst false (s.rs.map b7)):=by kernel_rfl
def m4(s:Ya):dZ MK (iQ s) "entered"=some (.int s.en):=by kernel_rfl
def m5(s:Ya):dZ MK (iQ s) "many"=some (.int s.al):=by kernel_rfl
def m6(s:Ya):dZ MK (iQ s) "deeds"=some (.lst false s.ds):=by kernel_rfl
def bp1:aW BK [a,b,c,d,e,f] "stands" w=[w,b,c,d,e,f]:=by kernel_rfl
def bp2:aW BK [a,b,c,d,e,f] "hands" w=[a,w,c,d,e,f]:=by kernel_rfl
def bp4:aW BK [a,b,c,d,e,f] "runs" w=[a,b,c,w,e,f]:=by kernel_rfl
def bp5:aW BK [a,b,c,d,e,f] "entered" w=[a,b,c,d,w,f]:=by kernel_rfl
def bp6:aW BK [a,b,c,d,e,f] "allowed" w=[a,b,c,d,e,w]:=by kernel_rfl
def bq1:bF BK "stands"=BK:=by kernel_rfl
def bq2:bF BK "hands"=BK:=by kernel_rfl
def bq4:bF BK "runs"=BK:=by kernel_rfl
def bq5:bF BK "entered"=BK:=by kernel_rfl
def bq6:bF BK "allowed"=BK:=by kernel_rfl
def zoX(hx:∀x∈xs,x.old=x)(hl:ks.length<1000)(q:Q (.dct true (bF ks z) (aW ks xs z v.old))):qp [.dct n ks xs,.str z,v] Q:=by
 refine cR (S:=[.val (.dct false ks xs),.val (.str z),.val v.old,.un]) (by unfold fU;simp[K8 hx,iy]) ?_;exact⟨by show 3<4;decide,hl,q⟩
def zi5(h:xs=iD t):(D.dct n BK xs).old=bW t:=by rw[h,K8 (yP t)];rfl
theorem zlB(x:Str):∀hs:List Str,inB (.str x) (hs.map D.str)=decide (x∈hs)
 |[]=>by simp[inB,lZ]
 |y::hs=>by
  have ih:=zlB x hs;unfold inB at ih ⊢;rw[d7,lZ,Ax,ih]
  have:PyData.eqv (toPy (.str y)) (toPy (.str x))=decide (y=x):=zi1 y x
  rw[this];by_cases e:y=x
  .simp[e]
  .have e':¬ x=y:=λz=>e z.symm;simp[e,e']
theorem zij:∀{hs:List Str},(∀y∈hs,cA y=true)->cD (hs.map D.str)=true
 |[],_=>by rw[rZ,cD]
 |y::hs,h=>by rw[d7,cD,zij λz hz=>h z (kj _ hz),dF,show PyData.canLay0 (.str y)=true from h y gC];rfl
theorem zl7:∀hs:List Str,PyData.depthAll (lZ (hs.map D.str))=0
 |[]=>by rw[rZ,lZ];rfl
 |y::hs=>by rw[d7,lZ];show max 0 (PyData.depthAll (lZ (hs.map D.str)))=0;rw[zl7 hs];rfl
def zo5{x:Str}{hs:List Str}(hx:cA x=true)(h:∀y∈hs,cA y=true):rm (.str x) (hs.map D.str):=⟨by rw[dF];exact hx,zij h,by rw[zl7];exact YAB (Nat.min_le_left _ _) (by decide)⟩
def ztt{neg:Bool}{x:Str}{hs:List Str}{Q:D->Prop}(hx:cA x=true)(h:∀y∈hs,cA y=true)(q:Q (.bl (if neg then !decide (x∈hs)else decide (x∈hs)))):dY neg (.str x) (.tup (hs.map D.str)) Q:=by
 show rm (.str x) (hs.map D.str)/\Q (.bl (if neg then !inB (.str x) (hs.map D.str)else inB (.str x) (hs.map D.str)));rw[zlB];exact⟨zo5 hx h,q⟩
def xj{neg:Bool}{A B:WE}{S:Env}{x:Str}{hs:List Str}(hA:Ev A S (.str x))(hB:Ev B S (.tup (hs.map D.str)))(hx:cA x=true)(h:∀y∈hs,cA y=true):Ev (ak (dY neg) A B) S (.bl (if neg then !decide (x∈hs)else decide (x∈hs))):=lE hA hB λP p=>ztt hx h p
def Gi(hR:jc R S [.dct n ks xs,.str z,v])(hx:∀x∈xs,x.old=x)(hl:ks.length<1000):Ev (bA 3 qp R) S (.dct true (bF ks z) (aW ks xs z v.old)):=iY hR (zoX (Q:=(·=_)) hx hl rfl)
def fH(hi:S[i]?=some (.val (bW s)))(h:dZ BK (iD s) z=some d):Ev (ak bQ (vW i) (kW (.str z))) S d:=Cd (aA hi) h
structure ul(pl:List (Str×Nat)):Prop where
 ok:∀x∈pl,nameB x.1=true
 ln:pl.length<=12
theorem ul.cA(h:ul pl):∀x∈pl,cA x.1=true:=λx hx=>zgB (h.ok x hx)
def zgy(h:ul pl)(hx:cA x=true):Ai [.tup (pl.map dO),.str x] (·=.int (bw pl x)):=zn2 h.cA hx (by have:=h.ln;omega)
def mW(pl:List (Str×Nat))(x:Str):Str×Nat:=(x,bw pl x+1)
def zp0(h:ul pl)(hx:cA x=true):zdb [.tup (pl.map dO),.str x] (·=dO (mW pl x)):=by
 refine cR (lq (n:=0) (jE (gj qz pl)) (iy _)) ?_;exact iV (iG (aJ (aA rfl) (aJ (Cp (iY (aJ (aA rfl) (aJ (aA rfl) aY)) (zgy h hx)) aG) aY))) rfl
def zif(h:ul pl)(hk:cA x=true):Dl [.tup (pl.map dO),.str x] (λd=>d=dO (x,bw pl x)/\0<bw pl x) (λn=>n="NoMark" /\ bw pl x=0):=by
 refine rB (lq (n:=1) (jE (gj qz pl)) (iy _)) ?_;refine jt (iY (aJ (aA rfl) (aJ (aA rfl) aY)) (zgy h hk)) ?_;by_cases e:bw pl x=0
 .refine jj (bU (dC (pN (aA rfl) aG)) (by rw[e];decide)) ⟨by decide,rfl,e⟩
 .refine gw (bU (dC (pN (aA rfl) aG)) (gY (by omega))) ?_;exact iV (iG (aJ (aA rfl) (aJ (aA rfl) aY))) ⟨rfl,by omega⟩
def zpF(h:r.a<pl.length/\r.b<pl.length):cX (pl++[p]) r=cX pl r:=by
 have e:∀{i},i<pl.length->gR (pl++[p]) i=gR pl i:=λhi=>by unfold gR;rw[YAN,YAN,Ce hi]
 unfold cX;rw[e h.1,e h.2]
def zfl(h:ul s.pl)(h0:∀r∈s.rs,r.a<s.pl.length/\r.b<s.pl.length)(hx:cA x=true):JZ [bW s,.str x] (λv=>s.pl.length<12/\v.old=bW {s with pl:=s.pl++[mW s.pl x]}) (λn=>n="Full" /\ s.pl.length=12):=by
 refine rB (lq (n:=1) (qU s) (iy _)) ?_;refine jt (fH rfl (b1 _)) ?_;have ln:=h.ln;by_cases e:s.pl.length=12
 .exact jj (bU (dC (Fe (Hy (aA rfl)) aG)) (by rw[b8];exact gB (by omega))) ⟨by decide,rfl,e⟩
 refine gw (bU (dC (Fe (Hy (aA rfl)) aG)) (by rw[b8];exact gY (by omega))) ?_;refine iV (Gi (aJ (aA rfl) (aJ aG (aJ (wN (aA rfl) (iG (aJ (iY (aJ (aA rfl) (aJ (aA rfl) aY)) (zp0 h hx)) aY)) (by rw[b8];show s.pl.length+1<=100000;omega)) aY))) (yP s) (by decide)) ⟨by omega,?_⟩;show(D.dct true (bF BK "stands") (aW BK (iD s) "stands" _)).old=_;rw[bq1,show aW BK (iD s) "stands" (D.tup (s.pl.map dO++[dO (mW s.pl x)])).old=_ from bp1];refine zi5 ?_;rw[<-El (f:=dO),<-qT,jE (gj qz _)];unfold iD;have e:s.rs.map (cX (s.pl++[mW s.pl x]))=s.rs.map (cX s.pl):=JN λr hr=>zpF (h0 r hr);show _=[_,_,_,D.tup (s.rs.map (cX (s.pl++[mW s.pl x]))),_,_];rw[e]
def zqb(h:nameB x=true):x.length<=100000:=by
 unfold nameB yF at h;rw[YAA,YAA]at h
 have:=km h.1.2
 omega
def FJ(hR:jc R S ds)(h:F ds P qg)(k:∀d,P d->E.rt d)(l:∀n,qg n->Y n)(hl:ds.length=n:=by rfl):aP (pZ n F Y R) E S:=hR _ ⟨hl,Ik h k l⟩
def zk2(hR:jc R S ds)(h:F ds P qg)(k:∀d,P d->∃x y,d=.tup [x,y]/\B E ((S.set i (.val x)).set j (.val y)))(l:∀n,qg n->Y n)(hl:ds.length=n:=by rfl):aC (aQ (.tp 2 (.cons (.nm i) (.cons (.nm j) .nil))) (pZ n F Y R)) B E S:=
 hR _ ⟨hl,Ik h (λd p=>by
  obtain⟨x,y,rfl,q⟩:=k d p;unfold gD;refine⟨rfl,?_⟩;unfold ik gD ik gD ik;exact q) l⟩
def zfA(hi:S[i]?=some (.val (.str x)))(hx:x.length<=100000):fG (lM (jq (bA 1 CP (aq (vW i) ao)))) S (!nameB x):=BZ (xQ (iY (aJ (aA hi) aY) (zls x hx)))
structure Tx(x:Str):Prop where
 ok:cA x=true
 ln:x.length<=100000
def wC(s:Ya)(x:Str):Option Str:=if nameB x=false then some "BadName" else if 0<bw s.pl x then some "Taken" else if s.pl.length=12 then some "Full" else none
def uU(s:Ya)(x:Str):Option Str:=if nameB x=false then some "BadName" else if x∈aR s then some "Taken" else if s.hs.length=10 then some "Full" else none
def ym(s:Ya)(x:Str):Option Str:=if bw s.pl x=0 then some "NoMark" else if s.pl.length=12 then some "Full" else none
def zp8(h:ul s.pl)(h0:∀r∈s.rs,r.a<s.pl.length/\r.b<s.pl.length)(hx:Tx x):zcV [bW s,.tup [.str "mark",.str x]] (λv=>wC s x=none/\v.old=bW {s with pl:=s.pl++[mW s.pl x]}) (λn=>wC s x=some n):=by
 refine rB (lq (n:=2) (qU s) (jE (by simp[iy]))) ?_;refine Bg (aA rfl) ?_;unfold wC;cases hb:nameB x with
 |false=>
  refine jj (bU (zfA rfl hx.ln) (by rw[hb];rfl)) ⟨by decide,?_⟩;rfl
 |true=>
 refine gw (bU (zfA rfl hx.ln) (by rw[hb];rfl)) ?_;rw[if_neg (by decide)];by_cases e:0<bw s.pl x
 .refine jj (bU (dC (zT (iY (aJ (fH rfl (b1 _)) (aJ (aA rfl) aY)) (zgy h hx.ok)) aG)) (gB (by omega))) ⟨by decide,?_⟩;rw[if_pos e]
 refine gw (bU (dC (zT (iY (aJ (fH rfl (b1 _)) (aJ (aA rfl) aY)) (zgy h hx.ok)) aG)) (gY (by omega))) ?_;rw[if_neg e];exact FJ (aJ (aA rfl) (aJ (aA rfl) aY)) (zfl h h0 hx.ok) (λd z=>⟨if_neg (by omega),z.2⟩) λn z=>by rw[if_pos z.2,z.1]
def zm5(h:ul s.pl)(h0:∀r∈s.rs,r.a<s.pl.length/\r.b<s.pl.length)(hx:Tx x):zc5 [bW s,.tup [.str "settle",.str x]] (λv=>ym s x=none/\v.old=bW {s with pl:=s.pl++[mW s.pl x]}) (λn=>ym s x=some n):=by
 refine rB (lq (n:=4) (qU s) (jE (by simp[iy]))) ?_;refine Bg (aA rfl) ?_;unfold ym;refine zk2 (aJ (fH rfl (b1 _)) (aJ (aA rfl) aY)) (zif h hx.ok) (λd hd=>⟨.str x,.int (bw s.pl x),hd.1,?_⟩) λn z=>by rw[if_pos z.2,z.1]
 rw[if_neg (by omega)];exact FJ (aJ (aA rfl) (aJ (aA rfl) aY)) (zfl h h0 hx.ok) (λd z=>⟨if_neg (by omega),z.2⟩) λn z=>by rw[if_pos z.2,z.1]
structure wX(s:Ya):Prop where
 nd:(aR s).Nodup
 ok:∀x∈aR s,nameB x=true
 ln:s.hs.length<=10
theorem wX.cA(h:wX s):∀x∈aR s,cA x=true:=λx hx=>zgB (h.ok x hx)
def zqq{s:Ya}{x:Str}(h:wX s)(hx:Tx x):zc4 [bW s,.tup [.str "hand",.str x]] (λv=>uU s x=none/\v.old=bW {s with hs:=s.hs++[(x,true)]}) (λn=>uU s x=some n):=by
 refine rB (lq (n:=3) (qU s) (jE (by simp[iy]))) ?_;refine Bg (aA rfl) ?_;refine jt (fH rfl (b2 _)) ?_;unfold uU;cases hb:nameB x with
 |false=>exact jj (bU (zfA rfl hx.ln) (by rw[hb];rfl)) ⟨by decide,rfl⟩
 |true=>
 refine gw (bU (zfA rfl hx.ln) (by rw[hb];rfl)) ?_;rw[if_neg (by decide)];have hl:((aR s).map D.str).length=s.hs.length:=by rw[b8,b8]
 have ln:=h.ln;by_cases e:x∈aR s
 .refine jj (bU (dC (xj (neg:=false) (aA rfl) (aA rfl) hx.ok h.cA)) (by rw[gB e];rfl)) ⟨by decide,?_⟩;rw[if_pos e]
 refine gw (bU (dC (xj (neg:=false) (aA rfl) (aA rfl) hx.ok h.cA)) (by rw[gY e];rfl)) ?_;rw[if_neg e];by_cases f:s.hs.length=10
 .refine jj (bU (dC (Fe (Hy (aA rfl)) aG)) (by rw[hl];exact gB (by omega))) ⟨by decide,?_⟩;rw[if_pos f]
 refine gw (bU (dC (Fe (Hy (aA rfl)) aG)) (by rw[hl];exact gY (by omega))) ?_;refine iV (Gi (aJ (aA rfl) (aJ aG (aJ (wN (aA rfl) (iG (aJ (aA rfl) aY)) (by rw[hl];show s.hs.length+1<=100000;omega)) aY))) (yP s) (by decide)) ⟨if_neg f,?_⟩;show(D.dct true (bF BK "hands") (aW BK (iD s) "hands" _)).old=_;rw[bq2,show aW BK (iD s) "hands" (D.tup ((aR s).map D.str++[D.str x])).old=_ from bp2];refine zi5 ?_;rw[<-El (f:=D.str),<-qT,jE (gj iy _)];simp[iD,aR]
def bp3:aW BK [a,b,c,d,e,f] "aside" w=[a,b,w,d,e,f]:=by kernel_rfl
def bq3:bF BK "aside"=BK:=by kernel_rfl
def okR(r:Int):Bool:=decide (-1000000000<=r)&&decide (r<=1000000000)
def Hx{s t:Ya}{z:Str}{V:WE}{v:D}{S:Env}{i:Nat}{E:En}(hi:S[i]?=some (.val (bW s)))(hV:Ev V S v)(hk:bF BK z=BK)(hv:aW BK (iD s) z v.old=iD t)(q:∀d:D,d.old=bW t->E.rt d):aP (bA 3 qp (aq (vW i) (aq (kW (.str z)) (aq V ao)))) E S:=
 iV (Gi (ks:=BK) (xs:=iD s) (n:=false) (aJ (aA hi) (aJ aG (aJ hV aY))) (yP s) (by decide)) (q _ (by rw[hk];exact zi5 hv))
def CQ(hR:jc R S ds)(h:F ds P qg)(k:∀d,P d->B E S)(l:∀n,qg n->Y n)(hl:ds.length=n:=by rfl):aC (xV (pZ n F Y R)) B E S:=hR _ ⟨hl,Ik h k l⟩
def zdI(h:wX s)(hx:cA x=true):CW [bW s,.str x] (λ_=>x∈aR s) (λn=>n="NoHand" /\ x∉aR s):=by
 refine rB (lq (n:=0) (qU s) (iy _)) ?_;have ev:=dC (xj (neg:=true) (S:=[.val (bW s),.val (.str x)]) (aA (i:=1) rfl) (fH (i:=0) rfl (b2 s)) hx h.cA);by_cases e:x∈aR s
 .exact Cz (bU ev (by rw[gB e];rfl)) e
 .exact Dn (bU ev (by rw[gY e];rfl)) ⟨by decide,rfl,e⟩
def zfi:Lb [.int r] (λ_=>okR r=true) (λn=>n="BadRise" /\ okR r=false):=by
 refine rB (S:=[.val (.int r)]) (by unfold fU;simp[j0]) ?_;have ev:=dC (zT (S:=[.val (.int r)]) (wK (f:=qF) (d:=.int (if r<0 then -r else r)) (aJ (aA (i:=0) (d:=.int r) rfl) aY) λP p=>p) (aG (d:=.int 1000000000)));by_cases e:okR r=true
 .refine Cz (bU ev (gY ?_)) e;unfold okR at e;rw[YAA,yw,yw]at e;split<;>omega
 .refine Dn (bU ev (gB ?_)) ⟨by decide,rfl,by simpa using e⟩;unfold okR at e;rw[YAA,yw,yw]at e;split<;>omega
def zlk{α:Type}{S:Env}{I:WL}{emb:α->D}{f:α->Int}{rs:List α}(hI:jc I S (rs.map emb))(hl:rs.length<=1000)(he:∀r,∃t,emb r=.tup (.int (f r)::t)):Ev (aM (fC [none] I (.nm 0) dq (ak aF (vW 0) (kW (.int 0))))) S (.lst true ((rs.map f).map D.int)):=by
 have:=tR (sub:=[none]) (t:=.nm 0) (C:=dq) (E:=ak aF (vW 0) (kW (.int 0))) emb (λr=>some (.int (f r))) rs hI (by omega) λr _=>by
  obtain⟨t,e⟩:=he r;rw[e];exact vG Hw (jY (aA rfl) aG (fL (j:=0) rfl))
 rw[Eh]at this;have e:(rs.map λr=>D.int (f r))=(rs.map f).map D.int:=by rw[YAR];rfl
 rw[e]at this;exact fu this
def zf9{s:Ya}{n:Int}(hl:s.rs.length<=40):K1 [bW s,.int n] (λ_=>n∈s.rs.map (·.n)) (λk=>k="NoRun" /\ n∉s.rs.map (·.n)):=by
 refine rB (lq (n:=0) (qU s) (j0 _)) ?_;have ev:fG (bG (ak (dY true) (vW 1) (aM (fC [none] (fM (ak bQ (vW 0) (kW (.str "runs")))) (.nm 0) dq (ak aF (vW 0) (kW (.int 0))))))) [.val (bW s),.val (.int n)] (!(s.rs.map (·.n)).contains n):=dC (lE (aA rfl) (zlk (emb:=cX s.pl) (yR (fH rfl (b4 s))) (by omega) λr=>⟨_,rfl⟩) λP p=>zpn (n:=true) p);by_cases e:n∈s.rs.map (·.n)
 .exact Cz (bU ev (by rw[zR.mpr e];rfl)) e
 .have:(s.rs.map (·.n)).contains n=false:=by rw[<-YCv,zR];exact e
  exact Dn (bU ev (by rw[this];rfl)) ⟨by decide,rfl,e⟩
def lX(pl:List (Str×Nat))(x:Str):Nat:=pl.findIdx λp=>decide (p=(x,bw pl x))
structure Lst(pl:List (Str×Nat)):Prop where
 fin:∀x,0<bw pl x->(x,bw pl x)∈pl
 le:∀p∈pl,p.2<=bw pl p.1
 nd:pl.Nodup
 one:∀x,0<bw pl x->(x,1)∈pl
def Ep(h:Lst pl)(hx:0<bw pl x):lX pl x<pl.length:=List.findIdx_lt_length_of_exists ⟨_,h.fin x hx,gB rfl⟩
def zuJ(h:Lst pl)(hx:0<bw pl x):pl[lX pl x]?=some (x,bw pl x):=by
 have hl:=Ep h hx;rw[jB hl]
 have:=List.findIdx_getElem (p:=λp=>decide (p=(x,bw pl x))) (w:=hl)
 exact congrArg some (km this)
def zrk(h:Lst pl)(hx:0<bw pl x):gR pl (lX pl x)=(x,bw pl x):=by
 unfold gR;rw[YAN,zuJ h hx];rfl
def eY(s:Ya)(a b:Str)(r:Int)(h:Str):Option Str:=if bw s.pl a=0\/bw s.pl b=0 then some "NoMark" else if a=b then some "Same" else if h∉aR s then some "NoHand" else if okR r=false then some "BadRise" else if s.rs.length=40 then some "Full" else none
def qK(s:Ya)(a b:Str)(r:Int)(h:Str):Yr:=⟨s.en+1,lX s.pl a,lX s.pl b,r,h⟩
def zua{S:Env}{i j:Nat}{s:Ya}{k:Int}{V:WE}{rs:List Yr}(hi:S[i]?=some (.val (bW s)))(hj:S[j]?=some (.val (.int k)))(hV:Ev V S (.tup (rs.map (cX s.pl)))) :
  Ev (bA 3 qp (aq (bA 3 qp (aq (vW i) (aq (kW (.str "entered")) (aq (vW j) ao)))) (aq (kW (.str "runs")) (aq V ao)))) S (.dct true BK (iD {s with en:=k,rs:=rs})):=by
 have e5:aW BK (iD s) "entered" (D.int k).old=iD {s with en:=k}:=by rw[j0];exact bp5
 have f5:=Gi (S:=S) (R:=aq (vW i) (aq (kW (.str "entered")) (aq (vW j) ao))) (ks:=BK) (xs:=iD s) (z:="entered") (v:=.int k) (n:=false) (aJ (aA hi) (aJ aG (aJ (aA hj) aY))) (yP s) (by decide);rw[bq5,e5]at f5;have f6:=Gi (aJ f5 (aJ (aG (d:=.str "runs")) (aJ hV aY))) (yP _) (by decide);have e6:aW BK (iD {s with en:=k}) "runs" (D.tup (rs.map (cX s.pl))).old=iD {s with en:=k,rs:=rs}:=by rw[jE (gj (J0 _) _)];exact bp4
 rw[bq4,e6]at f6;exact f6
def zsb(hp:ul s.pl)(hs:Lst s.pl)(hh:wX s)(ha:cA a=true)(hb:cA b=true)(hk:cA h=true)(hl:s.rs.length<=40) :
  zdj [bW s,.tup [.str "run",.str a,.str b,.int r,.str h]] (λv=>eY s a b r h=none/\v.old=bW {s with en:=s.en+1,rs:=s.rs++[qK s a b r h]}) (λn=>eY s a b r h=some n):=by
 refine rB (lq (n:=11) (qU s) (jE (by simp[iy,j0]))) ?_;refine znn (aA rfl) ?_;unfold eY;refine zk2 (aJ (fH rfl (b1 _)) (aJ (aA rfl) aY)) (zif hp ha) (λd hd=>⟨.str a,.int (bw s.pl a),hd.1,?_⟩) λn z=>by rw[if_pos (.inl z.2),z.1]
 refine zk2 (aJ (fH rfl (b1 _)) (aJ (aA rfl) aY)) (zif hp hb) (λd2 hd2=>⟨.str b,.int (bw s.pl b),hd2.1,?_⟩) λn z=>by rw[if_pos (.inr z.2),z.1]
 have c0:¬ (bw s.pl a=0\/bw s.pl b=0):=by have:=hd.2;have:=hd2.2;omega
 have ee:fG (bG (ak cM (vW 3) (vW 4))) [.val (bW s),.val (.tup [.str "run",.str a,.str b,.int r,.str h]),.val (.str "run"),.val (.str a),.val (.str b),.val (.int r),.val (.str h),.val (.str a),.val (.int (bw s.pl a)),.val (.str b),.val (.int (bw s.pl b)),.un,.un] (decide (a=b)):=dC (yX (aA rfl) (aA rfl) ha hb);rw[if_neg c0];by_cases e:a=b
 .refine jj (bU ee (gB e)) ⟨by decide,?_⟩;rw[if_pos e]
 refine gw (bU ee (gY e)) ?_;rw[if_neg e];refine CQ (aJ (aA rfl) (aJ (aA rfl) aY)) (zdI hh hk) (λ_ i1=>?_) λn z=>by rw[if_pos z.2,z.1]
 rw[if_neg λz=>z i1];refine CQ (aJ (aA rfl) aY) zfi (λ_ i2=>?_) λn z=>by rw[if_pos z.2,z.1]
 rw[if_neg (by rw[i2];decide)];show aC _ _ _ [.val (bW s),.val (.tup [.str "run",.str a,.str b,.int r,.str h]),.val (.str "run"),.val (.str a),.val (.str b),.val (.int r),.val (.str h),.val (.str a),.val (.int (bw s.pl a)),.val (.str b),.val (.int (bw s.pl b)),.un,.un];have e4:=dC (Fe (S:=[.val (bW s),.val (.tup [.str "run",.str a,.str b,.int r,.str h]),.val (.str "run"),.val (.str a),.val (.str b),.val (.int r),.val (.str h),.val (.str a),.val (.int (bw s.pl a)),.val (.str b),.val (.int (bw s.pl b)),.un,.un]) (Hy (t:=s.rs.map (cX s.pl)) (fH (i:=0) (s:=s) rfl (b4 s))) (aG (d:=.int 40)));by_cases f:s.rs.length=40
 .refine jj (bU e4 (by rw[b8];exact gB (by omega))) ⟨by decide,?_⟩;rw[if_pos f]
 refine gw (bU e4 (by rw[b8];exact gY (by omega))) ?_;rw[if_neg f];refine jt (Cp (fH rfl (b5 _)) aG) ?_;refine jt (d:=cX s.pl (qK s a b r h)) (lW (iG (aJ (aA rfl) (aJ (aA rfl) (aJ (aA rfl) (aJ (aA rfl) (aJ (aA rfl) (aJ (aA rfl) (aJ (aA rfl) aY)))))))) (by unfold cX qK;rw[zrk hs hd.2,zrk hs hd2.2])) ?_;refine iV (zua (s:=s) (k:=s.en+1) (rs:=s.rs++[qK s a b r h]) rfl rfl ?_) ⟨rfl,zi5 rfl⟩;rw[qT];exact wN (fH rfl (b4 _)) (iG (aJ (aA rfl) aY)) (by rw[b8];show s.rs.length+1<=100000;omega)
theorem ziS :∀rs:List Yr,(rs.filterMap λr=>if !decide (r.n=n)then some (g r)else none)=(rs.filter λr=>!decide (r.n=n)).map g
 |[]=>rfl
 |r::rs=>by
  rw[YAQ,YCu];by_cases e:r.n=n
  .simp only[e,decide_true,Bool.not_true,BJ,uM];exact ziS rs
  .simp only[e,decide_false,Bool.not_false,uP,d7];rw[ziS rs]
def wI(s:Ya)(n:Int):Option Str:=if n∉s.rs.map (·.n)then some "NoRun" else none
def zm2{s:Ya}{n:Int}(hl:s.rs.length<=40):zdO [bW s,.tup [.str "strike",.int n]] (λv=>wI s n=none/\v.old=bW {s with rs:=s.rs.filter λr=>!decide (r.n=n)}) (λk=>wI s n=some k):=by
 refine rB (lq (n:=2) (qU s) (jE (by simp[iy,j0]))) ?_;refine Bg (aA rfl) ?_;unfold wI;refine CQ (aJ (aA rfl) (aJ (aA rfl) aY)) (zf9 hl) (λ_ i1=>?_) λn z=>by rw[if_pos z.2,z.1]
 have hc:=tR (sub:=[none,some 3]) (I:=fM (ak bQ (vW 0) (kW (.str "runs")))) (S:=[.val (bW s),.val (.tup [.str "strike",.int n]),.val (.str "strike"),.val (.int n)]) (t:=.nm 0) (C:=bG (ak jT (ak aF (vW 0) (kW (.int 0))) (vW 1))) (E:=vW 0) (cX s.pl) (λr=>if !decide (r.n=n)then some (cX s.pl r)else none) s.rs (yR (fH rfl (b4 _))) (by omega) (λr _=>by
  have ev:∀{S:Env},S[0]?=some (.val (cX s.pl r))->S[1]?=some (.val (.int n))->fG (bG (ak jT (ak aF (vW 0) (kW (.int 0))) (vW 1))) S (!decide (r.n=n)):=λh0 h1=>dC (zre (jY (t:=[.int r.n,.str (gR s.pl r.a).1,.int (gR s.pl r.a).2,.str (gR s.pl r.b).1,.int (gR s.pl r.b).2,.int r.r,.str r.h]) (aA h0) aG (fL (j:=0) rfl)) (aA h1));cases e:!decide (r.n=n)with
  |false=>exact DX (bU (ev rfl rfl) e)
  |true=>exact vG (bU (ev rfl rfl) e) (aA rfl))
 rw[ziS]at hc;refine Hx (t:={s with rs:=s.rs.filter λr=>!decide (r.n=n)}) rfl (wK (d:=.tup ((s.rs.filter λr:Yr=>!decide (r.n=n)).map (cX s.pl))) (aJ (fu hc) aY) λP p=>p) bq4 ?_ λd hd=>⟨if_neg λz=>z i1,hd⟩;rw[jE (gj (J0 _) _)];exact bp4
def zm(s:Ya)(n r:Int):Option Str:=if n∉s.rs.map (·.n)then some "NoRun" else if okR r=false then some "BadRise" else none
def pM(n k:Int)(r:Yr):Yr:=if r.n=n then{r with r:=k}else r
def zqo{s:Ya}{n k:Int}(hl:s.rs.length<=40):zdC [bW s,.tup [.str "mend",.int n,.int k]] (λv=>zm s n k=none/\v.old=bW {s with rs:=s.rs.map (pM n k)}) (λw=>zm s n k=some w):=by
 refine rB (lq (n:=4) (qU s) (jE (by simp[iy,j0]))) ?_;refine zs8 (aA rfl) ?_;unfold zm;refine CQ (aJ (aA rfl) (aJ (aA rfl) aY)) (zf9 hl) (λ_ i1=>?_) λn z=>by rw[if_pos z.2,z.1]
 rw[if_neg λz=>z i1];refine CQ (aJ (aA rfl) aY) zfi (λ_ i2=>?_) λn z=>by rw[if_pos z.2,z.1]
 rw[if_neg (by rw[i2];decide)];have hc:=tR (sub:=[none,some 3,some 4]) (I:=fM (ak bQ (vW 0) (kW (.str "runs")))) (S:=[.val (bW s),.val (.tup [.str "mend",.int n,.int k]),.val (.str "mend"),.val (.int n),.val (.int k),.un]) (t:=.nm 0) (C:=dq) (E:=ifW (bG (ak cM (ak aF (vW 0) (kW (.int 0))) (vW 1))) (ak bh (ji (vW 0) rK (rH (kW (.int 5)))) (bu (aq (vW 2) (aq (ak aF (vW 0) (kW (.int 6))) ao)))) (vW 0)) (cX s.pl) (λr=>some (cX s.pl (pM n k r))) s.rs (yR (fH rfl (b4 _))) (by omega) (λr _=>by
  have cut:cutD [D.int r.n,.str (gR s.pl r.a).1,.int (gR s.pl r.a).2,.str (gR s.pl r.b).1,.int (gR s.pl r.b).2,.int r.r,.str r.h] none (some 5)=[.int r.n,.str (gR s.pl r.a).1,.int (gR s.pl r.a).2,.str (gR s.pl r.b).1,.int (gR s.pl r.b).2]:=by kernel_rfl
  have v0:Ev (vW 0) ((eE [none,some 3,some 4] [.val (bW s),.val (.tup [.str "mend",.int n,.int k]),.val (.str "mend"),.val (.int n),.val (.int k),.un]).set 0 (.val (cX s.pl r))) (.tup [.int r.n,.str (gR s.pl r.a).1,.int (gR s.pl r.a).2,.str (gR s.pl r.b).1,.int (gR s.pl r.b).2,.int r.r,.str r.h]):=aA rfl;have a1:=lW (zlE v0 DR (Fb (aG (d:=.int 5)))) (congrArg D.tup cut);refine vG Hw (zwy (b:=decide (r.n=n)) (dC (pN (jY v0 aG (fL (j:=0) rfl)) (aA rfl))) ?_);unfold pM;by_cases e:r.n=n
  .rw[gB e,if_pos rfl,if_pos e];exact wN a1 (iG (aJ (aA rfl) (aJ (jY (k:=6) v0 aG (fL (j:=6) rfl)) aY))) (by show 7<=100000;decide)
  .rw[gY e,if_neg (by decide),if_neg e];exact v0)
 rw[Eh]at hc;refine jt (fu hc) ?_;refine Hx (t:={s with rs:=s.rs.map (pM n k)}) rfl (wK (f:=wg) (d:=.tup (s.rs.map λr=>cX s.pl (pM n k r))) (aJ (aA rfl) aY) λP p=>p) bq4 ?_ λd hd=>⟨rfl,hd⟩;rw[show(s.rs.map λr=>cX s.pl (pM n k r))=(s.rs.map (pM n k)).map (cX s.pl)from by rw[YAR];rfl,jE (gj (J0 _) _)];exact bp4
def wA(s:Ya)(x:Str):Option Str:=if x∉aR s then some "NoHand" else if x∈s.sd then some "Aside" else none
def zoO{s:Ya}{x:Str}(h:wX s)(hd:∀y∈s.sd,cA y=true)(hl:s.sd.length<=1000)(hx:cA x=true):zb9 [bW s,.tup [.str "aside",.str x]] (λv=>wA s x=none/\v.old=bW {s with sd:=s.sd++[x]}) (λn=>wA s x=some n):=by
 refine rB (lq (n:=2) (qU s) (jE (by simp[iy]))) ?_;refine Bg (aA rfl) ?_;unfold wA;refine CQ (aJ (aA rfl) (aJ (aA rfl) aY)) (zdI h hx) (λ_ i1=>?_) λn z=>by rw[if_pos z.2,z.1]
 rw[if_neg λz=>z i1];have ev:=dC (xj (neg:=false) (S:=[.val (bW s),.val (.tup [.str "aside",.str x]),.val (.str "aside"),.val (.str x)]) (aA (i:=3) rfl) (fH (i:=0) rfl (b3 s)) hx hd);by_cases e:x∈s.sd
 .refine jj (bU ev (by rw[gB e];rfl)) ⟨by decide,?_⟩;rw[if_pos e]
 refine gw (bU ev (by rw[gY e];rfl)) ?_;refine Hx (t:={s with sd:=s.sd++[x]}) rfl (wN (fH rfl (b3 s)) (iG (aJ (aA rfl) aY)) (by rw[b8];show s.sd.length+1<=100000;omega)) bq3 ?_ λd hd=>⟨if_neg e,hd⟩;rw[<-El (f:=D.str),<-qT,jE (gj iy _)];exact bp3
def yc(s:Ya)(x:Str):Option Str:=if x∉aR s then some "NoHand" else if x∉s.sd then some "NotAside" else none
def zpT{s:Ya}{x:Str}(h:wX s)(hd:∀y∈s.sd,cA y=true)(hl:s.sd.length<=1000)(hx:cA x=true):zdi [bW s,.tup [.str "heed",.str x]] (λv=>yc s x=none/\v.old=bW {s with sd:=s.sd.filter λy=>!decide (y=x)}) (λn=>yc s x=some n):=by
 refine rB (lq (n:=2) (qU s) (jE (by simp[iy]))) ?_;refine Bg (aA rfl) ?_;unfold yc;refine CQ (aJ (aA rfl) (aJ (aA rfl) aY)) (zdI h hx) (λ_ i1=>?_) λn z=>by rw[if_pos z.2,z.1]
 rw[if_neg λz=>z i1];have ev:=dC (xj (neg:=true) (S:=[.val (bW s),.val (.tup [.str "heed",.str x]),.val (.str "heed"),.val (.str x)]) (aA (i:=3) rfl) (fH (i:=0) rfl (b3 s)) hx hd);by_cases e:x∈s.sd
 .refine gw (bU ev (by rw[gB e];rfl)) ?_;have hc:=tR (sub:=[none,some 3]) (I:=fM (ak bQ (vW 0) (kW (.str "aside")))) (S:=[.val (bW s),.val (.tup [.str "heed",.str x]),.val (.str "heed"),.val (.str x)]) (t:=.nm 0) (C:=bG (ak jT (vW 0) (vW 1))) (E:=vW 0) D.str (λy=>if !decide (y=x)then some (.str y)else none) s.sd (yR (fH rfl (b3 s))) (by omega) (λy hy=>by
   have ev:∀{S:Env},S[0]?=some (.val (.str y))->S[1]?=some (.val (.str x))->fG (bG (ak jT (vW 0) (vW 1))) S (!decide (y=x)):=λh0 h1=>dC (zri (aA h0) (aA h1) (hd y hy) hx);cases e:!decide (y=x)with
   |false=>exact DX (bU (ev rfl rfl) e)
   |true=>exact vG (bU (ev rfl rfl) e) (aA rfl))
  have fm:∀ys:List Str,(ys.filterMap λy=>if !decide (y=x)then some (D.str y)else none)=(ys.filter λy=>!decide (y=x)).map D.str:=λys=>by
   induction ys with
   |nil=>rfl
   |cons y ys ih=>
    rw[YAQ,YCu];cases !decide (y=x)
    .exact ih
    .exact congrArg (D.str y::·) ih
  rw[fm]at hc;refine Hx (t:={s with sd:=s.sd.filter λy=>!decide (y=x)}) rfl (wK (f:=wg) (d:=.tup ((s.sd.filter λy=>!decide (y=x)).map D.str)) (aJ (fu hc) aY) λP p=>p) bq3 ?_ λd hd=>⟨if_neg λz=>z e,hd⟩;rw[jE (gj iy _)];exact bp3
 .refine jj (bU ev (by rw[gY e];rfl)) ⟨by decide,?_⟩;rw[if_pos e]
def v7(k:Int):Option Str:=if k<0\/3<k then some "BadNumber" else none
def zoa{s:Ya}{k:Int}:zby [bW s,.tup [.str "allow",.int k]] (λv=>v7 k=none/\v.old=bW {s with al:=k}) (λn=>v7 k=some n):=by
 refine rB (lq (n:=2) (qU s) (jE (by simp[iy,j0]))) ?_;refine Bg (aA rfl) ?_;unfold v7;have ev:=Am (S:=[.val (bW s),.val (.tup [.str "allow",.int k]),.val (.str "allow"),.val (.int k)]) (dC (zc (aA (i:=3) (d:=.int k) rfl) (aG (d:=.int 0)))) λ_=>dC (zT (aA (i:=3) (d:=.int k) rfl) (aG (d:=.int 3)));by_cases e:k<0\/3<k
 .refine jj (bU ev (by rw[Bool.or_eq_true,yw,yw];exact e)) ⟨by decide,?_⟩;rw[if_pos e]
 refine gw (bU ev (by rw[YCy,YCa,YCa];omega)) ?_;refine Hx (t:={s with al:=k}) rfl (aA rfl) bq6 ?_ λd hd=>⟨if_neg e,hd⟩;rw[j0];exact bp6
inductive Yd where
 |mark (x:Str)|hand (x:Str)|run (a b:Str) (r:Int) (h:Str)|strike (n:Int)|mend (n k:Int)|settle (x:Str)|aside (x:Str)|heed (x:Str)|allow (k:Int)
def nR:Yd->Str
 |.mark _ => "mark"
 |.hand _ => "hand"
 |.run _ _ _ _ => "run"
 |.strike _ => "strike"
 |.mend _ _ => "mend"
 |.settle _ => "settle"
 |.aside _ => "aside"
 |.heed _ => "heed"
 |.allow _ => "allow"
def di:Yd->List D
 |.mark x|.hand x|.settle x|.aside x|.heed x=>[.str x]
 |.run a b r h=>[.str a,.str b,.int r,.str h]
 |.strike n|.allow n=>[.int n]
 |.mend n k=>[.int n,.int k]
def yD(d:Yd):D:=.tup (.str (nR d)::di d)
def nC:Yd->Prop
 |.mark x|.hand x|.settle x|.aside x|.heed x=>Tx x
 |.run a b _ h=>Tx a/\Tx b/\Tx h
 |_=>True
noncomputable def why(s:Ya)(d:Yd):Option Str:=Yd.rec (motive:=λ_=>Option Str) (λx=>wC s x) (λx=>uU s x) (λa b r h=>eY s a b r h) (λn=>wI s n) (λn k=>zm s n k) (λx=>ym s x) (λx=>wA s x) (λx=>yc s x) (λk=>v7 k) d
def mJ(hs:List (Str×Bool))(x:Str)(b:Bool):List (Str×Bool):=hs.map λp=>if p.1=x then(p.1,b)else p
noncomputable def yDo(s:Ya):Yd->Ya
 |.mark x|.settle x=>{s with pl:=s.pl++[mW s.pl x]}
 |.hand x=>{s with hs:=s.hs++[(x,true)]}
 |.run a b r h=>{s with en:=s.en+1,rs:=s.rs++[qK s a b r h]}
 |.strike n=>{s with rs:=s.rs.filter λr=>!decide (r.n=n)}
 |.mend n k=>{s with rs:=s.rs.map (pM n k)}
 |.aside x=>{s with sd:=s.sd++[x],hs:=mJ s.hs x false}
 |.heed x=>{s with sd:=s.sd.filter λy=>!decide (y=x),hs:=mJ s.hs x true}
 |.allow k=>{s with al:=k}
def ir(s:Ya)(d:Yd):Ya:={yDo s d with ds:=s.ds++[yD d]}
def zoS(d:Yd):∀x∈di d,x.old=x:=by cases d<;>simp[di,iy,j0]
def lF(d:Yd):(yD d).old=yD d:=jE (by simpa[iy]using zoS d)
def uK(d:Yd):cA (nR d)=true:=by cases d<;>(dsimp only[nR];exact bR)
def Do(hs:List (Str×Bool))(x:Str)(b:Bool):(mJ hs x b).map (·.1)=hs.map (·.1):=by
 unfold mJ;rw[YAR];exact JN λp _=>by show(if p.1=x then(p.1,b)else p).1=p.1;split<;>rfl
structure dH(s:Ya):Prop where
 p:ul s.pl
 pt:Lst s.pl
 h:wX s
 ra:∀r∈s.rs,r.a<s.pl.length/\r.b<s.pl.length/\r.h∈aR s
 rl:s.rs.length<=40
 sn:∀x∈s.sd,x∈aR s
 sl:s.sd.length<=s.ds.length
 sh:∀p∈s.hs,p.2 = !decide (p.1∈s.sd)
 e0:0<=s.en
 el:s.en<=s.ds.length
 dd:∀d∈s.ds,d.old=d/\eF d 3=true
 dl:s.ds.length<=1000
 rn:∀r∈s.rs,r.n<=s.en
def dH.sok(ok:dH s):∀x∈s.sd,cA x=true:=λx hx=>ok.h.cA x (ok.sn x hx)
def dH.rab(ok:dH s):∀r∈s.rs,r.a<s.pl.length/\r.b<s.pl.length:=λr hr=>⟨(ok.ra r hr).1,(ok.ra r hr).2.1⟩
def zvt(h:t.pl=s.pl)(h1:aR t=aR s)(h2:t.sd=s.sd)(h3:t.rs=s.rs)(h4:t.en=s.en)(h5:t.al=s.al):bW t=bW s:=by
 unfold bW iD;rw[h,h1,h2,h3,h4,h5]
def xN(ho:(D.tup (.str w::xs)).old=.tup (.str w::xs))(hl:(zP A).lookup w=some (.obj f))(hm:(f,F)∈jx A)(h:F [bW s,.tup (.str w::xs)] P qg):K9 A [bW s,.tup (.str w::xs)] P qg:=by
 refine rB (lq (n:=1) (qU s) ho) ?_;have ev:Ev (Cr (zP A) (ak aF (vW 1) (kW (.int 0)))) (.val (bW s)::.val (.tup (.str w::xs))::List.replicate 1 Sl.un) (.obj f):=λP p=>by
  refine jY (d:=.str w) (aA rfl) aG (fL (j:=0) rfl) _ ?_;show opD ((zP A).lookup w) P;rw[hl];exact p
 refine jt ev ?_;exact⟨F,hm,rfl,Ik h (λ_ z=>z) λ_ z=>z⟩
def zqR(ok:dH s)(hx:nC d):K9 A [bW s,yD d] (λv=>why s d=none/\v.old=bW (ir s d)) (λn=>why s d=some n):=by
 have sl:s.sd.length<=1000:=YAB ok.sl ok.dl;cases d with
 |mark x=>exact xN (f:=A.mark_entered) (lF (.mark x)) (by kernel_rfl) (by unfold jx;simp) (zp8 ok.p ok.rab hx)
 |hand x=>exact xN (f:=A.hand_entered) (lF (.hand x)) (by kernel_rfl) (by unfold jx;simp) (zqq ok.h hx)
 |run a b r h=>exact xN (f:=A.run_entered) (lF (.run a b r h)) (by kernel_rfl) (by unfold jx;simp) (zsb ok.p ok.pt ok.h hx.1.ok hx.2.1.ok hx.2.2.ok ok.rl)
 |strike n=>exact xN (f:=A.run_struck) (lF (.strike n)) (by kernel_rfl) (by unfold jx;simp) (zm2 ok.rl)
 |mend n k=>exact xN (f:=A.run_mended) (lF (.mend n k)) (by kernel_rfl) (by unfold jx;simp) (zqo ok.rl)
 |settle x=>exact xN (f:=A.mark_settled) (lF (.settle x)) (by kernel_rfl) (by unfold jx;simp) (zm5 ok.p ok.rab hx)
 |aside x=>
  rw[show bW (ir s (.aside x))=bW {s with sd:=s.sd++[x]}from zvt rfl (Do _ _ _) rfl rfl rfl rfl];exact xN (f:=A.hand_set_aside) (lF (.aside x)) (by kernel_rfl) (by unfold jx;simp) (zoO ok.h ok.sok sl hx.ok)
 |heed x=>
  rw[show bW (ir s (.heed x))=bW {s with sd:=s.sd.filter λy=>!decide (y=x)}from zvt rfl (Do _ _ _) rfl rfl rfl rfl];exact xN (f:=A.hand_heeded) (lF (.heed x)) (by kernel_rfl) (by unfold jx;simp) (zpT ok.h ok.sok sl hx.ok)
 |allow k=>exact xN (f:=A.number_allowed) (lF (.allow k)) (by kernel_rfl) (F:=zby) (by unfold jx;simp) (zoa (s:=s))
def cI(A:il)(ks bs us:List D):Ob:=⟨A.fen,[("kept",ks),("books",bs),("undone",us)]⟩
def zmm:wD (cI A ks bs us) "kept" 0 ks:=⟨rfl,λi y hi=>by omega⟩
def zj7:wD (cI A ks bs us) "books" 1 bs:=⟨rfl,λi y hi e=>by
 have:i=0:=by omega
 subst this;cases e;show("kept":Str)≠"books"; decide +kernel⟩
abbrev NF(m:Str):Prop:=m≠"kept" /\ m≠"books" /\ m≠"undone"
def zrs{A:il}{ks bs us:List D}{m:Str}(h:NF m):∀x∈(cI A ks bs us).fs,x.1≠m:=λx hx=>by
 have hx:x∈[(("kept":Str),ks),("books",bs),("undone",us)]:=hx;simp only[iU,lz,uL]at hx;rcases hx with rfl|rfl|rfl
 .exact YAM h.1
 .exact YAM h.2.1
 .exact YAM h.2.2
def yu{A:il}{qh:bN}{S:Env}{i:Nat}{q:Addr}{m:Str}{F:bN->Fn}{ks bs us:List D}{d:D}(hi:S[i]?=some (.val (.obj q)))(hS:qh q=some (cI A ks bs us))(hm:NF m)(h:F qh [.obj q] (·=d)):Ev (jU qh i A.fen m 1 F (λ_ Q=>Q [])) S d:=λP p=>by
 unfold jU;rw[hi];exact⟨⟨_,hS,rfl,zrs hm⟩,rfl,qu h λe z=>by subst z;exact p⟩
def ziC:gO (bs++[x]) (-1)=some x:=by
 unfold gO tH;rw[if_neg (by decide),gU,if_pos (by simp;omega)];show(bs++[x])[(-1+((bs.length+1:Nat):Int)).toNat]?=some x;rw[show(-1+((bs.length+1:Nat):Int)).toNat=bs.length from by omega]
 simp
def zvg:NF "now":=by decide +kernel
def ztb(hS:qh q=some (cI A ks (bs++[bW s]) us)):rP A qh [.obj q] (·=bW s):=by
 refine cR (S:=[.val (.obj q)]) (by unfold fU;simp[rY]) ?_;refine⟨_,1,bs++[bW s],hS,rfl,zj7,?_⟩;show(match gO (bs++[bW s]) (-1)with|some d=>d.old=bW s|none=>False);rw[ziC];exact qU s
def zlQ{A:il}{qh:bN}{q:Addr}{s:Ya}{ks bs us:List D}{S:Env}{i:Nat}(hi:S[i]?=some (.val (.obj q)))(hS:qh q=some (cI A ks (bs++[bW s]) us)):Ev (jU qh i A.fen "now" 1 (rP A) (λ_ Q=>Q [])) S (bW s):=yu hi hS zvg (ztb hS)
section
variable{E:pX}{qh:bN}{S:Env}{B:WF}{q:Addr}{A:il}{ks bs us:List D}{i:Nat}{d:D}{V:bN->WE}
def zpS(hi:S[i]?=some (.val (.obj q)))(hS:qh q=some (cI A ks bs us))(hV:Ev (V qh) S d)(hl:ks.length<100000)(h:B E (jk qh q (cI A (ks++[d.old]) bs us)) S):cU (j9 i "kept" A.fen V) B E qh S:=by
 show j9 i "kept" A.fen V _ qh S;unfold j9;rw[hi];exact⟨_,0,ks,hS,rfl,zmm,hV _ ⟨hl,h⟩⟩
def zpd(hi:S[i]?=some (.val (.obj q)))(hS:qh q=some (cI A ks bs us))(hV:Ev (V qh) S d)(hl:bs.length<100000)(h:B E (jk qh q (cI A ks (bs++[d.old]) us)) S):cU (j9 i "books" A.fen V) B E qh S:=by
 show j9 i "books" A.fen V _ qh S;unfold j9;rw[hi];exact⟨_,1,bs,hS,rfl,zj7,hV _ ⟨hl,h⟩⟩
def zmQ:jh "undone" [] (cI A ks bs us).fs=(cI A ks bs []).fs:=by unfold cI;kernel_rfl
def zmK(hi:S[i]?=some (.val (.obj q)))(hS:qh q=some (cI A ks bs us))(h:B E (jk qh q (cI A ks bs [])) S):cU (jr i "undone" A.fen (λqh=>aX ao)) B E qh S:=by
 show jr i "undone" A.fen _ _ qh S;unfold jr;rw[hi];refine⟨by decide,_,hS,rfl,by show 3<100;decide,?_⟩;show B E (jk qh q ⟨A.fen,jh "undone" [] (cI A ks bs us).fs⟩) S;rw[zmQ];exact h
end
def jX:Yd->Bool
 |.run _ _ _ _=>true
 |_=>false
def zuO(d:Yd):decide (nR d="run")=jX d:=by cases d<;>kernel_rfl
def uC(s:Ya)(d:Yd):D:=if jX d=true then .int (s.en+1)else .non
def d0(hi:S[i]?=some (.val (yD d))):Ev (ak aF (vW i) (kW (.int 0))) S (.str (nR d)):=jY (t:=.str (nR d)::di d) (aA hi) aG (fL (j:=0) rfl)
def zmA(d:Yd)(hi:S[i]?=some (.val (yD d))):Ev (ak cM (ak aF (vW i) (kW (.int 0))) (kW (.str "run"))) S (.bl (jX d)):=lW (yX (d0 hi) aG (uK d) bR) (congrArg D.bl (zuO d))
def six:∀{xs:List D},xs.length=6->∃a b c d e f,xs=[a,b,c,d,e,f]
 |[a,b,c,d,e,f],_=>⟨a,b,c,d,e,f,rfl⟩
def zsP(h:v.old=bW t)(hi:S[i]?=some (.val v)):∃b:D,b.old=.int t.en/\Ev (ak bQ (vW i) (kW (.str "entered"))) S b:=by
 cases v with
 |dct n ks xs=>
  rw[D.old]at h;injection h with h1 h2 h3
  subst h2;obtain⟨a,b,c,d,e,f,rfl⟩:=six (xs:=xs) (by rw[<-b8 (f:=D.old),h3];rfl);refine⟨e,?_,Cd (aA hi) bk5⟩
  have:=congrArg (λl:List D=>l[4]?) h3
  exact Option.some.inj this
 |_=>rw[D.old]at h;cases h
def zmy(hS:qh q=some (cI A s.ds (bs++[bW s]) us))(ok:dH s)(hx:nC d)(hb:bs.length<=1000) :
  Ex A [.obj q,yD d] qh (λv qk=>why s d=none/\v.old=uC s d/\qk=jk qh q (cI A (s.ds++[yD d]) (bs++[bW s]++[bW (ir s d)]) [])) (λn qk=>why s d=some n/\qk=qh):=by
 refine IK (lq (n:=1) (rY q) (lF d)) ?_;show jU qh 0 A.fen "now" 1 (rP A) (λ_ Q=>Q []) _ _;refine zlQ (ks:=s.ds) (us:=us) rfl hS _ ⟨rfl,Ik (zqR ok hx) (λv hv=>?_) λ_ z=>⟨z,rfl⟩⟩;obtain⟨hw,hv⟩:=hv;unfold gD;show cU (j9 0 "kept" A.fen λ_=>vW 1) _ _ _ [.val (.obj q),.val (yD d),.val v];refine zpS (V:=λ_=>vW 1) (d:=yD d) (q:=q) rfl hS (aA rfl) (by have:=ok.dl;omega) ?_;rw[lF];refine zpd (V:=λ_=>vW 2) (d:=v) (q:=q) rfl qC (aA rfl) (by rw[gU];show bs.length+1<100000;omega) ?_;rw[hv,Ij];refine zmK (q:=q) rfl qC ?_;rw[Ij];refine dC (zmA d (i:=1) rfl) _ ?_;unfold uC;cases e:jX d with
 |false=>exact⟨hw,by rw[D.old];rfl,rfl⟩
 |true=>
  obtain⟨b,h1,h2⟩:=zsP hv (i:=2) (S:=[.val (.obj q),.val (yD d),.val v]) rfl;refine h2 _ ⟨hw,?_,rfl⟩;rw[h1];cases d with
  |run a b r h=>rfl
  |_=>cases e
def zjs(x:Str)(hx:x.length<=100000):Hv [.str x] (·=.bl (nameB x)):=by
 unfold Hv dU fU;rw[d7,iy];refine⟨hx,zmh ?_⟩;unfold nameB yF;cases decide (1<=(x.length:Int))with
 |false=>rfl
 |true=>
  refine IV (zu0 (zmh ?_));cases decide ((x.length:Int)<=8)with
  |false=>rfl
  |true=>
   show _/\lJ _ _ _ _ _ (wM x) [];refine⟨by unfold wM;rw[b8,<-zoG];exact hx,?_⟩;unfold wM;refine zfo (λch=>D.str ⟨#[ch]⟩) (λch=>.bl (decide (ch∈sg LET))) (sg x) (λch _ Y N y=>?_) ?_
   .show Y (.bl (if false=true then !mK LET ⟨#[ch]⟩else mK LET ⟨#[ch]⟩));rw[if_neg (by decide),zpC];exact y
   .exact zgx (f:=λch=>decide (ch∈sg LET)) (xs:=sg x) (n:=true) (by simp)
def mp1:aW MK [a,b,c,d,e,f] "places" w=[w,b,c,d,e,f]:=by kernel_rfl
def mp2:aW MK [a,b,c,d,e,f] "heeded" w=[a,w,c,d,e,f]:=by kernel_rfl
def mp3:aW MK [a,b,c,d,e,f] "rows" w=[a,b,w,d,e,f]:=by kernel_rfl
def mp4:aW MK [a,b,c,d,e,f] "entered" w=[a,b,c,w,e,f]:=by kernel_rfl
def mp5:aW MK [a,b,c,d,e,f] "many" w=[a,b,c,d,w,f]:=by kernel_rfl
def mp6:aW MK [a,b,c,d,e,f] "deeds" w=[a,b,c,d,e,w]:=by kernel_rfl
def mq1:bF MK "places"=MK:=by kernel_rfl
def mq2:bF MK "heeded"=MK:=by kernel_rfl
def mq3:bF MK "rows"=MK:=by kernel_rfl
def mq4:bF MK "entered"=MK:=by kernel_rfl
def mq5:bF MK "many"=MK:=by kernel_rfl
def mq6:bF MK "deeds"=MK:=by kernel_rfl
section
variable{S:Env}{E:En}{i:Nat}{V I:WE}{R B:WS}{ks:List Str}{xs:List D}{d v:D}{z:Str}{n:Bool}
def zup(h:Ev V S (.dct n ks xs))(q:R E (S.set i (.dic ks xs))):aC (Bm i V) R E S:=h _ q
def Bl(hi:S[i]?=some (.dic ks xs))(ho:BX i S=true)(hk:ks.length<1000)(h:Ev V S d)(q:E.nx (S.set i (.dic (bF ks z) (aW ks xs z d)))):gP i (kW (.str z)) V E S:=by
 unfold gP;rw[hi];exact⟨ho,hk,h _ q⟩
def zsf(hi:S[i]?=some (.dic ks xs))(ho:BX i S=true)(hk:ks.length<1000)(hl:dZ ks xs z=some (.int a))(h:Ev V S (.int b))(q:E.nx (S.set i (.dic (bF ks z) (aW ks xs z (.int (a+b)))))):Ao i (kW (.str z)) V E S:=by
 unfold Ao;rw[hi];refine⟨ho,hk,?_⟩;show(match dZ ks xs z with|some (.int a)=>_|_=>False);rw[hl];exact h _ q
def Ck(hi:S[i]?=some (.dic ks xs))(hl:dZ ks xs z=some d):Ev (mq i (kW (.str z))) S d:=λP p=>by
 unfold mq;rw[hi];show mU (dZ ks xs z) P;rw[hl];exact p
def zkI(hi:S[i]?=some (.dic ks xs))(hL:jc L S ds)(h:F (.dct true ks xs::ds) (·=d))(f:zsT d)(hl:ds.length+1=k:=by rfl):Ev (u9 i k F L) S d:=λP p=>by
 unfold u9;rw[hi];exact hL _ ⟨hl,qu h λe z=>by subst z;exact⟨f,p⟩⟩
def ztY(hi:i<S.length)(hA:Ev A S (.fdc ks xs))(hk:ks.length<1000)(hV:Ev V (S.set i .un) v)(hI:Ev I (S.set i .un) (.str z))(q:B E (S.set i (.val (.fdc (bF ks z) (aW ks xs z v))))):xn i A V I B E S:=⟨hi,hA _ ⟨hk,hV _ (hI _ q)⟩⟩
end
def zpr(h:∀x∈xs,eF x n=true)(hl:xs.length<=1000:=by simp):eF (.tup xs) (n+1)=true:=by
 rw[eF,gB hl,Bool.true_and];clear hl
 induction xs with
 |nil=>rw[tQ]
 |cons x xs ih=>rw[tQ,h x gC,ih λy hy=>h y (kj _ hy)];rfl
def yd(h:∀x∈xs,eF x n=true)(hl:xs.length<=1000):eF (.lst b xs) (n+1)=true:=by
 rw[eF,gB hl,Bool.true_and];clear hl
 induction xs with
 |nil=>rw[tQ]
 |cons x xs ih=>rw[tQ,h x gC,ih λy hy=>h y (kj _ hy)];rfl
def pR(h:cA x=true):eF (.str x) n=true:=by rw[eF];exact h
def zL:eF (.int i) n=true:=by rw[eF]
section
variable{S:Env}{i:Nat}{w z:Str}{b:Bool}
def vg(hi:S[i]?=some (.val (.str w)))(hw:cA w=true)(hz:cA z=true):fG (bG (ak cM (vW i) (kW (.str z)))) S (decide (w=z)):=dC (yX (aA hi) aG hw hz)
end
def CT(xs:List D)(pl:List (Str×Nat)):Prop:=dZ MK (xs.map D.old) "places"=some (.lst false (pl.map dO))
def zmw:fU 2 [.dct n ks xs,.str x]=[.val (.dct false ks (xs.map D.old)),.val (.str x)]:=by
 unfold fU;rw[d7,d7,rZ,iy,D.old];rfl
def zey(hp:CT xs pl)(h:ul pl)(hx:cA x=true):sG [.dct n MK xs,.str x] (·=.int (bw pl x)):=by
 refine cR zmw ?_;refine iV (pY (fu (tR dO (λp=>if decide (p.1=x)then some (dO p)else none) pl (rQ (Cd (aA rfl) hp)) (by have:=h.ln;omega) λy hy=>?_))) ?_
 .have ev:∀{S:Env},S[0]?=some (.val (dO y))->S[1]?=some (.val (.str x))->fG (bG (ak cM (ak aF (vW 0) (kW (.int 0))) (vW 1))) S (decide (y.1=x)):=λh1 h2=>dC (yX (jY (t:=[.str y.1,.int y.2]) (aA h1) aG (fL (j:=0) rfl)) (aA h2) (h.cA y hy) hx);cases e:decide (y.1=x)with
  |true=>exact vG (e▸ev rfl rfl) (aA rfl)
  |false=>exact DX (e▸ev rfl rfl)
 .rw[zlA];rfl
def zqu(s:Ya):CT (iQ s) s.pl:=by
 unfold CT iQ;rw[d7,iH (gj qz _)];exact mk1
def cG(hi:S[i]?=some (.val (aV s)))(h:dZ MK (iQ s) z=some d):Ev (ak bQ (vW i) (kW (.str z))) S d:=Cd (aA hi) h
def mZ[Decidable c](h:(if c then some x else o)=none):¬ c/\o=none:=by
 by_cases e:c
 .rw[if_pos e]at h;cases h
 .rw[if_neg e]at h;exact⟨e,h⟩
def ziX(pl:List (Str×Nat))(x y:Str):bw (pl++[mW pl x]) y=bw pl y+if x=y then 1 else 0:=by
 unfold bw;rw[List.filter_append,gU];congr 1;by_cases e:x=y
 .simp[mW,e]
 .simp[mW,e]
def Lst.snoc(h:Lst pl)(x:Str):Lst (pl++[mW pl x])where
 fin:=λy hy=>by
  rw[ziX]at hy ⊢;by_cases e:x=y
  .subst e;rw[if_pos rfl];exact rG _ (lC.mpr rfl)
  .rw[if_neg e]at hy ⊢;exact CJ _ (h.fin y hy)
 le:=λp hp=>by
  rw[ziX];rcases YAJ.mp hp with z|z
  .exact YAB (h.le p z) (KZ _ _)
  .rw[lC.mp z];show bw pl x+1<=bw pl x+if x=x then 1 else 0;rw[if_pos rfl];exact dG _
 nd:=List.nodup_append.mpr ⟨h.nd,by simp,λa ha b hb z=>by
  rw[lC.mp hb]at z
  have:=h.le a ha
  rw[z]at this;exact absurd this (Nat.not_succ_le_self _)⟩
 one:=λy hy=>by
  rw[ziX]at hy;by_cases e:0<bw pl y
  .exact CJ _ (h.one y e)
  .by_cases f:x=y
   .subst f
    have:bw pl x=0:=by omega
    refine rG _ (lC.mpr ?_);unfold mW;rw[this]
   .rw[if_neg f]at hy;exact absurd hy e
def zvT(hx:nC d):eF (yD d) 3=true:=by
 have w:=uK d;unfold yD;refine zpr ?_ (by cases d<;>simp[di]);rw[YAG];refine⟨pR w,?_⟩;cases d with
 |mark x=>simp[di,pR (Tx.ok hx)]
 |hand x=>simp[di,pR (Tx.ok hx)]
 |settle x=>simp[di,pR (Tx.ok hx)]
 |aside x=>simp[di,pR (Tx.ok hx)]
 |heed x=>simp[di,pR (Tx.ok hx)]
 |run a b r h=>simp[di,zL,pR hx.1.ok,pR hx.2.1.ok,pR hx.2.2.ok]
 |strike n=>simp[di,zL]
 |allow n=>simp[di,zL]
 |mend n k=>simp[di,zL]
def ziy(ok:dH s)(hx:nC d)(f:why s d=none)(hl:s.ds.length<1000):dH (ir s d):=by
 have dn:(ir s d).ds=s.ds++[yD d]:=rfl;have dd:∀y∈(ir s d).ds,y.old=y/\eF y 3=true:=λy hy=>by
  rw[dn]at hy;rcases YAJ.mp hy with z|z
  .exact ok.dd y z
  .rw[lC.mp z];exact⟨lF d,zvT hx⟩
 have dm:(ir s d).ds.length=s.ds.length+1:=by rw[dn,gU];rfl
 have dl:(ir s d).ds.length<=1000:=by rw[dm];omega
 have sl:s.sd.length<=(ir s d).ds.length:=by rw[dm];have:=ok.sl;omega
 have el:s.en<=(ir s d).ds.length:=by rw[dm];have:=ok.el;omega
 have place:∀x,nameB x=true->s.pl.length≠12->ul (s.pl++[mW s.pl x]):=λx hn hl=>⟨λp hp=>(YAJ.mp hp).elim (ok.p.ok p) λz=>by rw[lC.mp z];exact hn,by rw[gU];have:=ok.p.ln;show s.pl.length+1<=12;omega⟩;have ra':∀x,∀r∈s.rs,r.a<(s.pl++[mW s.pl x]).length/\r.b<(s.pl++[mW s.pl x]).length/\r.h∈aR s:=λx r hr=>by
  have:=ok.ra r hr;rw[gU];show _<_+1/\_<_+1/\_;exact⟨by omega,by omega,this.2.2⟩
 have lh:=ok.h.ln;have hp:∀(t:Ya)(x:Str)(b:Bool),t.hs=mJ s.hs x b->wX t:=λt x b e=>by
  have en:aR t=aR s:=by show t.hs.map (·.1)=_;rw[e];exact Do _ _ _
  exact⟨en▸ok.h.nd,en▸ok.h.ok,by rw[e];unfold mJ;rw[b8];exact lh⟩
 cases d with
 |mark x=>
  obtain⟨f1,f⟩:=mZ (show wC s x=none from f);obtain⟨f2,f⟩:=mZ f;exact⟨place x (by simpa using f1) (mZ f).1,ok.pt.snoc x,⟨ok.h.nd,ok.h.ok,lh⟩,ra' x,ok.rl,ok.sn,sl,ok.sh,ok.e0,el,dd,dl,ok.rn⟩
 |settle x=>
  obtain⟨f1,g⟩:=mZ (show ym s x=none from f);obtain⟨p,hp,rfl⟩:=YAD.mp (kJ.mp (Nat.pos_of_ne_zero f1));exact⟨place _ (ok.p.ok p hp) (mZ g).1,ok.pt.snoc _,⟨ok.h.nd,ok.h.ok,lh⟩,ra' _,ok.rl,ok.sn,sl,ok.sh,ok.e0,el,dd,dl,ok.rn⟩
 |hand x=>
  obtain⟨f1,f⟩:=mZ (show uU s x=none from f);obtain⟨f2,f⟩:=mZ f;have f3:=(mZ f).1;have en:aR (ir s (.hand x))=aR s++[x]:=by show(s.hs++[(x,true)]).map (·.1)=_;rw[qT];rfl
  refine⟨⟨ok.p.ok,ok.p.ln⟩,ok.pt,⟨?_,λy hy=>?_,?_⟩,λr hr=>⟨(ok.ra r hr).1,(ok.ra r hr).2.1,en▸CJ _ (ok.ra r hr).2.2⟩,ok.rl,λy hy=>en▸CJ _ (ok.sn y hy),sl,λp hp=>?_,ok.e0,el,dd,dl,ok.rn⟩
  .rw[en];exact List.nodup_append.mpr ⟨ok.h.nd,by simp,λa ha b hb z=>by rw[lC.mp hb]at z;exact f2 (z▸ha)⟩
  .rw[en]at hy;exact(YAJ.mp hy).elim (ok.h.ok y) λz=>by rw[lC.mp z];simpa using f1
  .show(s.hs++[_]).length<=10;rw[gU];show s.hs.length+1<=10;omega
  .refine(YAJ.mp hp).elim (ok.sh p) λz=>?_;rw[lC.mp z];show true = !decide (x∈s.sd);rw[gY λz=>f2 (ok.sn x z)];rfl
 |run a b r h=>
  obtain⟨f1,f⟩:=mZ (show eY s a b r h=none from f);obtain⟨f2,f⟩:=mZ f;obtain⟨f3,f⟩:=mZ f;obtain⟨f4,f⟩:=mZ f;have f5:=(mZ f).1;have e0:=ok.e0;have rl:=ok.rl;have el2:=ok.el;refine⟨⟨ok.p.ok,ok.p.ln⟩,ok.pt,⟨ok.h.nd,ok.h.ok,lh⟩,λq hq=>?_,?_,ok.sn,sl,ok.sh,by show 0<=s.en+1;omega,by rw[dm];show s.en+1<=_;omega,dd,dl,λq hq=>by
   rcases YAJ.mp hq with z|z
   .have:=ok.rn q z;show q.n<=s.en+1;omega
   .rw[lC.mp z];exact Int.le_refl _⟩
  .rcases YAJ.mp hq with z|z
   .exact ok.ra q z
   .rw[lC.mp z];exact⟨Ep ok.pt (by omega),Ep ok.pt (by omega),Ed f3⟩
  .show(s.rs++[_]).length<=40;rw[gU];show s.rs.length+1<=40;omega
 |strike n=>exact⟨⟨ok.p.ok,ok.p.ln⟩,ok.pt,⟨ok.h.nd,ok.h.ok,lh⟩,λq hq=>ok.ra q (YAZ.mp hq).1,YAB (Jj _ _) ok.rl,ok.sn,sl,ok.sh,ok.e0,el,dd,dl,λq hq=>ok.rn q (YAZ.mp hq).1⟩
 |mend n k=>
  refine⟨⟨ok.p.ok,ok.p.ln⟩,ok.pt,⟨ok.h.nd,ok.h.ok,lh⟩,λq hq=>?_,by show(s.rs.map _).length<=40;rw[b8];exact ok.rl,ok.sn,sl,ok.sh,ok.e0,el,dd,dl,λq hq=>by
   obtain⟨r,hr,rfl⟩:=YAD.mp hq;unfold pM;split<;>exact ok.rn r hr⟩
  obtain⟨r,hr,rfl⟩:=YAD.mp hq;unfold pM;split<;>exact ok.ra r hr
 |aside x=>
  obtain⟨f1,f⟩:=mZ (show wA s x=none from f);have en:aR (ir s (.aside x))=aR s:=Do _ _ _;refine⟨⟨ok.p.ok,ok.p.ln⟩,ok.pt,hp _ x false rfl,λr hr=>⟨(ok.ra r hr).1,(ok.ra r hr).2.1,en▸(ok.ra r hr).2.2⟩,ok.rl,λy hy=>en▸(YAJ.mp hy).elim (ok.sn y) λz=>by rw[lC.mp z];exact Ed f1,?_,λp hp=>?_,ok.e0,el,dd,dl,ok.rn⟩
  .rw[dm];show(s.sd++[x]).length<=_;rw[gU];have:=ok.sl;show s.sd.length+1<=_;omega
  .obtain⟨q,hq,rfl⟩:=YAD.mp hp;show _ = !decide (_∈s.sd++[x]);by_cases e:q.1=x
   .rw[if_pos e,gB (rG _ (lC.mpr e))];rfl
   .rw[if_neg e,ok.sh q hq];simp[e]
 |heed x=>
  have en:aR (ir s (.heed x))=aR s:=Do _ _ _;refine⟨⟨ok.p.ok,ok.p.ln⟩,ok.pt,hp _ x true rfl,λr hr=>⟨(ok.ra r hr).1,(ok.ra r hr).2.1,en▸(ok.ra r hr).2.2⟩,ok.rl,λy hy=>en▸ok.sn y (YAZ.mp hy).1,YAB (Jj _ _) sl,λp hp=>?_,ok.e0,el,dd,dl,ok.rn⟩;obtain⟨q,hq,rfl⟩:=YAD.mp hp;show _ = !decide (_∈s.sd.filter λy=>!decide (y=x));by_cases e:q.1=x
  .rw[if_pos e];simp[e]
  .rw[if_neg e,ok.sh q hq];simp[e]
 |allow k=>exact⟨⟨ok.p.ok,ok.p.ln⟩,ok.pt,⟨ok.h.nd,ok.h.ok,lh⟩,ok.ra,ok.rl,ok.sn,sl,ok.sh,ok.e0,el,dd,dl,ok.rn⟩
def znq(y x:Str×Nat):eqB (dO y) (dO x)=decide (y=x):=by
 have:eqB (dO y) (dO x)=(eqB (.str y.1) (.str x.1)&&(((y.2:Nat):Int)==((x.2:Nat):Int)&&true)):=rfl
 rw[this,zi1];obtain⟨a,b⟩:=y;obtain⟨c,d⟩:=x;by_cases e:a=c
 .by_cases f:b=d
  .subst e;subst f;simp
  .simp[e,f];omega
 .simp[e]
def znX(h:cA x.1=true):dF (dO x)=true:=by
 show(PyData.canLay0 (.str x.1)&&_)=true;rw[show PyData.canLay0 (.str x.1)=true from h];rfl
theorem ziz:∀{pl:List (Str×Nat)},(∀y∈pl,cA y.1=true)->cD (pl.map dO)=true
 |[],_=>by rw[rZ,cD]
 |y::pl,h=>by rw[d7,cD,ziz λz hz=>h z (kj _ hz),znX (h y gC)];rfl
def zeF(hp:CT xs pl)(h:ul pl)(hs:Lst pl)(hk:cA x=true)(hx:0<bw pl x):vK [.dct n MK xs,.str x] (·=.int (lX pl x)):=by
 refine cR zmw ?_;have ht:=zey (n:=false) (xs:=xs.map D.old) (x:=x) (pl:=pl) (by unfold CT;rw[YAR,show(D.old∘D.old)=D.old from funext zlb];exact hp) h hk;have et:Ev (bu (aq (vW 1) (aq (bA 2 sG (aq (vW 0) (aq (vW 1) ao))) ao))) [.val (.dct false MK (xs.map D.old)),.val (.str x)] (dO (x,bw pl x)):=iG (aJ (aA rfl) (aJ (iY (aJ (aA rfl) (aJ (aA rfl) aY)) ht) aY));have ev:Ev (ztg (ak bQ (vW 0) (kW (.str "places"))) (bu (aq (vW 1) (aq (bA 2 sG (aq (vW 0) (aq (vW 1) ao))) ao)))) [.val (.dct false MK (xs.map D.old)),.val (.str x)] (.int (lX pl x)):=λP p=>by
  refine Cd (aA rfl) hp _ ?_;refine et (λy=>zva (pl.map dO) y P) ?_;refine⟨⟨znX hk,ziz h.cA,?_⟩,by rw[b8];have:=h.ln;omega,lX pl x,dO (x,bw pl x),by rw[jV,zuJ hs hx];rfl,?_,λm hm z hz=>?_,p⟩
  .exact YAB (YCs _ _) (by show(toPy (dO (x,bw pl x))).depth<=50;exact(by decide:1<=50))
  .rw[znq,gB rfl]
  .have hml:m<pl.length:=Nat.lt_trans hm (Ep hs hx);rw[jV,jB hml]at hz;cases hz;show eqB (dO pl[m]) (dO (x,bw pl x))=false;rw[znq]
   have:=List.not_of_lt_findIdx hm
   simpa using this
 exact iV ev rfl
def zpN(s:Ya)(d:Yd):(uC s d).old=uC s d:=by
 unfold uC;split
 .exact j0 _
 .rw[D.old]
def zpR(hd:∀y∈s.ds,y.old=y):Kq [aV s,yD d] (·=uC s d):=by
 refine cR (lq (n:=0) (Bs hd) (lF d)) ?_;have er:Ev (ak cM (ak aF (vW 1) (kW (.int 0))) (kW (.str "run"))) (.val (aV s)::.val (yD d)::List.replicate 0 Sl.un) (.bl (jX d)):=zmA d (i:=1) rfl;have el:=fu (jR (aJ (aG (d:=.non)) (aJ (Cp (cG (s:=s) (S:=.val (aV s)::.val (yD d)::List.replicate 0 Sl.un) (i:=0) rfl (m4 s)) (aG (d:=.int 1))) aY)));refine iV (uD (k:=if jX d then 1 else 0) (d:=uC s d) el (wK (aJ er aY) λP p=>p) ?_) rfl;unfold uC;cases jX d
 .exact fL (j:=0) rfl
 .exact fL (j:=1) rfl
def zrw(h:xs.map D.old=iQ t):(D.dct n MK xs).old=aV t:=by rw[D.old,h];rfl
def in3(hi:S[i]?=some (.val (.str w)))(hw:cA w=true):fG (bG (ak (dY false) (vW i) (bu (aq (kW (.str "hand")) (aq (kW (.str "heed")) (aq (kW (.str "aside")) ao)))))) S (decide (w∈[("hand":Str),"heed","aside"])):=
 dC (xj (neg:=false) (hs:=["hand","heed","aside"]) (aA hi) (iG (aJ aG (aJ aG (aJ aG aY)))) hw (by
  intro y hy;simp only[iU,lz,uL]at hy;rcases hy with rfl|rfl|rfl<;>exact bR))
def zq2(hn:x∉hs.map (·.1)):bF (hs.map (·.1)) x=(hs++[(x,true)]).map (·.1)/\aW (hs.map (·.1)) (hs.map λp=>D.bl p.2) x (.bl true)=(hs++[(x,true)]).map λp=>D.bl p.2:=by
 have:(hs.map (·.1)).contains x=false:=by rw[<-YCv,zR];exact hn
 unfold bF aW;rw[this];exact⟨by rw[qT];rfl,by rw[qT];rfl⟩
def zlS(hn:x∈hs.map (·.1)):bF (hs.map (·.1)) x=(mJ hs x b).map (·.1)/\aW (hs.map (·.1)) (hs.map λp=>D.bl p.2) x (.bl b)=(mJ hs x b).map λp=>D.bl p.2:=by
 have:(hs.map (·.1)).contains x=true:=zR.mpr hn
 unfold bF aW;rw[this,Do];refine⟨rfl,?_⟩;rw[if_pos rfl];unfold mJ;clear hn this
 induction hs with
 |nil=>rfl
 |cons p hs ih=>
  simp only[d7,List.zipWith_cons_cons,ih];congr 1;split<;>rfl
abbrev mY(s:Ya)(d:Yd):List D:=[.lst false (s.pl.map dO),.fdc (aR s) (s.hs.map λp=>.bl p.2),.lst false (s.rs.map b7),.int s.en,.int s.al,.lst true (s.ds++[yD d])]
def zkE:CT [.lst false (s.pl.map dO),.fdc (aR s) (s.hs.map λp=>.bl p.2),.lst false (s.rs.map b7),.int e,.int s.al,.lst true (s.ds++[yD d])] s.pl:=by
 unfold CT;rw[d7,iH (gj qz _)];exact mk1
def Ec(ha:a.old=.lst false (t.pl.map dO))(hb:b=.fdc (aR t) (t.hs.map λp=>.bl p.2))(hc:c.old=.lst false (t.rs.map b7))(he:e=t.en)(hf:f=t.al)(hL:L.old=.lst false t.ds):(D.dct true MK [a,b,c,.int e,.int f,L]).old=aV t:=by
 refine zrw ?_;subst hb;subst he;subst hf;simp only[d7,rZ];rw[ha,hc,hL,zlg (gj (λ_=>zrh _) _),j0,j0];rfl
def wk(d:Yd):Nat:=match d with
 |.mark _|.settle _=>0
 |.hand _|.heed _|.aside _=>1
 |.run _ _ _ _=>2
 |.strike _=>3
 |.mend _ _=>4
 |.allow _=>5
section
variable{s:Ya}{d:Yd}{S:Env}
def yf(d:Yd)(h2:S[2]?=some (.val (.str (nR d))))(hb:decide (wk d=0)=b:=by rfl):fG (uJ (bG (ak cM (vW 2) (kW (.str "mark")))) (bG (ak cM (vW 2) (kW (.str "settle"))))) S b:=bU (Am (vg h2 (uK d) bR) λ_=>vg h2 (uK d) bR) (by rw[<-hb];cases d<;>kernel_rfl)
def Cu(d:Yd)(h2:S[2]?=some (.val (.str (nR d))))(hb:decide (wk d=1)=b:=by rfl):fG (bG (ak (dY false) (vW 2) (bu (aq (kW (.str "hand")) (aq (kW (.str "heed")) (aq (kW (.str "aside")) ao)))))) S b:=bU (in3 h2 (uK d)) (by rw[<-hb];cases d<;>kernel_rfl)
def wk2(d:Yd)(h2:S[2]?=some (.val (.str (nR d))))(hb:decide (wk d=2)=b:=by rfl):fG (bG (ak cM (vW 2) (kW (.str "run")))) S b:=bU (vg h2 (uK d) bR) (by rw[<-hb];cases d<;>kernel_rfl)
def wk3(d:Yd)(h2:S[2]?=some (.val (.str (nR d))))(hb:decide (wk d=3)=b:=by rfl):fG (bG (ak cM (vW 2) (kW (.str "strike")))) S b:=bU (vg h2 (uK d) bR) (by rw[<-hb];cases d<;>kernel_rfl)
def wk4(d:Yd)(h2:S[2]?=some (.val (.str (nR d))))(hb:decide (wk d=4)=b:=by rfl):fG (bG (ak cM (vW 2) (kW (.str "mend")))) S b:=bU (vg h2 (uK d) bR) (by rw[<-hb];cases d<;>kernel_rfl)
end
def ue(hi:S[i]?=some (.val (yD d)))(h:(di d)[j]?=some y):Ev (ak aF (vW i) (kW (.int (j+1:Nat)))) S y:=jY (t:=.str (nR d)::di d) (k:=(j+1:Nat)) (aA hi) aG (fL (j:=j+1) h)
def zuR:WS:=gP 0 (kW (.str "places")) (ak bh (mq 0 (kW (.str "places"))) (aM (aX (aq (bu (aq (ak aF (vW 1) (kW (.int 1))) (aq (ak bh (u9 0 2 sG (aq (ak aF (vW 1) (kW (.int 1))) ao)) (kW (.int 1))) ao))) ao))))
def zvv:WS:=xn 3 (mq 0 (kW (.str "heeded"))) (ak jT (vW 2) (kW (.str "aside"))) (ak aF (vW 1) (kW (.int 1))) (gP 0 (kW (.str "heeded")) (vW 3))
section
variable{s:Ya}{d:Yd}
abbrev DG(t:Ya):En:={nx:=λ_=>(D.non).old=aV t,rt:=λv=>v.old=aV t,bk:=λ_=>False,ct:=λ_=>False}
abbrev SM(s:Ya)(d:Yd):Env:=[.dic MK (mY s d),.val (yD d),.val (.str (nR d)),.un,.un,.un]
def zks(ok:dH s)(hx:Tx x)(ha:di d=[.str x])(hd:∀y∈s.ds++[yD d],y.old=y):aC zuR (xf 0) (DG {s with pl:=s.pl++[mW s.pl x],ds:=s.ds++[yD d]}) (SM s d):=by
 have e1:∀{S:Env},S[1]?=some (.val (yD d))->Ev (ak aF (vW 1) (kW (.int 1))) S (.str x):=λh=>ue (j:=0) h (by rw[ha];rfl);refine Bl (d:=.lst true (s.pl.map dO++[dO (mW s.pl x)])) rfl rfl (by decide) (vo (Ck rfl mk1) (fu (jR (aJ (iG (aJ (e1 rfl) (aJ (Cp (zkI rfl (aJ (e1 rfl) aY) (zey (n:=true) zkE ok.p hx.ok) trivial) aG) aY))) aY))) (by rw[b8];have:=ok.p.ln;show s.pl.length+1<=100000;omega)) ?_;rw[mq1,mp1];refine Ec (t:={s with pl:=s.pl++[mW s.pl x],ds:=s.ds++[yD d]}) ?_ rfl (iH (gj Az _)) rfl rfl (iH hd);rw[<-El (f:=dO),<-qT];exact iH (gj qz _)
def zih(ok:dH s)(ha:di d=[.str x])(hb:(!decide (nR d="aside"))=b)(hp:bF (aR s) x=hs.map (·.1)/\aW (aR s) (s.hs.map λp=>D.bl p.2) x (.bl b)=hs.map λp=>D.bl p.2)(hd:∀y∈s.ds++[yD d],y.old=y):aC zvv (xf 0) (DG {s with sd:=sd,hs:=hs,ds:=s.ds++[yD d]}) (SM s d):=by
 have e1:∀{S:Env},S[1]?=some (.val (yD d))->Ev (ak aF (vW 1) (kW (.int 1))) S (.str x):=λh=>ue (j:=0) h (by rw[ha];rfl);refine ztY (ks:=aR s) (xs:=s.hs.map λp=>.bl p.2) (v:=.bl b) (z:=x) (by show 3<6;decide) (Ck rfl mk2) (by have:=ok.h.ln;show(s.hs.map (·.1)).length<1000;rw[b8];omega) (lW (zri (aA rfl) aG (uK d) bR) (congrArg D.bl hb)) (e1 rfl) ?_;rw[hp.1,hp.2];refine Bl (d:=.fdc (hs.map (·.1)) (hs.map λp=>.bl p.2)) rfl rfl (by decide) (aA rfl) ?_;rw[mq2,mp2];exact Ec (t:={s with sd:=sd,hs:=hs,ds:=s.ds++[yD d]}) (iH (gj qz _)) rfl (iH (gj Az _)) rfl rfl (iH hd)
end
noncomputable def zuY:WS:=aC (Ao 0 (kW (.str "entered")) (kW (.int 1)))
  (aC (aQ (.nm 4) (ak bh (bu (aq (mq 0 (kW (.str "entered"))) (aq (u9 0 2 vK (aq (ak aF (vW 1) (kW (.int 1))) ao)) (aq (u9 0 2 vK (aq (ak aF (vW 1) (kW (.int 2))) ao)) ao)))) (ji (vW 1) (rH (kW (.int 3))) rK)))
  (gP 0 (kW (.str "rows")) (ak bh (mq 0 (kW (.str "rows"))) (aM (aX (aq (vW 4) ao))))))
def zuZ:WS:=gP 0 (kW (.str "rows")) (aM (fC [none,some 1] (fM (mq 0 (kW (.str "rows")))) (.nm 0) (bG (ak jT (ak aF (vW 0) (kW (.int 0))) (ak aF (vW 1) (kW (.int 1))))) (vW 0)))
noncomputable def ztE:WS:=aC (gV 5 (aX ao))
  (aC (pO (fM (mq 0 (kW (.str "rows")))) (.nm 4) (je 5 (ak aF (aM (aX (aq (vW 4) (aq (ak bh (ji (vW 4) rK (rH (kW (.int 3)))) (bu (aq (ak aF (vW 1) (kW (.int 2))) (aq (ak aF (vW 4) (kW (.int 4))) ao)))) ao)))) (cbW lL (aq (ak cM (ak aF (vW 4) (kW (.int 0))) (ak aF (vW 1) (kW (.int 1)))) ao)))))
  (j7 5 (gP 0 (kW (.str "rows")) (vW 5))))
def zus(ok:dH s)(ha:Tx a)(hb:Tx b)(ca:0<bw s.pl a)(cb:0<bw s.pl b)(hd:∀y∈s.ds++[yD (.run a b r h)],y.old=y):aC zuY (xf 0) (DG (ir s (.run a b r h))) (SM s (.run a b r h)):=by
 refine zsf (i:=0) (S:=SM s (.run a b r h)) (ks:=MK) (xs:=mY s (.run a b r h)) (a:=s.en) (b:=1) rfl rfl (by decide) mk4 aG ?_;rw[mq4,mp4];show aC _ _ _ [.dic MK [.lst false (s.pl.map dO),.fdc (aR s) (s.hs.map λp=>.bl p.2),.lst false (s.rs.map b7),.int (s.en+1),.int s.al,.lst true (s.ds++[yD (.run a b r h)])],.val (yD (.run a b r h)),.val (.str "run"),.un,.un,.un];have cut:cutD [D.str "run",.str a,.str b,.int r,.str h] (some 3) none=[.int r,.str h]:=by kernel_rfl
 have v1:Ev (vW 1) [.dic MK [.lst false (s.pl.map dO),.fdc (aR s) (s.hs.map λp=>.bl p.2),.lst false (s.rs.map b7),.int (s.en+1),.int s.al,.lst true (s.ds++[yD (.run a b r h)])],.val (yD (.run a b r h)),.val (.str "run"),.un,.un,.un] (.tup [.str "run",.str a,.str b,.int r,.str h]):=aA rfl;refine jt (d:=b7 (qK s a b r h)) (wN (s:=[.int (s.en+1),.int (lX s.pl a),.int (lX s.pl b)]) (t:=[.int r,.str h]) (iG (aJ (Ck (i:=0) rfl mk4) (aJ (zkI (i:=0) rfl (aJ (jY (k:=1) (d:=.str a) v1 aG (fL (j:=1) rfl)) aY) (zeF zkE ok.p ok.pt ha.ok ca) trivial) (aJ (zkI (i:=0) rfl (aJ (jY (k:=2) (d:=.str b) v1 aG (fL (j:=2) rfl)) aY) (zeF zkE ok.p ok.pt hb.ok cb) trivial) aY)))) (lW (zlE v1 (Fb (aG (d:=.int 3))) DR) (congrArg D.tup cut)) (by show 5<=100000;decide)) ?_;refine Bl (d:=.lst true (s.rs.map b7++[b7 (qK s a b r h)])) rfl rfl (by decide) (vo (Ck rfl mk3) (fu (jR (aJ (aA rfl) aY))) (by rw[b8];have:=ok.rl;show s.rs.length+1<=100000;omega)) ?_;rw[mq3,mp3];refine Ec (t:=ir s (.run a b r h)) (iH (gj qz _)) rfl ?_ rfl rfl (iH hd);rw[<-El (f:=b7),<-qT];exact iH (gj Az _)
def znm(ok:dH s)(hd:∀y∈s.ds++[yD (.strike n)],y.old=y):aC zuZ (xf 0) (DG (ir s (.strike n))) (SM s (.strike n)):=by
 have hc:=tR (sub:=[none,some 1]) (S:=SM s (.strike n)) (I:=fM (mq 0 (kW (.str "rows")))) (t:=.nm 0) (C:=bG (ak jT (ak aF (vW 0) (kW (.int 0))) (ak aF (vW 1) (kW (.int 1))))) (E:=vW 0) b7 (λr=>if !decide (r.n=n)then some (b7 r)else none) s.rs (rQ (Ck rfl mk3)) (by have:=ok.rl;omega) (λr _=>by
  have ev:∀{S:Env},S[0]?=some (.val (b7 r))->S[1]?=some (.val (yD (.strike n)))->fG (bG (ak jT (ak aF (vW 0) (kW (.int 0))) (ak aF (vW 1) (kW (.int 1))))) S (!decide (r.n=n)):=λh0 h1=>dC (zre (jY (t:=[.int r.n,.int r.a,.int r.b,.int r.r,.str r.h]) (aA h0) aG (fL (j:=0) rfl)) (ue (j:=0) h1 rfl));cases e:!decide (r.n=n)with
  |false=>exact DX (bU (ev rfl rfl) e)
  |true=>exact vG (bU (ev rfl rfl) e) (aA rfl))
 rw[ziS]at hc;refine Bl (S:=SM s (.strike n)) (d:=.lst true ((s.rs.filter λr:Yr=>!decide (r.n=n)).map b7)) rfl rfl (by decide) (fu hc) ?_;rw[mq3,mp3];exact Ec (t:=ir s (.strike n)) (iH (gj qz _)) rfl (iH (gj Az _)) rfl rfl (iH hd)
def zum{S:Env}{E:En}{i:Nat}{xs:List D}{V:WE}{d:D}(hi:S[i]?=some (.own xs))(h:Ev V S d)(hl:xs.length<100000)(q:E.nx (S.set i (.own (xs++[d])))):je i V E S:=by
 unfold je;rw[hi];exact h _ ⟨hl,q⟩
def zsI{s:Ya}{n k:Int}(ok:dH s)(hd:∀y∈s.ds++[yD (.mend n k)],y.old=y):aC ztE (xf 0) (DG (ir s (.mend n k))) (SM s (.mend n k)):=by
 refine⟨by simp,?_⟩;show pO (fM (mq 0 (kW (.str "rows")))) (.nm 4) _ _ [.dic MK (mY s (.mend n k)),.val (yD (.mend n k)),.val (.str "mend"),.un,.un,.own []];refine rQ (Ck rfl mk3) _ ?_;have rl:=ok.rl;refine zgw (λrest S=>∃r1 r2 s4,(s4=.un\/∃v,s4=.val v)/\s.rs=r1++r2/\rest=r2.map b7/\S=[.dic MK (mY s (.mend n k)),.val (yD (.mend n k)),.val (.str "mend"),.un,s4,.own ((r1.map (pM n k)).map b7)]) ?_ ?_ _ _ ⟨[],s.rs,.un,.inl rfl,rfl,rfl,rfl⟩
 .rintro x rest S E' hn _ _ _ ⟨r1,r2,s4,h4,e,er,rfl⟩;cases r2 with
  |nil=>cases er
  |cons r r2=>
   rw[d7]at er;injection er with e1 e2
   subst e1;unfold gD;have hl:r1.length<=40:=by have:=congrArg List.length e;rw[gU]at this;omega
   have cut:cutD [D.int r.n,.int r.a,.int r.b,.int r.r,.str r.h] none (some 3)=[.int r.n,.int r.a,.int r.b]:=by kernel_rfl
   have v4:Ev (vW 4) [.dic MK (mY s (.mend n k)),.val (yD (.mend n k)),.val (.str "mend"),.un,.val (b7 r),.own ((r1.map (pM n k)).map b7)] (.tup [.int r.n,.int r.a,.int r.b,.int r.r,.str r.h]):=aA rfl;have vd:Ev (vW 1) [.dic MK (mY s (.mend n k)),.val (yD (.mend n k)),.val (.str "mend"),.un,.val (b7 r),.own ((r1.map (pM n k)).map b7)] (.tup [.str "mend",.int n,.int k]):=aA rfl;have a2:=wN (lW (zlE v4 DR (Fb (aG (d:=.int 3)))) (congrArg D.tup cut)) (iG (aJ (jY (k:=2) (d:=.int k) vd aG (fL (j:=2) rfl)) (aJ (jY (k:=4) (d:=.str r.h) v4 aG (fL (j:=4) rfl)) aY))) (by show 5<=100000;decide);refine zum (d:=b7 (pM n k r)) rfl (uD (k:=if decide (r.n=n)then 1 else 0) (fu (jR (aJ v4 (aJ a2 aY)))) (wK (aJ (pN (jY (k:=0) v4 aG (fL (j:=0) rfl)) (jY (k:=1) (d:=.int n) vd aG (fL (j:=1) rfl))) aY) λP p=>p) ?_) (by rw[b8,b8];omega) (hn _ ⟨r1++[r],r2,.val (b7 r),.inr ⟨_,rfl⟩,by rw[e];simp,e2,by rw[qT,qT];rfl⟩);unfold pM;by_cases f:r.n=n
   .rw[gB f,if_pos f];exact fL (j:=1) rfl
   .rw[gY f,if_neg f];exact fL (j:=0) rfl
 .rintro S ⟨r1,r2,s4,h4,e,er,rfl⟩;cases r2 with
  |cons r r2=>cases er
  |nil=>
   rw[YAK]at e;rw[<-e];show gP 0 (kW (.str "rows")) (vW 5) _ [.dic MK (mY s (.mend n k)),.val (yD (.mend n k)),.val (.str "mend"),.un,s4,.val (.lst true ((s.rs.map (pM n k)).map b7))];refine Bl (ks:=MK) (xs:=mY s (.mend n k)) (d:=.lst true ((s.rs.map (pM n k)).map b7)) rfl (by rcases h4 with rfl|⟨v,rfl⟩<;>rfl) (by decide) (aA rfl) ?_;rw[mq3,mp3];exact Ec (t:=ir s (.mend n k)) (iH (gj qz _)) rfl (iH (gj Az _)) rfl rfl (iH hd)
def zpY(ok:dH s)(hx:nC d)(f:why s d=none):Gm [aV s,yD d] (λv=>v.old=aV (ir s d)):=by
 have hd:∀y∈s.ds++[yD d],y.old=y:=λy hy=>by
  rcases YAJ.mp hy with z|z
  .exact(ok.dd y z).1
  .rw[lC.mp z];exact lF d
 refine cR (lq (n:=4) (Bs λy hy=>(ok.dd y hy).1) (lF d)) ?_;refine zup (xs:=iQ s) (aA rfl) ?_;refine Bl (ks:=MK) (xs:=iQ s) (d:=.lst true (s.ds++[yD d])) rfl rfl (by decide) (vo (Ck rfl (m6 s)) (fu (jR (aJ (aA rfl) aY))) (by have:=ok.dl;show s.ds.length+1<=100000;omega)) ?_;rw[mq6,show aW MK (iQ s) "deeds" (.lst true (s.ds++[yD d]))=_ from mp6];dsimp only;refine jt (S:=[.dic MK (mY s d),.val (yD d),.un,.un,.un,.un]) (d:=.str (nR d)) (d0 rfl) ?_;show aC (cW _ zuR (cW _ zvv (cW _ zuY (cW _ zuZ (cW _ ztE _))))) _ (DG (ir s d)) (SM s d);cases d with
 |mark x=>exact jj (yf (.mark x) rfl) (zks ok hx rfl hd)
 |settle x=>exact jj (yf (.settle x) rfl) (zks ok hx rfl hd)
 |hand x=>exact nZ (yf (.hand x) rfl) (jj (Cu (.hand x) rfl) (zih ok rfl (by kernel_rfl) (zq2 (mZ (mZ (show uU s x=none from f)).2).1) hd))
 |heed x=>exact nZ (yf (.heed x) rfl) (jj (Cu (.heed x) rfl) (zih ok rfl (by kernel_rfl) (zlS (Ed (mZ (show yc s x=none from f)).1)) hd))
 |aside x=>exact nZ (yf (.aside x) rfl) (jj (Cu (.aside x) rfl) (zih ok rfl (by kernel_rfl) (zlS (Ed (mZ (show wA s x=none from f)).1)) hd))
 |run a b r h=>
  have c:=(mZ (show eY s a b r h=none from f)).1;exact nZ (yf (.run a b r h) rfl) (nZ (Cu (.run a b r h) rfl) (jj (wk2 (.run a b r h) rfl) (zus ok hx.1 hx.2.1 (by omega) (by omega) hd)))
 |strike n=>exact nZ (yf (.strike n) rfl) (nZ (Cu (.strike n) rfl) (nZ (wk2 (.strike n) rfl) (jj (wk3 (.strike n) rfl) (znm ok hd))))
 |mend n k=>exact nZ (yf (.mend n k) rfl) (nZ (Cu (.mend n k) rfl) (nZ (wk2 (.mend n k) rfl) (nZ (wk3 (.mend n k) rfl) (jj (wk4 (.mend n k) rfl) (zsI ok hd)))))
 |allow k=>
  refine nZ (yf (.allow k) rfl) (nZ (Cu (.allow k) rfl) (nZ (wk2 (.allow k) rfl) (nZ (wk3 (.allow k) rfl) (nZ (wk4 (.allow k) rfl) ?_))));refine Bl (d:=.int k) rfl rfl (by decide) (ue (j:=0) rfl rfl) ?_;rw[mq5,mp5];exact Ec (t:=ir s (.allow k)) (iH (gj qz _)) rfl (iH (gj Az _)) rfl rfl (iH hd)
def Wd(E:En)(o:Option Str):Prop:=E.rt (.str (o.getD ""))
section
variable{S:Env}{C A B V:WE}{T:WT}{R:WS}{E:En}{b:Bool}{s:Ya}{d:Yd}{x n:Str}{c:Prop}[Decidable c]{o:Option Str}
def ziB(h:Ev C S (.bl b)):Ev (ak aF (aM (aX (aq (kW (.str u)) (aq (kW (.str v)) ao)))) (cbW lL (aq C ao))) S (.str (if b=true then v else u)):=by
 refine uD (k:=if b then 1 else 0) (fu (jR (aJ aG (aJ aG aY)))) (wK (aJ h aY) λP p=>p) ?_;cases b
 .exact fL (j:=0) rfl
 .exact fL (j:=1) rfl
def uq(ev:fG T S b)(hb:b=decide c)(hE:Wd E (if c then some n else o))(h:¬ c->Wd E o->R E S):aC (cW T (aP (kW (.str n))) bL) R E S:=by
 subst hb;by_cases e:c
 .rw[if_pos e]at hE;exact jj (bU ev (gB e)) (iV aG hE)
 .rw[if_neg e]at hE;exact gw (bU ev (gY e)) (h e hE)
def By(ev:Ev C S (.bl b))(hb:b=decide c)(hE:Wd E (if c then some n else none)):aP (ak aF (aM (aX (aq (kW (.str "")) (aq (kW (.str n)) ao)))) (cbW lL (aq C ao))) E S:=by
 subst hb;refine iV (ziB ev) ?_;by_cases e:c
 .rw[if_pos e]at hE;rw[if_pos (gB e)];exact hE
 .rw[if_neg e]at hE;rw[if_neg (by simpa using e)];exact hE
def zka(ev:Ev C S (.bl b))(hb:b = !decide c)(hE:Wd E (if c then some n else none)):aP (ak aF (aM (aX (aq (kW (.str n)) (aq (kW (.str "")) ao)))) (cbW lL (aq C ao))) E S:=by
 subst hb;refine iV (ziB ev) ?_;by_cases e:c
 .rw[if_pos e]at hE;rw[gB e];exact hE
 .rw[if_neg e]at hE;rw[gY e];exact hE
def zkL(h:Ev V S y)(q:E.rt y):aC (aP V) R E S:=h _ q
def Ab{U V R:WS}{E:En}(h:aC U V {E with nx:=R E} S):aC (aC U V) R E S:=h
def zrO(hA:Ev A S (.str z))(hB:Ev B S (.fdc ks xs)):fG (lR neg A B) S (neg != ks.contains z):=λP p=>hA _ (hB _ p)
def zie(hA:Ev A S (.fdc ks xs)):Ev (Ew A) S (.int ks.length):=λP p=>hA _ p
def zgs(ok:dH s)(hx:cA x=true)(h0:S[0]?=some (.val (aV s)))(hV:Ev V S (.str x)):Ev (bA 2 sG (aq (vW 0) (aq V ao))) S (.int (bw s.pl x)):=iY (aJ (aA h0) (aJ hV aY)) (zey (zqu s) ok.p hx)
def zq0(h0:S[0]?=some (.val (aV s)))(hV:Ev V S (.str x)):fG (lR neg V (ak bQ (vW 0) (kW (.str "heeded")))) S (neg != decide (x∈aR s)):=bU (zrO hV (cG h0 (m2 s))) (by
 by_cases e:x∈aR s
 .rw[gB e,zR.mpr e]
 .rw[gY e,show(aR s).contains x=false by rw[<-YCv,zR];exact e])
def pC{k j:Nat}:decide ((k:Int)=(j:Int))=decide (k=j):=by
 by_cases e:k=j
 .subst e;simp
 .rw[gY e,gY (by omega)]
def zl9(hL:Ev L S (.int i))(hV:Ev V S (.int r))(hU:Ev U S (.int k)):Ev (vf mz mz L V U) S (.bl (decide (i<=r)&&decide (r<=k))):=λP p=>hL _ (hV _ (by
 show if decide (i<=r)=true then U S (λw=>mz (.int r) w P)else P (.bl false);by_cases e:i<=r
 .rw[gB e]at p ⊢;exact hU _ p
 .rw[gY e]at p ⊢;exact p))
def zrM(hL:Ev L S (.int (-1000000000)))(hV:Ev V S (.int r))(hU:Ev U S (.int 1000000000)):Ev (vf mz mz L V U) S (.bl (okR r)):=zl9 hL hV hU
def zjR{a b h:Str}{r:Int}(ok:dH s)(ha:Tx a)(hb:Tx b):zb0 [aV s,yD (.run a b r h)] (·=.str ((eY s a b r h).getD "")):=by
 refine cR (lq (n:=5) (Bs λy hy=>(ok.dd y hy).1) (lF _)) ?_;refine znn (x1:=.str "run") (x2:=.str a) (x3:=.str b) (x4:=.int r) (x5:=.str h) (aA rfl) ?_;show aC _ _ _ [.val (aV s),.val (yD (.run a b r h)),.val (.str "run"),.val (.str a),.val (.str b),.val (.int r),.val (.str h)];refine uq (bU (Am (dC (pN (t:=0) (zgs ok ha.ok rfl (aA rfl)) aG)) λ_=>dC (pN (t:=0) (zgs ok hb.ok rfl (aA rfl)) aG)) rfl) (by rw[Bool.decide_or,<-pC,<-pC];rfl) (show Wd _ (eY s a b r h)from rfl) λ_ hE=>?_;refine uq (dC (yX (aA rfl) (aA rfl) ha.ok hb.ok)) rfl hE λ_ hE=>?_;refine uq (zq0 (x:=h) rfl (aA rfl)) (by simp) hE λ_ hE=>?_;refine uq (BZ (dC (zrM (r:=r) (zrY aG λP p=>p) (aA rfl) aG))) (by cases okR r<;>rfl) hE λ_ hE=>?_;exact By (pN (pY (cG rfl (m3 s))) aG) (by rw[b8];exact pC (j:=40)) hE
def DQ(hi:S[i]?=some (.val (yD d)))(hz:cA z=true):fG (bG (ak cM (ak aF (vW i) (kW (.int 0))) (kW (.str z)))) S (decide (nR d=z)):=dC (yX (d0 hi) aG (uK d) hz)
def d1(h1:S[1]?=some (.val (yD d)))(hy:(di d)[0]?=some y):Ev (ak aF (vW 1) (kW (.int 1))) S y:=ue (j:=0) h1 hy
def zjG(ok:dH s)(hx:Tx x):Hz [aV s,yD (.mark x)] (·=.str ((wC s x).getD "")):=by
 refine cR (lq (n:=0) (Bs λy hy=>(ok.dd y hy).1) (lF _)) ?_;refine uq (BZ (xQ (iY (aJ (d1 rfl rfl) aY) (zjs x hx.ln)))) (by cases nameB x<;>rfl) (show Wd _ (wC s x)from rfl) λ_ hE=>?_;refine gw (bU (DQ (d:=.mark x) (i:=1) rfl bR) (show decide (("mark":Str)="hand")=false by decide +kernel)) ?_;refine uq (dC (zT (zgs ok hx.ok rfl (d1 rfl rfl)) aG)) (by by_cases e:0<bw s.pl x<;>simp[e]) hE λ_ hE=>?_;exact By (pN (pY (cG rfl (m1 s))) aG) (by rw[b8];exact pC (j:=12)) hE
def zjY(ok:dH s)(hx:Tx x):Hz [aV s,yD (.hand x)] (·=.str ((uU s x).getD "")):=by
 refine cR (lq (n:=0) (Bs λy hy=>(ok.dd y hy).1) (lF _)) ?_;refine uq (BZ (xQ (iY (aJ (d1 rfl rfl) aY) (zjs x hx.ln)))) (by cases nameB x<;>rfl) (show Wd _ (uU s x)from rfl) λ_ hE=>?_;refine jj (bU (DQ (d:=.hand x) (i:=1) rfl bR) (show decide (("hand":Str)="hand")=true by decide +kernel)) (Ab ?_);refine uq (zq0 (x:=x) rfl (d1 rfl rfl)) (by simp) hE λ_ hE=>?_;exact By (pN (zie (cG rfl (m2 s))) aG) (by rw[b8];exact pC (j:=10)) hE
def in2(h1:S[1]?=some (.val (yD d)))(hu:cA u=true)(hv:cA v=true):fG (bG (ak (dY false) (ak aF (vW 1) (kW (.int 0))) (bu (aq (kW (.str u)) (aq (kW (.str v)) ao))))) S (decide (nR d∈[u,v])):=
 dC (xj (neg:=false) (hs:=[u,v]) (d0 h1) (iG (aJ aG (aJ aG aY))) (uK d) (by
  intro y hy;simp only[iU,lz,uL]at hy;rcases hy with rfl|rfl<;>assumption))
def zoN(hA:Ev A S (.bl b))(hB:b=true->Ev B S (.bl b')):Ev (pJ A B) S (.bl (b&&b')):=λP p=>hA _ (by
 cases b
 .exact p
 .exact hB rfl _ p)
def zrC{n:Int}(ok:dH s)(hy:(di d)[0]?=some (.int n)):Ev (cbW anyF (aq (aM (fC [none,some 1] (fM (ak bQ (vW 0) (kW (.str "rows")))) (.nm 0) dq (ak cM (ak aF (vW 0) (kW (.int 0))) (ak aF (vW 1) (kW (.int 1)))))) ao)) [.val (aV s),.val (yD d)] (.bl (decide (n∈s.rs.map (·.n)))):=by
 have hc:=tR (S:=[.val (aV s),.val (yD d)]) (sub:=[none,some 1]) (I:=fM (ak bQ (vW 0) (kW (.str "rows")))) (t:=.nm 0) (C:=dq) (E:=ak cM (ak aF (vW 0) (kW (.int 0))) (ak aF (vW 1) (kW (.int 1)))) b7 (λr=>some (.bl (decide (r.n=n)))) s.rs (rQ (cG rfl (m3 s))) (by have:=ok.rl;omega) (λr _=>by
  exact vG Hw (pN (jY (t:=[.int r.n,.int r.a,.int r.b,.int r.r,.str r.h]) (aA rfl) aG (fL (j:=0) rfl)) (d1 rfl hy)))
 rw[Eh]at hc;refine wK (aJ (fu hc) aY) λP p=>⟨s.rs.map λr=>decide (r.n=n),by rw[YAR];rfl,?_⟩
 have:((s.rs.map λr=>decide (r.n=n)).any id)=decide (n∈s.rs.map (·.n)):=by
  rw[Bool.eq_iff_iff,List.any_eq_true,yw]
  simp
 rw[this];exact p
def Fx(ok:dH s)(hx:x∈aR s):dZ (aR s) (s.hs.map λp=>D.bl p.2) x=some (.bl (!decide (x∈s.sd))):=by
 have h:=ok.sh;show dZ (s.hs.map (·.1)) _ _=_;have hx:x∈s.hs.map (·.1):=hx;generalize s.hs=hs at h hx
 induction hs with
 |nil=>cases hx
 |cons p hs ih=>
  rw[d7,d7];unfold dZ;by_cases e:p.1=x
  .rw[if_pos e,<-e,h p gC]
  .rw[if_neg e];rw[d7]at hx;exact ih (λq hq=>h q (kj _ hq)) ((iU.mp hx).resolve_left λz=>e z.symm)
def zp1(ok:dH s)(hx:nC d):zE [aV s,yD d] (·=.str ((why s d).getD "")):=by
 refine cR (lq (n:=0) (Bs λy hy=>(ok.dd y hy).1) (lF d)) ?_;have er:=DQ (d:=d) (S:=[.val (aV s),.val (yD d)]) (i:=1) (z:="run") rfl bR;have e1:=in2 (d:=d) (S:=[.val (aV s),.val (yD d)]) (u:="mark") (v:="hand") rfl bR bR;have e2:=DQ (d:=d) (S:=[.val (aV s),.val (yD d)]) (i:=1) (z:="settle") rfl bR;have e3:=in2 (d:=d) (S:=[.val (aV s),.val (yD d)]) (u:="strike") (v:="mend") rfl bR bR;have e4:=DQ (d:=d) (S:=[.val (aV s),.val (yD d)]) (i:=1) (z:="allow") rfl bR;have e5:=DQ (d:=d) (S:=[.val (aV s),.val (yD d)]) (i:=1) (z:="aside") rfl bR;have em:=yX (d0 (d:=d) (S:=[.val (aV s),.val (yD d)]) (i:=1) rfl) (aG (d:=.str "mend")) (uK d) bR;cases d with
 |run a b r h=>exact jj (bU er (by kernel_rfl)) (zkL (iY (aJ (aA rfl) (aJ (aA rfl) aY)) (zjR ok hx.1 hx.2.1)) rfl)
 |mark x=>exact gw (bU er (by kernel_rfl)) (jj (bU e1 (by kernel_rfl)) (zkL (iY (aJ (aA rfl) (aJ (aA rfl) aY)) (zjG ok hx)) rfl))
 |hand x=>exact gw (bU er (by kernel_rfl)) (jj (bU e1 (by kernel_rfl)) (zkL (iY (aJ (aA rfl) (aJ (aA rfl) aY)) (zjY ok hx)) rfl))
 |settle x=>
  refine gw (bU er (by kernel_rfl)) (gw (bU e1 (by kernel_rfl)) (jj (bU e2 (by kernel_rfl)) (Ab ?_)));refine uq (dC (pN (t:=0) (zgs ok (Tx.ok hx) rfl (d1 rfl rfl)) aG)) (pC (j:=0)) (show Wd _ (ym s x)from rfl) λ_ hE=>?_;exact By (pN (pY (cG rfl (m1 s))) aG) (by rw[b8];exact pC (j:=12)) hE
 |strike n=>
  refine gw (bU er (by kernel_rfl)) (gw (bU e1 (by kernel_rfl)) (gw (bU e2 (by kernel_rfl)) (jj (bU e3 (by kernel_rfl)) (Ab ?_))));refine uq (BZ (xQ (zrC (d:=.strike n) ok rfl))) (by rw[<-decide_not]) (show Wd _ (wI s n)from rfl) λ_ hE=>?_;exact By (c:=False) (zoN em λh=>absurd h (by decide)) (b:=false&&false) (by rfl) hE
 |mend n k=>
  refine gw (bU er (by kernel_rfl)) (gw (bU e1 (by kernel_rfl)) (gw (bU e2 (by kernel_rfl)) (jj (bU e3 (by kernel_rfl)) (Ab ?_))));refine uq (BZ (xQ (zrC (d:=.mend n k) ok rfl))) (by rw[<-decide_not]) (show Wd _ (zm s n k)from rfl) λ_ hE=>?_;exact By (zoN em λ_=>zow (zrM (r:=k) (zrY aG λP p=>p) (ue (d:=.mend n k) (j:=1) rfl rfl) aG)) (by rw[show decide (nR (.mend n k)="mend")=true by kernel_rfl];cases okR k<;>rfl) hE
 |allow k=>
  refine gw (bU er (by kernel_rfl)) (gw (bU e1 (by kernel_rfl)) (gw (bU e2 (by kernel_rfl)) (gw (bU e3 (by kernel_rfl)) (jj (bU e4 (by kernel_rfl)) ?_))));refine zka (zl9 (r:=k) aG (d1 (d:=.allow k) rfl rfl) aG) ?_ (show Wd _ (v7 k)from rfl);by_cases e:k<0\/3<k
  .rw[gB e];rcases e with e|e
   .rw[gY (by omega)];rfl
   .rw[gY (show ¬ k<=3 by omega),Bool.and_false];rfl
  .rw[gY e,gB (by omega),gB (by omega)];rfl
 |aside x=>
  refine gw (bU er (by kernel_rfl)) (gw (bU e1 (by kernel_rfl)) (gw (bU e2 (by kernel_rfl)) (gw (bU e3 (by kernel_rfl)) (gw (bU e4 (by kernel_rfl)) ?_))));refine uq (zq0 (x:=x) rfl (d1 rfl rfl)) (by simp) (show Wd _ (wA s x)from rfl) λi1 hE=>?_;refine jj (bU e5 (by kernel_rfl)) ?_;exact zka (Er (z:=x) (cG rfl (m2 s)) (d1 rfl rfl) (Fx ok (Ed i1))) rfl hE
 |heed x=>
  refine gw (bU er (by kernel_rfl)) (gw (bU e1 (by kernel_rfl)) (gw (bU e2 (by kernel_rfl)) (gw (bU e3 (by kernel_rfl)) (gw (bU e4 (by kernel_rfl)) ?_))));refine uq (zq0 (x:=x) rfl (d1 rfl rfl)) (by simp) (show Wd _ (yc s x)from rfl) λi1 hE=>?_;refine gw (bU e5 (by kernel_rfl)) ?_;exact By (Er (z:=x) (cG rfl (m2 s)) (d1 rfl rfl) (Fx ok (Ed i1))) (by rw[decide_not]) hE
end
def KD(R:WOA)(S:Env)(qh:bN)(ds:List D):Prop:=∀K:List D->bN->Prop,K ds qh->R S qh K
def Ag:KD jN S qh []:=λK k=>k
def Ak{V:bN->WE}{R:WOA}{S:Env}{qh:bN}{d:D}{ds:List D}(h:Ev (V qh) S d)(hR:KD R S qh ds):KD (mX (qy V) R) S qh (d::ds):=λK k=>h _ (hR _ k)
def zlR{A:il}{i n:Nat}{m:Str}{F:pH}{y:Str->bN->Prop}{R:WOA}{S:Env}{qh:bN}{Q P:D->bN->Prop}{qg:Str->bN->Prop}{q:Addr}{ks bs us ds:List D}(hi:S[i]?=some (.val (.obj q)))(hS:qh q=some (cI A ks bs us))(hm:NF m)(hR:KD R S qh ds)(h:F (.obj q::ds) qh P qg)(k:∀d qk,P d qk->Q d qk)(l:∀n qk,qg n qk->y n qk)(hl:ds.length+1=n:=by rfl):uV i A.fen m n F y R S qh Q:=by
 unfold uV;rw[hi];exact⟨⟨_,hS,rfl,zrs hm⟩,hR _ ⟨hl,J6 h k l⟩⟩
def zo4:NF "deed":=by decide +kernel
def zn8{i:Nat}{V:bN->WE}{R:WF}{E:pX}{qh:bN}{S:Env}{d:D}(h:Ev (V qh) S d)(q:R E qh (S.set i (.val d))):cU (nG λqh=>aQ (.nm i) (V qh)) R E qh S:=h _ (by unfold gD;exact q)
def zt5(h:why s d=some nm):nm∈tO:=by
 unfold tO;cases d<;>simp only[why,v7,wA,uU,yc,wC,zm,eY,ym,wI]at h<;>(repeat' split at h)<;>cases h<;>simp
def zso:∀nm∈tO,cA nm=true/\decide (nm="")=false:=by decide +kernel
def GR(A:il)(s:Ya)(d:Yd)(bs:List D):Ob:=cI A (s.ds++[yD d]) (bs++[bW s]++[bW (ir s d)]) []
def zty(s:Ya)(d:Yd):eF (uC s d) 5=true:=by unfold uC;split<;>rw[eF]
section
variable{A:il}{qh:bN}{q:Addr}{s:Ya}{d:Yd}{nm:Str}{bs us:List D}{m:D}
def zpM(hm:m.old=aV s)(hS:qh q=some (cI A s.ds (bs++[bW s]) us))(ok:dH s)(hx:nC d)(f:why s d=none)(hb:bs.length<=1000) :
  zdT A [.obj q,m,yD d] qh (λv qk=>v.old=aV (ir s d)/\qk=jk qh q (GR A s d bs)) (λ_ _=>False):=by
 refine IK (S:=[.val (.obj q),.val (aV s),.val (yD d)]) (by unfold fU;simp[rY,hm,lF]) ?_;have hd:∀y∈s.ds,y.old=y:=λy hy=>(ok.dd y hy).1;show uV 0 A.fen "deed" 2 (Ex A) (λ_ _=>False) (mX (qy λqh=>vW 2) jN) [.val (.obj q),.val (aV s),.val (yD d)] qh _;refine zlR (ds:=[yD d]) (q:=q) rfl hS zo4 (Ak (aA rfl) Ag) (zmy hS ok hx hb) (λv qk h=>?_) λ_ _ z=>by rw[f]at z;cases z.1
 obtain⟨_,hv,rfl⟩:=h;have et:Ev (bA 2 Kq (aq (vW 1) (aq (vW 2) ao))) [.val (.obj q),.val (aV s),.val (yD d)] (uC s d):=iY (aJ (aA rfl) (aJ (aA rfl) aY)) (zpR hd);refine et _ ⟨rfl,qu (Hj 5 v (uC s d) (hv.trans (zpN s d).symm) (by rw[<-zez,hv];exact zty s d)) λe z=>?_⟩;subst z;show aP (bA 2 Gm (aq (vW 1) (aq (vW 2) ao))) _ [.val (.obj q),.val (aV s),.val (yD d)];exact⟨rfl,qu (zpY ok hx f) λe z=>⟨z,rfl⟩⟩
end
def pW(ha:a.old=a):fU (n+1) [a]=.val a::List.replicate n .un:=by
 unfold fU;simp[ha]
def nq(pl:List (Str×Nat)):List D:=pl.filterMap λp=>if decide (((p.2:Nat):Int)=1)then some (.str p.1)else none
def zsm(pl:List (Str×Nat)):∀y∈nq pl,y.old=y:=λy hy=>by
 obtain⟨p,_,e⟩:=CG.mp hy;split at e<;>cases e
 exact iy _
def zhX(hI:jc I S (pl.map dO))(hl:pl.length<=1000):jc (fC [none,none] I (.tp 2 (.cons (.nm 0) (.cons (.nm 1) .nil))) (bG (ak cM (vW 1) (kW (.int 1)))) (vW 0)) S (nq pl):=
 tR (sub:=[none,none]) (t:=.tp 2 (.cons (.nm 0) (.cons (.nm 1) .nil))) (C:=bG (ak cM (vW 1) (kW (.int 1)))) (E:=vW 0) dO (λp=>if decide (((p.2:Nat):Int)=1)then some (.str p.1)else none) pl hI (by omega) λp _=>by
  have ev:∀{S:Env},S[1]?=some (.val (.int p.2))->fG (bG (ak cM (vW 1) (kW (.int 1)))) S (decide (((p.2:Nat):Int)=1)):=λh=>dC (pN (aA h) aG);cases e:decide (((p.2:Nat):Int)=1)with
  |true=>exact zt1 (e▸ev rfl) (aA rfl)
  |false=>exact zrI (e▸ev rfl)
def zjA(hl:pl.length<=1000):zeB [.tup (pl.map dO)] (·=.lst true (nq pl)):=by
 refine cR (pW (n:=0) (jE (gj qz _))) ?_;exact iV (fu (zhX (yR (aA rfl)) hl)) rfl
theorem zlh{α:Type}{p:α->Bool}{g:α->D}:∀xs:List α,(xs.filterMap λx=>if p x then some (g x)else none)=(xs.filter p).map g
 |[]=>rfl
 |x::xs=>by
  rw[YAQ,YCu];cases p x
  .exact zlh xs
  .exact congrArg (g x::·) (zlh xs)
def Ft{α:Type}{sub:List (Option Nat)}{I:WL}{C:WT}{S:Env}{emb:α->D}(p:α->Bool){ys:List α}(hI:jc I S (ys.map emb))(hl:ys.length<=100000)(h:∀x∈ys,fG C ((eE sub S).set 0 (.val (emb x))) (p x))(h0:0<(eE sub S).length:=by exact Nat.zero_lt_succ _):jc (fC sub I (.nm 0) C (vW 0)) S ((ys.filter p).map emb):=by
 have:=tR (sub:=sub) (t:=.nm 0) (C:=C) (E:=vW 0) emb (λx=>if p x then some (emb x)else none) ys hI hl λx hx=>by
  have e:=h x hx;cases f:p x with
  |false=>exact DX (bU e f)
  |true=>exact vG (bU e f) (aA (by simp[h0]))
 rw[zlh]at this;exact this
def uR(s:Ya):List Str:=(aR s).filter λx=>decide (x∈s.sd)
def tU(s:Ya):List Yr:=s.rs.filter λr=>!decide (r.h∈s.sd)
def vV(s:Ya):List D:=[.lst false (nq s.pl),.lst false ((aR s).map D.str),.lst false ((uR s).map D.str),.lst false (s.pl.map dO),.int s.al,.lst false (s.rs.map (cX s.pl)),.lst false (((tU s).map (·.n)).map D.int),.lst false s.ds]
section
variable{A:il}{qh:bN}{q:Addr}{s:Ya}{bs us:List D}
def Ka(hi:S[i]?=some (.val (.obj q)))(hS:qh q=some (cI A s.ds (bs++[bW s]) us))(h:dZ BK (iD s) z=some d):Ev (ak bQ (jU qh i A.fen "now" 1 (rP A) (λ_ Q=>Q [])) (kW (.str z))) S d:=Cd (zlQ hi hS) h
def kZ(ok:dH s):(aR s).length<=10:=by rw[b8];exact ok.h.ln
def zm6(hS:qh q=some (cI A s.ds (bs++[bW s]) us))(ok:dH s):zdN A qh [.obj q] (·=.lst true (nq s.pl)):=by
 refine cR (pW (n:=0) (rY q)) ?_;exact iV (iY (aJ (Ka rfl hS (b1 s)) aY) (zjA (by have:=ok.p.ln;omega))) rfl
def zmJ(hS:qh q=some (cI A s.ds (bs++[bW s]) us)):zdJ A qh [.obj q] (·=.lst true ((aR s).map D.str)):=by
 refine cR (pW (n:=0) (rY q)) ?_;exact iV (fu (zk0 (Ka rfl hS (b2 s)))) rfl
def zk6(hS:qh q=some (cI A s.ds (bs++[bW s]) us)):zda A qh [.obj q] (·=.lst true (s.pl.map dO)):=by
 refine cR (pW (n:=0) (rY q)) ?_;exact iV (fu (zk0 (Ka rfl hS (b1 s)))) rfl
def zkh(hS:qh q=some (cI A s.ds (bs++[bW s]) us)):zcH A qh [.obj q] (·=.int s.al):=by
 refine cR (pW (n:=0) (rY q)) ?_;exact iV (Ka rfl hS (b6 s)) rfl
def zpm(hS:qh q=some (cI A s.ds (bs++[bW s]) us)):zeC A qh [.obj q] (·=.lst true (s.rs.map (cX s.pl))):=by
 refine cR (pW (n:=0) (rY q)) ?_;exact iV (fu (zk0 (Ka rfl hS (b4 s)))) rfl
def zlc(hS:qh q=some (cI A s.ds (bs++[bW s]) us))(ok:dH s):zc8 A qh [.obj q] (·=.lst true ((uR s).map D.str)):=by
 refine cR (pW (n:=1) (rY q)) ?_;refine jt (zlQ rfl hS) ?_;exact iV (fu (Ft (S:=[.val (.obj q),.val (bW s)]) (λx=>decide (x∈s.sd)) (yR (fH rfl (b2 s))) (by have:=kZ ok;omega) (λx hx=>dC (xj (neg:=false) (aA rfl) (fH (i:=1) rfl (b3 s)) (ok.h.cA x hx) ok.sok)))) rfl
def zqt(ok:dH s):zbz [bW s] (·=.lst true ((tU s).map (cX s.pl))):=by
 refine cR (pW (n:=0) (qU s)) ?_;exact iV (fu (Ft (S:=[.val (bW s)]) (λr=>!decide (r.h∈s.sd)) (yR (fH rfl (b4 s))) (by have:=ok.rl;omega) (λr hr=>dC (xj (neg:=true) (jY (k:=6) (t:=[.int r.n,.str (gR s.pl r.a).1,.int (gR s.pl r.a).2,.str (gR s.pl r.b).1,.int (gR s.pl r.b).2,.int r.r,.str r.h]) (aA rfl) aG (fL (j:=6) rfl)) (fH (i:=1) rfl (b3 s)) (ok.h.cA _ (ok.ra r hr).2.2) ok.sok)))) rfl
def zoi(ok:dH s):(tU s).length<=1000:=YAB (Jj _ _) (by have:=ok.rl;omega)
def zh9(hS:qh q=some (cI A s.ds (bs++[bW s]) us))(ok:dH s):zch A qh [.obj q] (·=.lst true (((tU s).map (·.n)).map D.int)):=by
 refine cR (pW (n:=0) (rY q)) ?_;exact iV (zlk (emb:=cX s.pl) (rQ (iY (aJ (zlQ rfl hS) aY) (zqt ok))) (zoi ok) λr=>⟨_,rfl⟩) rfl
def zmU(hS:qh q=some (cI A s.ds (bs++[bW s]) us))(ok:dH s):zdG A qh [.obj q] (·=.lst true s.ds):=by
 refine cR (pW (n:=0) (rY q)) ?_;refine⟨_,0,s.ds,hS,rfl,zmm,?_⟩;show D.lst true (s.ds.map D.old)=_;rw[FW λx hx=>(ok.dd x hx).1]
def zql:NF "marks":=by decide +kernel
def zqV:NF "hands":=by decide +kernel
def znl:NF "asides":=by decide +kernel
def znS:NF "stands":=by decide +kernel
def zmM:NF "allowed":=by decide +kernel
def zsQ:NF "runs":=by decide +kernel
def zkP:NF "counting":=by decide +kernel
def zqQ:NF "deeds":=by decide +kernel
def znE(ok:dH s):[D.lst n1 (nq s.pl),.lst n2 ((aR s).map D.str),.lst n3 ((uR s).map D.str),.lst n4 (s.pl.map dO),.int s.al,.lst n5 (s.rs.map (cX s.pl)),.lst n6 (((tU s).map (·.n)).map D.int),.lst n7 s.ds].map D.old=vV s:=by
 simp only[d7,rZ];rw[iH (zsm _),iH (gj iy _),iH (gj iy _),iH (gj qz _),j0,iH (gj (J0 _) _),iH (gj j0 _),iH λx hx=>(ok.dd x hx).1];rfl
def zpZ(hS:qh q=some (cI A s.ds (bs++[bW s]) us))(ok:dH s):zdR A qh [.obj q] (λv=>v.old=.lst false (vV s)):=by
 refine cR (pW (n:=1) (rY q)) ?_;refine jt (fu (jR (aJ (yu rfl hS zql (zm6 hS ok)) (aJ (yu rfl hS zqV (zmJ hS)) (aJ (yu rfl hS znl (zlc hS ok)) (aJ (yu rfl hS znS (zk6 hS)) (aJ (yu rfl hS zmM (zkh hS)) (aJ (yu rfl hS zsQ (zpm hS)) (aJ (yu rfl hS zkP (zh9 hS ok)) aY))))))))) ?_;refine iV (vo (aA rfl) (fu (jR (aJ (yu rfl hS zqQ (zmU hS ok)) aY))) (by show 8<=100000;decide)) ?_;show(D.lst true _).old=_;rw[D.old];exact congrArg (D.lst false) (znE ok)
def zmd{S:Env}{A:WE}{hs:List Str}{xs:List D}(h:Ev A S (.fdc hs xs)):jc (zqG A) S (hs.map D.str):=λP p=>h _ p
def ziT{S:Env}{A:WE}{hs:List Str}{xs:List D}(h:Ev A S (.fdc hs xs))(hl:hs.length<=1000):jc (Ih A) S (hs.map D.str):=λP p=>h _ ⟨hl,p⟩
def Kr(ok:dH s):(aV s).old=aV s:=Bs λx hx=>(ok.dd x hx).1
def Hs(ok:dH s):yS [aV s] (·=.lst true (nq s.pl)):=by
 refine cR (pW (n:=0) (Kr ok)) ?_;exact iV (fu (zhX (rQ (cG rfl (m1 s))) (by have:=ok.p.ln;omega))) rfl
def zkY(ok:dH s):zcl [aV s] (·=.lst true ((tU s).map b7)):=by
 refine cR (pW (n:=0) (Kr ok)) ?_;exact iV (fu (Ft (S:=[.val (aV s)]) (λr=>!decide (r.h∈s.sd)) (rQ (cG rfl (m3 s))) (by have:=ok.rl;omega) (λr hr=>xQ (Er (cG (i:=1) rfl (m2 s)) (jY (k:=4) (t:=[.int r.n,.int r.a,.int r.b,.int r.r,.str r.h]) (aA rfl) aG (fL (j:=4) rfl)) (Fx ok (ok.ra r hr).2.2))))) rfl
def zrE{pl:List (Str×Nat)}{a:Nat}(ha:a<pl.length):gO (pl.map dO) (a:Int)=some (dO (gR pl a)):=fL (by
 rw[jV];unfold gR;rw[YAN,jB ha];rfl)
def zrX(ok:dH s):zeE [aV s] (λv=>v.old=.lst false (vV s)):=by
 refine cR (pW (n:=4) (Kr ok)) ?_;refine jt (cG rfl (m1 s)) ?_;have hc:=tR (sub:=[none,some 1]) (S:=[.val (aV s),.val (.lst false (s.pl.map dO)),.un,.un,.un]) (I:=fM (ak bQ (vW 0) (kW (.str "rows")))) (t:=.nm 0) (C:=dq) (E:=ak bh (ak bh (ak bh (bu (aq (ak aF (vW 0) (kW (.int 0))) ao)) (ak aF (vW 1) (ak aF (vW 0) (kW (.int 1))))) (ak aF (vW 1) (ak aF (vW 0) (kW (.int 2))))) (ji (vW 0) (rH (kW (.int 3))) rK)) b7 (λr=>some (cX s.pl r)) s.rs (rQ (cG rfl (m3 s))) (by have:=ok.rl;omega) (λr hr=>by
  obtain⟨ha,hb,_⟩:=ok.ra r hr;have cut:cutD [D.int r.n,.int r.a,.int r.b,.int r.r,.str r.h] (some 3) none=[.int r.r,.str r.h]:=by kernel_rfl
  have v0:Ev (vW 0) ((eE [none,some 1] [.val (aV s),.val (.lst false (s.pl.map dO)),.un,.un,.un]).set 0 (.val (b7 r))) (.tup [.int r.n,.int r.a,.int r.b,.int r.r,.str r.h]):=aA rfl;have v1:Ev (vW 1) ((eE [none,some 1] [.val (aV s),.val (.lst false (s.pl.map dO)),.un,.un,.un]).set 0 (.val (b7 r))) (.lst false (s.pl.map dO)):=aA rfl;have p1:=iG (aJ (jY (k:=0) v0 aG (fL (j:=0) rfl)) aY);have p2:=uD (d:=.tup [.str (gR s.pl r.a).1,.int (gR s.pl r.a).2]) v1 (jY (k:=1) (d:=.int r.a) v0 aG (fL (j:=1) rfl)) (zrE ha);have p3:=uD (d:=.tup [.str (gR s.pl r.b).1,.int (gR s.pl r.b).2]) v1 (jY (k:=2) (d:=.int r.b) v0 aG (fL (j:=2) rfl)) (zrE hb);have p4:=lW (zlE v0 (Fb (aG (d:=.int 3))) DR) (congrArg D.tup cut);exact vG Hw (wN (wN (wN p1 p2 (by show 3<=100000;decide)) p3 (by show 5<=100000;decide)) p4 (by show 7<=100000;decide)))
 rw[Eh]at hc;refine jt (fu hc) ?_;refine jt (fu (Ft (S:=[.val (aV s),.val (.lst false (s.pl.map dO)),.val (.lst true (s.rs.map (cX s.pl))),.un,.un]) (emb:=D.str) (λx=>decide (x∈s.sd)) (zmd (cG rfl (m2 s))) (by have:=kZ ok;omega) (λx hx=>bU (BZ (xQ (Er (z:=x) (cG (i:=1) rfl (m2 s)) (aA rfl) (Fx ok hx)))) (Bool.not_not _)))) ?_;show aC _ _ _ [.val (aV s),.val (.lst false (s.pl.map dO)),.val (.lst true (s.rs.map (cX s.pl))),.val (.lst true ((uR s).map D.str)),.un];refine jt (fu (jR (aJ (iY (aJ (aA rfl) aY) (Hs ok)) (aJ (fu (ziT (cG rfl (m2 s)) (by have:=kZ ok;omega))) (aJ (aA rfl) (aJ (aA rfl) (aJ (cG rfl (m5 s)) (aJ (aA rfl) aY)))))))) ?_;refine iV (vo (aA rfl) (fu (jR (aJ (zlk (emb:=b7) (rQ (iY (aJ (aA rfl) aY) (zkY ok))) (zoi ok) λr=>⟨_,rfl⟩) (aJ (cG rfl (m6 s)) aY)))) (by show 8<=100000;decide)) ?_;show(D.lst true _).old=_;rw[D.old];exact congrArg (D.lst false) (znE ok)
def ztN(ok:dH s)(ha:a<s.pl.length):cA (gR s.pl a).1=true:=by
 unfold gR;rw[YAN,jB ha];exact ok.p.cA _ (yL ha)
def zuA(ok:dH s):eF (.lst false (vV s)) 5=true:=by
 have hp:=ok.p.ln;have hh:=kZ ok;have hd:=ok.dl;have hr:=ok.rl;have ha:(uR s).length<=10:=YAB (Jj _ _) hh;unfold vV;refine yd ?_ (by simp);simp only[YAG,lz,vZ,vP,vp];refine⟨yd (λx hx=>?_) (YAB (List.length_filterMap_le _ _) (by omega)),yd (λx hx=>?_) (by rw[b8];omega),yd (λx hx=>?_) (by rw[b8];omega),yd (λx hx=>?_) (by rw[b8];omega),zL,yd (λx hx=>?_) (by rw[b8];omega),yd (λx hx=>?_) (by rw[b8,b8];exact zoi ok),yd (λd hd=>(ok.dd d hd).2) (by omega)⟩
 .obtain⟨p,hp,e⟩:=CG.mp hx;split at e<;>cases e
  exact pR (ok.p.cA p hp)
 .obtain⟨y,hy,rfl⟩:=YAD.mp hx;exact pR (ok.h.cA y hy)
 .obtain⟨y,hy,rfl⟩:=YAD.mp hx;exact pR (ok.h.cA y (YAZ.mp hy).1)
 .obtain⟨y,hy,rfl⟩:=YAD.mp hx;exact zpr (by simp[pR (ok.p.cA y hy),zL])
 .obtain⟨r,hr,rfl⟩:=YAD.mp hx;obtain⟨ha,hb,hh⟩:=ok.ra r hr;exact zpr (by simp[pR (ztN ok ha),pR (ztN ok hb),zL,pR (ok.h.cA _ hh)])
 .obtain⟨y,hy,rfl⟩:=YAD.mp hx;exact zL
def znz(hm:m.old=aV s)(hS:qh q=some (cI A s.ds (bs++[bW s]) us))(ok:dH s):zc7 A qh [.obj q,m] (·=.bl true):=by
 refine cR (S:=[.val (.obj q),.val (aV s)]) (by unfold fU;simp[rY,hm]) ?_;refine⟨rfl,qu (zpZ hS ok) λv hv=>⟨rfl,qu (zrX ok) λw hw=>⟨rfl,qu (Hj 5 v w (hv.trans hw.symm) ?_) λe z=>z⟩⟩⟩;rw[<-zez,hv];exact zuA ok
end
def zr4(x y:Str):(x++y).length=x.length+y.length:=by show(x.cps++y.cps).size=_;rw[Array.size_append];rfl
def zsj(hx:cA x=true)(hy:cA y=true):cA (x++y)=true:=zoJ λch hc=>by
 rw[zms]at hc;exact(YAJ.mp hc).elim (zn5 hx ch) (zn5 hy ch)
def Tx.name(h:nameB x=true):Tx x:=⟨zgB h,zqb h⟩
def zwr(h:nameB x=true):x.length<=8:=by
 unfold nameB yF at h;rw[YAA,YAA]at h
 have:=km h.1.2
 omega
def tk(hb:S[b]?=some (.val .box))(hM:Ev M S (.int m))(h0:0<m)(h1:m<2^64)(k:∀x:Int,0<=x->x<m->Q (.int x)):bA 2 dW (aq (vW b) (aq M ao)) S Q:=(aJ (aA hb) (aJ hM aY)) _ ⟨rfl,DY h0 h1 k⟩
def j6(A:WE)(S:Env)(P:D->Prop):Prop:=∀Q:D->Prop,(∀d,P d->Q d)->A S Q
def vO(A:WL)(S:Env)(P:List D->Prop):Prop:=∀Q:List D->Prop,(∀d,P d->Q d)->A S Q
section
variable{S:Env}{A B V:WE}{R:WL}{P P' T:D->Prop}{PL TL:List D->Prop}{d:D}{i:Nat}{E:En}{U:WS}
def yg(h:Ev A S d):j6 A S (·=d):=λQ q=>h Q (q d rfl)
def Cm(hA:j6 A S P)(hB:j6 B S P')(h:∀x y,P x->P' y->∀Q:D->Prop,(∀d,T d->Q d)->f x y Q):j6 (ak f A B) S T:=λQ q=>hA _ λx px=>hB _ λy py=>h x y px py Q q
def ztd:vO ao S (·=[]):=λQ q=>q [] rfl
def zmr(hA:j6 A S P)(hR:vO R S PL)(h:∀d ds,P d->PL ds->TL (d::ds)):vO (aq A R) S TL:=λQ q=>hA _ λd pd=>hR _ λds pds=>q _ (h d ds pd pds)
def wU(hb:S[b]?=some (.val .box))(hM:Ev M S (.int m))(h0:0<m)(h1:m<2^64):j6 (bA 2 dW (aq (vW b) (aq M ao))) S (λd=>∃x:Int,d=.int x/\0<=x/\x<m):=λQ q=>tk hb hM h0 h1 λx a b=>q _ ⟨x,rfl,a,b⟩
def zev(h:j6 V S P)(k:∀d,P d->U E (S.set i (.val d))):aC (aQ (.nm i) V) U E S:=h _ λd p=>by unfold gD;exact k d p
def zs4(h:j6 V S P)(k:∀d,P d->E.nx (S.set i (.val d))):aQ (.nm i) V E S:=h _ λd p=>by unfold gD;exact k d p
end
def zuo{ns:List Str}{z:Int}(h0:0<=z)(h1:z<ns.length):∃y∈ns,gO (ns.map D.str) z=some (.str y):=by
 obtain⟨j,rfl⟩:=YAP h0;have hj:j<ns.length:=by omega
 exact⟨ns[j],yL hj,fL (by rw[jV,jB hj];rfl)⟩
def zqy(hb:S[b]?=some (.val .box))(hM:Ev M S (.int m))(h0:0<m)(h1:m<2^64)(k:∀x:Int,0<=x->x<m->R E (S.set i (.val (.int x)))):aC (aQ (.nm i) (bA 2 dW (aq (vW b) (aq M ao)))) R E S:=tk hb hM h0 h1 λx z0 z1=>by unfold gD;exact k x z0 z1
def zu3{α:Type}{xs:List α}{k:Nat}(h:k<=xs.length):cutD xs none (some (k:Int))=xs.take k:=by
 unfold cutD;rw[HT.jw];show List.take (min k xs.length-0) (xs.drop 0)=_;rw[YCI h];rfl
def zuU{α:Type}{xs:List α}{k:Nat}(h:k<=xs.length):cutD xs (some (k:Int)) none=xs.drop k:=by
 unfold cutD;rw[HT.jw,YCI h];show List.take (xs.length-k) (xs.drop k)=_;exact YBQ (by simp)
def zvw(h0:0<=x)(h1:x<26):gO (sg LET) x=some (97+x.toNat):=by
 obtain⟨j,rfl⟩:=YAP h0
 have:∀j<26,(sg LET)[j]?=some (97+j):=by decide +kernel
 exact fL (this j (by omega))
def Du(ns:List Int):Str:=Str.join sE (ns.map λn=>⟨#[97+n.toNat]⟩)
def zZ(ns:List Int):sg (Du ns)=ns.map λn=>97+n.toNat:=by
 unfold Du;rw[show(ns.map λn=>(⟨#[97+n.toNat]⟩:Str))=(ns.map λn=>97+n.toNat).map λch=>⟨#[ch]⟩from by rw[YAR];rfl,zjJ]
def zpG(h26:t8 ns)(h1:1<=ns.length)(h2:ns.length<=8):nameB (Du ns)=true:=by
 unfold Du;rw[show(ns.map λn=>(⟨#[97+n.toNat]⟩:Str))=(ns.map λn=>97+n.toNat).map λch=>⟨#[ch]⟩from by rw[YAR];rfl];refine zr1 (by rw[b8];exact h1) (by rw[b8];exact h2) λch hc=>?_;obtain⟨n,hn,rfl⟩:=YAD.mp hc
 have:=h26 n hn
 exact(zk1 _).mpr (by omega)
def zvk(hi:S[i]?=some (.val (.lst n (ns.map D.int))))(hj:S[j]?=some (.val (.str LET)))(h26:t8 ns)(h2:ns.length<=8)(q:Q (.str (Du ns))) :
  v5 wL (kW (.str sE)) (aM (fC [none,some j] (fM (vW i)) (.nm 0) dq (ak aF (vW 1) (vW 0)))) S Q:=by
 have e:(eE [none,some j] S)[1]?=some (.val (.str LET)):=by
  unfold eE;simp only[d7,rZ,rO,List.getElem?_cons_zero];rw[hj]
 have hc:=tR (sub:=[none,some j]) (S:=S) (I:=fM (vW i)) (t:=.nm 0) (C:=dq) (E:=ak aF (vW 1) (vW 0)) D.int (λn=>some (.str ⟨#[97+n.toNat]⟩)) ns (rQ (aA hi)) (by omega) (λx hx=>vG Hw (λP p=>by
  have e2:((eE [none,some j] S).set 0 (.val (.int x)))[1]?=some (.val (.str LET)):=by rw[jG (by decide)];exact e
  refine yI e2 (yI (d:=.int x) (by unfold eE;rfl) ?_);have hl:(LET:Str).length=26:=by decide +kernel
  show _/\(match gO (sg LET) x with|some ch=>P (.str ⟨#[ch]⟩)|none=>False);rw[zvw (h26 x hx).1 (h26 x hx).2];exact⟨by rw[hl];decide,p⟩))
 rw[Eh]at hc;refine hc (λxs=>wL sE (.lst true xs) Q) ⟨ns.map λn:Int=>⟨#[97+n.toNat]⟩,by rw[YAR];rfl,λt ht=>?_,by rw[b8];omega,by decide +kernel,q⟩;obtain⟨ch,_,rfl⟩:=YAD.mp ht;show 1<=2000;decide
def zkJ{E:En}{m size k c:Int}{like:Bool}{fs ns:List Int}{rows:List Str}{pl:Nat}(hpl:pl<ns.length)(h8:ns.length<=8)(hf:fs[pl]?=some c)(n26:t8 ns)(hr:rows.length<1000)
  (q:∀x d,nameB x=true->(sg x)[pl]?=some (97+((c+11*k) % 26).toNat)->E.nx [.val .box,.val (.int m),.val (.str LET),.val (.int size),.val (.int pl),.val (.bl like),.val (.lst true (fs.map D.int)),.own ((rows++[x]).map D.str),.val (.int k),d]) :
  aC (sJ 9 (vW 4) (ak lu (ak bh (ak aF (vW 6) (vW 4)) (ak jn (kW (.int 11)) (vW 8))) (kW (.int 26))))
   (j7 9 (je 7 (v5 wL (kW (.str sE)) (aM (fC [none,some 2] (fM (vW 9)) (.nm 0) dq (ak aF (vW 1) (vW 0))))))) E
   [.val .box,.val (.int m),.val (.str LET),.val (.int size),.val (.int pl),.val (.bl like),.val (.lst true (fs.map D.int)),.own (rows.map D.str),.val (.int k),.own (ns.map D.int)]:=by
 have hv:0<=(c+11*k) % 26/\(c+11*k) % 26<26:=⟨xO _ (by decide),yC _ (by decide)⟩;have ea:Ev (ak lu (ak bh (ak aF (vW 6) (vW 4)) (ak jn (kW (.int 11)) (vW 8))) (kW (.int 26))) [.val .box,.val (.int m),.val (.str LET),.val (.int size),.val (.int pl),.val (.bl like),.val (.lst true (fs.map D.int)),.own (rows.map D.str),.val (.int k),.own (ns.map D.int)] (.int ((c+11*k) % 26)):=zn6 (Cp (uD (aA rfl) (aA rfl) (fL (by rw[jV,hf];rfl))) (zkZ aG (aA rfl) λP p=>⟨.inl ⟨by decide,by decide⟩,p⟩)) aG;refine ea _ ?_;have e:tH (ns.map D.int).length (pl:Int)=some pl:=by
  unfold tH;rw[b8,if_pos (by omega),if_pos (by omega)];simp
 show(match tH (ns.map D.int).length (pl:Int)with|some m=>_|none=>False);rw[e];have es:(ns.map D.int).set pl (.int ((c+11*k) % 26))=(ns.set pl ((c+11*k) % 26)).map D.int:=List.map_set.symm;show j7 9 (je 7 (v5 wL (kW (.str sE)) (aM (fC [none,some 2] (fM (vW 9)) (.nm 0) dq (ak aF (vW 1) (vW 0)))))) E [.val .box,.val (.int m),.val (.str LET),.val (.int size),.val (.int pl),.val (.bl like),.val (.lst true (fs.map D.int)),.own (rows.map D.str),.val (.int k),.own ((ns.map D.int).set pl (.int ((c+11*k) % 26)))];rw[es];have n26':t8 (ns.set pl ((c+11*k) % 26)):=λn hn=>by
  rcases List.mem_or_eq_of_mem_set hn with h|h
  .exact n26 n h
  .rw[h];exact hv
 show v5 wL (kW (.str sE)) (aM (fC [none,some 2] (fM (vW 9)) (.nm 0) dq (ak aF (vW 1) (vW 0)))) [.val .box,.val (.int m),.val (.str LET),.val (.int size),.val (.int pl),.val (.bl like),.val (.lst true (fs.map D.int)),.own (rows.map D.str),.val (.int k),.val (.lst true ((ns.set pl ((c+11*k) % 26)).map D.int))] _;refine zvk (i:=9) (j:=2) rfl rfl n26' (by rw[Io];omega) ⟨by rw[b8];omega,?_⟩
 have:=q (Du (ns.set pl ((c+11*k) % 26))) (.val (.lst true ((ns.set pl ((c+11*k) % 26)).map D.int))) (zpG n26' (by rw[Io];omega) (by rw[Io];omega)) (by rw[zZ,jV,jL hpl];rfl)
 rw[qT]at this;exact this
def Apart(c:Int)(pl:Nat)(rows:List Str):Prop:=∀(i:Nat) x,rows[i]?=some x->(sg x)[pl]?=some (97+((c+11*(i:Int)) % 26).toNat)
def Apart.nodup(h:Apart c pl rows)(hl:rows.length<=26):rows.Nodup:=by
 refine List.pairwise_iff_getElem.mpr λi j hi hj hij e=>?_;have h1:=h i _ (jB hi);have h2:=h j _ (jB hj);rw[e,h2]at h1
 have:=Option.some.inj h1
 omega
def zmL(m:Int)(m0:0<=m)(m1:m<=26):FN [.box,.int m] (λd=>∃ns:List Str,d=.lst true (ns.map D.str)/\(ns.length:Int)=m/\(∀x∈ns,nameB x=true)/\ns.Nodup):=by
 unfold FN dU;rw[znJ .box (.int m) 8,zkG,j0];refine⟨rfl,DY (by decide) (by decide) λa a0 a1=>?_⟩;refine⟨rfl,DY (by omega) (by omega) λp p0 p1=>?_⟩;refine⟨rfl,DY (by decide) (by decide) λl l0 l1=>⟨Bq _ _,?_⟩⟩;generalize eqB (.int l) (.int 0)=like;refine⟨⟨by omega,by omega⟩,?_⟩;refine zrQ (j:=0) (n:=(1+a).toNat) rfl (by omega) λfs fl f26=>?_;refine⟨v6 _,⟨by omega,by omega⟩,?_⟩;obtain⟨pl,rfl⟩:=YAP p0;obtain⟨c,hc⟩:∃c,fs[pl]?=some c:=⟨_,jB (by omega)⟩;refine zgw (λrest S=>∃(rows:List Str)(s8 s9:Sl),S=[.val .box,.val (.int m),.val (.str LET),.val (.int (1+a)),.val (.int (pl:Int)),.val (.bl like),.val (.lst true (fs.map D.int)),.own (rows.map D.str),s8,s9]/\(rows.length+rest.length:Int)=m/\(∀x∈rows,nameB x=true)/\Apart c pl rows/\rest=iR (rows.length:Int) rest.length) ?_ ?_ _ _ ⟨[],.un,.un,rfl,by rw[zdS];show((0:Nat):Int)+(m.toNat:Int)=m;omega,by simp,λi x h=>by simp at h,by rw[zdS];rfl⟩
 .rintro k rest S E' hn hcc hr hb ⟨rows,s8,s9,rfl,hl,hx,hap,hk⟩;rw[YAE,znU]at hk;injection hk with hk1 hk2
  subst hk1;have h00:(0:Int)<=(D.int (rows.length:Int)::rest).length:=by omega
  have hl':(rows.length:Int)<1000:=by omega
  have fin:∀ns:List Int,pl<ns.length->ns.length<=8->t8 ns->aC (sJ 9 (vW 4) (ak lu (ak bh (ak aF (vW 6) (vW 4)) (ak jn (kW (.int 11)) (vW 8))) (kW (.int 26))))
   (j7 9 (je 7 (v5 wL (kW (.str sE)) (aM (fC [none,some 2] (fM (vW 9)) (.nm 0) dq (ak aF (vW 1) (vW 0))))))) E'
   [.val .box,.val (.int m),.val (.str LET),.val (.int (1+a)),.val (.int (pl:Int)),.val (.bl like),.val (.lst true (fs.map D.int)),.own (rows.map D.str),.val (.int (rows.length:Int)),.own (ns.map D.int)]:=λns h1 h2 h3=>
   zkJ h1 h2 hc h3 (by omega) λx d hxx hsx=>hn _ ⟨rows++[x],.val (.int (rows.length:Int)),d,rfl,by rw[gU,YCn];rw[YAE]at hl;omega,λy hy=>(YAJ.mp hy).elim (hx y) (λz=>by rw[lC.mp z];exact hxx),λi y hy=>by
    by_cases hi:i<rows.length
    .rw[Ce hi]at hy;exact hap i y hy
    .rw[YBA (by omega)]at hy;have e0:i-rows.length=0:=by
      cases hz:i-rows.length with
      |zero=>rfl
      |succ n=>rw[hz]at hy;simp at hy
     rw[e0]at hy;cases hy
     have:i=rows.length:=by omega
     rw[this];exact hsx,by rw[gU,YCn];rw[show((rows.length+1:Nat):Int)=(rows.length:Int)+1 from by omega];exact hk2⟩
  cases like with
  |true=>exact fin fs (by omega) (by omega) f26
  |false=>
   refine⟨rfl,DY (by omega) (by omega) λt t0 t1=>⟨⟨by omega,by omega⟩,?_⟩⟩;exact zrQ (j:=0) (n:=(((pl:Int)+1)+t).toNat) rfl (by omega) λns nl n26=>fin ns (by omega) (by omega) n26
 .rintro S ⟨rows,s8,s9,rfl,hl,hx,hap,hk⟩;have hl2:(rows.length:Int)=m:=by simpa using hl
  exact⟨rows,rfl,hl2,hx,hap.nodup (by omega)⟩
def eO(pl:List (Str×Nat)):List Str:=pl.filterMap λp=>if decide (((p.2:Nat):Int)=1)then some p.1 else none
def zmB(pl:List (Str×Nat)):nq pl=(eO pl).map D.str:=by
 unfold nq eO;rw[List.map_filterMap];congr 1
 funext p
 split<;>rfl
def Fv(h:x∈eO pl):(x,1)∈pl:=by
 obtain⟨p,hp,e⟩:=CG.mp h;split at e
 .rename_i e1
  cases e
  have:p.2=1:=by have:=km e1;omega
  rw[<-this];exact hp
 .cases e
def yM(h:x∈eO pl):0<bw pl x:=kJ.mpr (YAD.mpr ⟨_,Fv h,rfl⟩)
def zuh(h:pl.Nodup):(eO pl).Nodup:=by
 induction pl with
 |nil=>exact YDb
 |cons p pl ih=>
  rw[wG]at h;unfold eO;rw[YAQ];split
  .exact ih h.2
  .rename_i y e
   refine wG.mpr ⟨λz=>?_,ih h.2⟩;split at e
   .rename_i e1
    cases e
    have:p.2=1:=by have:=km e1;omega
    exact h.1 (by have:=Fv z;rw[<- ‹p.2=1›]at this;exact this)
   .cases e
def znt(pl:List (Str×Nat)):(eO pl).length<=pl.length:=List.length_filterMap_le _ _
def zvX{ms:List Str}(h:ms.Nodup){a b:Nat}{ha:a<ms.length}{hb:b<ms.length}(hab:a≠b):ms[a]≠ms[b]:=by
 have p:=List.pairwise_iff_getElem.mp h;rcases Nat.lt_or_gt_of_ne hab with z|z
 .exact p a b ha hb z
 .exact YAM (p b a hb ha z)
def rM(ms:List Str)(i:Nat):Str:=ms.getD i ""
def DN(ha:a<ms.length):rM ms a=ms[a]:=by unfold rM;rw[YAN,jB ha];rfl
def zk9{ms:List Str}{k:Int}(h0:0<=k)(h1:k<ms.length):gO (ms.map D.str) k=some (.str (rM ms k.toNat)):=by
 obtain⟨j,rfl⟩:=YAP h0;have hj:j<ms.length:=by omega
 exact fL (by rw[jV,jB hj];show _=some (D.str (rM ms j));rw[DN hj];rfl)
def znR:eqB (.lst n xs) (.lst m [])=xs.isEmpty:=by
 cases xs with
 |nil=>rfl
 |cons x xs=>rfl
def zqN{n m:Bool}{hs:List Str}(h:∀y∈hs,cA y=true):qI (.lst n (hs.map D.str)) (.lst m []):=⟨by unfold dF;exact zij h,by unfold dF;rw[cD],by
 refine YAB (YCs _ _) ?_;show(toPy (.lst m [])).depth<=50;exact(by decide:1<=50)⟩
def zfk(h0:0<=p)(h1:p<1000):Be [.int p] (·=.int (p*p*3 % 17-p)):=by
 refine cR (pW (n:=0) (j0 p)) ?_;have e1:Ev (ak jn (vW 0) (vW 0)) [.val (.int p)] (.int (p*p)):=zkZ (aA rfl) (aA rfl) λP q=>⟨.inl ⟨by omega,by omega⟩,q⟩;have e2:Ev (ak jn (ak jn (vW 0) (vW 0)) (kW (.int 3))) [.val (.int p)] (.int (p*p*3)):=zkZ e1 aG λP q=>⟨.inr ⟨by decide,by decide⟩,q⟩;exact iV (zi4 (zn6 e2 aG) (aA rfl)) rfl
def zr9{b:Bool}{hs:List Int}{k:Int}{Q:D->Prop}(k0:0<=k)(k1:k<hs.length)(q:∀v∈hs,Q (.int v)):aF (.lst b (hs.map D.int)) (.int k) Q:=by
 obtain⟨j,rfl⟩:=YAP k0;have hj:j<hs.length:=by omega
 show(match gO (hs.map D.int) (j:Int)with|some d=>Q d|none=>False);rw[fL (j:=j) (by rw[jV,jB hj];rfl)];exact q _ (yL hj)
def Aj(s:Ya)(v:D):Prop:=v=.non\/∃d,v=yD d/\nC d/\why s d=none/\jX d=true
abbrev enR(s:Ya):En:={nx:=λ_=>Aj s .non,rt:=Aj s,bk:=λ_=>False,ct:=λ_=>False}
abbrev eR(s:Ya)(x5 x6 x7 x4:Sl):Env:=[.val .box,.val (aV s),.val (.lst true ((eO s.pl).map D.str)),.val (.lst true ((aR s).map D.str)),x4,x5,x6,x7]
section
variable{s:Ya}{x4:Sl}
def zlD(ok:dH s){a b:Str}{r:Int}(ha:a∈eO s.pl)(hb:b∈eO s.pl)(hab:a≠b)(hr:okR r=true)(l1:1<=(aR s).length)(l4:s.rs.length<40):aP (bu (aq (kW (.str "run")) (aq (vW 5) (aq (vW 6) (aq (vW 7) (aq (ak aF (vW 3) (bA 2 dW (aq (vW 0) (aq (cbW f9 (aq (vW 3) ao)) ao)))) ao)))))) (enR s) (eR s (.val (.str a)) (.val (.str b)) (.val (.int r)) x4):=by
 have lh:=kZ ok;have tx:∀{x},x∈eO s.pl->Tx x:=λh=>Tx.name (ok.p.ok _ (Fv h));show bA 2 dW (aq (vW 0) (aq (cbW f9 (aq (vW 3) ao)) ao)) (eR s (.val (.str a)) (.val (.str b)) (.val (.int r)) x4) _;refine tk rfl (lW (pY (aA rfl)) (by rw[b8])) (by omega) (by omega) λk k0 k1=>?_;show(match gO ((aR s).map D.str) k with|some d=>(_/\_:Prop)|none=>False);rw[zk9 k0 k1];have hm:rM (aR s) k.toNat∈aR s:=by rw[DN (by omega)];exact yL _
 refine⟨by show 5<=100000;decide,.inr ⟨.run a b r (rM (aR s) k.toNat),rfl,⟨tx ha,tx hb,Tx.name (ok.h.ok _ hm)⟩,?_,rfl⟩⟩;show eY s a b r _=none
 have:=yM ha
 have:=yM hb
 unfold eY;rw[if_neg (by omega),if_neg hab,if_neg λz=>z hm,if_neg (by rw[hr];decide),if_neg (by omega)]
def zix(h1:-1000000000<=r)(h2:r<=1000000000):okR r=true:=by unfold okR;rw[gB h1,gB h2];rfl
def zqw(ok:dH s){a b:Str}{r:Int}(ha:a∈eO s.pl)(hb:b∈eO s.pl)(hab:a≠b)(r0:-100<=r)(r1:r<=100)(l1:1<=(aR s).length)(l4:s.rs.length<40):aC (cW (bG (ak cM (bA 2 dW (aq (vW 0) (aq (kW (.int 4)) ao))) (kW (.int 0)))) (aQ (.nm 7) (ak aF (aM (aX (aq (ak bh (vW 7) (kW (.int 1))) (aq (ak j4 (vW 7) (kW (.int 2))) (aq (bA 2 dW (aq (vW 0) (aq (kW (.int 1000000000)) ao))) (aq (my gG (kW (.int 1000000000))) ao)))))) (bA 2 dW (aq (vW 0) (aq (kW (.int 4)) ao))))) bL)
  (aP (bu (aq (kW (.str "run")) (aq (vW 5) (aq (vW 6) (aq (vW 7) (aq (ak aF (vW 3) (bA 2 dW (aq (vW 0) (aq (cbW f9 (aq (vW 3) ao)) ao)))) ao))))))) (enR s) (eR s (.val (.str a)) (.val (.str b)) (.val (.int r)) x4):=by
 show bA 2 dW (aq (vW 0) (aq (kW (.int 4)) ao)) (eR s (.val (.str a)) (.val (.str b)) (.val (.int r)) x4) _;refine tk rfl aG (by decide) (by decide) λx x0 x1=>?_;refine⟨Bq _ _,?_⟩;rw[KQ];by_cases hx:x=0
 .rw[gB hx];show bA 2 dW (aq (vW 0) (aq (kW (.int 1000000000)) ao)) (eR s (.val (.str a)) (.val (.str b)) (.val (.int r)) x4) _;refine tk rfl aG (by decide) (by decide) λy y0 y1=>?_;refine⟨by show 4<=100000;decide,?_⟩;show bA 2 dW (aq (vW 0) (aq (kW (.int 4)) ao)) (eR s (.val (.str a)) (.val (.str b)) (.val (.int r)) x4) _;refine tk rfl aG (by decide) (by decide) λk k0 k1=>?_;refine zr9 (b:=true) (hs:=[r+1,r-2,y,-1000000000]) k0 k1 λv hv=>?_;unfold gD;simp only[iU,lz,uL]at hv;exact zlD ok ha hb hab (zix (by rcases hv with rfl|rfl|rfl|rfl<;>omega) (by rcases hv with rfl|rfl|rfl|rfl<;>omega)) l1 l4
 .rw[gY hx];exact zlD ok ha hb hab (zix (by omega) (by omega)) l1 l4
def zjq{m:D}(hm:m.old=aV s)(ok:dH s):zbS [.box,m] (Aj s):=by
 have hl:(eO s.pl).length<=12:=YAB (znt _) ok.p.ln;have lh:=kZ ok;refine cR (S:=[.val .box,.val (aV s),.un,.un,.un,.un,.un,.un]) (by unfold fU;simp[zkG,hm]) ?_;refine jt (lW (iY (aJ (aA rfl) aY) (Hs ok)) (by rw[zmB])) ?_;refine jt (fu (ziT (cG rfl (m2 s)) (by omega))) ?_;show aC _ _ (enR s) (eR s .un .un .un .un);have lm:∀{S:Env},S[2]?=some (.val (.lst true ((eO s.pl).map D.str)))->Ev (cbW f9 (aq (vW 2) ao)) S (.int (eO s.pl).length):=λh=>lW (pY (aA h)) (by rw[b8]);have e1:=dC (zc (lm (S:=eR s .un .un .un .un) rfl) (aG (d:=.int 2)));have e2:fG (bG (ak cM (vW 3) (aM (aX ao)))) (eR s .un .un .un .un) ((aR s).map D.str).isEmpty:=dC (lE (aA rfl) (fu (jR aY)) λP p=>⟨zqN ok.h.cA,by rw[znR];exact p⟩);have e3:=dC (Fe (S:=eR s .un .un .un .un) (pY (cG (i:=1) rfl (m3 s))) (aG (d:=.int 40)));cases hb:(decide (((eO s.pl).length:Int)<2) || (((aR s).map D.str).isEmpty || decide ((40:Int)<=((s.rs.map b7).length:Int))))with
 |true=>exact(bU (Am e1 λ_=>Am e2 λ_=>e3) hb) _ (.inl rfl)
 |false=>
  refine gw (bU (Am e1 λ_=>Am e2 λ_=>e3) hb) ?_;rw[YCy,YCy]at hb;obtain⟨h1,h2,h3⟩:=hb;have l2:2<=(eO s.pl).length:=by have:=of_decide_eq_false h1;omega
  have l1:1<=(aR s).length:=by
   cases e:aR s with
   |nil=>rw[e]at h2;cases h2
   |cons x xs=>simp
  have l4:s.rs.length<40:=by have:=of_decide_eq_false h3;rw[b8]at this;omega
  refine zqy rfl (lm rfl) (by omega) (by omega) λat_ a0 a1=>?_;show aC _ _ (enR s) (eR s .un .un .un (.val (.int at_)));generalize x4e:Sl.val (D.int at_)=x4;have v4:Ev (vW 4) (eR s .un .un .un x4) (.int at_):=by rw[<-x4e];exact aA rfl
  have hA:Ev (ak aF (vW 2) (vW 4)) (eR s .un .un .un x4) (.str (rM (eO s.pl) at_.toNat)):=uD (aA rfl) v4 (zk9 a0 a1);have hB:j6 (ak aF (vW 2) (ak lu (ak bh (ak bh (vW 4) (kW (.int 1))) (bA 2 dW (aq (vW 0) (aq (ak j4 (cbW f9 (aq (vW 2) ao)) (kW (.int 1))) ao)))) (cbW f9 (aq (vW 2) ao)))) (eR s .un .un .un x4) (λv=>∃ot:Int,v=.str (rM (eO s.pl) ot.toNat)/\0<=ot/\ot<(eO s.pl).length/\ot≠at_):=by
   refine Cm (yg (aA rfl)) (Cm (P:=λv=>∃t:Int,v=.int (at_+1+t)/\0<=t/\t<(eO s.pl).length-1) (Cm (yg (Cp v4 aG)) (wU (b:=0) rfl (zi4 (lm rfl) aG) (by omega) (by omega)) λa b ha hb Q q=>?_) (yg (lm rfl)) (T:=λv=>∃ot:Int,v=.int ot/\0<=ot/\ot<(eO s.pl).length/\ot≠at_) λa b ha hb Q q=>?_) λa b ha hb Q q=>?_
   .obtain⟨t,rfl,t0,t1⟩:=hb;subst ha;exact q _ ⟨t,rfl,t0,t1⟩
   .obtain⟨t,rfl,t0,t1⟩:=ha;subst hb;have hn:(0:Int)<((eO s.pl).length:Int):=by omega
    refine⟨hn,q _ ⟨_,rfl,xO _ (by omega),yC _ hn,?_⟩⟩;by_cases hh:at_+1+t<((eO s.pl).length:Int)
    .rw[Int.emod_eq_of_lt (by omega) hh];omega
    .have:at_+1+t=(at_+1+t-((eO s.pl).length:Int))+((eO s.pl).length:Int)*1:=by omega
     rw[this,Int.add_mul_emod_self_left,Int.emod_eq_of_lt (by omega) (by omega)];omega
   .obtain⟨ot,rfl,o0,o1,o2⟩:=hb;subst ha;show(match gO ((eO s.pl).map D.str) ot with|some d=>Q d|none=>False);rw[zk9 o0 o1];exact q _ ⟨ot,rfl,o0,o1,o2⟩
  refine hA _ (hB _ ?_);rintro v ⟨ot,rfl,o0,o1,o2⟩;have ma:rM (eO s.pl) at_.toNat∈eO s.pl:=by rw[DN (by omega)];exact yL _
  have mb:rM (eO s.pl) ot.toNat∈eO s.pl:=by rw[DN (by omega)];exact yL _
  have hab:rM (eO s.pl) at_.toNat≠rM (eO s.pl) ot.toNat:=by rw[DN (by omega),DN (by omega)];exact zvX (zuh ok.pt.nd) (by omega)
  generalize rM (eO s.pl) at_.toNat=a at ma hab;generalize rM (eO s.pl) ot.toNat=b at mb hab;have lp:=ok.p.ln;have ia:=Ep ok.pt (yM ma);have ib:=Ep ok.pt (yM mb);have pl2:Ev (bA 2 vK (aq (vW 1) (aq (vW 6) ao))) (eR s (.val (.str a)) (.val (.str b)) .un x4) (.int (lX s.pl b)):=iY (aJ (aA rfl) (aJ (aA rfl) aY)) (zeF (zqu s) ok.p ok.pt (ok.p.cA _ (Fv mb)) (yM mb));have pl1:Ev (bA 2 vK (aq (vW 1) (aq (vW 5) ao))) (eR s (.val (.str a)) (.val (.str b)) .un x4) (.int (lX s.pl a)):=iY (aJ (aA rfl) (aJ (aA rfl) aY)) (zeF (zqu s) ok.p ok.pt (ok.p.cA _ (Fv ma)) (yM ma));refine jt (S:=eR s (.val (.str a)) (.val (.str b)) .un x4) (zi4 (iY (aJ pl2 aY) (zfk (by omega) (by omega))) (iY (aJ pl1 aY) (zfk (by omega) (by omega)))) ?_;refine zqw ok ma mb hab ?_ ?_ l1 l4
  .generalize (lX s.pl a:Int)*(lX s.pl a:Int)*3=u;generalize (lX s.pl b:Int)*(lX s.pl b:Int)*3=v;omega
  .generalize (lX s.pl a:Int)*(lX s.pl a:Int)*3=u;generalize (lX s.pl b:Int)*(lX s.pl b:Int)*3=v;omega
end
def gM:Ya:=⟨[],[],[],[],0,0,[]⟩
theorem zfg(I:List D->bN->Env->Prop)
  (hs:∀x rest qh S (E':pX),(∀qh S,I rest qh S->E'.nx qh S)->(∀qh S,I rest qh S->E'.ct qh S)->(∀qh d,E.rt qh d->E'.rt qh d)->(∀qh S,E.nx qh S->E'.bk qh S)->I (x::rest) qh S->gD t x S λS'=>B E' qh S') (hd:∀qh S,I [] qh S->E.nx qh S) :
  ∀(xs:List D)(qh:bN)(S:Env),I xs qh S->qW t B E xs qh S
 |[],qh,S,h=>hd qh S h
 |x::xs,qh,S,h=>hs x xs qh S {nx:=qW t B E xs,ct:=qW t B E xs,bk:=E.nx,rt:=E.rt} (zfg I hs hd xs) (zfg I hs hd xs) (λqh d z=>z) (λqh S z=>z) h
def ziw(hR:KD R S qh ds)(h:F ds qh P qg)(k:∀d qk,P d qk->Q d qk)(l:∀n qk,qg n qk->y n qk)(hl:ds.length=n:=by rfl):xr n F y R S qh Q:=hR _ ⟨hl,J6 h k l⟩
def zn1:DK [] (·=.dct true BK (iD gM)):=by
 refine cR (S:=[]) rfl ?_;exact⟨by decide,by decide,by decide,by decide,by decide,rfl⟩
def zoo:K7 [] (λv=>v.old=aV gM):=by
 refine cR (S:=[]) rfl ?_;refine⟨by decide,by decide,by decide,by decide,?_⟩;refine zrw ?_;simp only[d7,rZ];rw[iH (by simp),zlg (by simp),j0];rfl
def zrg(hi:S[i]?=some (.val (.obj q)))(hF:jc (F qh) S xs)(hS:qh q=some o)(hC:o.C=C)(hl:o.fs.length<100)(h:E.nx (jk qh q ⟨o.C,jh f (xs.map D.old) o.fs⟩) S):jr i f C F E qh S:=by
 unfold jr;rw[hi];exact hF _ ⟨o,hS,hC,hl,h⟩
def zmz:J9 A [.obj a] (jk qh a ⟨A.fen,[]⟩) (λd qk=>d=.non/\qk=jk qh a (cI A [] [bW gM] [])) (λ_ _=>False):=by
 refine IK (pW (n:=0) (rY a)) ?_;refine⟨by decide,⟨A.fen,[]⟩,qC,rfl,by show 0<100;decide,?_⟩;rw[Ij];have p1:jh "kept" ([].map D.old) ([]:List (Str×List D))=[(("kept":Str),[])]:=by kernel_rfl
 rw[p1];have eb:jc (aX (aq (bA 0 DK ao) ao)) [.val (.obj a)] [.dct true BK (iD gM)]:=jR (aJ (iY aY zn1) aY);show cU (jr 0 "books" A.fen λqh=>aX (aq (bA 0 DK ao) ao)) _ _ _ [.val (.obj a)];refine zrg (q:=a) (o:=⟨A.fen,[("kept",[])]⟩) rfl eb qC rfl (by show 1<100;decide) ?_;rw[Ij,El,K8 (yP gM)];have p2:jh "books" [D.dct false BK (iD gM)] [(("kept":Str),([]:List D))]=[(("kept":Str),[]),("books",[D.dct false BK (iD gM)])]:=by kernel_rfl
 rw[p2];show jr 0 "undone" A.fen (λqh=>aX ao) _ _ [.val (.obj a)];refine zrg (q:=a) (o:=⟨A.fen,[("kept",[]),("books",[D.dct false BK (iD gM)])]⟩) rfl (jR aY) qC rfl (by show 2<100;decide) ?_;rw[Ij];have p3:jh "undone" ([].map D.old) [(("kept":Str),([]:List D)),("books",[D.dct false BK (iD gM)])]=[(("kept":Str),[]),("books",[D.dct false BK (iD gM)]),("undone",[])]:=by kernel_rfl
 rw[p3];exact⟨rfl,rfl⟩
def zln:dH gM:=by constructor<;>first|(constructor<;>simp[gM,bw,aR])|simp[gM]
def ztc(h:v.old=aV s):isN v=false:=by
 cases v with
 |non=>rw[D.old]at h;cases h
 |_=>rfl
structure Yat(A:il)(qh:bN)(q:Addr)(m:D)(s:Ya)(n:Nat):Prop where
 m:m.old=aV s
 ok:dH s
 dn:s.ds.length<=n
 ex:∃bs us,qh q=some (cI A s.ds (bs++[bW s]) us)/\bs.length<=n
section
variable{A:il}{qh:bN}{q:Addr}{m:D}{s:Ya}{d:Yd}{n i j k:Nat}{S:Env}{Q:D->bN->Prop}
def Yat.next(z:Yat A qh q m s n)(hn:n<900)(hx:nC d)(f:why s d=none)(hb:bs.length<=n)(hv:v.old=aV (ir s d)):Yat A (jk qh q (GR A s d bs)) q v (ir s d) (n+1):=by
 have dn:=z.dn;refine⟨hv,ziy z.ok hx f (by omega),?_,bs++[bW s],[],by rw[qC];rfl,by rw[gU];show bs.length+1<=n+1;omega⟩;show(s.ds++[_]).length<=n+1;rw[gU];show s.ds.length+1<=n+1;omega
end
def Fits:Ya->List Yd->Prop
 |_,[]=>True
 |s,d::r=>(why s d=none/\nC d)/\Fits (ir s d) r
def ztG(I:bN->Env->Prop)(hA:∀E2:pX,(∀qh S,I qh S->E2.nx qh S)->(∀qh d,E.rt qh d->E2.rt qh d)->X E2 qh S)(hB:∀qh S,I qh S->Y E qh S):cU X Y E qh S:=hA {E with nx:=Y E} hB λqh d z=>z
def zvb{V:bN->WE}{B:WF}{E:pX}{qh:bN}{S:Env}{i:Nat}{P:D->Prop}(h:j6 (V qh) S P)(q:∀d,P d->B E qh (S.set i (.val d))):cU (nG λqh=>aQ (.nm i) (V qh)) B E qh S:=h _ λd p=>by unfold gD;exact q d p
section
variable{S:Env}{A B:WE}{P T:D->Prop}{R:WL}{ds:List D}{n:Nat}{F:Fn}
def zgA(hR:jc R S ds)(h:F ds P)(hl:ds.length=n:=by rfl):j6 (bA n F R) S P:=λQ q=>hR _ ⟨hl,qu h q⟩
def zto(hA:j6 A S λv=>v=.non\/∃d,v=yD d/\T (yD d))(hB:j6 B S T):j6 (Ah A B) S T:=λQ q=>hA _ (by
 rintro v (rfl|⟨d,rfl,h⟩)
 .exact hB Q q
 .exact q _ h)
def zpz(hA:j6 A S P)(h:∀d,P d->T d):j6 A S T:=λQ q=>hA Q λd p=>q d (h d p)
def zsk(h:vO RL S PL)(hl:∀ds,PL ds->ds.length<=100000)(k:∀ds,PL ds->T (.tup ds)):j6 (bu RL) S T:=λQ q=>h _ λds p=>⟨hl ds p,q _ (k ds p)⟩
def zgC{b:Bool}{ns:List Str}{i:Nat}(hA:Ev A S (.lst b (ns.map D.str)))(hb:S[i]?=some (.val .box)){M:WE}(hM:Ev M S (.int ns.length))(h0:0<ns.length)(h1:ns.length<1000):j6 (ak aF A (bA 2 dW (aq (vW i) (aq M ao)))) S λv=>∃x∈ns,v=.str x:=Cm (yg hA) (wU hb hM (by omega) (by omega)) λa c ha hc Q q=>by
 obtain⟨z,rfl,z0,z1⟩:=hc;subst ha;obtain⟨y,hy,e⟩:=zuo z0 z1;show(match gO (ns.map D.str) z with|some d=>Q d|none=>False);rw[e];exact q _ ⟨y,hy,rfl⟩
def zrf(hA:Ev A S (.lst b t))(hL:Dw L S l)(hU:Dw U S u):Ev (ji A L U) S (.lst true (cutD t l u)):=λP p=>hA _ (hL _ (hU _ p))
end
def zmk(ok:dH s):∀x∈eO s.pl,nameB x=true:=λx hx=>ok.p.ok _ (Fv hx)
end Fd
namespace L2
open PySem PySem.Spec PyProof.Rows PySem.W
section
variable{X:Cx}{CX:mO}{k:Nat}{f:Addr}{fd:FuncData}{ps:List Str}{sp:Sp}{E:XK}{x:Str}{p pos:Pos}{e:Expr}{es:List Expr}{t:TA}{aa:List (Addr×Obj)}{Z:St}{H:Hp}{s:Shared}{Q:VK}
def zsF(F:aN X.prog X.w X.K X.mg X.base CX k f fd ps sp)(hr:bK k X.A)(hg:Gl X x)(hm:X.mg x=some (.ref f))(hk:PySem.W.keepIn X.K (.ref f)=true)(hb:Binds X.K fd ps [])(ha:PA X.nox (e::es) t)(I:Inv X aa Z H s)(h:zqL sp [] E t Z H Q)
  (hdb:(x==("__debug__":Str))=false:=by decide) (he:starEach (e::es) X.env=(false,eval e X.env)::starEach es X.env:=by rfl) (hpl:(backTo pos (starEach es X.env)).any (·.1)=false:=by rfl) :
  wpAny (model X.prog X.w) X.A (eval (.Call (.Name x p) (e::es) [] pos) X.env) (EP X aa Z Q) (λx s'=>∃H1 s1,Inv X aa Z H1 s1/\CX X.stack H1 s1 E x s') s:=by
 refine v9 (xX I hg hm ?_ hdb);refine G7 (h₀:=X.base) I.ok.mod.kin hk (lD (ha pos aa s Z H _ (I.wish _) h) (λus s2 ⟨vs,H2,I2,r,q2⟩=>⟨I2.kIn,?_⟩) λ_ _ z=>z.elim) he hpl;have I2:=I2.unwish;have r2:Vals (vs++[]) (us++[]):=r.append .nil;have hl:(us++[]).length=ps.length:=by rw[<-r2.length];exact F.len _ _ _ _ q2
 refine Dr (Fw (F.run X.A X.stack s2 H2 ⟨us,[]⟩ (us++[]) (vs++[]) Q E hr I2.env0 (hb s2 us I2.kIn hl) r2 q2) λr s' hq=>?_);cases r with
 |error e=>exact⟨H2,s2,I2,hq⟩
 |ok fl=>
  cases fl with
  |ret u=>exact I2.after hq
  |next=>exact False.elim hq
  |brk=>exact False.elim hq
  |cont=>exact False.elim hq
end
end L2
namespace Fd
open PySem L2
section
variable{X:Cx}{b:Bo}{e:Expr}{es:List Expr}{pos p p1 p2 np q1 q2 fpos hpos cpos spos bpos:Pos}{y:Str->bN->Prop}
def zmX(hK:b.K=X.K)(hR:uT R)(r:dg b qh M S Z H G)(q:xr n F y R S qh λd qk=>∀v H' G' M',pq b qk M' S Z H' G' d v->Same G G'->Dm M M'->Q v H')(hE:∀nm C qk M' H' G',y nm qk->X.mg nm=some (.ref C)->dg b qk M' S Z H' G'->Same G G'->Dm M M'->E (.ref C) none H'):zqL (lB X.K X.mg n F) [] E (tOA b R) Z H Q:=
 ⟨S,G,qh,M,r,hR S qh _ _ (λds S1 z vs H' G' M' r' s' m'=>by
  show lB X.K X.mg n F (vs++[]) H' Q _;rw[YAK];exact dg.give hK r' z.1 (zV F (λd qk w v H2 G2 M2 r2 s2 m2=>w v H2 G2 M2 r2 (s'.trans s2) (m'.trans m2)) (λnm qk w C H2 G2 M2 hc r2 s2 m2=>hE nm C qk M2 H2 G2 w hc r2 (s'.trans s2) (m'.trans m2)) z.2)) q⟩
abbrev zsV(ie ib:Nat)(B:(Str->bN->Prop)->WOE)(kd:Str->Option D):WF:=λE qh S=>∃Y,B Y S qh (λ_ qk=>E.nx qk S)/\∀nm qk,Y nm qk->∃d,kd nm=some d/\E.nx qk ((S.set ie .un).set ib (.val d))
def zsN(ie ib:Nat){k k2 m:Nat}{o n y xc fx:Str}{ps NT NS:List Str}{F:pH}{R:WOA}{W:Str->Addr->Fn}(T:iC X.prog X.w X.K X.mg X.base o k ps (lB X.K X.mg m F))(L:xq X.prog X.w X.K X.mg X.base k2 fx NS W)(xk:ug X.K X.mg xc NT NS)(hW:∀nm∈NS,∀ea,up (W nm ea) [.obj ea] (λd'=>d'=.lst true [.str nm]))(hR:OA X.nox b (e::es) R)
  (hie:X.N[ie]?=some n:=by rfl) (hib:X.N[ib]?=some y:=by rfl) (hn:X.env.scope.names.lookup n=some .local:=by rfl) (hy:X.env.scope.names.lookup y=some .local:=by rfl) (hne:ie≠ib:=by decide) (hN:X.N.Nodup:=by decreasing_trivial) (hr:bK k X.A:=by decreasing_trivial) (hr2:bK k2 X.A:=by decreasing_trivial)
  (hst:X.stack=X.env::X.outer:=by rfl) (hfr:X.env.frame=some X.env.locals:=by rfl) (hK:b.K=X.K:=by rfl) (hgo:Gl X o:=by rfl) (hg:Gl X fx:=by rfl) (hgc:Gl X xc:=by rfl) (hdo:(o==("__debug__":Str))=false:=by decide) (hdb:(fx==("__debug__":Str))=false:=by decide) (hdc:(xc==("__debug__":Str))=false:=by decide) (hdn:(n==("__debug__":Str))=false:=by decide) (hdk:(n==("__classdict__":Str))=false:=by decide)
  (hs1:swapsWith (.Call (.Name o p) (e::es) [] cpos) none spos.line X.env=pure false:=by rfl) (hs2:swapsWith (.Call (.Name fx q1) [.Name n q2] [] fpos) (some (.Name y p2)) bpos.line X.env=pure false:=by rfl)
  (sk:Sk X e es cpos:=by exact⟨rfl,rfl⟩) (he2:starEach [.Name n q2] X.env=(false,eval (.Name n q2) X.env)::starEach [] X.env:=by rfl) :
  OS X b (.Try [.Expr (.Call (.Name o p) (e::es) [] cpos) spos] [.ExceptHandler (some (.Name xc np)) (some n) [.Assign [.Name y p2] (.Call (.Name fx q1) [.Name n q2] [] fpos) bpos] hpos] [] [] pos) (zsV ie ib (λY=>xr m F Y R) (kdN NS))where
 mono:=λE E' qh S l ⟨Y,q,h⟩=>⟨Y,zfU hR.mono S qh _ _ (λd qk z=>l.nx qk _ z) q,λnm qk z=>let⟨d,h1,h2⟩:=h nm qk z;⟨d,h1,l.nx qk _ h2⟩⟩
 ps:=by
  intro aa s Z H Ds I ⟨S,G,qh,M,r,Y,q,hY⟩;obtain⟨Dc,hmD,h2D⟩:=xk.top;obtain⟨f,fd,FO,hmo,hko,hb⟩:=T.ex;have h:=zmX (X:=X) (y:=Y) (Q:=λv H'=>∃d qk G' M',pq b qk M' S Z H' G' d v/\Same G G'/\Dm M M'/\(sO b G M Ds).nx qk S) (E:=λv _ H'=>∃nm C qk M' G',v=.ref C/\Y nm qk/\X.mg nm=some (.ref C)/\dg b qk M' S Z H' G'/\Same G G'/\Dm M M') hK hR.mono r
   (zfU hR.mono S qh _ _ (λd qk z v H' G' M' rp sg dm=>⟨d,qk,G',M',rp,sg,dm,z⟩) q) (λnm C qk M' H' G' w hc r2 sg dm=>⟨nm,C,qk,M',G',rfl,w,hc,r2,sg,dm⟩)
  refine wpAny_Try_except (YCq (wpAny_Expr_any (lD (zsF FO hr hgo hmo hko hb hR.pa I h hdo sk.1 sk.2) (λu s1 ⟨v,H1,I1,rv,d,qk,G',M',⟨G1,o1,r1,rp⟩,sg,dm,nx⟩=>?_) λx s' ⟨H1,s1,I1,ea,Cc,H2,ee,N,nm,Cc',qk,M',G',e1,yy,hmn,r2,sg,dm⟩=>?_) I.quiet hs1))
  .exact Di (Di ⟨_,H1,I1,nx _ _ G' M' ⟨G1,o1,r1⟩ sg dm⟩)
  .subst ee;cases e1;obtain⟨d,hd,nx⟩:=hY nm qk yy;have hns:nm∈NS:=by
    unfold kdN at hd;split at hd
    .assumption
    .cases hd
   have hx1:=h2D nm hns Cc hmn;have hW:∀ea,up (W nm ea) [.obj ea] (λd'=>d'=d):=by
    unfold kdN at hd;rw[if_pos hns]at hd;cases hd;exact hW nm hns
   refine zt6 I1 hst hfr N hgc hmD hx1 hN hie hn (λoe s2 hoc hcx I2=>?_) hdc;obtain⟨fs,hfs,h2⟩:=hcx;obtain⟨f2,fd2,y2,hmf,hk2,hb2,run⟩:=L.ex;obtain⟨G1,o1,r1⟩:=r2;have hσ:ie<Z.length:=by rw[I1.len];exact(jC.mp hie).1
   refine YCq (wpAny_Assign_Name (v9 (xX I2 hg hmf ?_ hdb)) hs2);refine G7 (h₀:=X.base) I.ok.mod.kin hk2 (bH (iI (X:=X.sup ea oe λ_ _=>False) (kO hie (.inl hn) hdn hdk) jW he2 fpos aa s2 (Z.set ie (some (.ref ea))) H2 (λvs H3=>vs=[.ref ea]/\H2=H3) I2 ⟨.ref ea,jL hσ,rfl,rfl⟩) λus s3 ⟨vs,H3,I3,r3,e3,e4⟩=>⟨I3.kIn,?_⟩) he2 rfl;subst e3;cases e4;obtain⟨u1,e5,r5⟩:∃u,us=[u]/\RelV (.ref ea) u:=by
    cases r3 with
    |cons a b=>cases b;exact⟨_,rfl,a⟩
   cases r5;subst e5;obtain⟨g1,g2,g3,g4,_⟩:=I3.pin (ea,oe) gC;refine Dr (Fw (run (X.A.mark (some (.ref ea))) X.stack s3 H2 nm ea Cc oe fs (λv H4=>∃G3,aZ b.β H2 G' H4 G3/\Rep ⟨X.K,b.β,H2,G',True⟩ G3 d v) b.β G' hns hmn ⟨rfl,hr2.dp,hr2.un⟩ rfl g1 hoc hfs h2 g2 (λz=>(iU.mp (I3.stkSub ea z)).elim g3 g4) I3.env0 r1.gh r1.bx (qD _ _ (λd'=>d'=d) _ (λd' z v H' G'' t rp=>⟨G'',t,z▸rp⟩) (hW ea))) λrs s' hq=>?_);cases rs with
   |error er=>exact False.elim hq
   |ok fl=>
    cases fl with
    |next=>exact False.elim hq
    |brk=>exact False.elim hq
    |cont=>exact False.elim hq
    |ret u=>
     obtain⟨v,H4,I4,rv,G3,t,rp⟩:=I3.after hq;refine Ff (X:=X.sup ea oe λ_ _=>False) I4 hN hib (.inl hy) rv (λs5 I5=>Di (zr7 (I5.unsup I.ok) hN hie hn λs6 I6=>⟨_,_,I6,?_⟩)) (.inr hy);rw[List.set_comm _ _ hne.symm,List.set_set];exact nx _ _ G3 M' ⟨G1,o1,((r1.step t).unput).put (Rep.back (c':=⟨X.K,b.β,H2,G',True⟩) (c:=dI b qk M' G1) hK.symm rfl (λa h=>r1.new0 h) rp)⟩ (sg.trans t.gg) dm
def qJ(i:Nat)(A:WOE):WF:=λE qh S=>match S[i]? with
 |some (.own xs)=>A S qh λd qk=>xs.length<100000/\E.nx qk (S.set i (.own (xs++[d])))
 |_=>False
def zsL(i:Nat)(hA:OE X b e A)(nk:Nk X i x:=by decreasing_trivial)
  (hbase:attributeBase (.Name x p) "append" X.env (eval (.Name x p) X.env)=eval (.Name x p) X.env:=by rfl)
  (hfew:((backTo cpos (starEach [e] X.env)).all (λx=>!x.1)&&(backToKw cpos (keywordEach [] X.env)).all (λx=>x.1.isSome)
   && decide (([e]:List Expr).length+([]:List Keyword).length+(if ([]:List Keyword).isEmpty then 0 else 1)<30))=true:=by rfl)
  (hline:(apos.endLine==cpos.line)=true:=by rfl) (hs:starEach [e] X.env=(false,eval e X.env)::starEach [] X.env:=by rfl)
  (hsw:swapsWith (.Call (.Attribute (.Name x p) "append" apos) [e] [] cpos) none pos.line X.env=pure false:=by rfl):OS X b (.Expr (.Call (.Attribute (.Name x p) "append" apos) [e] [] cpos) pos) (qJ i A)where
 mono:=λE E' qh S l q=>by
  unfold qJ at q ⊢;split at q
  .exact hA.mono S qh _ _ (λd qk z=>⟨z.1,l.nx _ _ z.2⟩) q
  .exact q.elim
 ps:=kY (Jg (Jr YBO YB3 YB4 zfB (kO nk.N nk.v nk.d nk.c) (iI hA.pe jW hs) hbase hfew hline hs rfl) hsw) λD Z H ⟨S,G,qh,M,r,q⟩=>by
  unfold qJ at q;split at q
  .rename_i xs ek
   obtain⟨G1,o,r1⟩:=r;obtain⟨a,vs,h1,h2,h3,h4,h5,h6⟩:=r1.slot i _ ek;refine⟨.ref a,h1,.inl ⟨rfl,vs,cz.of h2⟩,S,G,qh,M,⟨G1,o,r1⟩,hA.mono S qh _ _ (λd qk z w H' G' M' rp sg dm=>?_) q⟩;obtain⟨G2,o2,r2,e2⟩:=rp;obtain⟨a',vs',g1,g2,g3,g4,g5,g6⟩:=r2.slot i _ ek;have ea:a'=a:=by rw[h1]at g1;injection g1 with g1;injection g1 with g1;injection g1 with g1;exact g1.symm
   subst ea;refine⟨a',vs',w,rfl,rfl,g2,?_,?_⟩
   .rw[<-g6.length];exact jA z.1 (eZ (dG _))
   .exact z.2 _ _ G' M' ⟨G2,o2,r2.write ek g1 (g6.append (.one e2))⟩ sg dm
  .exact q.elim
abbrev zrd(n:Nat)(F:bN->Fn)(R:WOA):WOE:=λS qh Q=>R S qh λds S1=>ds.length=n/\up (F S1) ds λd=>Q d S1
def zsY(C:eQ X.prog X.w X.K X.mg X.base x k ps (jg X.K n F))(hR:OA X b (e::es) R)(hg:Gl X x:=by rfl)
  (hdb:(x==("__debug__":Str))=false:=by decide) (sk:Sk X e es pos:=by exact⟨rfl,rfl⟩) (hK:b.K=X.K:=by rfl) (hr:bK k X.A:=by decreasing_trivial) :
  OE X b (.Call (.Name x p) (e::es) [] pos) (zrd n F R)where
 mono:=λS qh Q Q' l q=>hR.mono S qh _ _ (λds S1 z=>⟨z.1,qD (F S1) ds _ _ (λd w=>l d S1 w) z.2⟩) q
 pe:=by
  obtain⟨f,fd,FO,hm,hk,hb⟩:=C.ex;refine dM (wZ FO hr hg hm hk hb .nil zp hR.pa hdb sk.1 sk.2) λZ H Q ⟨S,G,qh,M,r,q⟩=>⟨S,G,qh,M,r,hR.mono S qh _ _ (λds S1 z vs H' G' M' r' s' m'=>?_) q⟩;show jg X.K n F (vs++[]) H' Q E0;rw[YAK];obtain⟨Ga,oa,ra,ea⟩:=r';exact ra.read (zrz ra.kn) hK ea z.1 (qD (F S1) ds _ _ (λd w v H2 G2 t2 e2=>w v H2 G2 M' ⟨Ga,oa,ra.step t2,e2⟩ (s'.trans t2.gg) m') z.2)
end
noncomputable def HN:Fn:=dU 8 ((aC (aQ (.nm 3) (ak aF (vW 2) (bA 2 dW (aq (vW 0) (aq (kW (.int 16)) ao)))))
  (aC (gV 4 (aX (aq (bu (aq (kW (.str "strike")) (aq (ak bh (ak bQ (vW 1) (kW (.str "entered"))) (kW (.int 1))) ao))) (aq (bu (aq (kW (.str "allow")) (aq (kW (.int 4)) ao))) (aq (bu (aq (kW (.str "allow")) (aq (my gG (kW (.int 1))) ao))) (aq (bu (aq (kW (.str "mark")) (aq (ak bh (vW 3) (kW (.str "A"))) ao))) (aq (bu (aq (kW (.str "hand")) (aq (kW (.str "")) ao))) ao)))))))
  (aC (j7 4 (gV 4 (ud (vW 4) (aM (aX (aq (bu (aq (kW (.str "run")) (aq (vW 3) (aq (vW 3) (aq (kW (.int 0)) (aq (vW 3) ao)))))) (aq (bu (aq (kW (.str "settle")) (aq (kW (.str "")) ao))) (aq (bu (aq (kW (.str "aside")) (aq (kW (.str "A")) ao))) (aq (bu (aq (kW (.str "heed")) (aq (kW (.str "")) ao))) ao)))))))))
  (aC (pO (fM (bA 1 yS (aq (vW 1) ao))) (.nm 5) (aC (j7 4 (gV 4 (ud (vW 4) (aM (aX (aq (bu (aq (kW (.str "mark")) (aq (vW 5) ao))) (aq (bu (aq (kW (.str "run")) (aq (vW 5) (aq (vW 5) (aq (kW (.int 0)) (aq (kW (.str "")) ao)))))) (aq (bu (aq (kW (.str "run")) (aq (kW (.str "")) (aq (vW 5) (aq (kW (.int 1000000001)) (aq (kW (.str "A")) ao)))))) ao))))))))
  (je 4 (bu (aq (kW (.str "run")) (aq (vW 5) (aq (ak aF (bA 1 yS (aq (vW 1) ao)) (my gG (kW (.int 1)))) (aq (kW (.int 1000000001)) (aq (kW (.str "")) ao)))))))))
  (aC (pO (zqG (ak bQ (vW 1) (kW (.str "heeded")))) (.nm 6) (j7 4 (gV 4 (ud (vW 4) (aM (aX (aq (bu (aq (kW (.str "hand")) (aq (vW 6) ao))) (aq (bu (aq (ak aF (aM (aX (aq (kW (.str "aside")) (aq (kW (.str "heed")) ao)))) (cbW lL (aq (ak bQ (ak bQ (vW 1) (kW (.str "heeded"))) (vW 6)) ao))) (aq (vW 6) ao))) ao))))))))
  (aC (pO (fM (ak bQ (vW 1) (kW (.str "rows")))) (.nm 7) (je 4 (bu (aq (kW (.str "mend")) (aq (ak aF (vW 7) (kW (.int 0))) (aq (kW (.int 1000000001)) ao))))))
  (aP (fV 4 (bA 2 dW (aq (vW 0) (aq (CN 4) ao))))))))))))
def JP(A:il):pH:=pQ 3 (λY=>(cU (sW (.nm 1) (zss A.fen (J9 A) Y))
  (cU (BR (λqh=>(fM (vW 0))) (.nm 2) (zuM (uV 1 A.fen "deed" 2 (Ex A) Y (mX (qy λqh=>(vW 2)) jN))))
  (nG λqh=>(aP (vW 1))))))
def zci(A:il):pH:=pQ 3 (λY=>(cU (nG λqh=>(aQ (.nm 1) (aM (aX ao))))
  (cU (zsV 2 1 (λY1=>xr 1 (JP A) Y1 (mX (qy λqh=>(vW 0)) jN)) (kdN tO))
  (nG λqh=>(aP (vW 1))))))
noncomputable def zb4:Fn:=dU 7 ((aC (aQ (.nm 2) (bA 2 dW (aq (vW 0) (aq (kW (.int 4)) ao))))
  (aC (cW (lr (bG (ak wB (vW 2) (kW (.int 2)))) (bG (ak jT (ak bQ (vW 1) (kW (.str "rows"))) (aM (aX ao))))) (aC (aQ (.nm 3) (ak aF (ak bQ (vW 1) (kW (.str "rows"))) (bA 2 dW (aq (vW 0) (aq (cbW f9 (aq (ak bQ (vW 1) (kW (.str "rows"))) ao)) ao)))))
  (aC (aQ (.nm 4) (ak bh (ak j4 (bA 1 Be (aq (ak aF (vW 3) (kW (.int 2))) ao)) (bA 1 Be (aq (ak aF (vW 3) (kW (.int 1))) ao))) (bA 2 dW (aq (vW 0) (aq (kW (.int 2)) ao)))))
  (aP (ak aF (aM (aX (aq (bu (aq (kW (.str "strike")) (aq (ak aF (vW 3) (kW (.int 0))) ao))) (aq (bu (aq (kW (.str "mend")) (aq (ak aF (vW 3) (kW (.int 0))) (aq (vW 4) ao)))) ao)))) (vW 2))))) bL)
  (aC (cW (lr (bG (ak cM (vW 2) (kW (.int 2)))) (lr (bG (ak jT (ak bQ (vW 1) (kW (.str "places"))) (aM (aX ao)))) (bG (ak wB (cbW f9 (aq (ak bQ (vW 1) (kW (.str "places"))) ao)) (kW (.int 12)))))) (aC (aQ (.nm 5) (bA 1 yS (aq (vW 1) ao)))
  (aP (bu (aq (kW (.str "settle")) (aq (ak aF (vW 5) (bA 2 dW (aq (vW 0) (aq (cbW f9 (aq (vW 5) ao)) ao)))) ao))))) bL)
  (aC (cW (lr (bG (ak cM (vW 2) (kW (.int 3)))) (bG (ak xP (Ew (ak bQ (vW 1) (kW (.str "heeded")))) (kW (.int 0))))) (aC (aQ (.nm 6) (ak aF (aM (Ih (ak bQ (vW 1) (kW (.str "heeded"))))) (bA 2 dW (aq (vW 0) (aq (Ew (ak bQ (vW 1) (kW (.str "heeded")))) ao)))))
  (aP (bu (aq (ak aF (aM (aX (aq (kW (.str "heed")) (aq (kW (.str "aside")) ao)))) (cbW lL (aq (ak bQ (ak bQ (vW 1) (kW (.str "heeded"))) (vW 6)) ao))) (aq (vW 6) ao))))) bL)
  (aP (kW .non)))))))
noncomputable def Ii:Fn:=dU 6 ((aC (aQ (.nm 3) (bA 2 dW (aq (vW 0) (aq (kW (.int 12)) ao))))
  (aC (aQ (.nm 4) (kW .non))
  (aC (cW (bG (ak wB (vW 3) (kW (.int 7)))) (aQ (.nm 4) (bA 2 zbS (aq (vW 0) (aq (vW 1) ao)))) (cW (bG (ak wB (vW 3) (kW (.int 9)))) (aQ (.nm 4) (bA 2 zb4 (aq (vW 0) (aq (vW 1) ao)))) (cW (bG (ak cM (vW 3) (kW (.int 9)))) (aQ (.nm 4) (bu (aq (kW (.str "allow")) (aq (bA 2 dW (aq (vW 0) (aq (kW (.int 4)) ao))) ao)))) bL)))
  (aC (aQ (.nm 5) (aM (fC [none,some 1] (fM (vW 2)) (.nm 0) (lR true (vW 0) (ak bQ (vW 1) (kW (.str "heeded")))) (vW 0))))
  (aC (cW (lr (bG (kh (vW 4))) (lr (bG (ak xP (cbW f9 (aq (vW 5) ao)) (kW (.int 0)))) (lr (bG (ak wB (Ew (ak bQ (vW 1) (kW (.str "heeded")))) (kW (.int 10)))) (bG (ak cM (bA 2 dW (aq (vW 0) (aq (kW (.int 2)) ao))) (kW (.int 0))))))) (aP (bu (aq (kW (.str "hand")) (aq (ak aF (vW 5) (bA 2 dW (aq (vW 0) (aq (cbW f9 (aq (vW 5) ao)) ao)))) ao)))) bL)
  (aC (aQ (.nm 5) (aM (fC [none,some 1] (fM (vW 2)) (.nm 0) (bG (ak cM (bA 2 sG (aq (vW 1) (aq (vW 0) ao))) (kW (.int 0)))) (vW 0))))
  (aC (cW (lr (bG (kh (vW 4))) (lr (bG (ak xP (cbW f9 (aq (vW 5) ao)) (kW (.int 0)))) (bG (ak wB (cbW f9 (aq (ak bQ (vW 1) (kW (.str "places"))) ao)) (kW (.int 12)))))) (aP (bu (aq (kW (.str "mark")) (aq (ak aF (vW 5) (bA 2 dW (aq (vW 0) (aq (cbW f9 (aq (vW 5) ao)) ao)))) ao)))) bL)
  (aP (Ah (vW 4) (bu (aq (kW (.str "allow")) (aq (bA 2 dW (aq (vW 0) (aq (kW (.int 3)) ao))) ao)))))))))))))
noncomputable def Kv(A:il):WF:=(cU (nG λqh=>(aQ (.nm 2) (bA 2 FN (aq (vW 1) (aq (kW (.int 16)) ao)))))
  (cU (sW (.nm 3) (zss A.fen (J9 A) (λ_ _=>False)))
  (cU (nG λqh=>(gV 4 (aX (aq (bA 0 K7 ao) ao))))
  (cU (BR (λqh=>(uY (ak bh (kW (.int 1)) (bA 2 dW (aq (vW 1) (aq (kW (.int 16)) ao)))))) (.nm 5) (cU (qJ 4 (xr 3 (zdT A) (λ_ _=>False) (mX (qy λqh=>(vW 3)) (mX (qy λqh=>(fV 4 (my gG (kW (.int 1))))) (mX (qy λqh=>(bA 3 Ii (aq (vW 1) (aq (fV 4 (my gG (kW (.int 1)))) (aq (vW 2) ao))))) jN)))))
  (nG λqh=>(cW (bG (kh (fV 4 (my gG (kW (.int 1)))))) (aP (kW (.bl false))) bL))))
  (cU (nG λqh=>(aQ (.nm 6) (ak bQ (fV 4 (my gG (kW (.int 1)))) (kW (.str "deeds")))))
  (cU (nG λqh=>(aQ (.nm 7) (bA 2 dW (aq (vW 1) (aq (CN 4) ao)))))
  (cU (nG λqh=>(aQ (.nm 8) (bA 3 HN (aq (vW 1) (aq (fV 4 (vW 7)) (aq (vW 2) ao))))))
  (cU (Ay (ztj 2 (ye 6) (mX (xr 1 (zci A) (λ_ _=>False) (mX (qy λqh=>(ak bh (ak bh (ji (vW 6) rK (rH (vW 7))) (aM (aX (aq (vW 8) ao)))) (ji (vW 6) (rH (vW 7)) rK))) jN)) (mX (qy λqh=>(aM (aX (aq (bA 2 zE (aq (fV 4 (vW 7)) (aq (vW 8) ao))) ao)))) jN))) (nG λqh=>(aP (kW (.bl false)))) nilF)
  (JM (zrd 2 (zc7 A) (mX (xr 1 (JP A) (λ_ _=>False) (mX (qy λqh=>(aM (yr (vW 6)))) jN)) (mX (qy λqh=>(fV 4 (my gG (kW (.int 1))))) jN))))))))))))
def tZ(s:Ya)(v:D):Prop:=∃d,v=yD d/\nC d/\why s d=none
def uf(C:WT)(S:Env)(X:Prop):Prop:=∀Q:Bool->Prop,Q false->(X->Q true)->C S Q
section
variable{S:Env}{C T:WT}{b:Bool}{X Y:Prop}{A B:WE}{E:En}{U V R:WS}
def tY(h:fG C S b):uf C S (b=true):=λQ f t=>h Q (by
 cases b
 .exact f
 .exact t rfl)
def yx(h:uf C S X)(h2:X->uf T S Y):uf (lr C T) S (X/\Y):=λQ f t=>h _ f λx=>h2 x Q f λy=>t ⟨x,y⟩
def zwv(hA:j6 A S λv=>∃i:Int,v=.int i){k:Int}:uf (bG (ak cM A (kW (.int k)))) S True:=λQ f t=>hA _ (by
 rintro _ ⟨i,rfl⟩;refine aG _ (zrb ?_);show Q (decide (i=k));cases decide (i=k)
 .exact f
 .exact t trivial)
def JK(h:uf C S X)(hA:X->aC U R E S)(hR:R E S):aC (cW C U bL) R E S:=h _ hR hA
def ztB{i:Nat}{M:WE}{m:Int}(hb:S[i]?=some (.val .box))(hM:Ev M S (.int m))(h0:0<m)(h1:m<2^64):j6 (bA 2 dW (aq (vW i) (aq M ao))) S (λv=>∃i:Int,v=.int i):=zpz (wU hb hM h0 h1) λv ⟨x,h,_⟩=>⟨x,h⟩
def zvD{n:Bool}{xs:List D}(hA:Ev A S (.lst n xs))(hl:cD xs=true):fG (bG (ak jT A (aM (aX ao)))) S (!xs.isEmpty):=dC (lE hA (fu (jR aY)) λP p=>⟨⟨by unfold dF;exact hl,by unfold dF;rw[cD],by
 refine YAB (YCs _ _) ?_;show(toPy (.lst true [])).depth<=50;exact(by decide:1<=50)⟩,by rw[znR];exact p⟩)
end
def zqF{s:Ya}(ok:dH s):cD (s.rs.map b7)=true:=by
 have h:∀r∈s.rs,cA r.h=true:=λr hr=>ok.h.cA _ (ok.ra r hr).2.2;revert h
 induction s.rs with
 |nil=>intro _;rw[rZ,cD]
 |cons r rs ih=>
  intro h;rw[d7,cD,ih λq hq=>h q (kj _ hq)]
  have:=h r gC
  unfold b7;simp[dF,cD,PyData.canLay0];exact this
section
variable{s:Ya}{m:D}
def zoF{r:Yr}(hr:r∈s.rs):why s (.strike r.n)=none:=by
 show wI s r.n=none;unfold wI;rw[if_neg λz=>z (YAD.mpr ⟨r,hr,rfl⟩)]
def zse{r:Yr}{k:Int}(hr:r∈s.rs)(hk:okR k=true):why s (.mend r.n k)=none:=by
 show zm s r.n k=none;unfold zm;rw[if_neg λz=>z (YAD.mpr ⟨r,hr,rfl⟩),if_neg (by rw[hk];decide)]
abbrev enO(s:Ya):En:={nx:=λ_=>(D.non:D)=.non\/tZ s .non,rt:=λv=>v=.non\/tZ s v,bk:=λ_=>False,ct:=λ_=>False}
def zkp(hm:m.old=aV s)(ok:dH s):zb4 [.box,m] (λv=>v=.non\/tZ s v):=by
 have lp:=ok.p.ln;have rl:=ok.rl;refine cR (S:=[.val .box,.val (aV s),.un,.un,.un,.un,.un]) (by unfold fU;simp[zkG,hm]) ?_;refine zev (wU (b:=0) rfl aG (by decide) (by decide)) ?_;rintro _ ⟨way,rfl,w0,w4⟩;show aC _ _ (enO s) [.val .box,.val (aV s),.val (.int way),.un,.un,.un,.un];refine JK (yx (tY (dC (zc (aA rfl) aG))) λ_=>tY (zvD (cG rfl (m3 s)) (zqF ok))) (λ⟨h1,h2⟩=>?_) ?_
 .have w2:=km h1;have l0:0<s.rs.length:=by
   cases e:s.rs with
   |nil=>rw[e]at h2;cases h2
   |cons x xs=>simp
  refine Ab (zev (P:=λv=>∃r∈s.rs,v=b7 r) (Cm (yg (cG rfl (m3 s))) (wU (b:=0) (m:=s.rs.length) rfl (lW (pY (cG rfl (m3 s))) (by rw[b8])) (by omega) (by omega)) λa b ha hb Q q=>?_) ?_)
  .obtain⟨z,rfl,z0,z1⟩:=hb;subst ha;obtain⟨j,rfl⟩:=YAP z0;have hj:j<s.rs.length:=by omega
   show(match gO (s.rs.map b7) (j:Int)with|some d=>Q d|none=>False);rw[fL (j:=j) (by rw[jV,jB hj];rfl)];exact q _ ⟨s.rs[j],yL hj,rfl⟩
  rintro _ ⟨r,hr,rfl⟩;obtain⟨ra,rb,_⟩:=ok.ra r hr;have v3:Ev (vW 3) [.val .box,.val (aV s),.val (.int way),.val (b7 r),.un,.un,.un] (.tup [.int r.n,.int r.a,.int r.b,.int r.r,.str r.h]):=aA rfl;refine zev (P:=λv=>∃k:Int,v=.int k/\okR k=true) (Cm (yg (zi4 (iY (aJ (jY (k:=2) (d:=.int r.b) v3 aG (fL (j:=2) rfl)) aY) (zfk (by omega) (by omega))) (iY (aJ (jY (k:=1) (d:=.int r.a) v3 aG (fL (j:=1) rfl)) aY) (zfk (by omega) (by omega))))) (wU (b:=0) rfl aG (by decide) (by decide)) λa b ha hb Q q=>?_) ?_
  .obtain⟨z,rfl,z0,z1⟩:=hb;subst ha;refine q _ ⟨_,rfl,zix ?_ ?_⟩
   .generalize (r.a:Int)*(r.a:Int)*3=u;generalize (r.b:Int)*(r.b:Int)*3=v;omega
   .generalize (r.a:Int)*(r.a:Int)*3=u;generalize (r.b:Int)*(r.b:Int)*3=v;omega
  rintro _ ⟨k,rfl,hk⟩;have v3:Ev (vW 3) [.val .box,.val (aV s),.val (.int way),.val (b7 r),.val (.int k),.un,.un] (.tup [.int r.n,.int r.a,.int r.b,.int r.r,.str r.h]):=aA rfl;have e0:=jY (k:=0) (d:=.int r.n) v3 aG (fL (j:=0) rfl);have el:=fu (jR (ds:=[yD (.strike r.n),yD (.mend r.n k)]) (aJ (iG (ds:=[.str "strike",.int r.n]) (aJ aG (aJ e0 aY))) (aJ (iG (ds:=[.str "mend",.int r.n,.int k]) (aJ aG (aJ e0 (aJ (aA (i:=4) rfl) aY)))) aY)));rcases(by omega:way=0\/way=1)with rfl|rfl
  .exact iV (uD (k:=0) el (aA rfl) (fL (j:=0) rfl)) (.inr ⟨.strike r.n,rfl,trivial,zoF hr⟩)
  .exact iV (uD (k:=1) el (aA rfl) (fL (j:=1) rfl)) (.inr ⟨.mend r.n k,rfl,trivial,zse hr hk⟩)
 refine JK (yx (tY (dC (pN (aA rfl) aG))) λ_=>yx (tY (zvD (cG rfl (m1 s)) (ziz ok.p.cA))) λ_=>tY (dC (zc (pY (cG rfl (m1 s))) aG))) (λ⟨_,h2,h3⟩=>?_) ?_
 .have l12:s.pl.length<12:=by have:=km h3;rw[b8]at this;omega
  have ml:(eO s.pl).length<=12:=YAB (znt _) lp;have m0:0<(eO s.pl).length:=by
   cases e:s.pl with
   |nil=>rw[e]at h2;cases h2
   |cons p pl=>
    have h1:(p.1,1)∈s.pl:=ok.pt.one p.1 (kJ.mpr (YAD.mpr ⟨p,by rw[e];exact gC,rfl⟩));rw[<-e];refine List.length_pos_of_mem (a:=p.1) ?_;exact CG.mpr ⟨_,h1,rfl⟩
  refine Ab (jt (lW (iY (aJ (aA rfl) aY) (Hs ok)) (by rw[zmB])) ?_);refine(zsk (T:=λv=>v=.non\/tZ s v) (PL:=λds=>∃x∈eO s.pl,ds=[.str "settle",.str x]) (zmr (yg aG) (zmr (zgC (ns:=eO s.pl) (b:=true) (i:=0) (aA rfl) rfl (lW (pY (aA rfl)) (by rw[b8])) m0 (by omega)) ztd (TL:=λds=>∃x∈eO s.pl,ds=[.str x]) ?_) ?_) ?_ ?_) _ λd p=>p
  .rintro _ _ ⟨x,hx,rfl⟩ rfl;exact⟨x,hx,rfl⟩
  .rintro _ _ rfl ⟨x,hx,rfl⟩;exact⟨x,hx,rfl⟩
  .rintro _ ⟨x,hx,rfl⟩;show 2<=100000;decide
  .rintro _ ⟨x,hx,rfl⟩;refine .inr ⟨.settle x,rfl,Tx.name (zmk ok x hx),?_⟩;show ym s x=none
   have:=yM hx
   unfold ym;rw[if_neg (by omega),if_neg (by omega)]
 refine JK (yx (tY (dC (pN (aA rfl) aG))) λ_=>tY (dC (zT (zie (cG rfl (m2 s))) aG))) (λ⟨_,h2⟩=>?_) (iV aG (.inl rfl));have h0:0<(aR s).length:=by have:=km h2;omega
 have hl:=kZ ok;refine Ab (zev (zgC (ns:=aR s) (b:=true) (i:=0) (fu (ziT (cG rfl (m2 s)) (by omega))) rfl (zie (cG rfl (m2 s))) h0 (by omega)) ?_);rintro _ ⟨x,hx,rfl⟩;refine iV (iG (ds:=[.str (if (!decide (x∈s.sd))=true then "aside" else "heed"),.str x]) (aJ (ziB (Er (z:=x) (cG (i:=1) rfl (m2 s)) (aA rfl) (Fx ok hx))) (aJ (aA rfl) aY))) ?_;by_cases e:x∈s.sd
 .rw[gB e];refine .inr ⟨.heed x,rfl,Tx.name (ok.h.ok x hx),?_⟩;show yc s x=none;unfold yc;rw[if_neg λz=>z hx,if_neg λz=>z e]
 .rw[gY e];refine .inr ⟨.aside x,rfl,Tx.name (ok.h.ok x hx),?_⟩;show wA s x=none;unfold wA;rw[if_neg λz=>z hx,if_neg e]
end
def Ef{X Y:WS}{E:En}{S:Env}(I:Env->Prop)(hA:∀E2:En,(∀ S,I S->E2.nx S)->X E2 S)(hB:∀ S,I S->Y E S):aC X Y E S:=hA {E with nx:=Y E} hB
section
variable{s:Ya}{m:D}{pool:List Str}
abbrev eG(s:Ya)(pool:List Str)(x3 x4 x5:Sl):Env:=[.val .box,.val (aV s),.val (.lst false (pool.map D.str)),x3,x4,x5]
def zjM{S:Env}{w:Str}{ns:List Str}{i:Nat}{T:D->Prop}(hv:S[i]?=some (.val (.lst true (ns.map D.str))))(hb:S[0]?=some (.val .box))(h0:0<ns.length)(h1:ns.length<1000)(k:∀x∈ns,T (.tup [.str w,.str x])):j6 (bu (aq (kW (.str w)) (aq (ak aF (vW i) (bA 2 dW (aq (vW 0) (aq (cbW f9 (aq (vW i) ao)) ao)))) ao))) S T:=λQ q=>by
 refine zgC (b:=true) (ns:=ns) (aA hv) hb (lW (pY (aA hv)) (by rw[b8])) h0 h1 _ ?_;rintro _ ⟨x,hx,rfl⟩;exact⟨by show 2<=100000;decide,q _ (k x hx)⟩
def zqd{k:Int}(h0:0<=k)(h3:k<=3):tZ s (.tup [.str "allow",.int k]):=⟨.allow k,rfl,trivial,by show v7 k=none;unfold v7;rw[if_neg (by omega)]⟩
def zjp{S:Env}{n:Int}(hb:S[0]?=some (.val .box))(h0:0<n)(h4:n<=4):j6 (bu (aq (kW (.str "allow")) (aq (bA 2 dW (aq (vW 0) (aq (kW (.int n)) ao))) ao))) S (tZ s):=λQ q=>tk (b:=0) hb aG h0 (by omega) λw w0 w1=>⟨by show 2<=100000;decide,q _ (zqd w0 (by omega))⟩
def zqD{n:Bool}(hm:m.old=aV s)(ok:dH s)(hl:pool.length=16)(hn:∀y∈pool,nameB y=true):Ii [.box,m,.lst n (pool.map D.str)] (tZ s):=by
 refine cR (S:=eG s pool .un .un .un) (by unfold fU;simp[hm,iH (gj iy pool)];rw[D.old]) ?_;have lh:=kZ ok;have lp:=ok.p.ln;refine zev (wU (b:=0) rfl aG (by decide) (by decide)) ?_;rintro _ ⟨way,rfl,_,_⟩;refine jt aG ?_;refine Ef (λS=>∃v,(v=.non\/tZ s v)/\S=eG s pool (.val (.int way)) (.val v) .un) (λE2 h2=>?_) ?_
 .have go:∀v,(v=.non\/tZ s v)->E2.nx ((eG s pool (.val (.int way)) (.val .non) .un).set 4 (.val v)):=λv hv=>h2 _ ⟨v,hv,rfl⟩;have e1:=dC (zc (S:=eG s pool (.val (.int way)) (.val .non) .un) (aA (i:=3) rfl) (aG (d:=.int 7)));have e2:=dC (zc (S:=eG s pool (.val (.int way)) (.val .non) .un) (aA (i:=3) rfl) (aG (d:=.int 9)));have e3:=dC (pN (S:=eG s pool (.val (.int way)) (.val .non) .un) (aA (i:=3) rfl) (aG (d:=.int 9)));have dn:=Kr ok;cases c1:decide (way<7)with
  |true=>exact Dn (bU e1 c1) (zs4 (zgA (aJ (aA rfl) (aJ (aA rfl) aY)) (zjq dn ok)) λv hv=>go v (hv.imp id λ⟨d,h1,h2,h3,_⟩=>⟨d,h1,h2,h3⟩))
  |false=>
   refine Cz (bU e1 c1) ?_;cases c2:decide (way<9)with
   |true=>exact Dn (bU e2 c2) (zs4 (zgA (aJ (aA rfl) (aJ (aA rfl) aY)) (zkp dn ok)) go)
   |false=>
    refine Cz (bU e2 c2) ?_;cases c3:decide (way=9)with
    |true=>exact Dn (bU e3 c3) (zs4 (zjp (s:=s) rfl (by decide) (by decide)) λv hv=>go v (.inr hv))
    |false=>exact Cz (bU e3 c3) (h2 _ ⟨.non,.inl rfl,rfl⟩)
 rintro _ ⟨v,hv,rfl⟩;refine jt (fu (Ft (emb:=D.str) (ys:=pool) (λx=>!decide (x∈aR s)) (rQ (aA rfl)) (by omega) λx _=>bU (zrO (neg:=true) (z:=x) (aA rfl) (cG (i:=1) rfl (m2 s))) (by
  by_cases e:x∈aR s
  .rw[gB e,zR.mpr e];rfl
  .rw[gY e,show(aR s).contains x=false by rw[<-YCv,zR];exact e];rfl))) ?_
 have lf:∀p:Str->Bool,(pool.filter p).length<=16:=λp=>hl▸Jj _ _;have l1:=lf λx=>!decide (x∈aR s);have i1:∀x∈pool.filter λx=>!decide (x∈aR s),nameB x=true/\x∉aR s:=λx hx=>⟨hn x (YAZ.mp hx).1,by simpa using(YAZ.mp hx).2⟩;generalize (pool.filter λx=>!decide (x∈aR s))=f1 at l1 i1;show aC _ _ _ (eG s pool (.val (.int way)) (.val v) (.val (.lst true (f1.map D.str))));refine JK (yx (tY (dC (zoM (aA rfl)))) λ_=>yx (tY (dC (zT (pY (aA rfl)) aG))) λ_=>yx (tY (dC (zc (zie (cG rfl (m2 s))) aG))) λ_=>zwv (ztB (i:=0) rfl aG (by decide) (by decide))) (λ⟨_,h2,h3,_⟩=>?_) ?_
 .have h2:=km h2;have h3:=km h3;rw[b8]at h2;refine zjM (ns:=f1) (T:=tZ s) rfl rfl (by omega) (by omega) (λx hx=>⟨.hand x,rfl,Tx.name (i1 x hx).1,?_⟩) _ λd p=>p;show uU s x=none;rw[b8]at h3;unfold uU;rw[if_neg (by rw[(i1 x hx).1];decide),if_neg (i1 x hx).2,if_neg (by omega)]
 refine jt (fu (Ft (emb:=D.str) (ys:=pool) (λx=>decide (bw s.pl x=0)) (rQ (aA rfl)) (by omega) λx hx=>bU (dC (pN (t:=0) (iY (aJ (aA rfl) (aJ (aA rfl) aY)) (zey (zqu s) ok.p (zgB (hn x hx)))) aG)) (pC (j:=0)))) ?_;have l2:=lf λx=>decide (bw s.pl x=0);have i2:∀x∈pool.filter λx=>decide (bw s.pl x=0),nameB x=true/\bw s.pl x=0:=λx hx=>⟨hn x (YAZ.mp hx).1,by simpa using(YAZ.mp hx).2⟩;generalize (pool.filter λx=>decide (bw s.pl x=0))=f2 at l2 i2;show aC _ _ _ (eG s pool (.val (.int way)) (.val v) (.val (.lst true (f2.map D.str))));refine JK (yx (tY (dC (zoM (aA rfl)))) λ_=>yx (tY (dC (zT (pY (aA rfl)) aG))) λ_=>tY (dC (zc (pY (cG rfl (m1 s))) aG))) (λ⟨_,h2,h3⟩=>?_) ?_
 .have h2:=km h2;have h3:=km h3;rw[b8]at h2 h3;refine zjM (ns:=f2) (T:=tZ s) rfl rfl (by omega) (by omega) (λx hx=>⟨.mark x,rfl,Tx.name (i2 x hx).1,?_⟩) _ λd p=>p;show wC s x=none
  have:=(i2 x hx).2
  unfold wC;rw[if_neg (by rw[(i2 x hx).1];decide),if_neg (by omega),if_neg (by omega)]
 exact zto (A:=vW 4) (T:=tZ s) (zpz (yg (aA rfl)) λu hu=>by
  subst hu;exact hv.imp id λ⟨d,h1,h2⟩=>⟨d,h1,d,rfl,h2⟩) (zjp rfl (by decide) (by decide)) _ λd p=>p
end
def vD(s:Ya)(v:D):Prop:=∃d,v=yD d/\nC d/\(why s d).isSome=true
def Br{x:Str}:nameB (x++"A")=false:=by
 cases h:nameB (x++"A")with
 |false=>rfl
 |true=>
  unfold nameB yF at h;rw[YAA]at h
  have:=km (yQ.mp h.2 65 (by rw[zms];exact rG _ (by decide +kernel)))
  have:=(zk1 65).mp this
  omega
def ztH{x:Str}(h:nameB x=false){ns:List Str}(hn:∀y∈ns,nameB y=true):x∉ns:=λz=>by rw[hn x z]at h;cases h
def nm0:nameB ""=false:=by decide +kernel
def nmA:nameB "A"=false:=by decide +kernel
def Ek:Tx "":=⟨bR,by decide +kernel⟩
def txA:Tx "A":=⟨bR,by decide +kernel⟩
def nY{c:Prop}[Decidable c]{n:Str}{o:Option Str}(h:¬ c->o.isSome=true):(if c then some n else o).isSome=true:=by
 by_cases e:c
 .rw[if_pos e];rfl
 .rw[if_neg e];exact h e
section
variable{s:Ya}{m:D}{pool:List Str}{E:En}{nm:Str}{xs ys:List D}{x5 x6 x7:Sl}
def zvA{x:Str}(ok:dH s)(h:nameB x=false):bw s.pl x=0:=Decidable.by_contra λz=>by
 obtain⟨p,hp,rfl⟩:=YAD.mp (kJ.mp (Nat.pos_of_ne_zero z));rw[ok.p.ok p hp]at h;cases h
def zlH{k:Int}(h:k<0\/3<k):vD s (.tup [.str "allow",.int k]):=⟨.allow k,rfl,trivial,by show(v7 k).isSome=true;unfold v7;rw[if_pos h];rfl⟩
def zn9{a h:Str}{r:Int}(ha:Tx a)(hh:Tx h):vD s (.tup [.str "run",.str a,.str a,.int r,.str h]):=⟨.run a a r h,rfl,⟨ha,ha,hh⟩,nY λ_=>nY λz=>absurd rfl z⟩
def zry{a b h:Str}{r:Int}(ha:Tx a)(hb:Tx b)(hh:Tx h)(z:h∉aR s):vD s (.tup [.str "run",.str a,.str b,.int r,.str h]):=⟨.run a b r h,rfl,⟨ha,hb,hh⟩,nY λ_=>nY λ_=>nY λe=>absurd z e⟩
def zor{x:Str}(hx:Tx x)(h:nameB x=false\/0<bw s.pl x):vD s (.tup [.str "mark",.str x]):=⟨.mark x,rfl,hx,nY λe=>nY λf=>(h.elim e f).elim⟩
def zny{x:Str}(hx:Tx x)(h:nameB x=false\/x∈aR s):vD s (.tup [.str "hand",.str x]):=⟨.hand x,rfl,hx,nY λe=>nY λf=>(h.elim e f).elim⟩
abbrev eH(s:Ya)(pool:List Str)(nm:Str)(xs:List D)(x5 x6 x7:Sl):Env:=[.val .box,.val (aV s),.val (.lst false (pool.map D.str)),.val (.str nm),.own xs,x5,x6,x7]
abbrev eV(s:Ya)(pool:List Str)(nm:Str)(xs:List D)(x5 x6 x7:Sl):Env:=[.val .box,.val (aV s),.val (.lst false (pool.map D.str)),.val (.str nm),.val (.lst true xs),x5,x6,x7]
def zkK{F:WL}(h:jc F (eV s pool nm xs x5 x6 x7) ys)(hl:xs.length+ys.length<=100000)(q:E.nx (eH s pool nm (xs++ys) x5 x6 x7)):j7 4 (gV 4 (ud (vW 4) (aM F))) E (eH s pool nm xs x5 x6 x7):=by
 show gV 4 (ud (vW 4) (aM F)) E (eV s pool nm xs x5 x6 x7);exact yI rfl (h _ ⟨hl,q⟩)
def zon{A:WE}{S:Env}{i:Nat}{T:D->Prop}(hi:S[i]?=some (.own xs))(h:j6 A S T)(hl:xs.length<100000)(q:∀d,T d->E.nx (S.set i (.own (xs++[d])))):je i A E S:=by
 unfold je;rw[hi];exact h _ λd p=>⟨hl,q d p⟩
structure uF(s:Ya)(xs:List D)(n:Nat):Prop where
 bd:∀d∈xs,vD s d
 ln:xs.length<=n
 ne:0<xs.length
def uF.more{n k:Nat}(h:uF s xs n)(hy:∀d∈ys,vD s d)(hl:ys.length<=k):uF s (xs++ys) (n+k):=⟨λd hd=>(YAJ.mp hd).elim (h.bd d) (hy d),by rw[gU];have:=h.ln;omega,by rw[gU];have:=h.ne;omega⟩
def zsE{F:WL}{S:Env}{i:Nat}{R:WS}(h:jc F S xs)(q:R E (S.set i (.own xs))):aC (gV i F) R E S:=h _ q
def evn{S:Env}{i:Int}:Ev (my gG (kW (.int i))) S (.int (-i)):=zrY aG λP p=>p
def zla{n:Bool}(hm:m.old=aV s)(ok:dH s)(hl:pool.length=16)(hn:∀y∈pool,nameB y=true):HN [.box,m,.lst n (pool.map D.str)] (vD s):=by
 refine cR (S:=[.val .box,.val (aV s),.val (.lst false (pool.map D.str)),.un,.un,.un,.un,.un]) (by unfold fU;simp[hm,iH (gj iy pool)];rw[D.old]) ?_;have lh:=kZ ok;have lp:=ok.p.ln;have rl:=ok.rl;have tn:∀{x},x∈aR s->Tx x:=λh=>Tx.name (ok.h.ok _ h);have tm:∀{x},x∈eO s.pl->Tx x:=λh=>Tx.name (zmk ok _ h);have h0:("":Str)∉aR s:=ztH nm0 ok.h.ok;have hA:("A":Str)∉aR s:=ztH nmA ok.h.ok;refine zev (zgC (ns:=pool) (i:=0) (b:=false) (aA rfl) rfl (lW aG (by rw[hl];rfl)) (by omega) (by omega)) ?_;rintro _ ⟨nm,hnm,rfl⟩;have tx:=Tx.name (hn nm hnm);have l8:=zwr (hn nm hnm);have txA2:Tx (nm++"A"):=⟨zsj tx.ok bR,by rw[zr4];show _+1<=_;omega⟩;refine zsE (jR (ds:=[.tup [.str "strike",.int (s.en+1)],.tup [.str "allow",.int 4],.tup [.str "allow",.int (-1)],.tup [.str "mark",.str (nm++"A")],.tup [.str "hand",.str ""]]) (S:=[.val .box,.val (aV s),.val (.lst false (pool.map D.str)),.val (.str nm),.un,.un,.un,.un]) (aJ (iG (aJ aG (aJ (Cp (cG rfl (m4 s)) aG) aY))) (aJ (iG (aJ aG (aJ aG aY))) (aJ (iG (aJ aG (aJ evn aY))) (aJ (iG (aJ aG (aJ (zph (aA rfl) aG (by show _+1<=_;omega)) aY))) (aJ (iG (aJ aG (aJ aG aY))) aY)))))) ?_;have b1:uF s [.tup [.str "strike",.int (s.en+1)],.tup [.str "allow",.int 4],.tup [.str "allow",.int (-1)],.tup [.str "mark",.str (nm++"A")],.tup [.str "hand",.str ""]] 5:=⟨by
  simp only[YAG,lz,vZ,vP,vp];refine⟨⟨.strike (s.en+1),rfl,trivial,?_⟩,zlH (by omega),zlH (by omega),zor txA2 (.inl Br),zny Ek (.inl nm0)⟩;show(wI s (s.en+1)).isSome=true;unfold wI;rw[if_pos λz=>?_];· rfl
  obtain⟨r,hr,e⟩:=YAD.mp z
  have:=ok.rn r hr
  omega,by simp,by simp⟩
 generalize [D.tup [.str "strike",.int (s.en+1)],.tup [.str "allow",.int 4],.tup [.str "allow",.int (-1)],.tup [.str "mark",.str (nm++"A")],.tup [.str "hand",.str ""]]=xs at b1;show aC _ _ _ (eH s pool nm xs .un .un .un);refine Ef (λS=>∃xs,uF s xs 9/\S=eH s pool nm xs .un .un .un) (λE2 h2=>?_) ?_
 .refine zkK (jR (ds:=[.tup [.str "run",.str nm,.str nm,.int 0,.str nm],.tup [.str "settle",.str ""],.tup [.str "aside",.str "A"],.tup [.str "heed",.str ""]]) (aJ (iG (aJ aG (aJ (aA rfl) (aJ (aA rfl) (aJ aG (aJ (aA rfl) aY)))))) (aJ (iG (aJ aG (aJ aG aY))) (aJ (iG (aJ aG (aJ aG aY))) (aJ (iG (aJ aG (aJ aG aY))) aY))))) (by have:=b1.ln;show _+4<=_;omega) (h2 _ ⟨_,b1.more (k:=4) ?_ (by show 4<=4;decide),rfl⟩);simp only[YAG,lz,vZ,vP,vp];refine⟨zn9 tx tx,⟨.settle "",rfl,Ek,?_⟩,⟨.aside "A",rfl,txA,?_⟩,.heed "",rfl,Ek,?_⟩
  .exact nY λe=>absurd (zvA ok nm0) e
  .exact nY λe=>absurd hA e
  .exact nY λe=>absurd h0 e
 rintro _ ⟨xs,bx,rfl⟩;have ml:(eO s.pl).length<=12:=YAB (znt _) lp;refine Ef (λS=>∃xs x5,uF s xs 57/\S=eH s pool nm xs x5 .un .un) (λE2 h2=>?_) ?_
 .refine rQ (lW (iY (aJ (aA rfl) aY) (Hs ok)) (by rw[zmB])) _ ?_;refine Gx (λx=>∃y∈eO s.pl,x=.str y) (λrest S=>∃xs x5 n,uF s xs n/\n+4*rest.length<=57/\S=eH s pool nm xs x5 .un .un) ?_ ?_ _ _ (λd hd=>?_) ⟨xs,.un,9,bx,by rw[b8];omega,rfl⟩
  .rintro _ rest S E' ⟨y,hy,rfl⟩ hnx _ _ _ ⟨xs,x5,n,b,hb,rfl⟩;rw[YAE]at hb;have bl:=b.ln;unfold gD;refine Ef (λS=>∃xs,uF s xs (n+3)/\S=eH s pool nm xs (.val (.str y)) .un .un) (λE2 h2=>?_) ?_
   .refine zkK (jR (ds:=[.tup [.str "mark",.str y],.tup [.str "run",.str y,.str y,.int 0,.str ""],.tup [.str "run",.str "",.str y,.int 1000000001,.str "A"]]) (aJ (iG (aJ aG (aJ (aA rfl) aY))) (aJ (iG (aJ aG (aJ (aA rfl) (aJ (aA rfl) (aJ aG (aJ aG aY)))))) (aJ (iG (aJ aG (aJ aG (aJ (aA rfl) (aJ aG (aJ aG aY)))))) aY)))) (by show _+3<=_;omega) (h2 _ ⟨_,b.more (k:=3) ?_ (by show 3<=3;decide),rfl⟩);simp only[YAG,lz,vZ,vP,vp];exact⟨zor (tm hy) (.inr (yM hy)),zn9 (tm hy) Ek,zry Ek (tm hy) txA hA⟩
   rintro _ ⟨xs,b,rfl⟩;have bl:=b.ln;refine zon (T:=vD s) rfl (λQ q=>?_) (by omega) λd hd=>hnx _ ⟨_,_,n+3+1,b.more (ys:=[d]) (by simpa using hd) (by simp),by omega,rfl⟩;obtain⟨L,z,hz⟩:∃L z,eO s.pl=L++[z]:=(List.eq_nil_or_concat (eO s.pl)).elim (λe=>by rw[e]at hy;cases hy) λ⟨L,z,e⟩=>⟨L,z,by rw[e,List.concat_eq_append]⟩;refine iG (ds:=[.str "run",.str y,.str z,.int 1000000001,.str ""]) (aJ aG (aJ (aA rfl) (aJ (uD (k:=-1) (t:=(eO s.pl).map D.str) (lW (iY (aJ (aA rfl) aY) (Hs ok)) (by rw[zmB])) evn (by rw[hz,qT];exact ziC)) (aJ aG (aJ aG aY))))) (by simp) _ (q _ (zry (tm hy) (tm (by rw[hz];simp)) Ek h0))
  .rintro S ⟨xs,x5,n,b,hb,rfl⟩;exact h2 _ ⟨xs,x5,⟨b.bd,by have:=b.ln;omega,b.ne⟩,rfl⟩
  .obtain⟨y,hy,rfl⟩:=YAD.mp hd;exact⟨y,hy,rfl⟩
 rintro _ ⟨xs,x5,bx,rfl⟩;refine Ef (λS=>∃xs x6,uF s xs 77/\S=eH s pool nm xs x5 x6 .un) (λE2 h2=>?_) ?_
 .refine zmd (cG rfl (m2 s)) _ ?_;refine Gx (λx=>∃y∈aR s,x=.str y) (λrest S=>∃xs x6 n,uF s xs n/\n+2*rest.length<=77/\S=eH s pool nm xs x5 x6 .un) ?_ ?_ _ _ (λd hd=>?_) ⟨xs,.un,57,bx,by rw[b8];omega,rfl⟩
  .rintro _ rest S E' ⟨y,hy,rfl⟩ hnx _ _ _ ⟨xs,x6,n,b,hb,rfl⟩;rw[YAE]at hb;have bl:=b.ln;unfold gD;refine zkK (jR (ds:=[.tup [.str "hand",.str y],.tup [.str (if (!decide (y∈s.sd))=true then "heed" else "aside"),.str y]]) (aJ (iG (aJ aG (aJ (aA rfl) aY))) (aJ (iG (aJ (ziB (Er (z:=y) (cG (i:=1) rfl (m2 s)) (aA rfl) (Fx ok hy))) (aJ (aA rfl) aY))) aY))) (by show _+2<=_;omega) (hnx _ ⟨_,_,n+2,b.more (k:=2) ?_ (by show 2<=2;decide),by omega,rfl⟩);simp only[YAG,lz,vZ,vP,vp];refine⟨zny (tn hy) (.inr hy),?_⟩;by_cases e:y∈s.sd
   .rw[gB e];exact⟨.aside y,rfl,tn hy,nY λ_=>nY λz=>absurd e z⟩
   .rw[gY e];exact⟨.heed y,rfl,tn hy,nY λ_=>nY λz=>absurd e z⟩
  .rintro S ⟨xs,x6,n,b,hb,rfl⟩;exact h2 _ ⟨xs,x6,⟨b.bd,by have:=b.ln;omega,b.ne⟩,rfl⟩
  .obtain⟨y,hy,rfl⟩:=YAD.mp hd;exact⟨y,hy,rfl⟩
 rintro _ ⟨xs,x6,bx,rfl⟩;refine Ef (λS=>∃xs x7,uF s xs 200/\S=eH s pool nm xs x5 x6 x7) (λE2 h2=>?_) ?_
 .refine rQ (cG rfl (m3 s)) _ ?_;refine Gx (λx=>∃r∈s.rs,x=b7 r) (λrest S=>∃xs x7 n,uF s xs n/\n+rest.length<=200/\S=eH s pool nm xs x5 x6 x7) ?_ ?_ _ _ (λd hd=>?_) ⟨xs,.un,77,bx,by rw[b8];omega,rfl⟩
  .rintro _ rest S E' ⟨r,hr,rfl⟩ hnx _ _ _ ⟨xs,x7,n,b,hb,rfl⟩;rw[YAE]at hb;have bl:=b.ln;unfold gD;refine zon (T:=vD s) rfl (λQ q=>?_) (by omega) λd hd=>hnx _ ⟨_,_,n+1,b.more (ys:=[d]) (by simpa using hd) (by simp),by omega,rfl⟩;refine iG (ds:=[.str "mend",.int r.n,.int 1000000001]) (aJ aG (aJ (jY (k:=0) (t:=[.int r.n,.int r.a,.int r.b,.int r.r,.str r.h]) (aA rfl) aG (fL (j:=0) rfl)) (aJ aG aY))) (by simp) _ (q _ ⟨.mend r.n 1000000001,rfl,trivial,?_⟩);exact nY λ_=>nY λz=>absurd (by decide) z
  .rintro S ⟨xs,x7,n,b,hb,rfl⟩;exact h2 _ ⟨xs,x7,⟨b.bd,by have:=b.ln;omega,b.ne⟩,rfl⟩
  .obtain⟨y,hy,rfl⟩:=YAD.mp hd;exact⟨y,hy,rfl⟩
 rintro _ ⟨xs,x7,b,rfl⟩;have bl:=b.ln;have b0:=b.ne;show bA 2 dW (aq (vW 0) (aq (CN 4) ao)) (eH s pool nm xs x5 x6 x7) _;refine tk (b:=0) (m:=xs.length) rfl (λP p=>p) (by omega) (by omega) λz z0 z1=>?_;obtain⟨j,rfl⟩:=YAP z0;have hj:j<xs.length:=by omega
 show(match gO xs (j:Int)with|some d=>vD s d|none=>False);rw[fL (j:=j) (jB hj)];exact b.bd _ (yL hj)
end
noncomputable def iJ:Ya->List Yd->Option Str
 |_,[]=>none
 |s,d::r=>match why s d with
  |some n=>some n
  |none=>iJ (ir s d) r
def fP(s:Ya)(zs:List Yd):Ya:=zs.foldl ir s
def zkl(s:Ya)(zs:List Yd)(d:Yd):fP s (zs++[d])=ir (fP s zs) d:=by unfold fP;rw[List.foldl_append];rfl
theorem zpq:∀(zs:List Yd)(s:Ya),(fP s zs).ds=s.ds++zs.map yD
 |[],s=>by simp[fP]
 |d::zs,s=>by
  show(fP (ir s d) zs).ds=_;rw[zpq zs];show s.ds++[yD d]++_=_
  simp
theorem zh6:∀{xs:List Yd}{s:Ya}{r:List Yd},Fits s (xs++r)->Fits s xs
 |[],_,_,_=>trivial
 |_::_,_,_,h=>⟨h.1,zh6 h.2⟩
theorem zjF:∀{xs:List Yd}{s:Ya}{d:Yd},Fits s xs->why (fP s xs) d=none->nC d->Fits s (xs++[d])
 |[],_,_,_,h1,h2=>⟨⟨h1,h2⟩,trivial⟩
 |_::_,_,_,h,h1,h2=>⟨h.1,zjF h.2 h1 h2⟩
theorem zoV:∀{xs:List Yd}{s:Ya}{r:List Yd},Fits s xs->iJ s (xs++r)=iJ (fP s xs) r
 |[],_,_,_=>rfl
 |d::xs,s,r,h=>by
  rw[List.cons_append,iJ,h.1.1];exact zoV h.2
theorem znH:∀{xs:List Yd}{s:Ya},Fits s xs->∀d∈xs,nC d
 |[],_,_,_,hd=>by cases hd
 |_::_,_,h,d,hd=>(iU.mp hd).elim (λe=>e▸h.1.2) (znH h.2 d)
theorem znQ:∀{xs:List Yd}{s:Ya},Fits s xs->dH s->s.ds.length+xs.length<1000->dH (fP s xs)
 |[],_,_,ok,_=>ok
 |d::xs,s,h,ok,hl=>by
  rw[YAE]at hl;refine znQ (s:=ir s d) h.2 (ziy ok h.1.2 h.1.1 (by omega)) ?_;show(s.ds++[_]).length+_<_;rw[gU];show s.ds.length+1+_<_;omega
section
variable{A:il}{qh:bN}{v:D}{zs:List Yd}{nm:Str}
def zh0(hv:v.old=.lst false (zs.map yD))(hx:∀d∈zs,nC d)(hl:zs.length<=800):JP A [v] qh (λd qk=>iJ gM zs=none/\∃q bs us,d=.obj q/\qk q=some (cI A (fP gM zs).ds (bs++[bW (fP gM zs)]) us)/\dH (fP gM zs)) (λn _=>iJ gM zs=some n):=by
 refine IK (S:=[.val (.lst false (zs.map yD)),.un,.un]) (by unfold fU;simp[hv]) ?_;intro q hq;refine J6 zmz (λd qk h=>?_) λ_ _ z=>z.elim;obtain⟨rfl,rfl⟩:=h;refine⟨rfl,?_⟩;unfold gD;show qW (.nm 2) _ _ (zs.map yD) _ [.val (.lst false (zs.map yD)),.val (.obj q),.un];refine zfg (λrest qh S=>∃zr s n x2 bs us,rest=zr.map yD/\S=[.val (.lst false (zs.map yD)),.val (.obj q),x2]/\qh q=some (cI A s.ds (bs++[bW s]) us)/\dH s/\s.ds.length<=n/\bs.length<=n/\n+zr.length<=800/\(∀d∈zr,nC d)/\iJ gM zs=iJ s zr/\fP gM zs=fP s zr) ?_ ?_ _ _ _ ⟨zs,gM,0,.un,[],[],rfl,rfl,qC,zln,by simp[gM],by simp,by omega,hx,rfl,rfl⟩
 .rintro x rest qh S E' hnx _ _ _ ⟨zr,s,n,x2,bs,us,e,rfl,hS,ok,h1,h2,h3,h4,h5,h6⟩;cases zr with
  |nil=>cases e
  |cons d zr=>
   rw[d7]at e;injection e with e1 e2
   subst e1;rw[YAE]at h3;unfold gD;refine zlR (ds:=[yD d]) (q:=q) rfl hS zo4 (Ak (aA rfl) Ag) (zmy hS ok (h4 d gC) (by omega)) (λv qk h=>?_) λn qk z=>by show iJ gM zs=some n;rw[h5,iJ,z.1]
   obtain⟨hw,_,rfl⟩:=h;have tx:=h4 d gC;refine hnx _ _ ⟨zr,ir s d,n+1,.val (yD d),bs++[bW s],[],e2,rfl,qC,ziy ok tx hw (by omega),?_,?_,by omega,λy hy=>h4 y (kj _ hy),?_,h6⟩
   .show(s.ds++[_]).length<=_;rw[gU];show s.ds.length+1<=_;omega
   .rw[gU];show bs.length+1<=_;omega
   .rw[h5,iJ,hw]
 .rintro qh S ⟨zr,s,n,x2,bs,us,e,rfl,hS,ok,_,_,_,_,h5,h6⟩;cases zr with
  |cons d zr=>cases e
  |nil=>exact⟨h5,q,bs,us,rfl,by rw[h6];exact hS,by rw[h6];exact ok⟩
def zpE(hv:v.old=.lst false (zs.map yD))(hx:∀d∈zs,nC d)(hl:zs.length<=800)(hw:iJ gM zs=some nm)(hn:nm∈tO):zci A [v] qh (λd _=>d=.lst true [.str nm]) (λ_ _=>False):=by
 refine IK (S:=[.val (.lst false (zs.map yD)),.un,.un]) (by unfold fU;simp[hv]) ?_;refine zn8 (V:=λ_=>aM (aX ao)) (fu (jR aY)) ?_;show zsV 2 1 _ (kdN tO) _ qh [.val (.lst false (zs.map yD)),.val (.lst true []),.un];refine⟨λn _=>iJ gM zs=some n,ziw (Ak (aA rfl) Ag) (zh0 (iH (gj lF _)) hx hl) (λd qk h=>by rw[hw]at h;cases h.1) λ_ _ z=>z,λn qk z=>⟨.lst true [.str n],?_,?_⟩⟩
 .rw[hw]at z;cases z;unfold kdN;rw[if_pos hn]
 .rw[hw]at z;cases z;rfl
end
def JR{S:Env}{i:Nat}{L:List D}{m:D}(hi:S[i]?=some (.own (L++[m]))):Ev (fV i (my gG (kW (.int 1)))) S m:=λP p=>by
 unfold fV;rw[hi];show(match gO (L++[m]) (-1)with|some d=>P d|none=>False);rw[ziC];exact p
def zq9{S:Env}{i j k:Nat}{ms:List D}{m:D}(hi:S[i]?=some (.own ms))(hk:S[k]?=some (.val (.int j)))(h:ms[j]?=some m):Ev (fV i (vW k)) S m:=λP p=>by
 unfold fV;rw[hi];refine yI hk ?_;show(match gO ms (j:Int)with|some d=>P d|none=>False);rw[fL h];exact p
def zp2{S:Env}{V:WE}{s:Ya}{m:D}(h:m.old=aV s)(hV:Ev V S m):∃b ys,Ev (ak bQ V (kW (.str "deeds"))) S (.lst b ys)/\ys.map D.old=s.ds:=by
 cases m with
 |dct n ks xs=>
  rw[D.old]at h;injection h with h1 h2 h3
  subst h2;obtain⟨a,b,c,d,e,f,rfl⟩:=six (xs:=xs) (by rw[<-b8 (f:=D.old),h3];rfl);have g:f.old=.lst false s.ds:=Option.some.inj (congrArg (λl:List D=>l[5]?) h3);cases f with
  |lst bb ys=>
   rw[D.old]at g;injection g with g1 g2
   exact⟨bb,ys,Cd hV (by kernel_rfl),g2⟩
  |_=>rw[D.old]at g;cases g
 |_=>rw[D.old]at h;cases h
def zuu{n:Nat}{B:WS}{ds ds':List D}{Q:D->Prop}(h:ds.map D.old=ds'.map D.old)(q:dU n B ds' Q):dU n B ds Q:=by
 have e:fU n ds=fU n ds':=by
  have l:ds.length=ds'.length:=by rw[<-b8 (f:=D.old),h,b8]
  unfold fU;rw[l,show ds.map (λd=>Sl.val d.old)=(ds.map D.old).map Sl.val by rw[YAR];rfl,h,YAR];rfl
 unfold dU at q ⊢;rw[e];exact q
def zqZ{s:Ya}{m:D}{d:Yd}(h:m.old=aV s)(ok:dH s)(hx:nC d):zE [m,yD d] (·=.str ((why s d).getD "")):=by
 have:=zp1 ok hx
 unfold zE at this ⊢;exact zuu (by simp[h,Kr ok]) this
abbrev qX(q:Addr)(pool:List Str)(ms:List D)(x5 x6 x7 x8:Sl):Env:=[.un,.val .box,.val (.lst true (pool.map D.str)),.val (.obj q),.own ms,x5,x6,x7,x8]
structure Bj(zs:List Yd)(ms:List D):Prop where
 ln:ms.length=zs.length+1
 md:∀i,i<=zs.length->∃m,ms[i]?=some m/\m.old=aV (fP gM (zs.take i))
 ft:Fits gM zs
def Bj.snoc{zs:List Yd}{ms:List D}{d:Yd}{v:D}(h:Bj zs ms)(hw:why (fP gM zs) d=none)(hx:nC d)(hv:v.old=aV (ir (fP gM zs) d)):Bj (zs++[d]) (ms++[v])where
 ln:=by rw[gU,gU,h.ln];rfl
 md:=λi hi=>by
  rw[gU]at hi;have hi:i<=zs.length+1:=hi;by_cases e:i<=zs.length
  .obtain⟨m,h1,h2⟩:=h.md i e;exact⟨m,by rw[Ce (by rw[h.ln];omega)];exact h1,by rw[List.take_append_of_le_length e];exact h2⟩
  .have:i=zs.length+1:=by omega
   subst this;refine⟨v,by rw[<-h.ln];simp,?_⟩;rw[YBQ (by simp),zkl];exact hv
 ft:=zjF h.ft hw hx
def Bj.ok{zs:List Yd}{ms:List D}(h:Bj zs ms)(hl:zs.length<=800)(i:Nat):dH (fP gM (zs.take i)):=by
 refine znQ (zh6 (r:=zs.drop i) (by rw[YCp];exact h.ft)) zln ?_;show 0+_<_;rw[Av];omega
def zpW{F:bN->WL}{R:WF}{E:pX}{qh:bN}{S:Env}{i:Nat}{P:List D->Prop}(h:vO (F qh) S P)(q:∀xs,P xs->R E qh (S.set i (.own xs))):cU (nG λqh=>gV i (F qh)) R E qh S:=h _ q
def zpX{A:WOE}{R:WF}{E:pX}{qh:bN}{S:Env}{i:Nat}{xs:List D}(hi:S[i]?=some (.own xs))(q:A S qh λd qk=>xs.length<100000/\R E qk (S.set i (.own (xs++[d])))):cU (qJ i A) R E qh S:=by
 show qJ i A _ qh S;unfold qJ;rw[hi];exact q
def ztz(A:il):yt 7 (Kv A):=by
 unfold yt;show Kv A _ _ [.un,.val .box,.un,.un,.un,.un,.un,.un,.un];unfold Kv;refine⟨rfl,qu (zmL 16 (by decide) (by decide)) λd hd=>?_⟩;obtain⟨pool,rfl,nl,nok,nd⟩:=hd;have pl16:pool.length=16:=by omega
 unfold gD;intro q hq;refine J6 zmz (λd qk h=>?_) λ_ _ z=>z;obtain⟨rfl,rfl⟩:=h;refine⟨rfl,?_⟩;unfold gD;refine zpW (i:=4) (S:=[.un,.val .box,.val (.lst true (pool.map D.str)),.val (.obj q),.un,.un,.un,.un,.un]) (F:=λ_=>aX (aq (bA 0 K7 ao) ao)) (P:=λxs=>∃m0,xs=[m0]/\m0.old=aV gM) (λQ k=>⟨rfl,qu zoo λm0 hm0=>⟨by show 1<=100000;decide,k _ ⟨m0,rfl,hm0⟩⟩⟩) ?_;rintro _ ⟨m0,rfl,hm0⟩;show cU _ _ _ _ (qX q pool [m0] .un .un .un .un);refine ztG (λqh S=>∃zs L m x5,Bj zs (L++[m])/\zs.length<=16/\S=qX q pool (L++[m]) x5 .un .un .un) (λE2 h2 hrt=>?_) ?_
 .have er:j6 (ak bh (kW (.int 1)) (bA 2 dW (aq (vW 1) (aq (kW (.int 16)) ao)))) (qX q pool [m0] .un .un .un .un) (λd=>∃n:Nat,d=.int n/\n<=16):=Cm (yg aG) (wU (b:=1) rfl aG (by decide) (by decide)) λa b ha hb Q qq=>by
   obtain⟨w,rfl,w0,w1⟩:=hb;subst ha;obtain⟨j,rfl⟩:=YAP w0;exact qq _ ⟨1+j,by simp,by omega⟩
  refine er _ ?_;rintro d ⟨n,rfl,hn16⟩;refine⟨⟨by omega,by omega⟩,?_⟩;refine zfg (λrest qh S=>∃zs L m x5,S=qX q pool (L++[m]) x5 .un .un .un/\Bj zs (L++[m])/\Yat A qh q m (fP gM zs) zs.length/\zs.length+rest.length<=16) ?_ ?_ _ _ _ ⟨[],[],m0,.un,rfl,⟨rfl,λi hi=>⟨m0,by rw[Nat.le_zero.mp hi];rfl,by simpa[fP]using hm0⟩,trivial⟩,⟨hm0,zln,by simp[fP,gM],[],[],qC,by simp⟩,by rw[zdS];simp;omega⟩
  .rintro x rest qh S E' hnx _ hrt' _ ⟨zs,L,m,x5,rfl,st,z,hln⟩;rw[YAE]at hln;have ok:=z.ok;obtain⟨bs,us,hS,hb⟩:=z.ex;unfold gD;refine zpX (i:=4) (xs:=L++[m]) (S:=qX q pool (L++[m]) (.val x) .un .un .un) rfl ?_;have hg:j6 (bA 3 Ii (aq (vW 1) (aq (fV 4 (my gG (kW (.int 1)))) (aq (vW 2) ao)))) (qX q pool (L++[m]) (.val x) .un .un .un) (tZ (fP gM zs)):=zgA (aJ (aA rfl) (aJ (JR rfl) (aJ (aA rfl) aY))) (zqD z.m ok pl16 nok);refine(aA (S:=qX q pool (L++[m]) (.val x) .un .un .un) (i:=3) rfl) _ ((JR (i:=4) rfl) _ (hg _ ?_));rintro _ ⟨d,rfl,hx,hw⟩;refine⟨rfl,J6 (zpM z.m hS ok hx hw (by omega)) (λv qk hv=>?_) λ_ _ z=>z⟩;obtain⟨hv,rfl⟩:=hv;have ll:=st.ln;refine⟨by omega,?_⟩;show cW (bG (kh (fV 4 (my gG (kW (.int 1)))))) _ bL _ (qX q pool (L++[m]++[v]) (.val x) .un .un .un);refine Cz (bU (dC (zoM (JR rfl))) (ztc hv)) ?_;refine hnx _ _ ⟨zs++[d],L++[m],v,_,rfl,st.snoc hw hx hv,?_,by rw[gU];show _+1+_<=_;omega⟩;rw[zkl,gU];exact z.next (by omega) hx hw hb hv
  .rintro qh S ⟨zs,L,m,x5,rfl,st,z,hln⟩;exact h2 _ _ ⟨zs,L,m,x5,st,by rw[YC2]at hln;omega,rfl⟩
 rintro qh S ⟨zs,L,m,x5,st,zl,rfl⟩;have ll:=st.ln;have okz:=st.ok (by omega);obtain⟨m',hm1,hm2⟩:=st.md zs.length (dG _);have em:m'=m:=by
  rw[show zs.length=L.length by rw[gU]at ll;simp at ll;omega]at hm1;simp at hm1;exact hm1.symm
 subst em;rw[List.take_length]at hm2;obtain⟨fb,ys,he,hy⟩:=zp2 (S:=qX q pool (L++[m']) x5 .un .un .un) hm2 (JR (i:=4) rfl);rw[zpq]at hy;have hy:ys.map D.old=zs.map yD:=by simpa[gM]using hy
 have yl:ys.length=zs.length:=by rw[<-b8 (f:=D.old),hy,b8]
 refine zn8 (V:=λ_=>ak bQ (fV 4 (my gG (kW (.int 1)))) (kW (.str "deeds"))) he ?_;refine zvb (V:=λ_=>bA 2 dW (aq (vW 1) (aq (CN 4) ao))) (wU (b:=1) (m:=(L++[m']).length) rfl (λP p=>p) (by omega) (by omega)) ?_;rintro _ ⟨k,rfl,k0,k1⟩;obtain⟨j,rfl⟩:=YAP k0;have hj:j<=zs.length:=by omega
 obtain⟨mj,hj1,hj2⟩:=st.md j hj;have okj:=okz j;refine zvb (V:=λ_=>bA 3 HN (aq (vW 1) (aq (fV 4 (vW 7)) (aq (vW 2) ao)))) (zgA (aJ (aA rfl) (aJ (zq9 (i:=4) (k:=7) rfl rfl hj1) (aJ (aA rfl) aY))) (zla hj2 okj pl16 nok)) ?_;rintro _ ⟨d,rfl,hx,hw⟩;show cU _ _ _ _ (qX q pool (L++[m']) x5 (.val (.lst fb ys)) (.val (.int j)) (.val (yD d)));obtain⟨nm,hw⟩:=YBK.mp hw;have n1:=zt5 hw;have htx:=znH st.ft;have ft1:Fits gM (zs.take j):=zh6 (r:=zs.drop j) (by rw[YCp];exact st.ft);have hW:iJ gM (zs.take j++[d]++zs.drop j)=some nm:=by
  rw[YCi,zoV ft1,List.singleton_append,iJ,hw]
 have ev1:Ev (ak bh (ak bh (ji (vW 6) rK (rH (vW 7))) (aM (aX (aq (vW 8) ao)))) (ji (vW 6) (rH (vW 7)) rK)) (qX q pool (L++[m']) x5 (.val (.lst fb ys)) (.val (.int j)) (.val (yD d))) (.lst true (ys.take j++[yD d]++ys.drop j)):=by
  have a1:=lW (zrf (S:=qX q pool (L++[m']) x5 (.val (.lst fb ys)) (.val (.int j)) (.val (yD d))) (aA (i:=6) rfl) DR (Fb (aA (i:=7) rfl))) (congrArg (D.lst true) (zu3 (k:=j) (by omega)));have a2:=lW (zrf (S:=qX q pool (L++[m']) x5 (.val (.lst fb ys)) (.val (.int j)) (.val (yD d))) (aA (i:=6) rfl) (Fb (aA (i:=7) rfl)) DR) (congrArg (D.lst true) (zuU (k:=j) (by omega)));refine vo (vo a1 (fu (jR (aJ (aA (i:=8) rfl) aY))) ?_) a2 ?_
  .rw[Av];show _+1<=_;omega
  .rw[gU,Av,YCt];show _+1+_<=_;omega
 have ev2:Ev (bA 2 zE (aq (fV 4 (vW 7)) (aq (vW 8) ao))) (qX q pool (L++[m']) x5 (.val (.lst fb ys)) (.val (.int j)) (.val (yD d))) (.str nm):=lW (iY (aJ (zq9 (i:=4) (k:=7) rfl rfl hj1) (aJ (aA rfl) aY)) (zqZ hj2 okj hx)) (by rw[hw];rfl);have len:(zs.take j++[d]++zs.drop j).length<=800:=by rw[gU,gU,Av,YCt];show _+1+_<=_;omega
 refine ziw (Ak ev1 Ag) (zpE (zs:=zs.take j++[d]++zs.drop j) (nm:=nm) (by rw[D.old];simp[List.map_take,List.map_drop,hy,lF]) (λy hy=>?_) len hW n1) (λe qk he=>?_) λ_ _ z=>z
 .simp only[YAJ,lC]at hy;rcases hy with(z|z)|z
  .exact htx y (List.mem_of_mem_take z)
  .exact z▸hx
  .exact htx y (List.mem_of_mem_drop z)
 subst he;have sm:eF (.lst true [.str nm]) 5=true:=yd (n:=4) (by simp[pR (zso nm n1).1]) (by simp);refine Ak (V:=λ_=>aM (aX (aq (bA 2 zE (aq (fV 4 (vW 7)) (aq (vW 8) ao))) ao))) (fu (jR (aJ ev2 aY))) Ag _ ⟨rfl,qu (Hj 5 _ _ rfl sm) λe z=>?_⟩;subst z;have hN:iJ gM zs=none:=by have:=zoV (r:=[]) st.ft;rw[YAK]at this;rw[this];rfl
 have ev3:Ev (aM (yr (vW 6))) (qX q pool (L++[m']) x5 (.val (.lst fb ys)) (.val (.int j)) (.val (yD d))) (.lst true ys):=fu λP p=>yI (d:=.lst fb ys) rfl p;refine ziw (Ak (V:=λ_=>aM (yr (vW 6))) ev3 Ag) (zh0 (v:=.lst true ys) (zs:=zs) (by rw[D.old,hy]) htx (by omega)) (λe qk he=>?_) λn qk z=>by rw[hN]at z;cases z
 obtain⟨_,q2,bs,us,rfl,hS,ok⟩:=he;exact Ak (V:=λ_=>fV 4 (my gG (kW (.int 1)))) (JR rfl) Ag _ ⟨rfl,qu (znz hm2 hS ok) λe h=>h⟩
end Fd
namespace Fen
open PySem L2
def top(i:Nat):Stmt:=PySem.Challenge.pw_fenlevel_k44_fens_of_refused_deeds.main.body.getD i (.Pass ⟨0,0,0,0⟩)
abbrev zs5:Stmt:=top 0
abbrev Hu:Stmt:=top 24
abbrev Gz:Stmt:=top 25
abbrev HR:Stmt:=top 27
abbrev JX:Stmt:=top 28
abbrev HQ:Stmt:=top 29
abbrev JS:Stmt:=top 30
abbrev Fz:Stmt:=top 37
abbrev J7:Stmt:=top 38
abbrev FP:Stmt:=top 39
abbrev Iu:Stmt:=top 40
abbrev Hm:Stmt:=top 41
abbrev Kg:Stmt:=top 42
abbrev Jb:Stmt:=top 43
abbrev Gn:Stmt:=top 44
abbrev Ia:Stmt:=top 45
abbrev GJ:Stmt:=top 46
abbrev G9:Stmt:=top 47
abbrev K6:Stmt:=top 48
abbrev Ju:Stmt:=top 49
abbrev Kz:Stmt:=top 50
abbrev GP:Stmt:=top 51
abbrev Gh:Stmt:=top 53
abbrev Ip:Stmt:=top 55
abbrev Hi:Stmt:=top 57
abbrev sS:Stmt:=top 59
abbrev Aq:Stmt:=top 60
abbrev Fy:Stmt:=top 61
abbrev Gj:Stmt:=top 62
abbrev IW:Stmt:=top 63
abbrev GQ:Stmt:=top 64
abbrev Gg:Stmt:=top 65
abbrev Hh:Stmt:=top 66
abbrev HF:Stmt:=top 67
abbrev Gr:Stmt:=top 68
abbrev Je:Stmt:=top 69
abbrev JW:Stmt:=top 70
abbrev JQ:Stmt:=top 71
abbrev vX:Stmt:=top 72
abbrev Jf:Stmt:=top 73
abbrev Jk:Stmt:=top 74
abbrev Ir:Stmt:=top 75
abbrev Gy:Stmt:=top 76
abbrev J1:Stmt:=top 77
abbrev HS:Stmt:=top 78
abbrev KN:Stmt:=top 79
abbrev Hl:Stmt:=top 80
abbrev Kh:Stmt:=top 81
abbrev GF:Stmt:=top 82
abbrev HJ:Stmt:=top 83
abbrev HD:Stmt:=top 84
abbrev uc:Stmt:=top 85
def iM:Stmt->Nat->Stmt
 |.ClassDef _ _ _ b _ _ _ _ _ _ _,j=>b.getD j (.Pass ⟨0,0,0,0⟩)
 |_,_=>.Pass ⟨0,0,0,0⟩
abbrev zcD:Stmt:=iM (top 20) 0
abbrev Ho:Stmt:=iM (top 56) 0
abbrev Jh:Stmt:=iM (top 56) 1
abbrev zhx:Stmt:=iM (top 56) 2
abbrev zgM:Stmt:=iM (top 56) 3
abbrev ziL:Stmt:=iM (top 56) 4
abbrev zeQ:Stmt:=iM (top 56) 5
abbrev zhp:Stmt:=iM (top 56) 6
abbrev ze0:Stmt:=iM (top 56) 7
abbrev zfQ:Stmt:=iM (top 56) 8
abbrev zg0:Stmt:=iM (top 56) 9
abbrev zfL:Stmt:=iM (top 56) 10
abbrev Ja:Stmt:=iM (top 56) 11
abbrev zgE:Stmt:=iM (top 56) 12
abbrev zfW:Stmt:=iM (top 56) 13
abbrev Gd:Stmt:=iM (top 56) 14
abbrev zha:Stmt:=iM (top 56) 15
abbrev Js:Stmt:=iM (top 56) 16
abbrev Ge:Stmt:=iM (top 56) 17
abbrev Ld:Stmt:=iM (top 56) 18
abbrev JG:Stmt:=iM (top 56) 19
abbrev J3:Stmt:=iM (top 56) 20
abbrev HH:Stmt:=iM (top 56) 21
abbrev J8:Stmt:=iM (top 56) 22
abbrev zeM:Stmt:=iM (top 56) 23
abbrev zfH:Stmt:=iM (top 56) 24
abbrev zdK:Stmt:=iM (top 56) 25
abbrev zhi:Stmt:=iM (top 56) 26
abbrev zcT:Stmt:=iM (top 56) 27
abbrev zf5:Stmt:=iM (top 56) 28
abbrev zeS:Stmt:=iM (top 56) 29
abbrev zed:Stmt:=iM (top 56) 30
abbrev ziK:Stmt:=iM (top 56) 31
section
variable{P:Program}{w:PySem.World}{K:qo}{mg:Str->Option Value}{base:Heap}
def zv2:dh ["_law_script"] ["_law_script"] (gF sS):=⟨rfl,rfl,rfl,by decide +kernel,rfl,by decide +kernel,by decide +kernel⟩
def zuX{f:Addr}{fd:FuncData}(F:bZ K "_law_box" "_law_box" sS f fd)(T:Txt K mg):aN P w K mg base cL 1 f fd ["_law_script"] (zr3 K):=by
 refine F.ok zv2 (λvs H Q E h=>?_) (λcdv A outer s H vs Q E hr h=>?_)
 .obtain⟨a,ns,rfl,_⟩:=h;rfl
 .obtain⟨a,ns,rfl,hS,hl,k⟩:=h;refine⟨_,zq (yJ (zrr (iI (zu zei rfl T.list Hn (iI (zmp rW (pv 0) zn7 (znB jo)) jW)) (iI jo (iI jo (iI jo jW)))))),?_⟩;refine⟨_,rfl,_,rfl,a,_,rfl,hS,λp hp=>?_⟩;rw[zwI hl];refine⟨p,_,rfl,.inl (cz.of cJ),λc hc=>⟨by show 4<=sizeLine;decide,λb hb=>?_⟩⟩;have hcp:c≠p:=λz=>by rw[z,cJ]at hc;cases hc
  have hbc:b≠c:=λz=>by rw[z,cJ]at hb;cases hb
  have hb1:upd H p (.lst (ns.map V.int)) b=none:=by rw[au hbc]at hb;exact hb
  have hbp:b≠p:=λz=>by rw[z,cJ]at hb1;cases hb1
  have hc0:H c=none:=by rw[au hcp]at hc;exact hc
  have hb0:H b=none:=by rw[au hbp]at hb1;exact hb1
  refine k b c _ hb0 ⟨⟨0,0,17,cJ,by decide,by decide,by decide,by decide⟩,by rw[au hbc.symm,cJ],hl⟩ λx o e=>?_;rw[au (lO e hb0),au (lO e hc0),au (lO e hp)];exact e
def jO:dh ["_law_box_here","_law_many","_law_rest","_law_cell","_law_seed"] ["_law_box_here","_law_many"] (gF Aq):=⟨rfl,rfl,rfl,by decide +kernel,rfl,by decide +kernel,by decide +kernel⟩
def zld{f:Addr}{fd:FuncData}(F:bZ K "_law_take" "_law_take" Aq f fd)(T:Txt K mg):aN P w K mg base cL 1 f fd ["_law_box_here","_law_many"] zug:=by
 refine F.ok jO (λvs H Q E h=>?_) (λcdv A outer s H vs Q E hr h=>?_)
 .obtain⟨b,c,ns,m,rfl,_⟩:=h;rfl
 .obtain⟨b,c,ns,m,rfl,B,m0,m1,k⟩:=h;refine⟨_,nH (Kf (zh4 ztF (uA dR (pv 0) jo (λ_ _=>rfl)) jo (v8 _))
    (nH (uB (i:=2) jO.nd rfl (Or.inl rfl) (uA dR (pv 0) jo (λ_ _=>rfl)))
    (nH (Jc (pL zlO (pv 2) (pv 1)) (zlV (pv 0) jo JB))
    (zq (yJ (pL Dv (pv 2) (pv 1)))))) Lf)
   (nH (uB (i:=3) jO.nd rfl (Or.inl rfl) jo)
   (nH (Kf (zh4 ztQ (uA dR (pv 0) jo (λ_ _=>rfl)) (Dz gH rfl T.len YCN (iI (uA dR (pv 0) jo (λ_ _=>rfl)) jW)) (v8 _))
    (nH (uB (i:=3) jO.nd rfl (Or.inl rfl) (uA dR (uA dR (pv 0) jo (λ_ _=>rfl)) (uA dR (pv 0) jo (λ_ _=>rfl)) (λ_ _=>rfl)))
    (zq (zsC (pv 0) jo zqz jo zvo JB))) Lf)
   (nH (Kf (zh4 zvx (pv 3) (pL zrH jo jo) (v8 _))
    (nH (Jc (pL zlO (pv 3) (pv 1)) (zlV (pv 0) jo JB))
    (zq (yJ (pL Dv (pv 3) (pv 1))))) Lf)
   (nH (uB (i:=4) jO.nd rfl (Or.inl rfl) (uA dR (pv 0) jo (λ_ _=>rfl)))
   (nH (uB (i:=4) jO.nd rfl (Or.inl rfl) (pL m9 (pL m9 (pL zrH (pv 4) jo) (pL qY jo (pv 4))) (pL qY jo (pL Dv (pv 3) jo))))
   (nH (Jc (pL Dv (pL m9 (pv 4) jo) jo) (zlV (pv 0) jo JB))
   (zq (yJ (pL Dv (pL ztk (uA dR (pv 0) jo (λ_ _=>rfl)) jo) (pv 1)))))))))),?_⟩
  obtain⟨p,r,d,e,hp0,hr0,hd0,hd1⟩:=B.ex;refine⟨_,rfl,b,_,_,.int r,rfl,rfl,cz.of e,rfl,_,_,rfl,rfl,_,rfl,?_⟩;refine wW (λh0=>?_) (λh0=>?_)
  .refine⟨_,rfl,b,_,_,.int r,rfl,rfl,cz.of e,rfl,?_⟩;refine⟨_,rfl,_,rfl,_,_,rfl,rfl,⟨m0,m1⟩,_,rfl,b,_,_,2,rfl,rfl,e,rfl,?_⟩;refine⟨_,rfl,_,rfl,_,_,rfl,rfl,m0,?_⟩;exact k _ _ (xO _ (by omega)) (yC _ m0) (B.put hp0 (YC8 hr0 (by omega)) hd0 hd1) nU.upd
  refine⟨_,rfl,b,_,_,.int p,rfl,rfl,cz.of e,rfl,_,rfl,b,_,_,.ref c,rfl,rfl,cz.of e,rfl,c,_,rfl,.inl (cz.of B.cells),_,_,rfl,rfl,_,rfl,?_⟩;refine wW (λh1=>?_) (λh1=>?_)
  .have hlt:=km h1;rw[b8]at hlt;obtain⟨z,hz⟩:∃z,ns[p.toNat]?=some z:=⟨_,jB (by omega)⟩;have hat:gO (ns.map V.int) p=some (.int z):=by
    have q:=fL (xs:=ns.map V.int) (j:=p.toNat) (v:=.int z) (by rw[jV,hz];rfl)
    rwa[Int.toNat_of_nonneg hp0]at q
   refine⟨_,rfl,b,_,_,.ref c,rfl,rfl,cz.of e,rfl,_,rfl,b,_,_,.int p,rfl,rfl,cz.of e,rfl,c,_,_,.int z,rfl,rfl,cz.of B.cells,hat,?_⟩;refine⟨_,rfl,b,_,1,.int p,rfl,rfl,cz.of e,rfl,_,_,rfl,rfl,b,_,_,1,rfl,rfl,e,rfl,?_⟩;have e1:upd H b (vh c (p+1) r d) b=some (vh c (p+1) r d):=cJ;have hp1:0<=p+1:=by omega
   have B1:=B.put hp1 hr0 hd0 hd1;have X1:nU b H (upd H b (vh c (p+1) r d)):=nU.upd;refine⟨_,rfl,_,_,rfl,rfl,⟨by decide,by decide,by decide⟩,_,_,rfl,rfl,_,rfl,?_⟩;refine wW (λh2=>?_) (λh2=>?_)
   .refine⟨_,rfl,_,rfl,_,_,rfl,rfl,⟨m0,m1⟩,_,rfl,b,_,_,2,rfl,rfl,e1,rfl,_,rfl,_,rfl,_,_,rfl,rfl,m0,?_⟩;have hz0:(0:Int)<=z:=by
     have:=km h2
     exact Int.le_trans (by decide) this
    exact k _ _ (xO _ (by omega)) (yC _ m0) (B1.put hp1 (YC8 hz0 (by omega)) hd0 hd1) (X1.trans nU.upd)
   .refine⟨_,rfl,b,_,_,.int d,rfl,rfl,cz.of e1,rfl,?_⟩;refine⟨_,rfl,_,_,rfl,rfl,⟨by decide,by decide,by omega⟩,_,rfl,_,_,rfl,rfl,.inl ⟨by decide,by decide⟩,_,_,rfl,rfl,_,rfl,_,_,rfl,rfl,(by show(0:Int)<2147483629;decide),_,_,rfl,rfl,.inl ⟨by decide,by decide⟩,_,_,rfl,rfl,?_⟩;refine⟨_,rfl,_,_,rfl,rfl,_,_,rfl,rfl,(by show(0:Int)<2147483629;decide),_,rfl,b,_,_,3,rfl,rfl,e1,rfl,?_⟩;refine⟨_,rfl,b,_,_,_,rfl,rfl,cz.of cJ,rfl,_,_,rfl,rfl,⟨by decide,by decide⟩,_,rfl,_,_,rfl,rfl,m0,?_⟩;exact k _ _ (xO _ (by omega)) (yC _ m0) (B1.put hp1 hr0 (xO _ (by decide)) (yC _ (by decide))) (X1.trans nU.upd)
  .have e1:=e;have hp1:=hp0;have B1:=B;have X1:nU b H H:=nU.refl _ _;refine⟨_,rfl,_,_,rfl,rfl,⟨by decide,by decide,by decide⟩,_,_,rfl,rfl,_,rfl,?_⟩;refine wW (λh2=>?_) (λh2=>?_)
   .refine⟨_,rfl,_,rfl,_,_,rfl,rfl,⟨m0,m1⟩,_,rfl,b,_,_,2,rfl,rfl,e1,rfl,_,rfl,_,rfl,_,_,rfl,rfl,m0,?_⟩;have hz0:(0:Int)<=0:=Int.le_refl _;exact k _ _ (xO _ (by omega)) (yC _ m0) (B1.put hp1 (YC8 hz0 (by omega)) hd0 hd1) (X1.trans nU.upd)
   .refine⟨_,rfl,b,_,_,.int d,rfl,rfl,cz.of e1,rfl,?_⟩;refine⟨_,rfl,_,_,rfl,rfl,⟨by decide,by decide,by omega⟩,_,rfl,_,_,rfl,rfl,.inl ⟨by decide,by decide⟩,_,_,rfl,rfl,_,rfl,_,_,rfl,rfl,(by show(0:Int)<2147483629;decide),_,_,rfl,rfl,.inl ⟨by decide,by decide⟩,_,_,rfl,rfl,?_⟩;refine⟨_,rfl,_,_,rfl,rfl,_,_,rfl,rfl,(by show(0:Int)<2147483629;decide),_,rfl,b,_,_,3,rfl,rfl,e1,rfl,?_⟩;refine⟨_,rfl,b,_,_,_,rfl,rfl,cz.of cJ,rfl,_,_,rfl,rfl,⟨by decide,by decide⟩,_,rfl,_,_,rfl,rfl,m0,?_⟩;exact k _ _ (xO _ (by omega)) (yC _ m0) (B1.put hp1 hr0 (xO _ (by decide)) (yC _ (by decide))) (X1.trans nU.upd)
end
end Fen
namespace Fd
open PySem L2
section
variable{P:Program}{w:World}{K:qo}{mg:Str->Option Value}{base:Heap}
theorem zld{f:Addr}{fd:FuncData}(F:bZ K "_law_take" "_law_take" Fen.Aq f fd)(T:Bt mg):aN P w K mg base cL 1 f fd ["_law_box_here","_law_many"] (cZ K 2 dW):=by
 refine(Fen.zld F ⟨T.list,T.len,T.range⟩).imp λvs H Q E ⟨β,G,ds,gh,bx,hv,hl,P',q,hP⟩=>?_;unfold dW at q;split at q
 .rename_i m
  obtain⟨v1,v2,rfl,e1,e2⟩:=zv4 hv;cases e1;cases e2;obtain⟨cc,p,r,d,ns,hb,p0,r0,d0,d1,hc,hn⟩:=bx.ex;refine⟨β,cc,ns,m,rfl,⟨⟨p,r,d,hb,p0,r0,d0,d1⟩,gh _ _ hc,hn⟩,q.1.1,q.1.2,λx H' x0 x1 B X=>?_⟩;refine hP _ (q.2 x x0 x1) _ H' G ⟨Same.refl _,λa o e=>?_,λa o n e=>X a o n e,λa e=>.inl e,⟨?_,bx.still⟩,λz=>by(rw[hb]at z;cases z),λcc2 p2 r2 d2 h2=>by
   rw[hb]at h2;cases h2;obtain⟨p',r',d',e',_⟩:=B.ex;exact⟨p',r',d',e'⟩⟩ rfl
  .have na:a≠β:=λz=>by rw[z,bx.still]at e;cases e
   exact X a o na (gh a o e)
  .obtain⟨p',r',d',e',q'⟩:=B.ex;exact⟨cc,p',r',d',ns,e',q'.1,q'.2.1,q'.2.2.1,q'.2.2.2,hc,hn⟩
 .exact q.elim
def Jo(K:qo):Sp:=λvs H Q _=>∃(a:Addr)(ns:List Int),vs=[.ref a]/\cz K H a (ns.map V.int)/\ns.length<=63/\∀H',Q (.bl true) H'
def zsi{f:Addr}{fd:FuncData}{st:Stmt}{rest:List Stmt}{N:List Str}{n k:Nat}{B:WF}{p1 p2 p3 p4 p5:Pos}(F:bZ K "law" "law" st f fd)
  (hbd:nJ st=.Assign [.Name "_law_box_here" p1] (.Call (.Name "_law_box" p2) [.Name "_law_script" p3] [] p4) p5::rest)
  (cB:eQ P w K mg base "_law_box" 1 ["_law_script"] (Fen.zr3 K))
  (hB:∀{cdv:Value}{A:Around}{outer:List PySem.Env}{s:Shared}{H:Hp}{E:XK}{β:Addr}{H1 G1:Hp},(("_law_script"::"_law_box_here"::N:List Str)).Nodup->bK k (A.deeper (PyProof.Rows.envOfC "law" (gF st) s.heap.objs.size f cdv)) ->
   rN (dj cL P w K mg base ("_law_script"::"_law_box_here"::N) "law" (gF st) f cdv A outer s H E).nox ⟨K,β,H1,G1,λ_=>none⟩ rest B)
  (h:yt n B) (hN:N.length=n:=by rfl) (qh:dh ("_law_script"::"_law_box_here"::N) ["_law_script"] (gF st):=by exact⟨rfl,rfl,rfl,by decide +kernel,rfl,by decide +kernel,by decide +kernel⟩)
  (hgl:(gF st).names.lookup ("_law_box":Str)=some .globalImplicit:=by decide +kernel) (hs0:(gF st).names.lookup ("_law_script":Str)=some .local:=by decide +kernel) (hs1:(gF st).names.lookup ("_law_box_here":Str)=some .local\/(gF st).names.lookup ("_law_box_here":Str)=some .cell:=by decide +kernel) (hk:1<=k:=by decide):aN P w K mg base cL (k+1) f fd ["_law_script"] (Jo K):=by
 refine F.ok qh (λvs H Q E ⟨a,ns,e,_⟩=>by rw[e];rfl) (λcdv A outer s H vs Q E hr ⟨a,ns,e,hS,hl,q⟩=>?_);subst e;have hrest:lH (dj cL P w K mg base ("_law_script"::"_law_box_here"::N) "law" (gF st) f cdv A outer s H E).nox rest (λD Z H'=>∃ β H1 G1,tOS ⟨K,β,H1,G1,λ_=>none⟩ B D Z H'):=λaa s' Z H' D I ⟨β,H1,G1,z⟩=>(@hB cdv A outer s H E β H1 G1 qh.nd hr).pss aa s' Z H' D I z;rw[hbd];obtain⟨fB,fdB,FB,mB,kB,bB⟩:=cB.ex;refine⟨_,nH (uB (i:=1) qh.nd rfl hs1 (wZ FB (hr.mono hk) hgl mB kB bB .nil zp (iI (kO (i:=0) rfl (.inl hs0)) jW)) rfl (.inl rfl)) hrest,?_⟩;refine⟨.ref a,rfl,a,ns,rfl,hS,hl,λb cc H1 hb Bx Sm=>?_⟩;obtain⟨p,r,d,e,p0,r0,d0,d1⟩:=Bx.ex;have hcc:=Bx.cells;have nb:b≠cc:=Bx.ne
 let G1:Hp:=λx=>if x=cc then some (.lst (ns.map V.int))else none
 have gcc:G1 cc=some (.lst (ns.map V.int)):=by show(if cc=cc then _ else _)=_;rw[if_pos rfl]
 have gb:G1 b=none:=by show(if b=cc then _ else _)=_;rw[if_neg nb]
 have gh:Same G1 H1:=λx o ex=>by
  have ex':(if x=cc then some (HO.lst (ns.map V.int))else none)=some o:=ex;split at ex'
  .rename_i z;rw[z,hcc];exact ex'
  .cases ex'
 have bx:d9 b H1 G1:=⟨⟨cc,p,r,d,ns,e,p0,r0,d0,d1,gcc,Bx.few⟩,gb⟩;have kn:∃ad,Kn K b G1 (λ_=>none) (λ_=>none) ad:=⟨λ_=>[],λp o z=>(by cases z),λp o i a x z=>(by cases z),λp q i j a z=>absurd rfl z,λa o z=>(by cases z),λa z=>absurd rfl z⟩;have ou:Out ⟨K,b,H1,G1,λ_=>none⟩ (λ_=>none) G1:=⟨λa z=>absurd rfl z,Same.refl _,λa z=>.inl z,gh,Dm.refl _⟩;refine⟨b,H1,G1,.un::.val .box::List.replicate n .un,G1,λ_=>none,λ_=>none,⟨G1,ou,⟨?_,aZ.refl gh bx,λi sl ei=>?_,λi j x xs ys ei=>?_,kn⟩⟩,(@hB cdv A outer s H E b H1 G1 qh.nd hr).mono {nx:=λ_ _=>False,rt:=λ_ d=>d=.bl true,bk:=λ_ _=>False,ct:=λ_ _=>False} _ _ _ ⟨λ_ S z=>z.elim,λ_ d z v H' G' M' G2 _ _ t _ ev=>?_,λ_ S z=>z.elim,λ_ S z=>z.elim⟩ h⟩
 .simp[L2.ni,hN]
 .match i with
  |0=>cases ei;trivial
  |1=>cases ei;exact⟨.ref b,rfl,rfl⟩
  |i+2=>
   rw[rO,rO,Gq]at ei;split at ei<;>cases ei
   trivial
 .match i with
  |0=>cases ei
  |1=>cases ei
  |i+2=>
   rw[rO,rO,Gq]at ei;split at ei<;>cases ei
 .subst z;cases ev;exact q H'
end
end Fd
namespace Fd
open PySem L2 Fen
section
variable{P:Program}{w:World}{K:qo}{mg:Str->Option Value}{base:Heap}
local macro_rules|`(tactic| decreasing_trivial)=>`(tactic| first|exact Nk.mk rfl (by first|exact Or.inl rfl|exact Or.inr (Or.inl rfl)|exact Or.inr (Or.inr rfl)) (by decide) (by decide)|assumption|exact Bt.len ‹_›|exact Bd.dict ‹_›|exact Bd.abs ‹_›|exact zvz ‹_›|exact Bt.range ‹_›|exact Bt.list ‹_›|exact Bt.isinstance ‹_›|exact Bt.all ‹_›|exact Bt.tuple ‹_›|exact Bt.sorted ‹_›|exact Bt.set ‹_›|exact Bt.zip ‹_›|exact Bt.enumerate ‹_›|exact Bt.any ‹_›|exact Bt.min ‹_›|exact Bt.max ‹_›|exact Bt.int ‹_›|exact Bt.bool ‹_›|exact Bt.str ‹_›|exact bK.mono ‹_› (by first|decide|omega)|exact bK.units ‹_›|exact Hn|exact PyProof.Rows.boot_tuple|exact PyProof.Rows.boot_int|exact PyProof.Rows.boot_bool|exact PyProof.Rows.boot_str|decide|exact vR (by kernel_rfl))
structure Xa where
 (aBadName aTaken aFull aNoMark aNoHand aSame aBadRise aNoRun aAside aNotAside aBadNumber:Addr)
structure Xh(K:qo)(mg:Str->Option Value)(a:Xa):Prop where
 m_BadName:mg "BadName"=some (.ref a.aBadName)
 m_Taken:mg "Taken"=some (.ref a.aTaken)
 m_Full:mg "Full"=some (.ref a.aFull)
 m_NoMark:mg "NoMark"=some (.ref a.aNoMark)
 m_NoHand:mg "NoHand"=some (.ref a.aNoHand)
 m_Same:mg "Same"=some (.ref a.aSame)
 m_BadRise:mg "BadRise"=some (.ref a.aBadRise)
 m_NoRun:mg "NoRun"=some (.ref a.aNoRun)
 m_Aside:mg "Aside"=some (.ref a.aAside)
 m_NotAside:mg "NotAside"=some (.ref a.aNotAside)
 m_BadNumber:mg "BadNumber"=some (.ref a.aBadNumber)
 o_BadName:PySem.W.excIn K a.aBadName tL "ValueError.__new__"=true
 o_Taken:PySem.W.excIn K a.aTaken tL "ValueError.__new__"=true
 o_Full:PySem.W.excIn K a.aFull tL "ValueError.__new__"=true
 o_NoMark:PySem.W.excIn K a.aNoMark tL "ValueError.__new__"=true
 o_NoHand:PySem.W.excIn K a.aNoHand tL "ValueError.__new__"=true
 o_Same:PySem.W.excIn K a.aSame tL "ValueError.__new__"=true
 o_BadRise:PySem.W.excIn K a.aBadRise tL "ValueError.__new__"=true
 o_NoRun:PySem.W.excIn K a.aNoRun tL "ValueError.__new__"=true
 o_Aside:PySem.W.excIn K a.aAside tL "ValueError.__new__"=true
 o_NotAside:PySem.W.excIn K a.aNotAside tL "ValueError.__new__"=true
 o_BadNumber:PySem.W.excIn K a.aBadNumber tL "ValueError.__new__"=true
structure Fc(K:qo)(mg:Str->Option Value)(A:il):Prop where
 cls:pK K A.fen
 n_kept:dJ K A.fen "kept"
 n_books:dJ K A.fen "books"
 n_undone:dJ K A.fen "undone"
 m_Fen:mg "Fen"=some (.ref A.fen)
theorem zga(F:bZ K "_law_same" "_law_same" Fy f fd)(hm:mg "_law_same"=some (.ref f))(hb:Binds K fd ["_law_found","_law_due_here"] [])(T:Bt mg) :∀n,aN P w K mg base cL (1+n) f fd ["_law_found","_law_due_here"] (cZ K 2 (ye n))
 |0=>⟨λvs H Q E ⟨β,G,ds,_,_,_,h,_⟩=>h,λA outer s H args us vs Q E _ _ _ _ ⟨β,G,ds,_,_,_,_,P,z,_⟩=>z.elim⟩
 |n+1=>by
  have cSelf:eQ P w K mg base "_law_same" (1+n) ["_law_found","_law_due_here"] (cZ K 2 (ye n)):=eQ.of F (zga F hm hb T n) hm hb;exact jM (N:=["_law_found","_law_due_here"]) (k:=1+n) F λ_ _=>
   (bC (bJ (DW.dt (w_or (wF (uH (dv 1))) (zX (wF (uH (dv 1)))))) (bC (bJ (DW.dt (w_or (mQ (uH (dv 0)) (uH (dv 1))) (zX (mQ (uH (dv 0)) (uH (dv 1)))))) (bD (bY zqY)) eX)
  (bD (bY (De (jZ (jQ (aB (dv 0) aK)) (jQ (aB (dv 1) aK))) (Ac (zs9 (aB (DF.de (nM (Nc:=["_law_one","_law_other"]) (.tp 2 (.cons (.nm 0) (.cons (.nm 1) .nil))) (ztO (dv 0) (dv 1)) (pI (n:=2) rfl (gf (gn 0) (gf (gn 1) pP))) ut (cC cSelf (aB (dv 0) (aB (dv 1) aK))))) aK))))))) eX)
  (bC (bJ (DW.dt (w_or (KH (dv 0)) (zX (KH (dv 1))))) (bD (bY (De (zvs (dv 0)) (Ac (zvs (dv 1)))))) eX)
  (bC (bJ (DW.dt (w_or (mQ (uH (dv 0)) (uH (dv 1))) (zX (mQ (uH (dv 0)) (uH (dv 1)))))) (bD (bY zqY)) eX)
  (bD (bY (De (jZ (uH (dv 0)) (uH (dv 1))) (Ac (jZ (dv 0) (dv 1)))))))))
variable{f:Addr}{fd:FuncData}
variable(A:il)(T:Bt mg)(T2:Bd mg)(fc:Fc K mg A)(xk:ug K mg "FenError" NTx tO)(xv:mg "ValueError"=none)(gA:rJ P w K mg "ACTIONS" (zP A))(tb:gK P w K mg base 4 2 (jx A)){fI:Addr}{fdI:FuncData}(mkI:Mk K A.fen fI)(okI:aN P w K mg base (dw P w) 2 fI fdI ["self"] (lB K mg 1 (J9 A)))(bI:Binds K fdI ["self"] []){t_HIGHEST_RISE:Tok}{t_LETTERS:Tok}{t_LONGEST_NAME:Tok}{t_MOST_FALSE:Tok}{t_MOST_HANDS:Tok}{t_MOST_RUNS:Tok}{t_MOST_STANDS:Tok}(g_HIGHEST_RISE:mg "HIGHEST_RISE"=some (.int 1000000000 t_HIGHEST_RISE))(g_LETTERS:mg "LETTERS"=some (.str "abcdefghijklmnopqrstuvwxyz" t_LETTERS))(g_LONGEST_NAME:mg "LONGEST_NAME"=some (.int 8 t_LONGEST_NAME))(g_MOST_FALSE:mg "MOST_FALSE"=some (.int 3 t_MOST_FALSE))(g_MOST_HANDS:mg "MOST_HANDS"=some (.int 10 t_MOST_HANDS))(g_MOST_RUNS:mg "MOST_RUNS"=some (.int 40 t_MOST_RUNS))(g_MOST_STANDS:mg "MOST_STANDS"=some (.int 12 t_MOST_STANDS)){xa:Xa}(xh:Xh K mg xa)(og:eQ P w K mg base "_law_take" 1 ["_law_box_here","_law_many"] (cZ K 2 dW))(oQ:eQ P w K mg base "_law_names" 2 ["_law_box_here","_law_many"] (cZ K 2 FN))(oR:eQ P w K mg base "empty_book" 1 [] (cZ K 0 DK))(oj:eQ P w K mg base "_law_marks" 1 ["_law_model_here"] (cZ K 1 yS))(oA:eQ P w K mg base "_law_refused_at" 2 ["_law_box_here","_law_model_here","_law_pool"] (cZ K 3 HN))(o3:eQ P w K mg base "_law_same" (1+6) ["_law_found","_law_due_here"] (cZ K 2 (ye 6)))(qd:eQ P w K mg base "marks_of" 1 ["stands"] (cZ K 1 zeB))(m_now:Met P w K mg base cL A.fen "now" 1 ["self"] (jg K 1 (rP A)))(m_marks:Met P w K mg base cL A.fen "marks" 2 ["self"] (jg K 1 (zdN A)))(m_hands:Met P w K mg base cL A.fen "hands" 2 ["self"] (jg K 1 (zdJ A)))(m_asides:Met P w K mg base cL A.fen "asides" 2 ["self"] (jg K 1 (zc8 A)))(m_stands:Met P w K mg base cL A.fen "stands" 2 ["self"] (jg K 1 (zda A)))(m_allowed:Met P w K mg base cL A.fen "allowed" 2 ["self"] (jg K 1 (zcH A)))(m_runs:Met P w K mg base cL A.fen "runs" 2 ["self"] (jg K 1 (zeC A)))(oC:eQ P w K mg base "rows_that_count" 1 ["book"] (cZ K 1 zbz))(m_counting:Met P w K mg base cL A.fen "counting" 2 ["self"] (jg K 1 (zch A)))(m_deeds:Met P w K mg base cL A.fen "deeds" 1 ["self"] (jg K 1 (zdG A)))(o6:eQ P w K mg base "_law_seen" 3 ["_law_fen"] (jg K 1 (zdR A)))(oM:eQ P w K mg base "_law_counted" 1 ["_law_model_here"] (cZ K 1 zcl))(qe:eQ P w K mg base "_law_due" 2 ["_law_model_here"] (cZ K 1 zeE))(oS:eQ P w K mg base "_law_right" 8 ["_law_fen","_law_model_here"] (jg K 2 (zc7 A)))(oU:eQ P w K mg base "_law_model" 1 [] (cZ K 0 K7))(oh:eQ P w K mg base "with_entry" 1 ["book","word","value"] (cZ K 3 qp))(oz:eQ P w K mg base "turns_of" 1 ["stands","name"] (cZ K 2 Ai))(oV:eQ P w K mg base "next_stand" 2 ["stands","name"] (cZ K 2 zdb))(om:iC P w K mg base "with_new_stand" 3 ["book","name"] (du K mg 2 JZ))(oW:eQ P w K mg base "is_made_of" 1 ["text","signs","longest"] (cZ K 3 Kp))(oO:eQ P w K mg base "is_name" 2 ["text"] (cZ K 1 CP))(oy:iC P w K mg base "last_stand" 2 ["stands","name"] (du K mg 2 Dl))(ow:iC P w K mg base "need_hand" 1 ["book","name"] (du K mg 2 CW))(oE:iC P w K mg base "need_rise" 1 ["rise"] (du K mg 1 Lb))(oF:iC P w K mg base "need_run" 1 ["book","number"] (du K mg 2 K1))(oP:iC P w K mg base "book_behind" 5 ["book","row"] (du K mg 2 (K9 A)))(m_deed:Met P w K mg base (dw P w) A.fen "deed" 6 ["self","row"] (lB K mg 2 (Ex A)))(oX:iC P w K mg base "fen_of" 7 ["deeds"] (lB K mg 1 (JP A)))(oi:eQ P w K mg base "_law_turns" 1 ["_law_model_here","_law_name"] (cZ K 2 sG))(oo:eQ P w K mg base "_law_place" 2 ["_law_model_here","_law_name"] (cZ K 2 vK))(o7:eQ P w K mg base "_law_done" 3 ["_law_model_here","_law_deed"] (cZ K 2 Gm))(oG:eQ P w K mg base "_law_due_told" 1 ["_law_model_here","_law_deed"] (cZ K 2 Kq))(o8:iC P w K mg base "_law_step" 8 ["_law_fen","_law_model_here","_law_deed"] (lB K mg 3 (zdT A)))(oY:xq P w K mg base 1 "_law_kinds" tO zdf)(oN:iC P w K mg base "_law_made_of" 8 ["_law_deeds"] (lB K mg 1 (zci A)))(oq:eQ P w K mg base "_law_truth" 1 ["_law_place_here"] (cZ K 1 Be))(oH:eQ P w K mg base "_law_run_deed" 3 ["_law_box_here","_law_model_here"] (cZ K 2 zbS))(oI:eQ P w K mg base "_law_old_deed" 2 ["_law_box_here","_law_model_here"] (cZ K 2 zb4))(o9:eQ P w K mg base "_law_good" 4 ["_law_box_here","_law_model_here","_law_pool"] (cZ K 3 Ii))(oJ:eQ P w K mg base "_law_run_word" 2 ["_law_model_here","_law_deed"] (cZ K 2 zb0))(oZ:eQ P w K mg base "_law_named" 1 ["_law_word_here"] (cZ K 1 Hv))(oK:eQ P w K mg base "_law_new_word" 2 ["_law_model_here","_law_deed"] (cZ K 2 Hz))(qc:eQ P w K mg base "_law_word" 3 ["_law_model_here","_law_deed"] (cZ K 2 zE))
noncomputable def zja(F:bZ K "_law_names" "_law_names" Gj f fd):aN P w K mg base cL 2 f fd ["_law_box_here","_law_many"] (cZ K 2 FN):=
 jM (N:=["_law_box_here","_law_many","_law_letters","_law_size","_law_place_here","_law_like","_law_first","_law_rows","_law_k","_law_row"]) F λ_ _=>
 (bC (fW 2 aO)
  (bC (fW 3 (gW aU (cC og (aB (dv 0) (aB aU aK)))))
  (bC (fW 4 (cC og (aB (dv 0) (aB (dv 3) aK))))
  (bC (fW 5 (jZ (cC og (aB (dv 0) (aB aU aK))) aU))
  (bC (Et 6 (Nc:=["_law_k","_law_box_here"]) (.nm 0) (zlT (dv 3)) (gn 0) ut (cC og (aB (dv 1) (aB aU aK))))
  (bC (yN 7 (fj aK))
  (bC (Gp (.nm 8) (zlT (dv 1)) (gn 8) (bC (yN 9 (Ie (dv 6)))
  (bC (bJ (z9 (wF (dv 5))) (bD (zu7 9 (Nc:=["_law_step_here","_law_box_here"]) (.nm 0) (zlT (gW (gW (dv 4) aU) (cC og (aB (dv 0) (aB (Eu (dv 3) (dv 4)) aK))))) (gn 0) ut (cC og (aB (dv 1) (aB aU aK))))) eX)
  (bC (zv6 9 (zs3 (gW (cj (dv 6) (dv 4)) (zsd aU (dv 8))) aU) (dv 4))
  (bD (Eo 9 (zqa 7 (zu8 aO (DF.de (nM (Nc:=["_law_one","_law_letters"]) (.nm 0) (j8 (dv 9)) (gn 0) ut (cj (dv 1) (dv 0))))))))))))
  (bD (Eo 7 (bY (dv 7)))))))))))
def zi3(F:bZ K "empty_book" "empty_book" Fz f fd):aN P w K mg base cL 1 f fd [] (cZ K 0 DK):=
 jM (N:=[]) F λ_ _=>
 (bD (bY (zrl (uv (fK aK) (uv (fK aK) (uv (fK aK) (uv (fK aK) (uv aU (uv aU zrF)))))))))
noncomputable def zgQ(F:bZ K "__init__" "Fen.__init__" Ho f fd):aN P w K mg base (dw P w) 2 f fd ["self"] (lB K mg 1 (J9 A)):=
 JV (N:=["self"]) F λY hY _ _=>
 (lQ (zis 0 (λqh M G1=>(fj aK)) fc.cls fc.n_kept)
  (lQ (zis 0 (λqh M G1=>(fj (aB (zps oR) aK))) fc.cls fc.n_books)
  (wJ (zis 0 (λqh M G1=>(fj aK)) fc.cls fc.n_undone))))
noncomputable def ziq(F:bZ K "_law_marks" "_law_marks" Hh f fd):aN P w K mg base cL 1 f fd ["_law_model_here"] (cZ K 1 yS):=
 jM (N:=["_law_model_here"]) F λ_ _=>
 (bD (bY (DF.de (nM (Nc:=["_law_name","_law_turn"]) (.tp 2 (.cons (.nm 0) (.cons (.nm 1) .nil))) (j8 (cH (dv 0) aO)) (pI (n:=2) rfl (gf (gn 0) (gf (gn 1) pP))) (sI (dz (dv 1) aU)) (dv 0)))))
noncomputable def ze2(F:bZ K "_law_refused_at" "_law_refused_at" HJ f fd):aN P w K mg base cL 2 f fd ["_law_box_here","_law_model_here","_law_pool"] (cZ K 3 HN):=
 jM (N:=["_law_box_here","_law_model_here","_law_pool","_law_name","_law_some","_law_mark","_law_hand","_law_row"]) F λ_ _=>
 (bC (fW 3 (cj (dv 2) (cC og (aB (dv 0) (aB aU aK)))))
  (bC (yN 4 (fj (aB (fK (aB aO (aB (gW (cH (dv 1) aO) aU) aK))) (aB (fK (aB aO (aB aU aK))) (aB (fK (aB aO (aB (vM aU) aK))) (aB (fK (aB aO (aB (gW (dv 3) aO) aK))) (aB (fK (aB aO (aB aO aK))) aK)))))))
  (bC (Eo 4 (yN 4 (zrW (dv 4) (DF.de (fj (aB (fK (aB aO (aB (dv 3) (aB (dv 3) (aB aU (aB (dv 3) aK)))))) (aB (fK (aB aO (aB aO aK))) (aB (fK (aB aO (aB aO aK))) (aB (fK (aB aO (aB aO aK))) aK)))))))))
  (bC (Gp (.nm 5) (j8 (cC oj (aB (dv 1) aK))) (gn 5) (bC (Eo 4 (yN 4 (zrW (dv 4) (DF.de (fj (aB (fK (aB aO (aB (dv 5) aK))) (aB (fK (aB aO (aB (dv 5) (aB (dv 5) (aB aU (aB aO aK)))))) (aB (fK (aB aO (aB aO (aB (dv 5) (aB aU (aB aO aK)))))) aK))))))))
  (bD (zqa 4 (fK (aB aO (aB (dv 5) (aB (cj (cC oj (aB (dv 1) aK)) (vM aU)) (aB aU (aB aO aK))))))))))
  (bC (Gp (.nm 6) (zrp (cH (dv 1) aO)) (gn 6) (bD (Eo 4 (yN 4 (zrW (dv 4) (DF.de (fj (aB (fK (aB aO (aB (dv 6) aK))) (aB (fK (aB (cj (DF.de (fj (aB aO (aB aO aK)))) (uN (aB (cH (cH (dv 1) aO) (dv 6)) aK))) (aB (dv 6) aK))) aK)))))))))
  (bC (Gp (.nm 7) (j8 (cH (dv 1) aO)) (gn 7) (bD (zqa 4 (fK (aB aO (aB (cj (dv 7) aU) (aB aU aK)))))))
  (bD (bY (zU 4 (cC og (aB (dv 0) (aB (zrS 4) aK))))))))))))
noncomputable def zlr(F:bZ K "marks_of" "marks_of" HR f fd):aN P w K mg base cL 1 f fd ["stands"] (cZ K 1 zeB):=
 jM (N:=["stands"]) F λ_ _=>
 (bD (bY (DF.de (nM (Nc:=["name","turn"]) (.tp 2 (.cons (.nm 0) (.cons (.nm 1) .nil))) (j8 (dv 0)) (pI (n:=2) rfl (gf (gn 0) (gf (gn 1) pP))) (sI (dz (dv 1) aU)) (dv 0)))))
def zmS(F:bZ K "now" "Fen.now" Jh f fd):aN P w K mg base cL 1 f fd ["self"] (jg K 1 (rP A)):=
 vL (N:=["self"]) F λqh _ _=>
 (bD (bY (zwx 0 (vM aU) nQ fc.cls fc.n_books)))
def zkr(F:bZ K "marks" "Fen.marks" Js f fd):aN P w K mg base cL 2 f fd ["self"] (jg K 1 (zdN A)):=
 vL (N:=["self"]) F λqh _ _=>
 (bD (bY (cC qd (aB (cH (qt m_now nQ) aO) aK))))
def zkg(F:bZ K "hands" "Fen.hands" Ge f fd):aN P w K mg base cL 2 f fd ["self"] (jg K 1 (zdJ A)):=
 vL (N:=["self"]) F λqh _ _=>
 (bD (bY (DF.de (Ie (cH (qt m_now nQ) aO)))))
noncomputable def ziu(F:bZ K "asides" "Fen.asides" Ld f fd):aN P w K mg base cL 2 f fd ["self"] (jg K 1 (zc8 A)):=
 vL (N:=["self","book"]) F λqh _ _=>
 (bC (fW 1 (qt m_now nQ))
  (bD (bY (DF.de (nM (Nc:=["hand","book"]) (.nm 0) (j8 (cH (dv 1) aO)) (gn 0) (sI (Dj (dv 0) (cH (dv 1) aO))) (dv 0))))))
def ziR(F:bZ K "stands" "Fen.stands" JG f fd):aN P w K mg base cL 2 f fd ["self"] (jg K 1 (zda A)):=
 vL (N:=["self"]) F λqh _ _=>
 (bD (bY (DF.de (Ie (cH (qt m_now nQ) aO)))))
def zhA(F:bZ K "allowed" "Fen.allowed" J3 f fd):aN P w K mg base cL 2 f fd ["self"] (jg K 1 (zcH A)):=
 vL (N:=["self"]) F λqh _ _=>
 (bD (bY (cH (qt m_now nQ) aO)))
def zkN(F:bZ K "runs" "Fen.runs" HH f fd):aN P w K mg base cL 2 f fd ["self"] (jg K 1 (zeC A)):=
 vL (N:=["self"]) F λqh _ _=>
 (bD (bY (DF.de (Ie (cH (qt m_now nQ) aO)))))
def zfq(F:bZ K "rows_that_count" "rows_that_count" Ip f fd):aN P w K mg base cL 1 f fd ["book"] (cZ K 1 zbz):=
 jM (N:=["book"]) F λ_ _=>
 (bD (bY (DF.de (nM (Nc:=["run","book"]) (.nm 0) (j8 (cH (dv 0) aO)) (gn 0) (sI (zgt (cj (dv 0) aU) (cH (dv 1) aO))) (dv 0)))))
def zgZ(F:bZ K "counting" "Fen.counting" J8 f fd):aN P w K mg base cL 2 f fd ["self"] (jg K 1 (zch A)):=
 vL (N:=["self"]) F λqh _ _=>
 (bD (bY (DF.de (nM (Nc:=["run"]) (.nm 0) (j8 (cC oC (aB (qt m_now nQ) aK))) (gn 0) ut (cj (dv 0) aU)))))
def zjB(F:bZ K "deeds" "Fen.deeds" Gd f fd):aN P w K mg base cL 1 f fd ["self"] (jg K 1 (zdG A)):=
 vL (N:=["self"]) F λqh _ _=>
 (bD (bY (DF.de (zvQ 0 nQ fc.cls fc.n_kept))))
noncomputable def zjv(F:bZ K "_law_seen" "_law_seen" JQ f fd):aN P w K mg base cL 3 f fd ["_law_fen"] (jg K 1 (zdR A)):=
 vL (N:=["_law_fen","_law_found"]) F λqh _ _=>
 (bC (fW 1 (DF.de (fj (aB (qt m_marks nQ) (aB (qt m_hands nQ) (aB (qt m_asides nQ) (aB (qt m_stands nQ) (aB (qt m_allowed nQ) (aB (qt m_runs nQ) (aB (qt m_counting nQ) aK))))))))))
  (bD (bY (gW (dv 1) (DF.de (fj (aB (qt m_deeds nQ) aK)))))))
noncomputable def zhr(F:bZ K "_law_counted" "_law_counted" HF f fd):aN P w K mg base cL 1 f fd ["_law_model_here"] (cZ K 1 zcl):=
 jM (N:=["_law_model_here"]) F λ_ _=>
 (bD (bY (DF.de (nM (Nc:=["_law_row","_law_model_here"]) (.nm 0) (j8 (cH (dv 0) aO)) (gn 0) (sI (wF (cH (cH (dv 1) aO) (cj (dv 0) aU)))) (dv 0)))))
noncomputable def zlx(F:bZ K "_law_due" "_law_due" vX f fd):aN P w K mg base cL 2 f fd ["_law_model_here"] (cZ K 1 zeE):=
 jM (N:=["_law_model_here","_law_places","_law_rows","_law_asides","_law_found"]) F λ_ _=>
 (bC (fW 1 (cH (dv 0) aO))
  (bC (Et 2 (Nc:=["_law_row","_law_places"]) (.nm 0) (j8 (cH (dv 0) aO)) (gn 0) ut (gW (gW (gW (fK (aB (cj (dv 0) aU) aK)) (cj (dv 1) (cj (dv 0) aU))) (cj (dv 1) (cj (dv 0) aU))) (Dq (dv 0) (EY aU) Dd)))
  (bC (Et 3 (Nc:=["_law_hand","_law_model_here"]) (.nm 0) (zrp (cH (dv 0) aO)) (gn 0) (sI (z9 (wF (cH (cH (dv 1) aO) (dv 0))))) (dv 0))
  (bC (fW 4 (DF.de (fj (aB (cC oj (aB (dv 0) aK)) (aB (DF.de (znv (cH (dv 0) aO))) (aB (dv 3) (aB (dv 1) (aB (cH (dv 0) aO) (aB (dv 2) aK)))))))))
  (bD (bY (gW (dv 4) (DF.de (fj (aB (DF.de (nM (Nc:=["_law_row"]) (.nm 0) (j8 (cC oM (aB (dv 0) aK))) (gn 0) ut (cj (dv 0) aU))) (aB (cH (dv 0) aO) aK)))))))))))
noncomputable def zi9(F:bZ K "_law_right" "_law_right" Jf f fd):aN P w K mg base cL 8 f fd ["_law_fen","_law_model_here"] (jg K 2 (zc7 A)):=
 vL (N:=["_law_fen","_law_model_here"]) F λqh _ _=>
 (bD (bY (cC o3 (aB (zsr o6 (aB (dv 0) aK) nQ) (aB (cC qe (aB (dv 1) aK)) aK)))))
def zin(F:bZ K "_law_model" "_law_model" IW f fd):aN P w K mg base cL 1 f fd [] (cZ K 0 K7):=
 jM (N:=[]) F λ_ _=>
 (bD (bY (zrl (uv (DF.de (fj aK)) (uv zsU (uv (DF.de (fj aK)) (uv aU (uv aU (uv (DF.de (fj aK)) zrF)))))))))
noncomputable def ziV(F:bZ K "with_entry" "with_entry" J7 f fd):aN P w K mg base cL 1 f fd ["book","word","value"] (cZ K 3 qp):=
 jM (N:=["book","word","value","fresh"]) F λ_ _=>
 (zt2 0 1 2 3 (x:="fresh") (nb:="book") (nw:="word") (nv:="value") (hb:=(kO (i:=0) (x:="book") rfl (.inl rfl))) (hw:=(kO (i:=1) (x:="word") rfl (.inl rfl))) (hv:=(kO (i:=2) (x:="value") rfl (.inl rfl))))
noncomputable def zk7(F:bZ K "turns_of" "turns_of" JX f fd):aN P w K mg base cL 1 f fd ["stands","name"] (cZ K 2 Ai):=
 jM (N:=["stands","name"]) F λ_ _=>
 (bD (bY (jQ (aB (DF.de (nM (Nc:=["each","turn","name"]) (.tp 2 (.cons (.nm 0) (.cons (.nm 1) .nil))) (j8 (dv 0)) (pI (n:=2) rfl (gf (gn 0) (gf (gn 1) pP))) (sI (dz (dv 0) (dv 2))) (dv 1))) aK))))
def zit(F:bZ K "next_stand" "next_stand" HQ f fd):aN P w K mg base cL 2 f fd ["stands","name"] (cZ K 2 zdb):=
 jM (N:=["stands","name"]) F λ_ _=>
 (bD (bY (fK (aB (dv 1) (aB (gW (cC oz (aB (dv 0) (aB (dv 1) aK))) aU) aK)))))
noncomputable def zfP(F:bZ K "with_new_stand" "with_new_stand" FP f fd):aN P w K mg base (dw P w) 3 f fd ["book","name"] (du K mg 2 JZ):=
 qH (N:=["book","name","stands"]) F λY hY _ _=>
 (bC (DS.nox (fW 2 (cH (dv 0) aO)))
  (bC (bJ (DT.nox (xK (jQ (aB (dv 2) aK)) (Dt g_MOST_STANDS))) (bD (qG (aB aO aK) (λ_ _ _ _ _ _ _ _ I t m y=>qZ I m (hY _ _ _ _ y xh.m_Full t)) xh.o_Full xh.m_Full)) eX)
  (bD (DS.nox (bY (cC oh (aB (dv 0) (aB aO (aB (gW (dv 2) (fK (aB (cC oV (aB (dv 2) (aB (dv 1) aK))) aK))) aK)))))))))
noncomputable def zik(F:bZ K "is_made_of" "is_made_of" Hu f fd):aN P w K mg base cL 1 f fd ["text","signs","longest"] (cZ K 3 Kp):=
 jM (N:=["text","signs","longest"]) F λ_ _=>
 (bD (bY (De (zmq aU (jQ (aB (dv 0) aK)) (dv 2)) (Ac (zs9 (aB (DF.de (nM (Nc:=["sign","signs"]) (.nm 0) (j8 (dv 0)) (gn 0) ut (zu4 (dv 0) (dv 1)))) aK))))))
def zmG(F:bZ K "is_name" "is_name" Gz f fd):aN P w K mg base cL 2 f fd ["text"] (cZ K 1 CP):=
 jM (N:=["text"]) F λ_ _=>
 (bD (bY (cC oW (aB (dv 0) (aB (zvn g_LETTERS) (aB (Dt g_LONGEST_NAME) aK))))))
noncomputable def zgI(F:bZ K "mark_entered" "mark_entered" Jb f fd):aN P w K mg base (dw P w) 4 f fd ["book","row"] (du K mg 2 zcV):=
 qH (N:=["book","row","word","name"]) F λY hY _ _=>
 (bC (DS.nox (tu (.tp 2 (.cons (.nm 2) (.cons (.nm 3) .nil))) (dv 1) (pI (n:=2) rfl (gf (gn 2) (gf (gn 3) pP)))))
  (bC (bJ (DT.nox (z9 (wF (cC oO (aB (dv 3) aK))))) (bD (qG (aB aO aK) (λ_ _ _ _ _ _ _ _ I t m y=>qZ I m (hY _ _ _ _ y xh.m_BadName t)) xh.o_BadName xh.m_BadName)) eX)
  (bC (bJ (DT.nox (qO (cC oz (aB (cH (dv 0) aO) (aB (dv 3) aK))) aU)) (bD (qG (aB aO aK) (λ_ _ _ _ _ _ _ _ I t m y=>qZ I m (hY _ _ _ _ y xh.m_Taken t)) xh.o_Taken xh.m_Taken)) eX)
  (bD (bY (uE om (DA.nox (aB (dv 0) (aB (dv 3) aK))) (t6 hY)))))))
noncomputable def zgW(F:bZ K "hand_entered" "hand_entered" Gn f fd):aN P w K mg base (dw P w) 3 f fd ["book","row"] (du K mg 2 zc4):=
 qH (N:=["book","row","word","name","hands"]) F λY hY _ _=>
 (bC (DS.nox (tu (.tp 2 (.cons (.nm 2) (.cons (.nm 3) .nil))) (dv 1) (pI (n:=2) rfl (gf (gn 2) (gf (gn 3) pP)))))
  (bC (DS.nox (fW 4 (cH (dv 0) aO)))
  (bC (bJ (DT.nox (z9 (wF (cC oO (aB (dv 3) aK))))) (bD (qG (aB aO aK) (λ_ _ _ _ _ _ _ _ I t m y=>qZ I m (hY _ _ _ _ y xh.m_BadName t)) xh.o_BadName xh.m_BadName)) eX)
  (bC (bJ (DT.nox (Dj (dv 3) (dv 4))) (bD (qG (aB aO aK) (λ_ _ _ _ _ _ _ _ I t m y=>qZ I m (hY _ _ _ _ y xh.m_Taken t)) xh.o_Taken xh.m_Taken)) eX)
  (bC (bJ (DT.nox (xK (jQ (aB (dv 4) aK)) (Dt g_MOST_HANDS))) (bD (qG (aB aO aK) (λ_ _ _ _ _ _ _ _ I t m y=>qZ I m (hY _ _ _ _ y xh.m_Full t)) xh.o_Full xh.m_Full)) eX)
  (bD (DS.nox (bY (cC oh (aB (dv 0) (aB aO (aB (gW (dv 4) (fK (aB (dv 3) aK))) aK))))))))))))
noncomputable def ziF(F:bZ K "last_stand" "last_stand" JS f fd):aN P w K mg base (dw P w) 2 f fd ["stands","name"] (du K mg 2 Dl):=
 qH (N:=["stands","name","turns"]) F λY hY _ _=>
 (bC (DS.nox (fW 2 (cC oz (aB (dv 0) (aB (dv 1) aK)))))
  (bC (bJ (DT.nox (dz (dv 2) aU)) (bD (qG (aB aO aK) (λ_ _ _ _ _ _ _ _ I t m y=>qZ I m (hY _ _ _ _ y xh.m_NoMark t)) xh.o_NoMark xh.m_NoMark)) eX)
  (bD (DS.nox (bY (fK (aB (dv 1) (aB (dv 2) aK))))))))
noncomputable def zjS(F:bZ K "need_hand" "need_hand" Iu f fd):aN P w K mg base (dw P w) 1 f fd ["book","name"] (du K mg 2 CW):=
 qH (N:=["book","name"]) F λY hY _ _=>
 (bD (bJ (DT.nox (zgt (dv 1) (cH (dv 0) aO))) (bD (qG (aB aO aK) (λ_ _ _ _ _ _ _ _ I t m y=>qZ I m (hY _ _ _ _ y xh.m_NoHand t)) xh.o_NoHand xh.m_NoHand)) eX))
noncomputable def zjk(F:bZ K "need_rise" "need_rise" Hm f fd):aN P w K mg base (dw P w) 1 f fd ["rise"] (du K mg 1 Lb):=
 qH (N:=["rise"]) F λY hY _ _=>
 (bD (bJ (DT.nox (qO (zwb (aB (dv 0) aK)) (Dt g_HIGHEST_RISE))) (bD (qG (aB aO aK) (λ_ _ _ _ _ _ _ _ I t m y=>qZ I m (hY _ _ _ _ y xh.m_BadRise t)) xh.o_BadRise xh.m_BadRise)) eX))
noncomputable def zhF(F:bZ K "run_entered" "run_entered" Ia f fd):aN P w K mg base (dw P w) 3 f fd ["book","row"] (du K mg 2 zdj):=
 qH (N:=["book","row","word","one","other","rise","hand","start","start_turn","end","end_turn","number","run"]) F λY hY _ _=>
 (bC (DS.nox (tu (.tp 5 (.cons (.nm 2) (.cons (.nm 3) (.cons (.nm 4) (.cons (.nm 5) (.cons (.nm 6) .nil)))))) (dv 1) (pI (n:=5) rfl (gf (gn 2) (gf (gn 3) (gf (gn 4) (gf (gn 5) (gf (gn 6) pP))))))))
  (bC (tu (.tp 2 (.cons (.nm 7) (.cons (.nm 8) .nil))) (uE oy (DA.nox (aB (cH (dv 0) aO) (aB (dv 3) aK))) (t6 hY)) (pI (n:=2) rfl (gf (gn 7) (gf (gn 8) pP))))
  (bC (tu (.tp 2 (.cons (.nm 9) (.cons (.nm 10) .nil))) (uE oy (DA.nox (aB (cH (dv 0) aO) (aB (dv 4) aK))) (t6 hY)) (pI (n:=2) rfl (gf (gn 9) (gf (gn 10) pP))))
  (bC (bJ (DT.nox (dz (dv 3) (dv 4))) (bD (qG (aB aO aK) (λ_ _ _ _ _ _ _ _ I t m y=>qZ I m (hY _ _ _ _ y xh.m_Same t)) xh.o_Same xh.m_Same)) eX)
  (bC (BP (uE ow (DA.nox (aB (dv 0) (aB (dv 6) aK))) (t6 hY)))
  (bC (BP (uE oE (DA.nox (aB (dv 5) aK)) (t6 hY)))
  (bC (bJ (DT.nox (xK (jQ (aB (cH (dv 0) aO) aK)) (Dt g_MOST_RUNS))) (bD (qG (aB aO aK) (λ_ _ _ _ _ _ _ _ I t m y=>qZ I m (hY _ _ _ _ y xh.m_Full t)) xh.o_Full xh.m_Full)) eX)
  (bC (DS.nox (fW 11 (gW (cH (dv 0) aO) aU)))
  (bC (DS.nox (fW 12 (fK (aB (dv 11) (aB (dv 7) (aB (dv 8) (aB (dv 9) (aB (dv 10) (aB (dv 5) (aB (dv 6) aK))))))))))
  (bD (DS.nox (bY (cC oh (aB (cC oh (aB (dv 0) (aB aO (aB (dv 11) aK)))) (aB aO (aB (gW (cH (dv 0) aO) (fK (aB (dv 12) aK))) aK))))))))))))))))
noncomputable def zlj(F:bZ K "need_run" "need_run" Kg f fd):aN P w K mg base (dw P w) 1 f fd ["book","number"] (du K mg 2 K1):=
 qH (N:=["book","number"]) F λY hY _ _=>
 (bD (bJ (DT.nox (zgt (dv 1) (DF.de (nM (Nc:=["run"]) (.nm 0) (j8 (cH (dv 0) aO)) (gn 0) ut (cj (dv 0) aU))))) (bD (qG (aB aO aK) (λ_ _ _ _ _ _ _ _ I t m y=>qZ I m (hY _ _ _ _ y xh.m_NoRun t)) xh.o_NoRun xh.m_NoRun)) eX))
noncomputable def zii(F:bZ K "run_struck" "run_struck" GJ f fd):aN P w K mg base (dw P w) 2 f fd ["book","row"] (du K mg 2 zdO):=
 qH (N:=["book","row","word","number"]) F λY hY _ _=>
 (bC (DS.nox (tu (.tp 2 (.cons (.nm 2) (.cons (.nm 3) .nil))) (dv 1) (pI (n:=2) rfl (gf (gn 2) (gf (gn 3) pP)))))
  (bC (BP (uE oF (DA.nox (aB (dv 0) (aB (dv 3) aK))) (t6 hY)))
  (bD (DS.nox (bY (cC oh (aB (dv 0) (aB aO (aB (zkO (aB (DF.de (nM (Nc:=["run","number"]) (.nm 0) (j8 (cH (dv 0) aO)) (gn 0) (sI (mQ (cj (dv 0) aU) (dv 1))) (dv 0))) aK)) aK)))))))))
noncomputable def ziY(F:bZ K "run_mended" "run_mended" G9 f fd):aN P w K mg base (dw P w) 2 f fd ["book","row"] (du K mg 2 zdC):=
 qH (N:=["book","row","word","number","rise","mended"]) F λY hY _ _=>
 (bC (DS.nox (tu (.tp 3 (.cons (.nm 2) (.cons (.nm 3) (.cons (.nm 4) .nil)))) (dv 1) (pI (n:=3) rfl (gf (gn 2) (gf (gn 3) (gf (gn 4) pP))))))
  (bC (BP (uE oF (DA.nox (aB (dv 0) (aB (dv 3) aK))) (t6 hY)))
  (bC (BP (uE oE (DA.nox (aB (dv 4) aK)) (t6 hY)))
  (bC (DS.nox (Et 5 (Nc:=["run","number","rise"]) (.nm 0) (j8 (cH (dv 0) aO)) (gn 0) ut (d_if (dz (cj (dv 0) aU) (dv 1)) (gW (Dq (dv 0) Dd (EY aU)) (fK (aB (dv 2) (aB (cj (dv 0) aU) aK)))) (dv 0))))
  (bD (DS.nox (bY (cC oh (aB (dv 0) (aB aO (aB (zkO (aB (dv 5) aK)) aK)))))))))))
noncomputable def zg7(F:bZ K "mark_settled" "mark_settled" K6 f fd):aN P w K mg base (dw P w) 4 f fd ["book","row"] (du K mg 2 zc5):=
 qH (N:=["book","row","word","name","settling","turn"]) F λY hY _ _=>
 (bC (DS.nox (tu (.tp 2 (.cons (.nm 2) (.cons (.nm 3) .nil))) (dv 1) (pI (n:=2) rfl (gf (gn 2) (gf (gn 3) pP)))))
  (bC (tu (.tp 2 (.cons (.nm 4) (.cons (.nm 5) .nil))) (uE oy (DA.nox (aB (cH (dv 0) aO) (aB (dv 3) aK))) (t6 hY)) (pI (n:=2) rfl (gf (gn 4) (gf (gn 5) pP))))
  (bD (bY (uE om (DA.nox (aB (dv 0) (aB (dv 4) aK))) (t6 hY))))))
noncomputable def zfM(F:bZ K "hand_set_aside" "hand_set_aside" Ju f fd):aN P w K mg base (dw P w) 2 f fd ["book","row"] (du K mg 2 zb9):=
 qH (N:=["book","row","word","hand"]) F λY hY _ _=>
 (bC (DS.nox (tu (.tp 2 (.cons (.nm 2) (.cons (.nm 3) .nil))) (dv 1) (pI (n:=2) rfl (gf (gn 2) (gf (gn 3) pP)))))
  (bC (BP (uE ow (DA.nox (aB (dv 0) (aB (dv 3) aK))) (t6 hY)))
  (bC (bJ (DT.nox (Dj (dv 3) (cH (dv 0) aO))) (bD (qG (aB aO aK) (λ_ _ _ _ _ _ _ _ I t m y=>qZ I m (hY _ _ _ _ y xh.m_Aside t)) xh.o_Aside xh.m_Aside)) eX)
  (bD (DS.nox (bY (cC oh (aB (dv 0) (aB aO (aB (gW (cH (dv 0) aO) (fK (aB (dv 3) aK))) aK))))))))))
noncomputable def zhE(F:bZ K "hand_heeded" "hand_heeded" Kz f fd):aN P w K mg base (dw P w) 2 f fd ["book","row"] (du K mg 2 zdi):=
 qH (N:=["book","row","word","hand"]) F λY hY _ _=>
 (bC (DS.nox (tu (.tp 2 (.cons (.nm 2) (.cons (.nm 3) .nil))) (dv 1) (pI (n:=2) rfl (gf (gn 2) (gf (gn 3) pP)))))
  (bC (BP (uE ow (DA.nox (aB (dv 0) (aB (dv 3) aK))) (t6 hY)))
  (bC (bJ (DT.nox (zgt (dv 3) (cH (dv 0) aO))) (bD (qG (aB aO aK) (λ_ _ _ _ _ _ _ _ I t m y=>qZ I m (hY _ _ _ _ y xh.m_NotAside t)) xh.o_NotAside xh.m_NotAside)) eX)
  (bD (DS.nox (bY (cC oh (aB (dv 0) (aB aO (aB (zkO (aB (DF.de (nM (Nc:=["each","hand"]) (.nm 0) (j8 (cH (dv 0) aO)) (gn 0) (sI (mQ (dv 0) (dv 1))) (dv 0))) aK)) aK))))))))))
noncomputable def zfY(F:bZ K "number_allowed" "number_allowed" GP f fd):aN P w K mg base (dw P w) 2 f fd ["book","row"] (du K mg 2 zby):=
 qH (N:=["book","row","word","many"]) F λY hY _ _=>
 (bC (DS.nox (tu (.tp 2 (.cons (.nm 2) (.cons (.nm 3) .nil))) (dv 1) (pI (n:=2) rfl (gf (gn 2) (gf (gn 3) pP)))))
  (bC (bJ (DT.nox (DW.dt (w_or (pA (dv 3) aU) (zX (qO (dv 3) (Dt g_MOST_FALSE)))))) (bD (qG (aB aO aK) (λ_ _ _ _ _ _ _ _ I t m y=>qZ I m (hY _ _ _ _ y xh.m_BadNumber t)) xh.o_BadNumber xh.m_BadNumber)) eX)
  (bD (DS.nox (bY (cC oh (aB (dv 0) (aB aO (aB (dv 3) aK)))))))))
noncomputable def zhD(F:bZ K "book_behind" "book_behind" Gh f fd):aN P w K mg base (dw P w) 5 f fd ["book","row"] (du K mg 2 (K9 A)):=
 qH (N:=["book","row","action"]) F λY hY _ _=>
 (bC (DS.nox (fW 2 (zvM gA (cj (dv 1) aU))))
  (bD (bY (zsA (tb.at ‹_›) (DA.nox (aB (dv 0) (aB (dv 1) aK))) (t6 hY)))))
noncomputable def zle(F:bZ K "deed" "Fen.deed" Ja f fd):aN P w K mg base (dw P w) 6 f fd ["self","row"] (lB K mg 2 (Ex A)):=
 JV (N:=["self","row","book"]) F λY hY _ _=>
 (lQ (zpA 2 (ztf oP (qw (jH λqh M G1=>(DE.nox (qt m_now zrz))) (qw (jH λqh M G1=>(DE.nox (dv 1))) wO)) (zsy hY)))
  (lQ (zrR 0 (λqh M G1=>(dv 1)) fc.cls fc.n_kept)
  (lQ (zrR 0 (λqh M G1=>(dv 2)) fc.cls fc.n_books)
  (lQ (zis 0 (λqh M G1=>(fj aK)) fc.cls fc.n_undone)
  (lQ (rR λqh M G1=>(DS.nox (bJ (dz (cj (dv 1) aU) aO) (bD (bY (cH (dv 2) aO))) eX)))
  (wJ (rR λqh M G1=>(DS.nox (bY CZ)))))))))
noncomputable def znL(F:bZ K "fen_of" "fen_of" Hi f fd):aN P w K mg base (dw P w) 7 f fd ["deeds"] (lB K mg 1 (JP A)):=
 JV (N:=["deeds","fen","row"]) F λY hY _ _=>
 (lQ (zpA 1 (zrA mkI okI fc.m_Fen bI (zsy hY)))
  (lQ (zq5 (.nm 2) (λqh M G1=>(j8 (dv 0))) (gn 2) (wJ (zta (zrN m_deed (λqh M G1=>dv 1) (qw (jH λqh M G1=>(DE.nox (dv 2))) wO) (zsy hY)))) (hp:=PassesOwn.leaving))
  (wJ (rR λqh M G1=>(DS.nox (bY (dv 1)))))))
noncomputable def zir(F:bZ K "_law_turns" "_law_turns" GQ f fd):aN P w K mg base cL 1 f fd ["_law_model_here","_law_name"] (cZ K 2 sG):=
 jM (N:=["_law_model_here","_law_name"]) F λ_ _=>
 (bD (bY (jQ (aB (DF.de (nM (Nc:=["_law_place_here","_law_name"]) (.nm 0) (j8 (cH (dv 0) aO)) (gn 0) (sI (dz (cj (dv 0) aU) (dv 1))) (dv 0))) aK))))
def ziv(F:bZ K "_law_place" "_law_place" Gg f fd):aN P w K mg base cL 2 f fd ["_law_model_here","_law_name"] (cZ K 2 vK):=
 jM (N:=["_law_model_here","_law_name"]) F λ_ _=>
 (bD (bY (ztC (cH (dv 0) aO) (fK (aB (dv 1) (aB (cC oi (aB (dv 0) (aB (dv 1) aK))) aK))))))
noncomputable def zjx(F:bZ K "_law_done" "_law_done" Gr f fd):aN P w K mg base cL 3 f fd ["_law_model_here","_law_deed"] (cZ K 2 Gm):=
 jM (N:=["_law_model_here","_law_deed","_law_word_here","_law_heeded","_law_row","_law_rows"]) F λ_ _=>
 (bC (zvV 0 (dv 0))
  (bC (Bc 0 (gW (rE 0 aO) (DF.de (fj (aB (dv 1) aK)))) aO)
  (bC (fW 2 (cj (dv 1) aU))
  (bC (bJ (DW.dt (w_or (dz (dv 2) aO) (zX (dz (dv 2) aO)))) (bD (Bc 0 (gW (rE 0 aO) (DF.de (fj (aB (fK (aB (cj (dv 1) aU) (aB (gW (zoD 0 oi (aB (cj (dv 1) aU) aK)) aU) aK))) aK)))) aO)) (bD (bJ (Dj (dv 2) (fK (aB aO (aB aO (aB aO aK))))) (zwp 3 (rE 0 aO) (d_ne (dv 2) aO) (cj (dv 1) aU)
  (bD (Bc 0 (dv 3) aO))) (bD (bJ (dz (dv 2) aO) (bC (zt4 0 aO aU)
  (bC (fW 4 (gW (fK (aB (rE 0 aO) (aB (zoD 0 oo (aB (cj (dv 1) aU) aK)) (aB (zoD 0 oo (aB (cj (dv 1) aU) aK)) aK)))) (Dq (dv 1) (EY aU) Dd)))
  (bD (Bc 0 (gW (rE 0 aO) (DF.de (fj (aB (dv 4) aK)))) aO)))) (bD (bJ (dz (dv 2) aO) (bD (Bc 0 (DF.de (nM (Nc:=["_law_row","_law_deed"]) (.nm 0) (j8 (rE 0 aO)) (gn 0) (sI (mQ (cj (dv 0) aU) (cj (dv 1) aU))) (dv 0))) aO)) (bD (bJ (dz (dv 2) aO) (bC (yN 5 (fj aK))
  (bC (Gp (.nm 4) (j8 (rE 0 aO)) (gn 4) (bD (zqa 5 (cj (DF.de (fj (aB (dv 4) (aB (gW (Dq (dv 4) Dd (EY aU)) (fK (aB (cj (dv 1) aU) (aB (cj (dv 4) aU) aK)))) aK)))) (uN (aB (jZ (cj (dv 4) aU) (cj (dv 1) aU)) aK))))))
  (bD (Eo 5 (Bc 0 (dv 5) aO))))) (bD (Bc 0 (cj (dv 1) aU) aO)))))))))))
  (bD (zvE 0))))))
noncomputable def zgj(F:bZ K "_law_due_told" "_law_due_told" Je f fd):aN P w K mg base cL 1 f fd ["_law_model_here","_law_deed"] (cZ K 2 Kq):=
 jM (N:=["_law_model_here","_law_deed"]) F λ_ _=>
 (bD (bY (cj (DF.de (fj (aB CZ (aB (gW (cH (dv 0) aO) aU) aK)))) (uN (aB (jZ (cj (dv 1) aU) aO) aK)))))
noncomputable def zjz(F:bZ K "_law_step" "_law_step" JW f fd):aN P w K mg base (dw P w) 8 f fd ["_law_fen","_law_model_here","_law_deed"] (lB K mg 3 (zdT A)):=
 JV (N:=["_law_fen","_law_model_here","_law_deed"]) F λY hY _ _=>
 (rN.nox (lQ (zrc (zrB o3 (qw (zrN m_deed (λqh M G1=>dv 0) (qw (jH λqh M G1=>(dv 2)) wO) Ks) (qw (jH λqh M G1=>(cC oG (aB (dv 1) (aB (dv 2) aK)))) wO))) (wJ (rR λqh M G1=>(bY CZ))) zrL)
  (wJ (rR λqh M G1=>(bY (cC o7 (aB (dv 1) (aB (dv 2) aK))))))))
noncomputable def zh3(F:bZ K "_law_kinds" "_law_kinds" HS f fd)(hm:mg "_law_kinds"=some (.ref f))(hb:Binds K fd ["_law_e"] []):xq P w K mg base 1 "_law_kinds" tO zdf:=
 zwJ (N:=["_law_e","_law_h","_law_w"]) F hm hb λnm ea C oe _ hn hmn hoc h=>
 (bC (fW 1 (DF.de (fj (aB (nP xk (dv 0) gC hoc hn hmn) (aB (nP xk (dv 0) gC hoc hn hmn) (aB (nP xk (dv 0) gC hoc hn hmn) (aB (nP xk (dv 0) gC hoc hn hmn) aK)))))))
  (bC (fW 1 (gW (dv 1) (DF.de (fj (aB (nP xk (dv 0) gC hoc hn hmn) (aB (nP xk (dv 0) gC hoc hn hmn) (aB (nP xk (dv 0) gC hoc hn hmn) (aB (nP xk (dv 0) gC hoc hn hmn) aK))))))))
  (bC (fW 1 (gW (dv 1) (DF.de (fj (aB (nP xk (dv 0) gC hoc hn hmn) (aB (nP xk (dv 0) gC hoc hn hmn) (aB (nP xk (dv 0) gC hoc hn hmn) (aB (nP xk (dv 0) gC hoc hn hmn) aK))))))))
  (bC (fW 1 (gW (dv 1) (DF.de (fj (aB (nP xk (dv 0) gC hoc hn hmn) (aB (nP xk (dv 0) gC hoc hn hmn) (aB (nP xk (dv 0) gC hoc hn hmn) (aB (nP xk (dv 0) gC hoc hn hmn) aK))))))))
  (bC (fW 1 (gW (dv 1) (DF.de (fj (aB (nP xk (dv 0) gC hoc hn hmn) (aB (nP xk (dv 0) gC hoc hn hmn) (aB (zuI (zvS xk (dv 0) gC hoc hn hmn xv)) aK)))))))
  (bC (fW 2 aO)
  (bC (fW 2 (zsa (gW (dv 2) aO) aO))
  (bD (bY (DF.de (znM (Nc:=["_law_at","_law_w","_law_h"]) (.nm 0) h (jQ (aB (dv 2) aK)) (gn 0) (sI (wF (cj (dv 2) (dv 0)))) (cj (dv 1) (dv 0)) T.range)))))))))))
noncomputable def zhg(F:bZ K "_law_made_of" "_law_made_of" HD f fd):aN P w K mg base (dw P w) 8 f fd ["_law_deeds"] (lB K mg 1 (zci A)):=
 JV (N:=["_law_deeds","_law_kinds_here","_law_e"]) F λY hY _ _=>
 (rN.nox (lQ (rR λqh M G1=>(fW 1 (DF.de (fj aK))))
  (lQ (zsN 2 1 oX oY xk zqW (qw (jH λqh M G1=>(dv 0)) wO))
  (wJ (rR λqh M G1=>(bY (dv 1)))))))
def ziD(F:bZ K "_law_truth" "_law_truth" Jk f fd):aN P w K mg base cL 1 f fd ["_law_place_here"] (cZ K 1 Be):=
 jM (N:=["_law_place_here"]) F λ_ _=>
 (bD (bY (Eu (zs3 (zsd (zsd (dv 0) (dv 0)) aU) aU) (dv 0))))
noncomputable def zgm(F:bZ K "_law_run_deed" "_law_run_deed" Ir f fd):aN P w K mg base cL 3 f fd ["_law_box_here","_law_model_here"] (cZ K 2 zbS):=
 jM (N:=["_law_box_here","_law_model_here","_law_marks_here","_law_hands","_law_at","_law_one","_law_other","_law_rise"]) F λ_ _=>
 (bC (fW 2 (cC oj (aB (dv 1) aK)))
  (bC (fW 3 (DF.de (znv (cH (dv 1) aO))))
  (bC (bJ (DW.dt (w_or (pA (jQ (aB (dv 2) aK)) aU) (w_or (dz (dv 3) (DF.de (fj aK))) (zX (xK (jQ (aB (cH (dv 1) aO) aK)) aU))))) (bD (bY CZ)) eX)
  (bC (fW 4 (cC og (aB (dv 0) (aB (jQ (aB (dv 2) aK)) aK))))
  (bC (zv9 5 6 (cj (dv 2) (dv 4)) (cj (dv 2) (zs3 (gW (gW (dv 4) aU) (cC og (aB (dv 0) (aB (Eu (jQ (aB (dv 2) aK)) aU) aK)))) (jQ (aB (dv 2) aK)))))
  (bC (fW 7 (Eu (cC oq (aB (cC oo (aB (dv 1) (aB (dv 6) aK))) aK)) (cC oq (aB (cC oo (aB (dv 1) (aB (dv 5) aK))) aK))))
  (bC (bJ (dz (cC og (aB (dv 0) (aB aU aK))) aU) (bD (fW 7 (cj (DF.de (fj (aB (gW (dv 7) aU) (aB (Eu (dv 7) aU) (aB (cC og (aB (dv 0) (aB aU aK))) (aB (vM aU) aK)))))) (cC og (aB (dv 0) (aB aU aK)))))) eX)
  (bD (bY (fK (aB aO (aB (dv 5) (aB (dv 6) (aB (dv 7) (aB (cj (dv 3) (cC og (aB (dv 0) (aB (jQ (aB (dv 3) aK)) aK)))) aK)))))))))))))))
noncomputable def zgr(F:bZ K "_law_old_deed" "_law_old_deed" Gy f fd):aN P w K mg base cL 2 f fd ["_law_box_here","_law_model_here"] (cZ K 2 zb4):=
 jM (N:=["_law_box_here","_law_model_here","_law_way","_law_row","_law_rise","_law_marks_here","_law_hand"]) F λ_ _=>
 (bC (fW 2 (cC og (aB (dv 0) (aB aU aK))))
  (bC (bJ (DW.dt (xM (pA (dv 2) aU) (J4 (mQ (cH (dv 1) aO) (DF.de (fj aK)))))) (bC (fW 3 (cj (cH (dv 1) aO) (cC og (aB (dv 0) (aB (jQ (aB (cH (dv 1) aO) aK)) aK)))))
  (bC (fW 4 (gW (Eu (cC oq (aB (cj (dv 3) aU) aK)) (cC oq (aB (cj (dv 3) aU) aK))) (cC og (aB (dv 0) (aB aU aK)))))
  (bD (bY (cj (DF.de (fj (aB (fK (aB aO (aB (cj (dv 3) aU) aK))) (aB (fK (aB aO (aB (cj (dv 3) aU) (aB (dv 4) aK)))) aK)))) (dv 2)))))) eX)
  (bC (bJ (DW.dt (xM (dz (dv 2) aU) (xM (mQ (cH (dv 1) aO) (DF.de (fj aK))) (J4 (pA (jQ (aB (cH (dv 1) aO) aK)) aU))))) (bC (fW 5 (cC oj (aB (dv 1) aK)))
  (bD (bY (fK (aB aO (aB (cj (dv 5) (cC og (aB (dv 0) (aB (jQ (aB (dv 5) aK)) aK)))) aK)))))) eX)
  (bC (bJ (DW.dt (xM (dz (dv 2) aU) (J4 (qO (zl4 (cH (dv 1) aO)) aU)))) (bC (fW 6 (cj (DF.de (znv (cH (dv 1) aO))) (cC og (aB (dv 0) (aB (zl4 (cH (dv 1) aO)) aK)))))
  (bD (bY (fK (aB (cj (DF.de (fj (aB aO (aB aO aK)))) (uN (aB (cH (cH (dv 1) aO) (dv 6)) aK))) (aB (dv 6) aK)))))) eX)
  (bD (bY CZ))))))
noncomputable def zkD(F:bZ K "_law_good" "_law_good" J1 f fd):aN P w K mg base cL 4 f fd ["_law_box_here","_law_model_here","_law_pool"] (cZ K 3 Ii):=
 jM (N:=["_law_box_here","_law_model_here","_law_pool","_law_way","_law_deed","_law_fresh"]) F λ_ _=>
 (bC (fW 3 (cC og (aB (dv 0) (aB aU aK))))
  (bC (fW 4 CZ)
  (bC (bJ (pA (dv 3) aU) (bD (fW 4 (cC oH (aB (dv 0) (aB (dv 1) aK))))) (bD (bJ (pA (dv 3) aU) (bD (fW 4 (cC oI (aB (dv 0) (aB (dv 1) aK))))) (bD (bJ (dz (dv 3) aU) (bD (fW 4 (fK (aB aO (aB (cC og (aB (dv 0) (aB aU aK))) aK))))) eX)))))
  (bC (Et 5 (Nc:=["_law_name","_law_model_here"]) (.nm 0) (j8 (dv 2)) (gn 0) (sI (zid (dv 0) (cH (dv 1) aO))) (dv 0))
  (bC (bJ (DW.dt (xM (KH (dv 4)) (xM (qO (jQ (aB (dv 5) aK)) aU) (xM (pA (zl4 (cH (dv 1) aO)) aU) (J4 (dz (cC og (aB (dv 0) (aB aU aK))) aU)))))) (bD (bY (fK (aB aO (aB (cj (dv 5) (cC og (aB (dv 0) (aB (jQ (aB (dv 5) aK)) aK)))) aK))))) eX)
  (bC (Et 5 (Nc:=["_law_name","_law_model_here"]) (.nm 0) (j8 (dv 2)) (gn 0) (sI (dz (cC oi (aB (dv 1) (aB (dv 0) aK))) aU)) (dv 0))
  (bC (bJ (DW.dt (xM (KH (dv 4)) (xM (qO (jQ (aB (dv 5) aK)) aU) (J4 (pA (jQ (aB (cH (dv 1) aO) aK)) aU))))) (bD (bY (fK (aB aO (aB (cj (dv 5) (cC og (aB (dv 0) (aB (jQ (aB (dv 5) aK)) aK)))) aK))))) eX)
  (bD (bY (zwB (dv 4) (Ac (fK (aB aO (aB (cC og (aB (dv 0) (aB aU aK))) aK))))))))))))))
noncomputable def zgh(F:bZ K "_law_run_word" "_law_run_word" Kh f fd):aN P w K mg base cL 2 f fd ["_law_model_here","_law_deed"] (cZ K 2 zb0):=
 jM (N:=["_law_model_here","_law_deed","_law_word_here","_law_one","_law_other","_law_rise","_law_hand"]) F λ_ _=>
 (bC (tu (.tp 5 (.cons (.nm 2) (.cons (.nm 3) (.cons (.nm 4) (.cons (.nm 5) (.cons (.nm 6) .nil)))))) (dv 1) (pI (n:=5) rfl (gf (gn 2) (gf (gn 3) (gf (gn 4) (gf (gn 5) (gf (gn 6) pP)))))))
  (bC (bJ (DW.dt (w_or (dz (cC oi (aB (dv 0) (aB (dv 3) aK))) aU) (zX (dz (cC oi (aB (dv 0) (aB (dv 4) aK))) aU)))) (bD (bY aO)) eX)
  (bC (bJ (dz (dv 3) (dv 4)) (bD (bY aO)) eX)
  (bC (bJ (zid (dv 6) (cH (dv 0) aO)) (bD (bY aO)) eX)
  (bC (bJ (z9 (zvH (vM aU) (dv 5) aU)) (bD (bY aO)) eX)
  (bD (bY (cj (DF.de (fj (aB aO (aB aO aK)))) (uN (aB (jZ (jQ (aB (cH (dv 0) aO) aK)) aU) aK))))))))))
noncomputable def zi0(F:bZ K "_law_named" "_law_named" KN f fd):aN P w K mg base cL 1 f fd ["_law_word_here"] (cZ K 1 Hv):=
 jM (N:=["_law_word_here"]) F λ_ _=>
 (bD (bY (De (zmq aU (jQ (aB (dv 0) aK)) aU) (Ac (zs9 (aB (DF.de (nM (Nc:=["_law_sign"]) (.nm 0) (j8 (dv 0)) (gn 0) ut (zu4 (dv 0) aO))) aK))))))
noncomputable def zgn(F:bZ K "_law_new_word" "_law_new_word" Hl f fd):aN P w K mg base cL 2 f fd ["_law_model_here","_law_deed"] (cZ K 2 Hz):=
 jM (N:=["_law_model_here","_law_deed"]) F λ_ _=>
 (bC (bJ (z9 (wF (cC oZ (aB (cj (dv 1) aU) aK)))) (bD (bY aO)) eX)
  (bC (bJ (dz (cj (dv 1) aU) aO) (bC (bJ (zwH (cj (dv 1) aU) (cH (dv 0) aO)) (bD (bY aO)) eX)
  (bD (bY (cj (DF.de (fj (aB aO (aB aO aK)))) (uN (aB (jZ (zl4 (cH (dv 0) aO)) aU) aK)))))) eX)
  (bC (bJ (qO (cC oi (aB (dv 0) (aB (cj (dv 1) aU) aK))) aU) (bD (bY aO)) eX)
  (bD (bY (cj (DF.de (fj (aB aO (aB aO aK)))) (uN (aB (jZ (jQ (aB (cH (dv 0) aO) aK)) aU) aK))))))))
noncomputable def zjP(F:bZ K "_law_word" "_law_word" GF f fd):aN P w K mg base cL 3 f fd ["_law_model_here","_law_deed"] (cZ K 2 zE):=
 jM (N:=["_law_model_here","_law_deed"]) F λ_ _=>
 (bC (bJ (dz (cj (dv 1) aU) aO) (bD (bY (cC oJ (aB (dv 0) (aB (dv 1) aK))))) eX)
  (bC (bJ (Dj (cj (dv 1) aU) (fK (aB aO (aB aO aK)))) (bD (bY (cC oK (aB (dv 0) (aB (dv 1) aK))))) eX)
  (bC (bJ (dz (cj (dv 1) aU) aO) (bC (bJ (dz (cC oi (aB (dv 0) (aB (cj (dv 1) aU) aK))) aU) (bD (bY aO)) eX)
  (bD (bY (cj (DF.de (fj (aB aO (aB aO aK)))) (uN (aB (jZ (jQ (aB (cH (dv 0) aO) aK)) aU) aK)))))) eX)
  (bC (bJ (Dj (cj (dv 1) aU) (fK (aB aO (aB aO aK)))) (bC (bJ (z9 (wF (zv8 (aB (DF.de (nM (Nc:=["_law_row","_law_deed"]) (.nm 0) (j8 (cH (dv 0) aO)) (gn 0) ut (jZ (cj (dv 0) aU) (cj (dv 1) aU)))) aK)))) (bD (bY aO)) eX)
  (bD (bY (cj (DF.de (fj (aB aO (aB aO aK)))) (uN (aB (De (jZ (cj (dv 1) aU) aO) (Ac (zuI (zmq (vM aU) (cj (dv 1) aU) aU)))) aK)))))) eX)
  (bC (bJ (dz (cj (dv 1) aU) aO) (bD (bY (cj (DF.de (fj (aB aO (aB aO aK)))) (uN (aB (zmq aU (cj (dv 1) aU) aU) aK))))) eX)
  (bC (bJ (zid (cj (dv 1) aU) (cH (dv 0) aO)) (bD (bY aO)) eX)
  (bC (bJ (dz (cj (dv 1) aU) aO) (bD (bY (cj (DF.de (fj (aB aO (aB aO aK)))) (uN (aB (cH (cH (dv 0) aO) (cj (dv 1) aU)) aK))))) eX)
  (bD (bY (cj (DF.de (fj (aB aO (aB aO aK)))) (uN (aB (cH (cH (dv 0) aO) (cj (dv 1) aU)) aK))))))))))))
noncomputable def zuf(F:bZ K "law" "law" uc f fd)(cB:eQ P w K mg base "_law_box" 1 ["_law_script"] (Fen.zr3 K))(hw:yt 7 (Kv A)):aN P w K mg base cL 9 f fd ["_law_script"] (Jo K):=by
 refine zsi (N:=["_law_pool","_law_fen","_law_stands","_law_k","_law_deeds","_law_at","_law_bad"]) (k:=8) F rfl cB (λ_ _=>?_) hw;unfold Kv;exact(lQ (rR λqh M G1=>(fW 2 (cC oQ (aB (dv 1) (aB aU aK)))))
  (lQ (zpA 3 (zrA mkI okI fc.m_Fen bI Ks))
  (lQ (rR λqh M G1=>(yN 4 (fj (aB (zps oU) aK))))
  (lQ (zq5 (.nm 5) (λqh M G1=>(zlT (gW aU (cC og (aB (dv 1) (aB aU aK)))))) (gn 5) (lQ (zsL 4 (zkF o8 (qw (jH λqh M G1=>(dv 3)) (qw (jH λqh M G1=>(zU 4 (vM aU))) (qw (jH λqh M G1=>(cC o9 (aB (dv 1) (aB (zU 4 (vM aU)) (aB (dv 2) aK))))) wO))) Ks))
  (wJ (rR λqh M G1=>(bJ (KH (zU 4 (vM aU))) (bD (bY zqY)) eX)))))
  (lQ (rR λqh M G1=>(fW 6 (cH (zU 4 (vM aU)) aO)))
  (lQ (rR λqh M G1=>(fW 7 (cC og (aB (dv 1) (aB (zrS 4) aK)))))
  (lQ (rR λqh M G1=>(fW 8 (cC oA (aB (dv 1) (aB (zU 4 (dv 7)) (aB (dv 2) aK))))))
  (lQ (zrc (zrB o3 (qw (zkF oN (qw (jH λqh M G1=>(gW (gW (Dq (dv 6) Dd (EY (dv 7))) (DF.de (fj (aB (dv 8) aK)))) (Dq (dv 6) (EY (dv 7)) Dd))) wO) Ks) (qw (jH λqh M G1=>(DF.de (fj (aB (cC qc (aB (zU 4 (dv 7)) (aB (dv 8) aK))) aK)))) wO))) (wJ (rR λqh M G1=>(bY zqY))) zrL)
  (wJ (ztW (zsY oS (qw (zkF oX (qw (jH λqh M G1=>(DF.de (Ie (dv 6)))) wO) Ks) (qw (jH λqh M G1=>(zU 4 (vM aU))) wO)))))))))))))
end
end Fd
namespace Hd
open PySem L2 Fen PySem.W PySem.Calls PyProof.Rows
noncomputable section
noncomputable abbrev dE(P:Params)(k:Str)(n:Nat)(v:Value):DictEntry:=⟨PyData.keyHash P k,.str k n,v⟩
noncomputable def dN:Stmt->Str
 |.FunctionDef x ..=>x
 |_ => ""
noncomputable abbrev cO(s:Stmt)(a:Nat)(l:Int)(lt:Nat)(n:Int)(v:Addr)(g h:Value)(q:Addr)(d:Nat):Obj:=⟨.type "code",none,.fields #[.str (dN s) a,.str (dN s) (a+1),.str "/claim/cut.py" (a+2),.int l lt,.int n 0,.int 0 0,.int 0 0,.int 3 0,.ref v,.bool true,.int 181 0,.ref (v+1),.none,g,h,.ref q,.int (d-1) 0,.int l lt,.str "/claim/cut.py" d],#[]⟩
noncomputable abbrev cQ(s:Stmt)(u:Str)(a:Nat)(l:Int)(lt:Nat)(n:Int)(v:Addr)(g h:Value)(q:Addr)(d:Nat):Obj:=⟨.type "code",none,.fields #[.str (dN s) a,.str u (a+1),.str "/claim/cut.py" (a+2),.int l lt,.int n 0,.int 0 0,.int 0 0,.int 3 0,.ref v,.bool true,.int 181 0,.ref (v+1),.none,g,h,.ref q,.int (d-1) 0,.int l lt,.str "/claim/cut.py" d],#[]⟩
noncomputable abbrev cP(s:Stmt)(a:Nat)(l:Int)(lt:Nat)(n:Int)(v:Addr)(d:Nat):Obj:=cO s a l lt n v .none .none (v+2) d
noncomputable abbrev fD(x:Str)(s:Stmt)(m:Str)(t:Nat)(c:Addr):FuncData:=PySem.W.fnOf x x (vB s) (nJ s) (gF s) .none .none .none (.str m t) none (.ref c) .none
noncomputable abbrev fO(s:Stmt)(m:Str)(t:Nat)(c:Addr):Obj:=⟨.type "function",none,.func (fD (dN s) s m t c),#[]⟩
noncomputable abbrev fI(s:Stmt):Obj:=⟨.none,none,.func ⟨dN s,dN s,vB s,.stmts (nJ s),gF s,0,[],.none,.none,.none,.none,none,.none,.none,0⟩,#[]⟩
noncomputable abbrev fQ(s:Stmt)(u m:Str)(t:Nat)(c:Addr):Obj:=⟨.type "function",none,.func (PySem.W.fnOf (dN s) u (vB s) (nJ s) (gF s) .none .none .none (.str m t) none (.ref c) .none),#[]⟩
noncomputable abbrev fJ(s:Stmt)(u:Str):Obj:=⟨.none,none,.func ⟨dN s,u,vB s,.stmts (nJ s),gF s,0,[],.none,.none,.none,.none,none,.none,.none,0⟩,#[]⟩
noncomputable abbrev cT:Obj:=⟨.type "tuple",none,.seq #[] 0,#[]⟩
noncomputable abbrev cF:Obj:=⟨.none,none,.fields #[],#[]⟩
noncomputable def tS:Nat->List Str->List Value
 |_,[]=>[]
 |n,x::l=>.str x n::tS (n+1) l
noncomputable abbrev cN(n:Nat)(l:List Str):Obj:=⟨.type "tuple",none,.seq (tS n l).toArray 0,#[]⟩
noncomputable def cV:List (Int×Nat×Nat)->List Value
 |[]=>[]
 | (l,t,c)::r=>.int l t::.int 0 0::.ref c::cV r
noncomputable def bT(f:Nat->Obj)(n:Nat):Nat->Nat->Nat->BT
 |0,_,_=>.nil
 |k+1,a,b=>match Nat.blt b n with
  |true=>.node (f b) (bT f n k (Nat.mul 2 a) (Nat.add a b)) (bT f n k (Nat.mul 2 a) (Nat.add (Nat.mul 2 a) b))
  |false=>.nil
noncomputable abbrev kP:Obj:=⟨.type "builtin_function_or_method",none,.fields #[.builtin "type.__prepare__",.type "type"],#[]⟩
noncomputable abbrev kD(P:Params)(m:Str)(n:Nat)(x:Str)(l:Int)(t:Nat)(r:Addr):Obj:=⟨.type "dict",none,.dict #[dE P "__module__" t (.str m n),dE P "__qualname__" (t+2) (.str x (t+1)),dE P "__firstlineno__" (t+4) (.int l (t+3)),dE P "__static_attributes__" (t+5) (.ref r)] 4,#[]⟩
noncomputable abbrev kE(P:Params)(m:Str)(n:Nat)(l:Int)(t:Nat)(r:Addr):Obj:=⟨.type "dict",none,.dict #[dE P "__module__" t (.str m n),dE P "__firstlineno__" (t+4) (.int l (t+3)),dE P "__static_attributes__" (t+5) (.ref r),dE P "__doc__" (t+6) (.none)] 2,#[]⟩
noncomputable abbrev kC(x:Str)(l:Int)(t:Nat)(v:Addr):Obj:=⟨.type "code",none,.fields #[.str x t,.str x (t+1),.str "/claim/cut.py" (t+2),.int l 0,.int 0 0,.int 0 0,.int 0 0,.int 0 0,.ref v,.bool false,.int 181 0,.ref (v+1),.none,.none,.none,.none,.int (t+3:Nat) 0,.int l 0,.str "/claim/cut.py" (t+4)],#[]⟩
noncomputable abbrev kF(a b:Addr)(m:Str)(n:Nat):Obj:=⟨.type "frame",none,.plain,#[some (.ref a),some (.ref 3),some (.ref b),none,some (.str m n),none,some (.ref 0)]⟩
noncomputable abbrev kT(x:Str)(b s d q:Addr)(u v:Nat):Obj:=⟨.type "type",none,.cls ⟨x,[.ref b],[.ref s,.ref b,.type "ValueError",.type "Exception",.type "BaseException",.type "object"],d,x,true,[],[],false,none,false⟩,#[some (.ref q),none,some (.str x u),some (.str x v),some (.builtin "ValueError.__new__"),some (.bool true)]⟩
noncomputable abbrev kS(s:Addr):Obj:=⟨.type "super",none,.fields #[.ref s,.ref s,.ref s],#[]⟩
noncomputable abbrev kI(s:Addr):Obj:=⟨.type "builtin_function_or_method",none,.fields #[.builtin "object.__init_subclass__",.ref s],#[]⟩
noncomputable abbrev kQ(s:Addr):Obj:=⟨.type "tuple",none,.seq #[.ref s] 0,#[]⟩
noncomputable abbrev u0:Str:="__main__"
noncomputable abbrev u1:Str:="fenlevel.errors"
noncomputable abbrev u2:Str:="fenlevel.names"
noncomputable abbrev u3:Str:="fenlevel.stand"
noncomputable abbrev u4:Str:="fenlevel.deeds"
noncomputable abbrev u5:Str:="fenlevel.fen"
noncomputable abbrev u6:Str:="law_fenlevel_k44_fens_of_refused_deeds"
noncomputable def c0(P:Params)(d c:Obj):List Obj:=[PySem.W.boot_o_0 P,PySem.W.boot_o_1 P,PySem.W.boot_o_2 P,d,PySem.W.boot_o_4 P,PySem.W.boot_o_5 P,PySem.W.boot_o_6 P,PySem.W.boot_o_7 P,PySem.W.boot_o_8 P,PySem.W.boot_o_9 P,PySem.W.boot_o_10 P,cT,c,kC "<module>" 1 182 11,kF 13 3 u0 164,cT,cF,cN 190 ["k"],cT,fI zs5,cO zs5 187 1 0 1 15 (.ref 17) (.ref 18) 19 192,fO zs5 u0 164 20,⟨.type "tuple",none,.seq #[.type "ValueError"] 0,#[]⟩,kP]
noncomputable def c1(P:Params):List Obj:=[kD P u1 194 "FenError" 5 203 29,cT,cF,kC "FenError" 5 198 25,kF 27 24 u1 194,cT,⟨.type "dict",none,.dict #[dE P "__module__" 203 (.str "fenlevel.errors" 194),dE P "__firstlineno__" 207 (.int 5 206),dE P "__static_attributes__" 208 (.ref 29),dE P "__weakref__" 210 (.ref 32),dE P "__doc__" 211 (.none)] 3,#[]⟩,⟨.type "type",none,.cls ⟨"FenError",[.type "ValueError"],[.ref 31,.type "ValueError",.type "Exception",.type "BaseException",.type "object"],30,"FenError",true,[],[.ref 44,.ref 56,.ref 68,.ref 80,.ref 92,.ref 104,.ref 116,.ref 128,.ref 140,.ref 152,.ref 164,.ref 176,.ref 188,.ref 200,.ref 212,.ref 224,.ref 236,.ref 255],false,none,false⟩,#[some (.ref 22),none,some (.str "FenError" 196),some (.str "FenError" 204),some (.builtin "ValueError.__new__"),some (.bool true)]⟩,⟨.type "getset_descriptor",none,.fields #[.str "__weakref__" 209,.ref 31,.builtin "ExceptionGroup.__weakref__",.none],#[]⟩,kS 31,kI 31,kQ 31,kP,kD P u1 194 "BadName" 7 221 42,cT,cF,kC "BadName" 7 216 38,kF 40 37 u1 194,cT,kE P u1 194 7 221 42,kT "BadName" 31 44 43 35 214 222,kS 44,kI 44,kQ 31]
noncomputable def c2(P:Params):List Obj:=[kP,kD P u1 194 "Taken" 9 237 54,cT,cF,kC "Taken" 9 232 50,kF 52 49 u1 194,cT,kE P u1 194 9 237 54,kT "Taken" 31 56 55 47 230 238,kS 56,kI 56,kQ 31,kP,kD P u1 194 "Full" 11 253 66,cT,cF,kC "Full" 11 248 62,kF 64 61 u1 194,cT,kE P u1 194 11 253 66,kT "Full" 31 68 67 59 246 254,kS 68,kI 68,kQ 31]
noncomputable def c3(P:Params):List Obj:=[kP,kD P u1 194 "NoMark" 13 269 78,cT,cF,kC "NoMark" 13 264 74,kF 76 73 u1 194,cT,kE P u1 194 13 269 78,kT "NoMark" 31 80 79 71 262 270,kS 80,kI 80,kQ 31,kP,kD P u1 194 "NoHand" 15 285 90,cT,cF,kC "NoHand" 15 280 86,kF 88 85 u1 194,cT,kE P u1 194 15 285 90,kT "NoHand" 31 92 91 83 278 286,kS 92,kI 92,kQ 31]
noncomputable def c4(P:Params):List Obj:=[kP,kD P u1 194 "Same" 17 301 102,cT,cF,kC "Same" 17 296 98,kF 100 97 u1 194,cT,kE P u1 194 17 301 102,kT "Same" 31 104 103 95 294 302,kS 104,kI 104,kQ 31,kP,kD P u1 194 "BadRise" 19 317 114,cT,cF,kC "BadRise" 19 312 110,kF 112 109 u1 194,cT,kE P u1 194 19 317 114,kT "BadRise" 31 116 115 107 310 318,kS 116,kI 116,kQ 31]
noncomputable def c5(P:Params):List Obj:=[kP,kD P u1 194 "NoRun" 21 333 126,cT,cF,kC "NoRun" 21 328 122,kF 124 121 u1 194,cT,kE P u1 194 21 333 126,kT "NoRun" 31 128 127 119 326 334,kS 128,kI 128,kQ 31,kP,kD P u1 194 "Aside" 23 349 138,cT,cF,kC "Aside" 23 344 134,kF 136 133 u1 194,cT,kE P u1 194 23 349 138,kT "Aside" 31 140 139 131 342 350,kS 140,kI 140,kQ 31]
noncomputable def c6(P:Params):List Obj:=[kP,kD P u1 194 "NotAside" 25 365 150,cT,cF,kC "NotAside" 25 360 146,kF 148 145 u1 194,cT,kE P u1 194 25 365 150,kT "NotAside" 31 152 151 143 358 366,kS 152,kI 152,kQ 31,kP,kD P u1 194 "BadNumber" 27 381 162,cT,cF,kC "BadNumber" 27 376 158,kF 160 157 u1 194,cT,kE P u1 194 27 381 162,kT "BadNumber" 31 164 163 155 374 382,kS 164,kI 164,kQ 31]
noncomputable def c7(P:Params):List Obj:=[kP,kD P u1 194 "NothingLeft" 29 397 174,cT,cF,kC "NothingLeft" 29 392 170,kF 172 169 u1 194,cT,kE P u1 194 29 397 174,kT "NothingLeft" 31 176 175 167 390 398,kS 176,kI 176,kQ 31,kP,kD P u1 194 "Steady" 31 413 186,cT,cF,kC "Steady" 31 408 182,kF 184 181 u1 194,cT,kE P u1 194 31 413 186,kT "Steady" 31 188 187 179 406 414,kS 188,kI 188,kQ 31]
noncomputable def c8(P:Params):List Obj:=[kP,kD P u1 194 "NoDeed" 33 429 198,cT,cF,kC "NoDeed" 33 424 194,kF 196 193 u1 194,cT,kE P u1 194 33 429 198,kT "NoDeed" 31 200 199 191 422 430,kS 200,kI 200,kQ 31,kP,kD P u1 194 "Known" 35 445 210,cT,cF,kC "Known" 35 440 206,kF 208 205 u1 194,cT,kE P u1 194 35 445 210,kT "Known" 31 212 211 203 438 446,kS 212,kI 212,kQ 31]
noncomputable def c9(P:Params):List Obj:=[kP,kD P u1 194 "NoFen" 37 461 222,cT,cF,kC "NoFen" 37 456 218,kF 220 217 u1 194,cT,kE P u1 194 37 461 222,kT "NoFen" 31 224 223 215 454 462,kS 224,kI 224,kQ 31,kP,kD P u1 194 "Settled" 39 477 234,cT,cF,kC "Settled" 39 472 230,kF 232 229 u1 194,cT,kE P u1 194 39 477 234,kT "Settled" 31 236 235 227 470 478,kS 236,kI 236,kQ 31]
noncomputable def c10(P:Params):List Obj:=[kP,⟨.type "dict",none,.dict #[dE P "__module__" 493 (.str "fenlevel.errors" 194),dE P "__qualname__" 495 (.str "NoPage" 494),dE P "__firstlineno__" 497 (.int 41 496),dE P "__init__" 505 (.ref 252),dE P "__static_attributes__" 507 (.ref 253)] 5,#[]⟩,cT,⟨.none,none,.fields #[.int 43 0,.int 4 0,.ref 251],#[]⟩,kC "NoPage" 41 488 242,kF 244 241 u1 194,cT,cF,cN 501 ["self","row"],cT,fJ zcD "NoPage.__init__",cQ zcD "NoPage.__init__" 498 43 0 2 246 (.ref 248) (.ref 249) 250 504,fQ zcD "NoPage.__init__" u1 194 251,cN 506 ["row"],⟨.type "dict",none,.dict #[dE P "__module__" 493 (.str "fenlevel.errors" 194),dE P "__firstlineno__" 497 (.int 41 496),dE P "__init__" 505 (.ref 252),dE P "__static_attributes__" 507 (.ref 253),dE P "__doc__" 508 (.none)] 2,#[]⟩,kT "NoPage" 31 255 254 239 486 494,kS 255,kI 255,cT,cF,fI Hu,cP Hu 517 48 0 3 258 521,fO Hu u2 511 261,cT]
noncomputable def c11(P:Params):List Obj:=[cF,cN 526 ["text"],cT,fI Gz,cO Gz 523 50 0 1 263 (.ref 265) (.ref 266) 267 528,fO Gz u2 511 268,cT,cF,fI HR,cP HR 532 53 0 1 270 536,fO HR u3 530 273,cT,cF,fI JX,cP JX 538 55 0 2 275 542,fO JX u3 530 278,cT,cF,cN 547 ["stands","name"],cT,fI HQ,cO HQ 544 57 0 2 280 (.ref 282) (.ref 283) 284 550,fO HQ u3 530 285,cT]
noncomputable def c12(P:Params):List Obj:=[cF,cN 555 ["stands","name","turns"],cT,fI JS,cO JS 552 59 0 2 287 (.ref 289) (.ref 290) 291 559,fO JS u3 530 292,cT,cF,cT,cT,fI Fz,cO Fz 573 70 0 0 294 (.ref 296) (.ref 297) 298 577,fO Fz u4 561 299,cT,cF,cN 582 ["book","word","value","fresh"],cT,fI J7,cO J7 579 72 0 3 301 (.ref 303) (.ref 304) 305 587,fO J7 u4 561 306,cT,cF,cN 592 ["book","name","stands"],cT]
noncomputable def c13(P:Params):List Obj:=[fI FP,cO FP 589 76 0 2 308 (.ref 310) (.ref 311) 312 596,fO FP u4 561 313,cT,cF,cN 601 ["book","name"],cT,fI Iu,cO Iu 598 81 0 2 315 (.ref 317) (.ref 318) 319 604,fO Iu u4 561 320,cT,cF,cN 609 ["rise"],cT,fI Hm,cO Hm 606 84 0 1 322 (.ref 324) (.ref 325) 326 611,fO Hm u4 561 327,cT,cF,fI Kg,cP Kg 613 87 0 2 329 617,fO Kg u4 561 332,cT,cF]
noncomputable def c14(P:Params):List Obj:=[cN 622 ["book","row","word","name"],cT,fI Jb,cO Jb 619 90 0 2 334 (.ref 336) (.ref 337) 338 627,fO Jb u4 561 339,cT,cF,cN 632 ["book","row","word","name","hands"],cT,fI Gn,cO Gn 629 97 0 2 341 (.ref 343) (.ref 344) 345 638,fO Gn u4 561 346,cT,cF,cN 643 ["book","row","word","one","other","rise","hand","start","start_turn","end","end_turn","number","run"],cT,fI Ia,cO Ia 640 107 0 2 348 (.ref 350) (.ref 351) 352 657,fO Ia u4 561 353,cT,cF,fI GJ,cP GJ 659 120 0 2 355 663,fO GJ u4 561 358]
noncomputable def c15(P:Params):List Obj:=[cT,cF,fI G9,cP G9 665 124 0 2 360 669,fO G9 u4 561 363,cT,cF,cN 674 ["book","row","word","name","settling","turn"],cT,fI K6,cO K6 671 130 0 2 365 (.ref 367) (.ref 368) 369 681,fO K6 u4 561 370,cT,cF,cN 686 ["book","row","word","hand"],cT,fI Ju,cO Ju 683 134 0 2 372 (.ref 374) (.ref 375) 376 691,fO Ju u4 561 377,cT,cF,fI Kz,cP Kz 693 140 0 2 379 697,fO Kz u4 561 382]
noncomputable def c16(P:Params):List Obj:=[cT,cF,cN 702 ["book","row","word","many"],cT,fI GP,cO GP 699 146 0 2 384 (.ref 386) (.ref 387) 388 707,fO GP u4 561 389,⟨.type "dict",none,.dict #[dE P "mark" 709 (.ref 340),dE P "hand" 710 (.ref 347),dE P "run" 711 (.ref 354),dE P "strike" 712 (.ref 359),dE P "mend" 713 (.ref 364),dE P "settle" 714 (.ref 371),dE P "aside" 715 (.ref 378),dE P "heed" 716 (.ref 383),dE P "allow" 717 (.ref 390)] 9,#[]⟩,cT,cF,cN 731 ["book","row","action"],cT,fI Gh,cO Gh 728 152 0 2 392 (.ref 394) (.ref 395) 396 735,fO Gh u4 561 397,cT,cF,fI Ip,cP Ip 739 156 0 1 399 743,fO Ip u5 737 402,cT,kP,⟨.type "dict",none,.dict #[dE P "__module__" 752 (.str "fenlevel.fen" 737),dE P "__qualname__" 754 (.str "Fen" 753),dE P "__firstlineno__" 756 (.int 158 755),dE P "__init__" 763 (.ref 417),dE P "now" 770 (.ref 424),dE P "mark" 778 (.ref 431),dE P "hand" 786 (.ref 438),dE P "run" 797 (.ref 445),dE P "strike" 805 (.ref 452),dE P "mend" 814 (.ref 459),dE P "settle" 822 (.ref 466),dE P "aside" 830 (.ref 473),dE P "heed" 838 (.ref 480),dE P "allow" 846 (.ref 487),dE P "deed" 855 (.ref 494),dE P "back" 862 (.ref 501),dE P "again" 871 (.ref 508),dE P "deeds" 878 (.ref 515),dE P "twin" 885 (.ref 522),dE P "marks" 892 (.ref 529),dE P "hands" 899 (.ref 536),dE P "asides" 905 (.ref 541),dE P "stands" 912 (.ref 548),dE P "allowed" 919 (.ref 555),dE P "runs" 926 (.ref 562),dE P "counting" 932 (.ref 567),dE P "height" 941 (.ref 574),dE P "paper" 950 (.ref 581),dE P "readings" 959 (.ref 588),dE P "sank" 967 (.ref 595),dE P "false_sets" 974 (.ref 602),dE P "least" 981 (.ref 609),dE P "groups" 988 (.ref 616),dE P "parting" 997 (.ref 623),dE P "foe" 1006 (.ref 630),dE P "__static_attributes__" 1010 (.ref 631)] 36,#[]⟩,cT]
noncomputable def c17(P:Params):List Obj:=[⟨.none,none,.fields #[.int 160 0,.int 4 0,.ref 416,.int 165 0,.int 4 0,.ref 423,.int 168 0,.int 4 0,.ref 430,.int 171 0,.int 4 0,.ref 437,.int 174 0,.int 4 0,.ref 444,.int 177 0,.int 4 0,.ref 451,.int 180 0,.int 4 0,.ref 458,.int 183 0,.int 4 0,.ref 465,.int 186 0,.int 4 0,.ref 472,.int 189 0,.int 4 0,.ref 479,.int 192 0,.int 4 0,.ref 486,.int 195 0,.int 4 0,.ref 493,.int 204 0,.int 4 0,.ref 500,.int 209 0,.int 4 0,.ref 507,.int 216 0,.int 4 0,.ref 514,.int 219 0,.int 4 0,.ref 521,.int 222 0,.int 4 0,.ref 528,.int 225 0,.int 4 0,.ref 535,.int 228 0,.int 4 0,.ref 540,.int 232 0,.int 4 0,.ref 547,.int 235 0,.int 4 0,.ref 554,.int 238 0,.int 4 0,.ref 561,.int 241 0,.int 4 0,.ref 566,.int 244 0,.int 4 0,.ref 573,.int 247 0,.int 4 0,.ref 580,.int 250 0,.int 4 0,.ref 587,.int 253 0,.int 4 0,.ref 594,.int 256 0,.int 4 0,.ref 601,.int 259 0,.int 4 0,.ref 608,.int 262 0,.int 4 0,.ref 615,.int 265 0,.int 4 0,.ref 622,.int 268 0,.int 4 0,.ref 629],#[]⟩,kC "Fen" 158 747 407,kF 409 406 u5 737,cT,cF,cN 760 ["self"],cT,fJ Ho "Fen.__init__",cQ Ho "Fen.__init__" 757 160 0 1 411 (.ref 413) (.ref 414) 415 762,fQ Ho "Fen.__init__" u5 737 416,cT,cF,cN 767 ["self"],cT,fJ Jh "Fen.now",cQ Jh "Fen.now" 764 165 0 1 418 (.ref 420) (.ref 421) 422 769,fQ Jh "Fen.now" u5 737 423,cT,cF,cN 774 ["self","name"],cT,fJ zhx "Fen.mark",cQ zhx "Fen.mark" 771 168 0 2 425 (.ref 427) (.ref 428) 429 777,fQ zhx "Fen.mark" u5 737 430]
noncomputable def c18(P:Params):List Obj:=[cT,cF,cN 782 ["self","name"],cT,fJ zgM "Fen.hand",cQ zgM "Fen.hand" 779 171 0 2 432 (.ref 434) (.ref 435) 436 785,fQ zgM "Fen.hand" u5 737 437,cT,cF,cN 790 ["self","one","other","rise","hand"],cT,fJ ziL "Fen.run",cQ ziL "Fen.run" 787 174 0 5 439 (.ref 441) (.ref 442) 443 796,fQ ziL "Fen.run" u5 737 444,cT,cF,cN 801 ["self","number"],cT,fJ zeQ "Fen.strike",cQ zeQ "Fen.strike" 798 177 0 2 446 (.ref 448) (.ref 449) 450 804,fQ zeQ "Fen.strike" u5 737 451,cT,cF,cN 809 ["self","number","rise"]]
noncomputable def c19(P:Params):List Obj:=[cT,fJ zhp "Fen.mend",cQ zhp "Fen.mend" 806 180 0 3 453 (.ref 455) (.ref 456) 457 813,fQ zhp "Fen.mend" u5 737 458,cT,cF,cN 818 ["self","name"],cT,fJ ze0 "Fen.settle",cQ ze0 "Fen.settle" 815 183 0 2 460 (.ref 462) (.ref 463) 464 821,fQ ze0 "Fen.settle" u5 737 465,cT,cF,cN 826 ["self","hand"],cT,fJ zfQ "Fen.aside",cQ zfQ "Fen.aside" 823 186 0 2 467 (.ref 469) (.ref 470) 471 829,fQ zfQ "Fen.aside" u5 737 472,cT,cF,cN 834 ["self","hand"],cT,fJ zg0 "Fen.heed",cQ zg0 "Fen.heed" 831 189 0 2 474 (.ref 476) (.ref 477) 478 837]
noncomputable def c20(P:Params):List Obj:=[fQ zg0 "Fen.heed" u5 737 479,cT,cF,cN 842 ["self","many"],cT,fJ zfL "Fen.allow",cQ zfL "Fen.allow" 839 192 0 2 481 (.ref 483) (.ref 484) 485 845,fQ zfL "Fen.allow" u5 737 486,cT,cF,cN 850 ["self","row","book"],cT,fJ Ja "Fen.deed",cQ Ja "Fen.deed" 847 195 0 2 488 (.ref 490) (.ref 491) 492 854,fQ Ja "Fen.deed" u5 737 493,cT,cF,cN 859 ["self"],cT,fJ zgE "Fen.back",cQ zgE "Fen.back" 856 204 0 1 495 (.ref 497) (.ref 498) 499 861,fQ zgE "Fen.back" u5 737 500,cT,cF]
noncomputable def c21(P:Params):List Obj:=[cN 866 ["self","row","book"],cT,fJ zfW "Fen.again",cQ zfW "Fen.again" 863 209 0 1 502 (.ref 504) (.ref 505) 506 870,fQ zfW "Fen.again" u5 737 507,cT,cF,cN 875 ["self"],cT,fJ Gd "Fen.deeds",cQ Gd "Fen.deeds" 872 216 0 1 509 (.ref 511) (.ref 512) 513 877,fQ Gd "Fen.deeds" u5 737 514,cT,cF,cN 882 ["self"],cT,fJ zha "Fen.twin",cQ zha "Fen.twin" 879 219 0 1 516 (.ref 518) (.ref 519) 520 884,fQ zha "Fen.twin" u5 737 521,cT,cF,cN 889 ["self"],cT,fJ Js "Fen.marks"]
noncomputable def c22(P:Params):List Obj:=[cQ Js "Fen.marks" 886 222 0 1 523 (.ref 525) (.ref 526) 527 891,fQ Js "Fen.marks" u5 737 528,cT,cF,cN 896 ["self"],cT,fJ Ge "Fen.hands",cQ Ge "Fen.hands" 893 225 0 1 530 (.ref 532) (.ref 533) 534 898,fQ Ge "Fen.hands" u5 737 535,cT,cF,fJ Ld "Fen.asides",cQ Ld "Fen.asides" 900 228 0 1 537 (.none) (.none) 539 904,fQ Ld "Fen.asides" u5 737 540,cT,cF,cN 909 ["self"],cT,fJ JG "Fen.stands",cQ JG "Fen.stands" 906 232 0 1 542 (.ref 544) (.ref 545) 546 911,fQ JG "Fen.stands" u5 737 547,cT,cF,cN 916 ["self"]]
noncomputable def c23(P:Params):List Obj:=[cT,fJ J3 "Fen.allowed",cQ J3 "Fen.allowed" 913 235 0 1 549 (.ref 551) (.ref 552) 553 918,fQ J3 "Fen.allowed" u5 737 554,cT,cF,cN 923 ["self"],cT,fJ HH "Fen.runs",cQ HH "Fen.runs" 920 238 0 1 556 (.ref 558) (.ref 559) 560 925,fQ HH "Fen.runs" u5 737 561,cT,cF,fJ J8 "Fen.counting",cQ J8 "Fen.counting" 927 241 0 1 563 (.none) (.none) 565 931,fQ J8 "Fen.counting" u5 737 566,cT,cF,cN 936 ["self","one","other"],cT,fJ zeM "Fen.height",cQ zeM "Fen.height" 933 244 0 3 568 (.ref 570) (.ref 571) 572 940,fQ zeM "Fen.height" u5 737 573,cT]
noncomputable def c24(P:Params):List Obj:=[cF,cN 945 ["self","one","other"],cT,fJ zfH "Fen.paper",cQ zfH "Fen.paper" 942 247 0 3 575 (.ref 577) (.ref 578) 579 949,fQ zfH "Fen.paper" u5 737 580,cT,cF,cN 954 ["self","one","other"],cT,fJ zdK "Fen.readings",cQ zdK "Fen.readings" 951 250 0 3 582 (.ref 584) (.ref 585) 586 958,fQ zdK "Fen.readings" u5 737 587,cT,cF,cN 963 ["self","name"],cT,fJ zhi "Fen.sank",cQ zhi "Fen.sank" 960 253 0 2 589 (.ref 591) (.ref 592) 593 966,fQ zhi "Fen.sank" u5 737 594,cT,cF,cN 971 ["self"],cT]
noncomputable def c25(P:Params):List Obj:=[fJ zcT "Fen.false_sets",cQ zcT "Fen.false_sets" 968 256 0 1 596 (.ref 598) (.ref 599) 600 973,fQ zcT "Fen.false_sets" u5 737 601,cT,cF,cN 978 ["self"],cT,fJ zf5 "Fen.least",cQ zf5 "Fen.least" 975 259 0 1 603 (.ref 605) (.ref 606) 607 980,fQ zf5 "Fen.least" u5 737 608,cT,cF,cN 985 ["self"],cT,fJ zeS "Fen.groups",cQ zeS "Fen.groups" 982 262 0 1 610 (.ref 612) (.ref 613) 614 987,fQ zeS "Fen.groups" u5 737 615,cT,cF,cN 992 ["self","one","other"],cT,fJ zed "Fen.parting",cQ zed "Fen.parting" 989 265 0 3 617 (.ref 619) (.ref 620) 621 996,fQ zed "Fen.parting" u5 737 622]
noncomputable def c26(P:Params):List Obj:=[cT,cF,cN 1001 ["self","one","other"],cT,fJ ziK "Fen.foe",cQ ziK "Fen.foe" 998 268 0 3 624 (.ref 626) (.ref 627) 628 1005,fQ ziK "Fen.foe" u5 737 629,cN 1007 ["books","kept","undone"],⟨.type "dict",none,.dict #[dE P "__module__" 752 (.str "fenlevel.fen" 737),dE P "__firstlineno__" 756 (.int 158 755),dE P "__init__" 763 (.ref 417),dE P "now" 770 (.ref 424),dE P "mark" 778 (.ref 431),dE P "hand" 786 (.ref 438),dE P "run" 797 (.ref 445),dE P "strike" 805 (.ref 452),dE P "mend" 814 (.ref 459),dE P "settle" 822 (.ref 466),dE P "aside" 830 (.ref 473),dE P "heed" 838 (.ref 480),dE P "allow" 846 (.ref 487),dE P "deed" 855 (.ref 494),dE P "back" 862 (.ref 501),dE P "again" 871 (.ref 508),dE P "deeds" 878 (.ref 515),dE P "twin" 885 (.ref 522),dE P "marks" 892 (.ref 529),dE P "hands" 899 (.ref 536),dE P "asides" 905 (.ref 541),dE P "stands" 912 (.ref 548),dE P "allowed" 919 (.ref 555),dE P "runs" 926 (.ref 562),dE P "counting" 932 (.ref 567),dE P "height" 941 (.ref 574),dE P "paper" 950 (.ref 581),dE P "readings" 959 (.ref 588),dE P "sank" 967 (.ref 595),dE P "false_sets" 974 (.ref 602),dE P "least" 981 (.ref 609),dE P "groups" 988 (.ref 616),dE P "parting" 997 (.ref 623),dE P "foe" 1006 (.ref 630),dE P "__static_attributes__" 1010 (.ref 631),dE P "__dict__" 1012 (.ref 634),dE P "__weakref__" 1014 (.ref 635),dE P "__doc__" 1015 (.none)] 4,#[]⟩,⟨.type "type",none,.cls ⟨"Fen",[.type "object"],[.ref 633,.type "object"],632,"Fen",true,[],[],false,none,false⟩,#[none,none,some (.str "Fen" 745),some (.str "Fen" 753),some (.builtin "object.__new__"),some (.bool true)]⟩,⟨.type "getset_descriptor",none,.fields #[.str "__dict__" 1011,.ref 633,.builtin "function.__dict__",.builtin "function.__dict__#set"],#[]⟩,⟨.type "getset_descriptor",none,.fields #[.str "__weakref__" 1013,.ref 633,.builtin "ExceptionGroup.__weakref__",.none],#[]⟩,kS 633,kI 633,cT,cF,cN 1021 ["deeds","fen","row"],cT,fI Hi,cO Hi 1018 270 0 1 638 (.ref 640) (.ref 641) 642 1025,fO Hi u5 737 643,cT,cF,cN 1032 ["_law_script"]]
noncomputable def c27(P:Params):List Obj:=[cT,fI sS,cO sS 1029 276 0 1 645 (.ref 647) (.ref 648) 649 1034,fO sS u6 1027 650,cT,cF,cN 1039 ["_law_box_here","_law_many","_law_rest","_law_cell","_law_seed"],cT,fI Aq,cO Aq 1036 278 0 2 652 (.ref 654) (.ref 655) 656 1045,fO Aq u6 1027 657,cT,cF,fI Fy,cP Fy 1047 294 0 2 659 1051,fO Fy u6 1027 662,cT,cF,fI Gj,cP Gj 1053 304 0 2 664 1057,fO Gj u6 1027 667,cT,cF,cT]
noncomputable def c28(P:Params):List Obj:=[cT,fI IW,cO IW 1059 318 0 0 669 (.ref 671) (.ref 672) 673 1063,fO IW u6 1027 674,cT,cF,fI GQ,cP GQ 1065 320 0 2 676 1069,fO GQ u6 1027 679,cT,cF,cN 1074 ["_law_model_here","_law_name"],cT,fI Gg,cO Gg 1071 322 0 2 681 (.ref 683) (.ref 684) 685 1077,fO Gg u6 1027 686,cT,cF,fI Hh,cP Hh 1079 324 0 1 688 1083,fO Hh u6 1027 691,cT,cF,fI HF]
noncomputable def c29(P:Params):List Obj:=[cP HF 1085 326 0 1 693 1089,fO HF u6 1027 696,cT,cF,fI Gr,cP Gr 1091 328 0 2 698 1095,fO Gr u6 1027 701,cT,cF,cN 1100 ["_law_model_here","_law_deed"],cT,fI Je,cO Je 1097 352 0 2 703 (.ref 705) (.ref 706) 707 1103,fO Je u6 1027 708,cT,cF,cN 1108 ["_law_fen","_law_model_here","_law_deed"],cT,fI JW,cO JW 1105 354 0 3 710 (.ref 712) (.ref 713) 714 1112,fO JW u6 1027 715,cT,cF,cN 1117 ["_law_fen","_law_found"]]
noncomputable def c30(P:Params):List Obj:=[cT,fI JQ,cO JQ 1114 358 0 1 717 (.ref 719) (.ref 720) 721 1120,fO JQ u6 1027 722,cT,cF,fI vX,cP vX 1122 361 0 1 724 1126,fO vX u6 1027 727,cT,cF,cN 1131 ["_law_fen","_law_model_here"],cT,fI Jf,cO Jf 1128 367 0 2 729 (.ref 731) (.ref 732) 733 1134,fO Jf u6 1027 734,cT,cF,cN 1139 ["_law_place_here"],cT,fI Jk,cO Jk 1136 369 0 1 736 (.ref 738) (.ref 739) 740 1141,fO Jk u6 1027 741,cT]
noncomputable def c31(P:Params):List Obj:=[cF,cN 1146 ["_law_box_here","_law_model_here","_law_marks_here","_law_hands","_law_at","_law_one","_law_other","_law_rise"],cT,fI Ir,cO Ir 1143 371 0 2 743 (.ref 745) (.ref 746) 747 1155,fO Ir u6 1027 748,cT,cF,cN 1160 ["_law_box_here","_law_model_here","_law_way","_law_row","_law_rise","_law_marks_here","_law_hand"],cT,fI Gy,cO Gy 1157 382 0 2 750 (.ref 752) (.ref 753) 754 1168,fO Gy u6 1027 755,cT,cF,fI J1,cP J1 1170 395 0 3 757 1174,fO J1 u6 1027 760,cT,cF,fI HS,cP HS 1176 411 0 1 762 1180,fO HS u6 1027 765,cT]
noncomputable def c32(P:Params):List Obj:=[cF,fI KN,cP KN 1182 420 0 1 767 1186,fO KN u6 1027 770,cT,cF,cN 1191 ["_law_model_here","_law_deed"],cT,fI Hl,cO Hl 1188 422 0 2 772 (.ref 774) (.ref 775) 776 1194,fO Hl u6 1027 777,cT,cF,cN 1199 ["_law_model_here","_law_deed","_law_word_here","_law_one","_law_other","_law_rise","_law_hand"],cT,fI Kh,cO Kh 1196 432 0 2 779 (.ref 781) (.ref 782) 783 1207,fO Kh u6 1027 784,cT,cF,fI GF,cP GF 1209 443 0 2 786 1213,fO GF u6 1027 789,cT]
noncomputable def c33(P:Params):List Obj:=[cF,cN 1218 ["_law_box_here","_law_model_here","_law_pool","_law_name","_law_some","_law_mark","_law_hand","_law_row"],cT,fI HJ,cO HJ 1215 463 0 3 791 (.ref 793) (.ref 794) 795 1227,fO HJ u6 1027 796,cT,cF,cN 1232 ["_law_deeds","_law_kinds_here","_law_e"],cT,fI HD,cO HD 1229 475 0 1 798 (.ref 800) (.ref 801) 802 1236,fO HD u6 1027 803,cT,cF,cN 1241 ["_law_script","_law_box_here","_law_pool","_law_fen","_law_stands","_law_k","_law_deeds","_law_at","_law_bad"],cT,fI uc,cO uc 1238 482 0 1 805 (.ref 807) (.ref 808) 809 1251,fO uc u6 1027 810]
noncomputable def oB(P:Params)(d c:Obj):List Obj:=c0 P d c++(c1 P++(c2 P++(c3 P++(c4 P++(c5 P++(c6 P++(c7 P++(c8 P++(c9 P++(c10 P++(c11 P++(c12 P++(c13 P++(c14 P++(c15 P++(c16 P++(c17 P++(c18 P++(c19 P++(c20 P++(c21 P++(c22 P++(c23 P++(c24 P++(c25 P++(c26 P++(c27 P++(c28 P++(c29 P++(c30 P++(c31 P++(c32 P++(c33 P)))))))))))))))))))))))))))))))))
noncomputable def e3(P:Params):List DictEntry:=[dE P "__doc__" 166 (.none),dE P "__package__" 167 (.none),dE P "__loader__" 168 (.builtin "__main__.__loader__#opaque"),dE P "__spec__" 169 (.none),dE P "__annotations__" 170 (.ref 6),dE P "__builtins__" 171 (.ref 4),dE P "__file__" 173 (.str "/claim/cut.py" 172),dE P "__cached__" 174 (.none),dE P "_wall" 193 (.ref 21),dE P "FenError" 213 (.ref 31),dE P "BadName" 229 (.ref 44),dE P "Taken" 245 (.ref 56),dE P "Full" 261 (.ref 68),dE P "NoMark" 277 (.ref 80),dE P "NoHand" 293 (.ref 92),dE P "Same" 309 (.ref 104),dE P "BadRise" 325 (.ref 116),dE P "NoRun" 341 (.ref 128),dE P "Aside" 357 (.ref 140),dE P "NotAside" 373 (.ref 152),dE P "BadNumber" 389 (.ref 164),dE P "NothingLeft" 405 (.ref 176),dE P "Steady" 421 (.ref 188),dE P "NoDeed" 437 (.ref 200),dE P "Known" 453 (.ref 212),dE P "NoFen" 469 (.ref 224),dE P "Settled" 485 (.ref 236),dE P "NoPage" 510 (.ref 255),dE P "LETTERS" 514 (.str "abcdefghijklmnopqrstuvwxyz" 513),dE P "LONGEST_NAME" 516 (.int 8 515),dE P "is_made_of" 522 (.ref 262),dE P "is_name" 529 (.ref 269),dE P "marks_of" 537 (.ref 274),dE P "turns_of" 543 (.ref 279),dE P "next_stand" 551 (.ref 286),dE P "last_stand" 560 (.ref 293),dE P "MOST_STANDS" 564 (.int 12 563),dE P "MOST_HANDS" 566 (.int 10 565),dE P "MOST_RUNS" 568 (.int 40 567),dE P "MOST_FALSE" 570 (.int 3 569),dE P "HIGHEST_RISE" 572 (.int 1000000000 571),dE P "empty_book" 578 (.ref 300),dE P "with_entry" 588 (.ref 307),dE P "with_new_stand" 597 (.ref 314),dE P "need_hand" 605 (.ref 321),dE P "need_rise" 612 (.ref 328),dE P "need_run" 618 (.ref 333),dE P "mark_entered" 628 (.ref 340),dE P "hand_entered" 639 (.ref 347),dE P "run_entered" 658 (.ref 354),dE P "run_struck" 664 (.ref 359),dE P "run_mended" 670 (.ref 364),dE P "mark_settled" 682 (.ref 371),dE P "hand_set_aside" 692 (.ref 378),dE P "hand_heeded" 698 (.ref 383),dE P "number_allowed" 708 (.ref 390),dE P "ACTIONS" 727 (.ref 391),dE P "book_behind" 736 (.ref 398),dE P "rows_that_count" 744 (.ref 403),dE P "Fen" 1017 (.ref 633),dE P "fen_of" 1026 (.ref 644),dE P "_law_box" 1035 (.ref 651),dE P "_law_take" 1046 (.ref 658),dE P "_law_same" 1052 (.ref 663),dE P "_law_names" 1058 (.ref 668),dE P "_law_model" 1064 (.ref 675),dE P "_law_turns" 1070 (.ref 680),dE P "_law_place" 1078 (.ref 687),dE P "_law_marks" 1084 (.ref 692),dE P "_law_counted" 1090 (.ref 697),dE P "_law_done" 1096 (.ref 702),dE P "_law_due_told" 1104 (.ref 709),dE P "_law_step" 1113 (.ref 716),dE P "_law_seen" 1121 (.ref 723),dE P "_law_due" 1127 (.ref 728),dE P "_law_right" 1135 (.ref 735),dE P "_law_truth" 1142 (.ref 742),dE P "_law_run_deed" 1156 (.ref 749),dE P "_law_old_deed" 1169 (.ref 756),dE P "_law_good" 1175 (.ref 761),dE P "_law_kinds" 1181 (.ref 766),dE P "_law_named" 1187 (.ref 771),dE P "_law_new_word" 1195 (.ref 778),dE P "_law_run_word" 1208 (.ref 785),dE P "_law_word" 1214 (.ref 790),dE P "_law_refused_at" 1228 (.ref 797),dE P "_law_made_of" 1237 (.ref 804),dE P "law" 1252 (.ref 811)]
noncomputable def d3(P:Params)(x:Str)(t k:Nat):Obj:=⟨.type "dict",none,.dict (dE P "__name__" 165 (.str x t)::(e3 P).take k).toArray (k+1),#[]⟩
noncomputable def v4:List Value:=cV [(1,0,20),(5,0,27),(7,0,40),(9,0,52),(11,0,64),(13,0,76),(15,0,88),(17,0,100),(19,0,112),(21,0,124),(23,0,136),(25,0,148),(27,0,160),(29,0,172),(31,0,184),(33,0,196),(35,0,208),(37,0,220),(39,0,232),(41,0,244),(48,0,261),(50,0,268),(53,0,273),(55,0,278),(57,0,285),(59,0,292),(70,0,299),(72,0,306),(76,0,313),(81,0,320),(84,0,327),(87,0,332),(90,0,339),(97,0,346),(107,0,353),(120,0,358),(124,0,363),(130,0,370),(134,0,377),(140,0,382),(146,0,389),(152,0,397),(156,0,402),(158,0,409),(270,0,643),(276,0,650),(278,0,657),(294,0,662),(304,0,667),(318,0,674),(320,0,679),(322,0,686),(324,0,691),(326,0,696),(328,0,701),(352,0,708),(354,0,715),(358,0,722),(361,0,727),(367,0,734),(369,0,741),(371,0,748),(382,0,755),(395,0,760),(411,0,765),(420,0,770),(422,0,777),(432,0,784),(443,0,789),(463,0,796),(475,0,803),(482,0,810)]
noncomputable def d4(k:Nat):Obj:=⟨.none,none,.fields (v4.take k).toArray,#[]⟩
noncomputable def bE:List Stmt:=PySem.W.behindTheImports PySem.Challenge.pw_fenlevel_k44_fens_of_refused_deeds
noncomputable def eN:PySem.Env:={scope:=(PySem.Challenge.pw_fenlevel_k44_fens_of_refused_deeds).main.scope,locals:=mainNs,globals:=mainNs,cells:=[],code:=.ref 13,frame:=some 14}
noncomputable def cB:Code:=.body bE eN
noncomputable def fB:List Frame:=[topFrame ⟨0,0,0,0⟩]
noncomputable def sA(w:PySem.World)(os:OsState):Shared:=⟨⟨⟨(oB w.params (d3 w.params "__main__" 164 8) (d4 0)).take 15⟩,{}⟩,#[],{},187,os⟩
noncomputable abbrev sX(x:Str)(a b c n k t:Nat)(w:PySem.World)(os:OsState):SharedT:=⟨bT (λi=>(oB w.params (d3 w.params x a b) (d4 c)).getD i cT) n k 1 0,n,{},#[],{},t,os⟩
noncomputable def sB0:=sX u0 164 8 0 15 12 187
noncomputable def x31(n:Nat):Obj:=⟨.type "type",none,.cls ⟨"FenError",[.type "ValueError"],[.ref 31,.type "ValueError",.type "Exception",.type "BaseException",.type "object"],30,"FenError",true,[],(([.ref 44,.ref 56,.ref 68,.ref 80,.ref 92,.ref 104,.ref 116,.ref 128,.ref 140,.ref 152,.ref 164,.ref 176,.ref 188,.ref 200,.ref 212,.ref 224,.ref 236,.ref 255]:List Value).take n),false,none,false⟩,#[some (.ref 22),none,some (.str "FenError" 196),some (.str "FenError" 204),some (.builtin "ValueError.__new__"),some (.bool true)]⟩
noncomputable abbrev sY(j:Nat)(x:Str)(a b c n k t:Nat)(w:PySem.World)(os:OsState):SharedT:=⟨bT (λi=>bif Nat.beq i 31 then x31 j else(oB w.params (d3 w.params x a b) (d4 c)).getD i cT) n k 1 0,n,{},#[],{},t,os⟩
noncomputable def sB1:=sY 0 u1 194 10 6 35 12 214
noncomputable def sB2:=sY 1 u1 194 11 9 47 12 230
noncomputable def sB3:=sY 2 u1 194 12 12 59 12 246
noncomputable def sB4:=sY 3 u1 194 13 15 71 12 262
noncomputable def sB5:=sY 4 u1 194 14 18 83 12 278
noncomputable def sB6:=sY 5 u1 194 15 21 95 12 294
noncomputable def sB7:=sY 6 u1 194 16 24 107 12 310
noncomputable def sB8:=sY 7 u1 194 17 27 119 12 326
noncomputable def sB9:=sY 8 u1 194 18 30 131 12 342
noncomputable def FQ:=sY 9 u1 194 19 33 143 12 358
noncomputable def G8:=sY 10 u1 194 20 36 155 12 374
noncomputable def Jw:=sY 11 u1 194 21 39 167 12 390
noncomputable def Kd:=sY 12 u1 194 22 42 179 12 406
noncomputable def Ku:=sY 13 u1 194 23 45 191 12 422
noncomputable def Ky:=sY 14 u1 194 24 48 203 12 438
noncomputable def Hg:=sY 15 u1 194 25 51 215 12 454
noncomputable def Kc:=sY 16 u1 194 26 54 227 12 470
noncomputable def HY:=sY 17 u1 194 27 57 239 12 486
noncomputable def Jd:=sX u3 530 34 72 280 12 544
noncomputable def Km:=sX u4 561 50 105 355 12 659
noncomputable def vq:=sX u4 561 56 123 391 12 709
noncomputable def vC:=sX u4 561 57 123 392 12 728
noncomputable def Jv:=sX u5 737 59 129 404 12 745
noncomputable def KY:=sX u5 737 60 132 638 12 1018
noncomputable def KC:=sX u6 1027 73 171 717 12 1114
noncomputable def K5:=sX u6 1027 86 210 798 12 1229
noncomputable def Jz:=sX u6 1027 88 216 812 12 1253
noncomputable def hE(P:Params):Heap:=⟨⟨oB P (d3 P "law_fenlevel_k44_fens_of_refused_deeds" 1027 88) (d4 216)⟩,{}⟩
noncomputable def St0:Prop:=∀(w:PySem.World)(os:OsState),topGo treeTable PySem.Challenge.pw_fenlevel_k44_fens_of_refused_deeds w 11 (some (.ref 6)) 12 ⟨PySem.W.boot_heap w.params,Array.mk [],PySem.W.boot_drawn,PySem.W.boot_toks,os⟩ (topStub PySem.Challenge.pw_fenlevel_k44_fens_of_refused_deeds)=some (sA w os,⟨denote treeTable cB,cB,⟨0,0,0,0⟩,fB⟩)
noncomputable def St1:Prop:=∀(w:PySem.World)(os:OsState),segRun treeTable PySem.Challenge.pw_fenlevel_k44_fens_of_refused_deeds w 11 (some (.ref 6)) 1 1 (sA w os) (blockOf bE eN cB ⟨0,0,0,0⟩ fB)=some (.next,(sB0 w os).abs,cB,⟨0,0,0,0⟩)
noncomputable abbrev Sg(n a k:Nat)(s s':PySem.World->OsState->SharedT)(p q:Pos):Prop:=∀(w:PySem.World)(os:OsState),segRunT treeTable PySem.Challenge.pw_fenlevel_k44_fens_of_refused_deeds w 11 (some (.ref 6)) 1 n (s w os) (piecesOf ((bE.drop a).take k) eN cB p fB)=some (.next,s' w os,cB,q)
noncomputable def St2:Prop:=Sg 225 0 3 sB0 sB1 ⟨0,0,0,0⟩ ⟨5,0,6,8⟩
noncomputable def St3:Prop:=Sg 214 3 1 sB1 sB2 ⟨5,0,6,8⟩ ⟨7,0,8,8⟩
noncomputable def St4:Prop:=Sg 214 4 1 sB2 sB3 ⟨7,0,8,8⟩ ⟨9,0,10,8⟩
noncomputable def St5:Prop:=Sg 214 5 1 sB3 sB4 ⟨9,0,10,8⟩ ⟨11,0,12,8⟩
noncomputable def St6:Prop:=Sg 214 6 1 sB4 sB5 ⟨11,0,12,8⟩ ⟨13,0,14,8⟩
noncomputable def St7:Prop:=Sg 214 7 1 sB5 sB6 ⟨13,0,14,8⟩ ⟨15,0,16,8⟩
noncomputable def St8:Prop:=Sg 214 8 1 sB6 sB7 ⟨15,0,16,8⟩ ⟨17,0,18,8⟩
noncomputable def St9:Prop:=Sg 214 9 1 sB7 sB8 ⟨17,0,18,8⟩ ⟨19,0,20,8⟩
noncomputable def St10:Prop:=Sg 214 10 1 sB8 sB9 ⟨19,0,20,8⟩ ⟨21,0,22,8⟩
noncomputable def St11:Prop:=Sg 214 11 1 sB9 FQ ⟨21,0,22,8⟩ ⟨23,0,24,8⟩
noncomputable def St12:Prop:=Sg 214 12 1 FQ G8 ⟨23,0,24,8⟩ ⟨25,0,26,8⟩
noncomputable def St13:Prop:=Sg 214 13 1 G8 Jw ⟨25,0,26,8⟩ ⟨27,0,28,8⟩
noncomputable def St14:Prop:=Sg 214 14 1 Jw Kd ⟨27,0,28,8⟩ ⟨29,0,30,8⟩
noncomputable def St15:Prop:=Sg 214 15 1 Kd Ku ⟨29,0,30,8⟩ ⟨31,0,32,8⟩
noncomputable def St16:Prop:=Sg 214 16 1 Ku Ky ⟨31,0,32,8⟩ ⟨33,0,34,8⟩
noncomputable def St17:Prop:=Sg 214 17 1 Ky Hg ⟨33,0,34,8⟩ ⟨35,0,36,8⟩
noncomputable def St18:Prop:=Sg 214 18 1 Hg Kc ⟨35,0,36,8⟩ ⟨37,0,38,8⟩
noncomputable def St19:Prop:=Sg 214 19 1 Kc HY ⟨37,0,38,8⟩ ⟨39,0,40,8⟩
noncomputable def St20:Prop:=Sg 389 20 9 HY Jd ⟨39,0,40,8⟩ ⟨55,0,56,63⟩
noncomputable def St21:Prop:=Sg 398 29 17 Jd Km ⟨55,0,56,63⟩ ⟨107,0,119,89⟩
noncomputable def St22:Prop:=Sg 177 46 6 Km vq ⟨107,0,119,89⟩ ⟨146,0,150,44⟩
noncomputable def St23f:Prop:=∀(w:PySem.World)(os:OsState),segRunT treeTable PySem.Challenge.pw_fenlevel_k44_fens_of_refused_deeds (w.withFollow "special-get-raises" false) 11 (some (.ref 6)) 1 155 (vq (w.withFollow "special-get-raises" false) os) (piecesOf ((bE.drop 52).take 1) eN cB ⟨146,0,150,44⟩ fB)=some (.next,vC (w.withFollow "special-get-raises" false) os,cB,⟨151,0,151,7⟩)
noncomputable def St23t:Prop:=∀(w:PySem.World)(os:OsState),segRunT treeTable PySem.Challenge.pw_fenlevel_k44_fens_of_refused_deeds (w.withFollow "special-get-raises" true) 11 (some (.ref 6)) 1 155 (vq (w.withFollow "special-get-raises" true) os) (piecesOf ((bE.drop 52).take 1) eN cB ⟨146,0,150,44⟩ fB)=some (.next,vC (w.withFollow "special-get-raises" true) os,cB,⟨151,0,151,7⟩)
noncomputable def St24:Prop:=Sg 67 53 3 vC Jv ⟨151,0,151,7⟩ ⟨156,0,157,71⟩
noncomputable def St25:Prop:=Sg 1207 56 1 Jv KY ⟨156,0,157,71⟩ ⟨158,0,269,16⟩
noncomputable def St26:Prop:=Sg 378 57 14 KY KC ⟨158,0,269,16⟩ ⟨354,0,357,48⟩
noncomputable def St27:Prop:=Sg 392 71 13 KC K5 ⟨354,0,357,48⟩ ⟨463,0,474,62⟩
noncomputable def St28:Prop:=Sg 69 84 2 K5 Jz ⟨463,0,474,62⟩ ⟨482,0,496,64⟩
noncomputable def St29:Prop:=∀(w:PySem.World)(os:OsState),topRun treeTable PySem.Challenge.pw_fenlevel_k44_fens_of_refused_deeds w 11 (some (.ref 6)) 2 (Jz w os).abs ⟨doneF .next,cB,⟨482,0,496,64⟩,fB⟩=some ⟨hE w.params,#[],{},1253,os⟩
noncomputable def vw:Program:={PySem.Challenge.pw_fenlevel_k44_fens_of_refused_deeds with main:={(PySem.Challenge.pw_fenlevel_k44_fens_of_refused_deeds).main with body:=[top 0,top 2,top 3,top 4,top 5,top 6,top 7,top 8,top 9,top 10,top 11,top 12,top 13,top 14,top 15,top 16,top 17,top 18,top 19,top 20,top 22,top 23,top 24,top 25,top 27,top 28,top 29,top 30,top 32,top 33,top 34,top 35,top 36,top 37,top 38,top 39,top 40,top 41,top 42,top 43,top 44,top 45,top 46,top 47,top 48,top 49,top 50,top 51,top 52,top 53,top 55,top 56,top 57,top 59,top 60,top 61,top 62,top 63,top 64,top 65,top 66,top 67,top 68,top 69,top 70,top 71,top 72,top 73,top 74,top 75,top 76,top 77,top 78,top 79,top 80,top 81,top 82,top 83,top 84,top 85]}}
noncomputable def hA:List Addr:=[3,261,262,268,269,273,274,278,279,285,286,292,293,299,300,306,307,313,314,320,321,327,328,332,333,339,340,346,347,353,354,358,359,363,364,370,371,377,378,382,383,389,390,397,398,402,403,643,644,650,651,657,658,662,663,667,668,674,675,679,680,686,687,691,692,696,697,701,702,708,709,715,716,722,723,727,728,734,735,741,742,748,749,755,756,760,761,765,766,770,771,777,778,784,785,789,790,796,797,803,804,810,811,416,417,423,424,493,494,514,515,528,529,535,536,540,541,547,548,554,555,561,562,566,567,24,30,31,37,43,44,49,55,56,61,67,68,73,79,80,85,91,92,97,103,104,109,115,116,121,127,128,133,139,140,145,151,152,157,163,164,169,175,176,181,187,188,193,199,200,205,211,212,217,223,224,229,235,236,241,254,255,391,406,632,633]
noncomputable def hK(P:Params):List (Nat×Obj):=hA.map λa=>(a,(oB P (d3 P "law_fenlevel_k44_fens_of_refused_deeds" 1027 88) (d4 216)).getD a cT)
noncomputable def hH:PySem.W.Hook:=kHook hK hA (λ_=>by kernel_rfl)
noncomputable def xT(s:Shared):Bool:=xlAt vw [] s&&recOk (RowW.records (PySem.Challenge.rw_fenlevel_k44_fens_of_refused_deeds).row.toRowW) s
noncomputable def StZ:Prop:=∀w:PySem.World,((PySem.W.boot_heap w.params).isNs mainGlobals&&(Array.mk []:Array GenState).size==0,(PySem.W.boot_heap w.params).objs.size,(PySem.W.boot_heap w.params).nsMap mainGlobals "__annotations__")=(true,11,some (.ref 6))
noncomputable def StA:Prop:=∀(w:PySem.World)(os:OsState),(staticsOk (importedModules (PySem.Challenge.pw_fenlevel_k44_fens_of_refused_deeds).main.body) (PySem.W.boot_heap w.params) (hE w.params)&&namesBound PySem.Challenge.pw_fenlevel_k44_fens_of_refused_deeds (hE w.params)&&gensDone ⟨hE w.params,#[],{},1253,os⟩&&laidKept (PySem.W.boot_heap w.params) (hE w.params))=true
noncomputable def StB0:Prop:=∀(w:PySem.World)(os:OsState),seen (List.map (λx=>x.name) (recsOf vw)) (ownsOf vw) [] {heap:=(⟨hE w.params,#[],{},1253,os⟩:Shared).heap,drawn:=(⟨hE w.params,#[],{},1253,os⟩:Shared).drawn,toks:=(⟨hE w.params,#[],{},1253,os⟩:Shared).toks,os:=(⟨hE w.params,#[],{},1253,os⟩:Shared).os}=expectedOf vw
noncomputable def StB1:Prop:=∀(w:PySem.World)(os:OsState),(⟨hE w.params,#[],{},1253,os⟩:Shared).heap.bltView=bltViewBooted
noncomputable def StB2:Prop:=∀(w:PySem.World)(os:OsState),((⟨hE w.params,#[],{},1253,os⟩:Shared).heap.keysOk (looseW vw ["ACTIONS"]) (List.map (λx=>x.name) (recsOf vw)) (List.map (λx=>x.fst) (litsOf vw)) (List.map (λx=>x.name) (clssOf vw (looseW vw ["ACTIONS"])))&&(⟨hE w.params,#[],{},1253,os⟩:Shared).heap.accountedOkI (importedModules (PySem.Challenge.pw_fenlevel_k44_fens_of_refused_deeds).main.body)&&(⟨hE w.params,#[],{},1253,os⟩:Shared).heap.isNs mainGlobals&&(⟨hE w.params,#[],{},1253,os⟩:Shared).heap.isNs builtinsNs&&tablesOk vw (⟨hE w.params,#[],{},1253,os⟩:Shared).heap&&xT (⟨hE w.params,#[],{},1253,os⟩:Shared)&&if true=true then(⟨hE w.params,#[],{},1253,os⟩:Shared).gens.size==0 else !leftWithCleanup (⟨hE w.params,#[],{},1253,os⟩:Shared).gens)=true
noncomputable def StB3:Prop:=∀(w:PySem.World)(os:OsState),tabsOk vw (⟨hE w.params,#[],{},1253,os⟩:Shared)=true
noncomputable def StB4:Prop:=∀(w:PySem.World)(os:OsState),pinSeenD vw (drecsOf vw) (⟨hE w.params,#[],{},1253,os⟩:Shared)=pinGoodD (drecsOf vw)
noncomputable def StB5:Prop:=∀(w:PySem.World)(os:OsState),plainSeenE vw (looseW vw ["ACTIONS"]) (⟨hE w.params,#[],{},1253,os⟩:Shared)=plainGoodE vw (looseW vw ["ACTIONS"])
noncomputable def StB6:Prop:=∀(w:PySem.World)(os:OsState),plainSeenD vw ["ACTIONS"] (⟨hE w.params,#[],{},1253,os⟩:Shared)=plainGoodD vw ["ACTIONS"]
noncomputable def StB7:Prop:=∀(w:PySem.World)(os:OsState),wideSeen vw (⟨hE w.params,#[],{},1253,os⟩:Shared)=wideGood vw
noncomputable def StB8:Prop:=∀(w:PySem.World)(os:OsState),clsSeenW vw ["ACTIONS"] (⟨hE w.params,#[],{},1253,os⟩:Shared)=clsGoodW vw ["ACTIONS"]
noncomputable def StC:Prop:=∀(w:PySem.World)(os:OsState),hH.obs ⟨hE w.params,#[],{},1253,os⟩=hH.val w
def pr0:(Function.const Prop true (St0/\St1/\St2/\St3/\St4/\St5/\St6/\St7/\St8/\St9/\St10/\St11/\St12/\St13/\St14/\St15/\St16/\St17/\St18/\St19/\St20/\St21/\St22/\St23f/\St23t/\St24/\St25/\St26/\St27/\St28/\St29/\StZ/\StA/\StC/\StB0/\StB1/\StB2/\StB3/\StB4/\StB5/\StB6/\StB7/\StB8))=true:=by k_qdec
def th0:St0:=PySem.W.Fast.te937873346748051313.mpr (λ_ _=>by kernel_rfl)
def th1:St1:=PySem.W.Fast.te13982121027552719780.mpr (λ_ _=>by kernel_rfl)
def th2:St2:=PySem.W.Fast.te10105581574835445100.mpr (λ_ _=>by kernel_rfl)
def th3:St3:=PySem.W.Fast.te16437609458486848278.mpr (λ_ _=>by kernel_rfl)
def th4:St4:=PySem.W.Fast.te13904560402631476566.mpr (λ_ _=>by kernel_rfl)
def th5:St5:=PySem.W.Fast.te6988618110474044161.mpr (λ_ _=>by kernel_rfl)
def th6:St6:=PySem.W.Fast.te18292254230441717836.mpr (λ_ _=>by kernel_rfl)
def th7:St7:=PySem.W.Fast.te529641759280289813.mpr (λ_ _=>by kernel_rfl)
def th8:St8:=PySem.W.Fast.te7437064661015581292.mpr (λ_ _=>by kernel_rfl)
def th9:St9:=PySem.W.Fast.te4606531515639888929.mpr (λ_ _=>by kernel_rfl)
def th10:St10:=PySem.W.Fast.te15510853610054682074.mpr (λ_ _=>by kernel_rfl)
def th11:St11:=PySem.W.Fast.te5240782450552466234.mpr (λ_ _=>by kernel_rfl)
def th12:St12:=PySem.W.Fast.te7108782601475264861.mpr (λ_ _=>by kernel_rfl)
def th13:St13:=PySem.W.Fast.te17593090959831443907.mpr (λ_ _=>by kernel_rfl)
def th14:St14:=PySem.W.Fast.te17107273594779919526.mpr (λ_ _=>by kernel_rfl)
def th15:St15:=PySem.W.Fast.te17243388535409573341.mpr (λ_ _=>by kernel_rfl)
def th16:St16:=PySem.W.Fast.te14404611098126276643.mpr (λ_ _=>by kernel_rfl)
def th17:St17:=PySem.W.Fast.te5912113124307076037.mpr (λ_ _=>by kernel_rfl)
def th18:St18:=PySem.W.Fast.te9202431027644133851.mpr (λ_ _=>by kernel_rfl)
def th19:St19:=PySem.W.Fast.te1298850943296278361.mpr (λ_ _=>by kernel_rfl)
def th20:St20:=PySem.W.Fast.te423298498317574896.mpr (λ_ _=>by kernel_rfl)
def th21:St21:=PySem.W.Fast.te4749471772407743023.mpr (λ_ _=>by kernel_rfl)
def th22:St22:=PySem.W.Fast.te18414147907704405220.mpr (λ_ _=>by kernel_rfl)
def zvN:St23f:=PySem.W.Fast.te1065193176661006034.mpr (λ_ _=>by kernel_rfl)
def zwD:St23t:=PySem.W.Fast.te1617264949379656403.mpr (λ_ _=>by kernel_rfl)
def th24:St24:=PySem.W.Fast.te5501303934203520444.mpr (λ_ _=>by kernel_rfl)
def th25:St25:=PySem.W.Fast.te15091059926794672290.mpr (λ_ _=>by kernel_rfl)
def th26:St26:=PySem.W.Fast.te18199379131982608850.mpr (λ_ _=>by kernel_rfl)
def th27:St27:=PySem.W.Fast.te10612502952372261059.mpr (λ_ _=>by kernel_rfl)
def th28:St28:=PySem.W.Fast.te13313099552810353380.mpr (λ_ _=>by kernel_rfl)
def th29:St29:=PySem.W.Fast.te28573087831060645.mpr (λ_ _=>by kernel_rfl)
def thZ:StZ:=PySem.W.Fast.te16988565736444548789.mpr (λ_=>by kernel_rfl)
def thA:StA:=PySem.W.Fast.te17744963595637626835.mpr (λ_ _=>by kernel_rfl)
def thC:StC:=PySem.W.Fast.te1647357278597937641.mpr (λ_ _=>by kernel_rfl)
def thB0:StB0:=PySem.W.Fast.te16712540127745682568.mpr (λ_ _=>by kernel_rfl)
def thB1:StB1:=PySem.W.Fast.te9537947621804818233.mpr (λ_ _=>by kernel_rfl)
def thB2:StB2:=PySem.W.Fast.te6993315812243800469.mpr (λ_ _=>by kernel_rfl)
def thB3:StB3:=PySem.W.Fast.te11528826059950916358.mpr (λ_ _=>by kernel_rfl)
def thB4:StB4:=PySem.W.Fast.te10105630229643876845.mpr (λ_ _=>by kernel_rfl)
def thB5:StB5:=PySem.W.Fast.te14736738506286536821.mpr (λ_ _=>by kernel_rfl)
def thB6:StB6:=PySem.W.Fast.te7690871981798463819.mpr (λ_ _=>by kernel_rfl)
def thB7:StB7:=PySem.W.Fast.te7594569300429222660.mpr (λ_ _=>by kernel_rfl)
def thB8:StB8:=PySem.W.Fast.te15082058975717902005.mpr (λ_ _=>by kernel_rfl)
def th23:∀(w:PySem.World)(os:OsState),segRunT treeTable PySem.Challenge.pw_fenlevel_k44_fens_of_refused_deeds w 11 (some (.ref 6)) 1 155 (vq w os) (piecesOf ((bE.drop 52).take 1) eN cB ⟨146,0,150,44⟩ fB)=some (.next,vC w os,cB,⟨151,0,151,7⟩):=λw=>byRow2 "special-get-raises" (P:=λw=>∀os:OsState,segRunT treeTable PySem.Challenge.pw_fenlevel_k44_fens_of_refused_deeds w 11 (some (.ref 6)) 1 155 (vq w os) (piecesOf ((bE.drop 52).take 1) eN cB ⟨146,0,150,44⟩ fB)=some (.next,vC w os,cB,⟨151,0,151,7⟩)) (λw=>zvN w) (λw=>zwD w) w
def gr{tb:String->Option Builtin}{p:Program}{w:PySem.World}{n₀:Nat}{ann:Option Value}{env:PySem.Env}{q:Pos}{n N:Nat}{s s' r:Shared}{c:Code}{pos p':Pos}(l:List Stmt)(a k:Nat)(h:segRun tb p w n₀ ann 1 n s (piecesOf ((l.drop a).take k) env c pos [topFrame q])=some (.next,s',c,p'))
  (z:topRun tb p w n₀ ann N s' (restOf (l.drop (a+k)) env c p' [topFrame q])=some r):topRun tb p w n₀ ann (n+N) s (restOf (l.drop a) env c pos [topFrame q])=some r:=by
 have:=piece_app (rest:=(l.drop a).drop k) h (by rw[List.drop_drop];exact z)
 rwa[YCp]at this
def zsg:bE.drop 86=[]:=by kernel_rfl
def zr0:∀(w:PySem.World)(os:OsState),topRun treeTable PySem.Challenge.pw_fenlevel_k44_fens_of_refused_deeds w 11 (some (.ref 6)) (12+(1+(225+(214+(214+(214+(214+(214+(214+(214+(214+(214+(214+(214+(214+(214+(214+(214+(214+(214+(389+(398+(177+(155+(67+(1207+(378+(392+(69+2))))))))))))))))))))))))))))) ⟨PySem.W.boot_heap w.params,Array.mk [],PySem.W.boot_drawn,PySem.W.boot_toks,os⟩ (topStub PySem.Challenge.pw_fenlevel_k44_fens_of_refused_deeds)=some ⟨hE w.params,#[],{},1253,os⟩:=λw os=>
 go_top (th0 w os) (piece_block (th1 w os) (gr bE 0 3 (YAV (th2 w os)) (gr bE 3 1 (YAV (th3 w os)) (gr bE 4 1 (YAV (th4 w os)) (gr bE 5 1 (YAV (th5 w os)) (gr bE 6 1 (YAV (th6 w os)) (gr bE 7 1 (YAV (th7 w os)) (gr bE 8 1 (YAV (th8 w os)) (gr bE 9 1 (YAV (th9 w os)) (gr bE 10 1 (YAV (th10 w os)) (gr bE 11 1 (YAV (th11 w os)) (gr bE 12 1 (YAV (th12 w os)) (gr bE 13 1 (YAV (th13 w os)) (gr bE 14 1 (YAV (th14 w os)) (gr bE 15 1 (YAV (th15 w os)) (gr bE 16 1 (YAV (th16 w os)) (gr bE 17 1 (YAV (th17 w os)) (gr bE 18 1 (YAV (th18 w os)) (gr bE 19 1 (YAV (th19 w os)) (gr bE 20 9 (YAV (th20 w os)) (gr bE 29 17 (YAV (th21 w os)) (gr bE 46 6 (YAV (th22 w os)) (gr bE 52 1 (YAV (th23 w os)) (gr bE 53 3 (YAV (th24 w os)) (gr bE 56 1 (YAV (th25 w os)) (gr bE 57 14 (YAV (th26 w os)) (gr bE 71 13 (YAV (th27 w os)) (gr bE 84 2 (YAV (th28 w os)) (by rw[zsg];exact piece_nil (th29 w os))))))))))))))))))))))))))))))
def Bw:LeftO PySem.Challenge.pw_fenlevel_k44_fens_of_refused_deeds vw ["ACTIONS"] xT hH.obs hH.val 14262:=
 LeftO.of_pieces (boot_open (by kernel_rfl) (by kernel_rfl) (λ_=>by kernel_rfl)) thZ zr0 (by kernel_rfl) λw=>funext λos=>looks_pair (thA w os) (looks_pair (show openSeen vw ["ACTIONS"] (importedModules (PySem.Challenge.pw_fenlevel_k44_fens_of_refused_deeds).main.body) xT true ⟨hE w.params,#[],{},1253,os⟩=openGood vw ["ACTIONS"]from congr (congrArg Prod.mk (thB0 w os)) (congr (congrArg Prod.mk (thB1 w os)) (congr (congrArg Prod.mk (thB2 w os)) (congr (congrArg Prod.mk (thB3 w os)) (congr (congrArg Prod.mk (thB4 w os)) (congr (congrArg Prod.mk (thB5 w os)) (congr (congrArg Prod.mk (thB6 w os)) (congr (congrArg Prod.mk (thB7 w os)) (thB8 w os))))))))) (thC w os))
end
end Hd
namespace Fd
open PySem L2 Fen Hd
def us0{p:List Value->Prop}(k:p []):∀us:List Value,us.length=0->p us
 |[],_=>k
def usS{p:List Value->Prop}{n:Nat}(k:∀(a:Value) (us:List Value),us.length=n->p (a::us)):∀us:List Value,us.length=n+1->p us
 |a::us,h=>k a us (Nat.succ.inj h)
noncomputable def fdOf(P:Params)(f:Addr):FuncData:=match List.lookup f (hK P)with
 |some ⟨_,_,.func d,_⟩=>d
 |_=>fD "" (.Pass ⟨0,0,0,0⟩) "" 0 0
noncomputable def J5(P:Params)(f:Addr):Addr:=match (fdOf P f).code with
 |.ref c=>c
 |_=>0
noncomputable def fmOf(P:Params)(f:Addr):Value:=(fdOf P f).pyModule
noncomputable abbrev fE(P:Params)(x u:Str)(s:Stmt)(f:Addr):FuncData:=PySem.W.fnOf x u (vB s) (nJ s) (gF s) .none .none .none (fmOf P f) none (.ref (J5 P f)) .none
def fF{P:Params}(x u:Str)(s:Stmt)(f:Addr)(l:List.lookup f (hK P)=some ⟨.type "function",none,.func (fE P x u s f),#[]⟩:=by kernel_rfl)(y:PySem.W.codeIn (hK P) (.ref (J5 P f)) u=true:=by kernel_rfl):bZ (hK P) x u s f (fE P x u s f):=⟨⟨_,_,_,_,_,_,_,_,_,rfl,l,y⟩,by simp only[PySem.W.keepIn,l]⟩
def uI{w:PySem.World}{x u:Str}{s:Stmt}{f:Addr}{ps:List Str}(F:bZ (hK w.params) x u s f (fE w.params x u s f))(b:∀(kV doc pm:Value) (an:Option Addr) (cdv ct:Value) (us:List Value),us.length=ps.length->bindArgs (PySem.W.fnOf x u (vB s) (nJ s) (gF s) .none kV doc pm an cdv ct) ⟨us,[]⟩=pure (ps.zip us):=by(intro _ _ _ _ _ _;repeat (first|exact us0 rfl|refine usS λ_=>?_))):Binds (hK w.params) (fE w.params x u s f) ps []:=F.binds b
def mkC{P:Program}{w:PySem.World}{base h:Heap}{mg:Str->Option Value}(X:PySem.W.Frag.In (hK w.params) h)(G:h.Ns mainGlobals mg){k:Nat}{ps:List Str}{sp:Sp}(x:Str)(s:Stmt)(f:Addr)(ok:∀{fd:FuncData},bZ (hK w.params) x x s f fd->aN P w (hK w.params) mg base cL k f fd ps sp)
  (F:bZ (hK w.params) x x s f (fE w.params x x s f):=by exact fF _ _ _ _) (m:PySem.W.nsIn (hK w.params) mainGlobals x=some (some (.ref f)):=by kernel_rfl)
  (b:∀(kV doc pm:Value)(an:Option Addr)(cdv ct:Value)(us:List Value),us.length=ps.length->bindArgs (PySem.W.fnOf x x (vB s) (nJ s) (gF s) .none kV doc pm an cdv ct) ⟨us,[]⟩=pure (ps.zip us):=by(intro _ _ _ _ _ _;repeat (first|exact us0 rfl|refine usS λ_=>?_))):eQ P w (hK w.params) mg base x k ps sp:=
 eQ.of F (ok F) (YAY X G m) (F.binds b)
def mkX{P:Program}{w:PySem.World}{base h:Heap}{mg:Str->Option Value}(X:PySem.W.Frag.In (hK w.params) h)(G:h.Ns mainGlobals mg){k:Nat}{ps:List Str}{sp:Sp}(x:Str)(s:Stmt)(f:Addr)(ok:∀{fd:FuncData},bZ (hK w.params) x x s f fd->aN P w (hK w.params) mg base (dw P w) k f fd ps sp)
  (F:bZ (hK w.params) x x s f (fE w.params x x s f):=by exact fF _ _ _ _) (m:PySem.W.nsIn (hK w.params) mainGlobals x=some (some (.ref f)):=by kernel_rfl)
  (b:∀(kV doc pm:Value)(an:Option Addr)(cdv ct:Value)(us:List Value),us.length=ps.length->bindArgs (PySem.W.fnOf x x (vB s) (nJ s) (gF s) .none kV doc pm an cdv ct) ⟨us,[]⟩=pure (ps.zip us):=by(intro _ _ _ _ _ _;repeat (first|exact us0 rfl|refine usS λ_=>?_))):iC P w (hK w.params) mg base x k ps sp:=
 iC.of F (ok F) (YAY X G m) (F.binds b)
def mkM{P:Program}{w:PySem.World}{base:Heap}{mg:Str->Option Value}{CX:mO}{C:Addr}(c:pK (hK w.params) C){k:Nat}{ps:List Str}{sp:Sp}(x u:Str)(s:Stmt)(f:Addr)(ok:∀{fd:FuncData},bZ (hK w.params) x u s f fd->aN P w (hK w.params) mg base CX k f fd ps sp)
  (m:PySem.W.findIn (hK w.params) (.ref C) x=some (some (.ref f)):=by kernel_rfl) (i:PySem.W.isFn (hK w.params) (.ref f)=true:=by kernel_rfl) (F:bZ (hK w.params) x u s f (fE w.params x u s f):=by exact fF _ _ _ _)
  (b:∀(kV doc pm:Value)(an:Option Addr)(cdv ct:Value)(us:List Value),us.length=ps.length->bindArgs (PySem.W.fnOf x u (vB s) (nJ s) (gF s) .none kV doc pm an cdv ct) ⟨us,[]⟩=pure (ps.zip us):=by(intro _ _ _ _ _ _;repeat (first|exact us0 rfl|refine usS λ_=>?_))):Met P w (hK w.params) mg base CX C x k ps sp:=
 ⟨f,_,ok F,c,⟨m,i,F.kp⟩,F.binds b⟩
abbrev aD:il:=⟨633,340,347,354,359,364,371,378,383,390⟩
def all_mk{l:PySem.W.OpenLaw}{w:PySem.World}{h:Heap}{mg:Str->Option Value}{fa:Addr}(X:PySem.W.Frag.In (hK w.params) h)(G:h.Ns mainGlobals mg)(hfa:mg "law"=some (.ref fa)) :
  ∃fd:FuncData,(∀(s:Shared)(v:Value),BindsTo s fd ⟨[v],[]⟩ [("_law_script",v)])/\∀base:Heap,PySem.W.Frag.In (hK w.params) base->base.Ns mainGlobals mg->aN l.prog w (hK w.params) mg base cL 9 fa fd ["_law_script"] (Jo (hK w.params)):=by
 have e:=hfa.symm.trans (YAY X G (v:=.ref 811) (by kernel_rfl));cases e;have qg:∀{x:Str},PySem.W.nsIn (hK w.params) mainGlobals x=some none->mg x=none:=PySem.W.mg_none_of X G;have T:Bt mg:=by constructor<;>exact qg (by kernel_rfl)
 have T2:Bd mg:=by constructor<;>exact qg (by kernel_rfl)
 have cls:pK (hK w.params) aD.fen:=⟨by kernel_rfl,by kernel_rfl,by kernel_rfl,by kernel_rfl⟩;have fc:Fc (hK w.params) mg aD:=⟨cls,(show PySem.W.findIn (hK w.params) (.ref 633) "kept"=some none by kernel_rfl),(show PySem.W.findIn (hK w.params) (.ref 633) "books"=some none by kernel_rfl),(show PySem.W.findIn (hK w.params) (.ref 633) "undone"=some none by kernel_rfl),YAY X G (by kernel_rfl)⟩;have xh:Xh (hK w.params) mg ⟨44,56,68,80,92,104,116,128,140,152,164⟩:=by constructor<;>first|exact YAY X G (by kernel_rfl)|kernel_rfl
 have mgo:∀{x:Str}{v:Value},PySem.W.nsIn (hK w.params) mainGlobals x=some (some v)->mg x=some v:=YAY X G;have xv:mg "ValueError"=none:=qg (by kernel_rfl);have xk:ug (hK w.params) mg "FenError" NTx tO:=ztI (fe:=31) [("BadName",44),("Taken",56),("Full",68),("NoMark",80),("NoHand",92),("Same",104),("BadRise",116),("NoRun",128),("Aside",140),("NotAside",152),("BadNumber",164),("NothingLeft",176),("Steady",188),("NoDeed",200),("Known",212),("NoFen",224),("Settled",236),("NoPage",255)] [("BadName",44),("Taken",56),("Full",68),("NoMark",80),("NoHand",92),("Same",104),("BadRise",116),("NoRun",128),("Aside",140),("NotAside",152),("BadNumber",164)] rfl rfl (by simp only[YAG,lz,vZ,vP,vp];and_intros<;>exact mgo (by kernel_rfl)) (by simp only[YAG,lz,vZ,vP,vp];and_intros<;>exact mgo (by kernel_rfl)) (mgo (by kernel_rfl)) (by simp only[YAG,lz,vZ,vP,vp];and_intros<;>kernel_rfl) (by simp only[YAG,lz,vZ,vP,vp];and_intros<;>first|kernel_rfl|(constructor<;>kernel_rfl));have g_MOST_STANDS:mg "MOST_STANDS"=some (.int 12 563):=YAY X G (by kernel_rfl);have g_LONGEST_NAME:mg "LONGEST_NAME"=some (.int 8 515):=YAY X G (by kernel_rfl);have g_LETTERS:mg "LETTERS"=some (.str "abcdefghijklmnopqrstuvwxyz" 513):=YAY X G (by kernel_rfl);have g_MOST_HANDS:mg "MOST_HANDS"=some (.int 10 565):=YAY X G (by kernel_rfl);have g_HIGHEST_RISE:mg "HIGHEST_RISE"=some (.int 1000000000 571):=YAY X G (by kernel_rfl);have g_MOST_RUNS:mg "MOST_RUNS"=some (.int 40 567):=YAY X G (by kernel_rfl);have g_MOST_FALSE:mg "MOST_FALSE"=some (.int 3 569):=YAY X G (by kernel_rfl);have gA:rJ l.prog w (hK w.params) mg "ACTIONS" (zP aD):=zwu (ps:=[("mark",709,.ref 340),("hand",710,.ref 347),("run",711,.ref 354),("strike",712,.ref 359),("mend",713,.ref 364),("settle",714,.ref 371),("aside",715,.ref 378),("heed",716,.ref 383),("allow",717,.ref 390)]) (a:=391) (n:=9) X G (by kernel_rfl) (show List.lookup 391 (hK w.params)=_ by kernel_rfl) (show lA (hK w.params) _ (zP aD) by unfold zP;exact(.cons xU (.cons xU (.cons xU (.cons xU (.cons xU (.cons xU (.cons xU (.cons xU (.cons xU .nil)))))))))) (by decide) (by simp only[d7,rZ];decide +kernel);have F:=fF (P:=w.params) "law" "law" uc 811;refine⟨fE w.params "law" "law" uc 811,λs v=>.of_eq rfl,λbase _ _=>?_⟩;have M:=@mkC l.prog w base h mg X G;have MX:=@mkX l.prog w base h mg X G;have MM:=@mkM l.prog w base mg;have cB:=M "_law_box" sS 651 λF=>Fen.zuX F ⟨T.list,T.len,T.range⟩;have og:=M "_law_take" Aq 658 λF=>zld F T;have oQ:=M "_law_names" Gj 668 λF=>zja T og F;have oR:=M "empty_book" Fz 300 λF=>zi3 F;have FI:=fF (P:=w.params) "__init__" "Fen.__init__" Ho 417;have okI:=zgQ (P:=l.prog) (w:=w) (base:=base) aD fc oR FI;have bI:=uI (ps:=["self"]) FI;have mkI:Mk (hK w.params) aD.fen 417:=⟨by kernel_rfl,by kernel_rfl,by kernel_rfl,by kernel_rfl⟩;have oj:=M "_law_marks" Hh 692 λF=>ziq F;have oA:=M "_law_refused_at" HJ 797 λF=>ze2 T og oj F;have F__law_same:=fF (P:=w.params) "_law_same" "_law_same" Fy 663;have b__law_same:=uI (ps:=["_law_found","_law_due_here"]) F__law_same;have m__law_same:mg "_law_same"=_:=YAY X G (v:=.ref 663) (by kernel_rfl);have r__law_same:=zga (P:=l.prog) (w:=w) (base:=base) F__law_same m__law_same b__law_same T;have qd:=M "marks_of" HR 274 λF=>zlr F;have m_now:=MM (C:=aD.fen) cls "now" "Fen.now" Jh 424 λF=>zmS aD fc F;have m_marks:=MM (C:=aD.fen) cls "marks" "Fen.marks" Js 529 λF=>zkr aD qd m_now F;have m_hands:=MM (C:=aD.fen) cls "hands" "Fen.hands" Ge 536 λF=>zkg aD T m_now F;have m_asides:=MM (C:=aD.fen) cls "asides" "Fen.asides" Ld 541 λF=>ziu aD m_now F;have m_stands:=MM (C:=aD.fen) cls "stands" "Fen.stands" JG 548 λF=>ziR aD T m_now F;have m_allowed:=MM (C:=aD.fen) cls "allowed" "Fen.allowed" J3 555 λF=>zhA aD m_now F;have m_runs:=MM (C:=aD.fen) cls "runs" "Fen.runs" HH 562 λF=>zkN aD T m_now F;have oC:=M "rows_that_count" Ip 403 λF=>zfq F;have m_counting:=MM (C:=aD.fen) cls "counting" "Fen.counting" J8 567 λF=>zgZ aD m_now oC F;have m_deeds:=MM (C:=aD.fen) cls "deeds" "Fen.deeds" Gd 515 λF=>zjB aD T fc F;have o6:=M "_law_seen" JQ 723 λF=>zjv aD m_marks m_hands m_asides m_stands m_allowed m_runs m_counting m_deeds F;have oM:=M "_law_counted" HF 697 λF=>zhr F;have qe:=M "_law_due" vX 728 λF=>zlx T oj oM F;have oS:=M "_law_right" Jf 735 λF=>zi9 aD (eQ.of F__law_same (r__law_same 6) m__law_same b__law_same) o6 qe F;have oU:=M "_law_model" IW 675 λF=>zin F;have oh:=M "with_entry" J7 307 λF=>ziV T2 F;have oz:=M "turns_of" JX 279 λF=>zk7 T F;have oV:=M "next_stand" HQ 286 λF=>zit oz F;have om:=MX "with_new_stand" FP 314 λF=>zfP T g_MOST_STANDS xh oh oV F;have oW:=M "is_made_of" Hu 262 λF=>zik T F;have oO:=M "is_name" Gz 269 λF=>zmG g_LETTERS g_LONGEST_NAME oW F;have F_mark_entered:=fF (P:=w.params) "mark_entered" "mark_entered" Jb 340;have o_mark_entered:=zgI (P:=l.prog) (w:=w) (base:=base) xh oz om oO F_mark_entered;have b_mark_entered:=uI (ps:=["book","row"]) F_mark_entered;have F_hand_entered:=fF (P:=w.params) "hand_entered" "hand_entered" Gn 347;have o_hand_entered:=zgW (P:=l.prog) (w:=w) (base:=base) T g_MOST_HANDS xh oh oO F_hand_entered;have b_hand_entered:=uI (ps:=["book","row"]) F_hand_entered;have oy:=MX "last_stand" JS 293 λF=>ziF xh oz F;have ow:=MX "need_hand" Iu 321 λF=>zjS xh F;have oE:=MX "need_rise" Hm 328 λF=>zjk T2 g_HIGHEST_RISE xh F;have F_run_entered:=fF (P:=w.params) "run_entered" "run_entered" Ia 354;have o_run_entered:=zhF (P:=l.prog) (w:=w) (base:=base) T g_MOST_RUNS xh oh oy ow oE F_run_entered;have b_run_entered:=uI (ps:=["book","row"]) F_run_entered;have oF:=MX "need_run" Kg 333 λF=>zlj xh F;have F_run_struck:=fF (P:=w.params) "run_struck" "run_struck" GJ 359;have o_run_struck:=zii (P:=l.prog) (w:=w) (base:=base) T oh oF F_run_struck;have b_run_struck:=uI (ps:=["book","row"]) F_run_struck;have F_run_mended:=fF (P:=w.params) "run_mended" "run_mended" G9 364;have o_run_mended:=ziY (P:=l.prog) (w:=w) (base:=base) T oh oE oF F_run_mended;have b_run_mended:=uI (ps:=["book","row"]) F_run_mended;have F_mark_settled:=fF (P:=w.params) "mark_settled" "mark_settled" K6 371;have o_mark_settled:=zg7 (P:=l.prog) (w:=w) (base:=base) om oy F_mark_settled;have b_mark_settled:=uI (ps:=["book","row"]) F_mark_settled;have F_hand_set_aside:=fF (P:=w.params) "hand_set_aside" "hand_set_aside" Ju 378;have o_hand_set_aside:=zfM (P:=l.prog) (w:=w) (base:=base) xh oh ow F_hand_set_aside;have b_hand_set_aside:=uI (ps:=["book","row"]) F_hand_set_aside;have F_hand_heeded:=fF (P:=w.params) "hand_heeded" "hand_heeded" Kz 383;have o_hand_heeded:=zhE (P:=l.prog) (w:=w) (base:=base) T xh oh ow F_hand_heeded;have b_hand_heeded:=uI (ps:=["book","row"]) F_hand_heeded;have F_number_allowed:=fF (P:=w.params) "number_allowed" "number_allowed" GP 390;have o_number_allowed:=zfY (P:=l.prog) (w:=w) (base:=base) g_MOST_FALSE xh oh F_number_allowed;have b_number_allowed:=uI (ps:=["book","row"]) F_number_allowed;have tb:gK l.prog w (hK w.params) mg base 4 2 (jx aD):=by unfold jx;exact(gK.cons F_mark_entered o_mark_entered b_mark_entered (gK.cons F_hand_entered o_hand_entered b_hand_entered (gK.cons F_run_entered o_run_entered b_run_entered (gK.cons F_run_struck o_run_struck b_run_struck (gK.cons F_run_mended o_run_mended b_run_mended (gK.cons F_mark_settled o_mark_settled b_mark_settled (gK.cons F_hand_set_aside o_hand_set_aside b_hand_set_aside (gK.cons F_hand_heeded o_hand_heeded b_hand_heeded (gK.cons F_number_allowed o_number_allowed b_number_allowed gK.nil)))))))))
 have oP:=MX "book_behind" Gh 398 λF=>zhD aD gA tb F;have m_deed:=MM (C:=aD.fen) cls "deed" "Fen.deed" Ja 494 λF=>zle aD fc m_now oP F;have oX:=MX "fen_of" Hi 644 λF=>znL aD fc mkI okI bI m_deed F;have oi:=M "_law_turns" GQ 680 λF=>zir T F;have oo:=M "_law_place" Gg 687 λF=>ziv oi F;have o7:=M "_law_done" Gr 702 λF=>zjx T T2 oi oo F;have oG:=M "_law_due_told" Je 709 λF=>zgj T F;have o8:=MX "_law_step" JW 716 λF=>zjz aD (eQ.of F__law_same (r__law_same 6) m__law_same b__law_same) m_deed o7 oG F;have F__law_kinds:=fF (P:=w.params) "_law_kinds" "_law_kinds" HS 766;have b__law_kinds:=uI (ps:=["_law_e"]) F__law_kinds;have m__law_kinds:mg "_law_kinds"=_:=YAY X G (v:=.ref 766) (by kernel_rfl);have oY:=zh3 (P:=l.prog) (w:=w) (base:=base) T xk xv F__law_kinds m__law_kinds b__law_kinds;have oN:=MX "_law_made_of" HD 804 λF=>zhg aD xk oX oY F;have oq:=M "_law_truth" Jk 742 λF=>ziD F;have oH:=M "_law_run_deed" Ir 749 λF=>zgm T og oj oo oq F;have oI:=M "_law_old_deed" Gy 756 λF=>zgr T og oj oq F;have o9:=M "_law_good" J1 761 λF=>zkD T og oi oH oI F;have oJ:=M "_law_run_word" Kh 785 λF=>zgh T oi F;have oZ:=M "_law_named" KN 771 λF=>zi0 T F;have oK:=M "_law_new_word" Hl 778 λF=>zgn T oi oZ F;have qc:=M "_law_word" GF 790 λF=>zjP T oi oJ oK F;exact zuf aD T fc mkI okI bI og oQ oA (eQ.of F__law_same (r__law_same 6) m__law_same b__law_same) oS oU oX o8 oN o9 qc F cB (ztz aD)
def walk{l:PySem.W.OpenLaw}{q:Program}{loose:List Str}{XP:(Str->Option Value)->Heap->Prop}{YP:PySem.World->Heap->Prop}{d:DefRec}{K:Params->qo}(hn:l.most=some 63)(hdf:d.params.defaults=[])
  (hY:∀(w:PySem.World)(h:Heap),YP w h->(K w.params).In h)
  (F:∀(w:PySem.World)(mg:Str->Option Value)(fa:Addr)(h:Heap),(K w.params).In h->h.Ns mainGlobals mg->mg d.name=some (.ref fa) ->
   ∃fd:FuncData,(∀(s:Shared)(u:Value),BindsTo s fd ⟨[u],[]⟩ [("_law_script",u)])/\∀base:Heap,(K w.params).In base->base.Ns mainGlobals mg->aN l.prog w (K w.params) mg base cL 9 fa fd ["_law_script"] (Jo (K w.params))) :
  PySem.W.WalkO q loose XP YP l.row.toRowW d [] (λf vs=>PySem.call f vs):=
 L2.zrU (n:=63) (k:=9) (x:="_law_script") (CX:=λ_=>cL) (sp:=λw=>Jo (K w.params)) hn (by decide) hdf ⟨rfl,by decide,by decide⟩ hY F (λ_ _ a ns hl _ hS=>⟨a,ns,rfl,hS,hl,λ_=>rfl⟩) λ_ _ _ _ _ z=>z
end Fd
open PySem PySem.W PyProof.Rows
set_option maxRecDepth 100000 in
theorem PySem.Challenge.cw_fenlevel_k44_fens_of_refused_deeds_holds : PySem.Challenge.rw_fenlevel_k44_fens_of_refused_deeds.Holds := by
 w_on;o_law
 refine holds_open (q:=Hd.vw) (loose:=["ACTIONS"]) (Xt:=Hd.xT) (XP:=XL Hd.vw []) (Yf:=Hd.hH.obs) (Ya:=Hd.hH.val) (YP:=Hd.hH.says) (N:=14262) Hd.Bw Hd.hH.of Hd.hH.keeps (λs e=>xl_of s (YCx.mp e).1) XL.keeps (by rfl) (by rfl) (by rfl) (λs e=>recFacts_of (YCx.mp e).2) (by rfl) (by first|assumption|decide +kernel) (by decide +kernel) ⟨rfl,rfl,rfl,rfl,rfl,by decide +kernel⟩ ?hw ?hc
 (case hw=>w_witness2)
 exact Fd.walk (l:=PySem.Challenge.rw_fenlevel_k44_fens_of_refused_deeds) rfl rfl (λw h Y=>PySem.W.kIn_of Y) (λw mg fa h KX G hmg=>Fd.all_mk KX G hmg)
