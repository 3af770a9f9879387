import PyProof.Rows.All
import Wide.All
import OpenK.AllK
import Wide.FinOn
import Lean
import PyProof.EqAt
import PyProof.EqKinds
import PyProof.TupleCall
import PyProof.SetKind
import PyProof.Rows.SortShell
import PyProof.SetRoads
import PyProof.ListNew
import PyProof.CollectWalk
import PyProof.Rows.SetFrom
import PyProof.NeKinds
import PyProof.IsiHeapPairs
import PyProof.IsiNone
import PyProof.IsiPairs
import PyProof.ZipIter
import PyProof.Draws
import PyProof.WalksMore
import PyProof.EnumMake
import PyProof.EnumFor
import PyProof.ListRange
import PyProof.RangeFor
import PyProof.DictUpdate
import PyProof.DictItemsLoops
import PyProof.DictWalks
import PyProof.DictIter
import PyProof.P3Eq
import PyProof.P3In
import PyProof.NeData
import KE.KTryMore
import PyProof.ExcArgsOwn
import PyProof.StrOps2
import PyProof.TupleKey
import PyProof.DictFindH
import PyProof.MeetsDict
import KE.KDictList
import PyProof.Rows.RuleN_abs
import PyProof.FactsAll.tuple_3
import KE.KSortAsk
import KE.KSortTup
import PySem.Challenge.RW_fenlevel_k52_refusals_in_words
local macro_rules|`(tactic|decide)=>`(tactic|decide +kernel)
local macro_rules|`(tactic|left)=>`(tactic|kernel_rfl)
set_option maxHeartbeats 0
abbrev qd:=PySem.W.Frag
set_option compiler.extract_closed false
noncomputable section
set_option linter.all false
def aP:=@PySem.wpAny_bind
def fG:=@PySem.Heap.get?_push_of_some
def cY:=@List.length_map
def fL:=@List.mem_cons_of_mem
def iB:=@List.length_append
def dG:=@PySem.Heap.lt_size
def eX:=@List.mem_cons
def fj:=@List.map_cons
def jx:=@List.size_toArray
def nW:=@List.getElem?_eq_some_iff
def d8:=@Nat.le_refl
def jL:=@List.not_mem_nil
def lg:=@Nat.lt_of_lt_of_le
def iQ:=@decide_eq_true
def jq:=@decide_eq_false
def dO:=@PySem.wpAny_pure
def lV:=@PySem.Heap.get?_push_size
def gJ:=@Nat.le_trans
def jT:=@Bool.and_eq_true
def lF:=@List.mem_cons_self
def mY:=@List.getElem?_set_ne
def pZ:=@List.getElem?_set_self
def iU:=@Nat.ne_of_lt
def pI:=@List.mem_singleton
def lY:=@List.map_append
def sY:=@List.mem_append_right
def YAA:=@List.length_cons
def YAB:=@List.getElem?_eq_getElem
def pM:=@List.lookup_cons
def YAD:=@Ne.symm
def YAE:=@beq_eq_false_iff_ne
def YAF:=@List.append_nil
def YAG:=@List.getElem?_map
def YAH:=@List.all_eq_true
def YAI:=@PySem.wpAny_field
def YAJ:=@of_decide_eq_true
def YAK:=@decide_eq_true_eq
def YAL:=@List.map_map
def YAM:=@PySem.W.mg_of
def YAN:=@List.filterMap_cons
def rJ:=@List.mem_append
def YAP:=@PyProof.Rows.slot_tuple_getitem
def YAQ:=@PySem.wpAny_mono
def YAR:=@Nat.lt_irrefl
def YAS:=@PySem.sizeLine_eq
def YAT:=@List.length_filter_le
def YAU:=@PySem.wpAny_holding
def YAV:=@PySem.wpAny_callSpecial?_slot
def YAW:=@PySem.F.plainAttrs_list
def rD:=@List.mem_map
def YAY:=@List.zip_cons_cons
def YAZ:=@PySem.mem_of_lookup
def wL:=@List.zip_nil_left
def kZ:=@or_false
def v5:=@List.mem_filter
def zp:=@PySem.wpAny_Call_Name_kw
def CP:=@List.getElem?_replicate
def yt:=@Int.emod_lt_of_pos
def Ay:=@List.mem_append_left
def CN:=@PySem.Heap.get?_update_other
def zG:=@PySem.wpAny_truthy_bool
def Af:=@Array.length_toList
def Li:=@List.getElem?_append_left
def K5:=@List.drop_eq_getElem_cons
def ue:=@List.map_nil
def Bu:=@PySem.wpAny_setField_rec
def Fp:=@Int.eq_ofNat_of_zero_le
def wO:=@PySem.wpAny_seqItems
def yE:=@List.nodup_cons
def zA:=@Int.emod_nonneg
def Hc:=@List.take_of_length_le
def Ma:=@PyProof.Rows.boot_list
def YBk:=@PySem.F.slot_tuple_iterator_next
def YBl:=@Array.getElem?_eq_some_iff
def Ca:=@PySem.wpAny_call_entry
def KH:=@Bool.and_eq_true_iff
def La:=@List.forall_mem_cons
def Cw:=@PySem.wpAny_newObj_type
def Bf:=@List.length_zip
def wy:=@Nat.zero_le
def YBs:=@decide_eq_false_iff_not
def Ie:=@List.map_congr_left
def YBu:=@List.getElem?_cons_succ
def Bb:=@PySem.Heap.size_push
def YBw:=@PySem.Calls.callWith_builtin
def LK:=@PyProof.Rows.assignInOrder_cons
def Hw:=@List.mem_filterMap
def YBz:=@PyProof.Rows.callWith_type1
def YBA:=@PySem.Heap.get?_update_self
def YBB:=@Array.getElem?_toList
def Cu:=@PySem.F.slot_zip_next
def Kg:=@PySem.wpAny_pyIter_list
def Fx:=@List.append_assoc
def YBF:=@List.getElem?_append_right
def YBG:=@List.getD_eq_getElem?_getD
def YBH:=@List.mem_of_getElem?
def YBI:=@PySem.Calls.evalArgs_plain
def YBJ:=@Array.getElem?_eq_getElem
def Fq:=@List.length_take
def HJ:=@Nat.le_add_right
def YBM:=@PySem.F.args_tuple_add_2
def YBN:=@PySem.F.slot_list_append
def YBO:=@PySem.F.type_list_append
def KN:=@PySem.wpAny_execs_nil
def Ed:=@PySem.wpAny_standAt
def JH:=@PySem.wpAny_passesOwn
def Kv:=@List.of_mem_zip
def YBT:=@PySem.F.entry_tuple_add
def YBU:=@PySem.tupleKind_room_in1
def YBV:=@PySem.Obj.data_mapFields
def YBW:=@List.map_singleton
def vR:=@PySem.W.segRun_of
def YBY:=@PySem.F.slot_tuple_add
def YBZ:=@PySem.Str.ofString_eq_toList
def Ly:=@PySem.wpAny_setField
def Dk:=@Nat.ne_of_gt
def YB2:=@PySem.Obj.isFreed_of_fields
def YB3:=@PySem.F.slot_list_pop
def YB4:=@PySem.F.type_list_pop
def YB5:=@List.length_drop
def YB6:=@List.drop_length
def YB7:=@List.filter_cons
def YB8:=@PySem.wpAny_updateSeq_pair
def YB9:=@List.dropLast_concat
def KQ:=@List.any_cons
def K1:=@PySem.wpAny_onRaise
def Ad:=@beq_iff_eq
def BJ:=@PySem.call_meets
def YCe:=@PySem.W.plainGet_of
def YCf:=@PySem.W.callWith_K0
def YCg:=@PySem.wpAny_loadPart'
def YCh:=@List.forIn_cons
def YCi:=@ne_true_of_eq_false
def YCj:=@PySem.W.callWith_K
def YCk:=@PySem.F.args_str_split_2
def uU:=@if_true
def DN:=@PySem.wpAny_Name
def YCn:=@PyProof.Rows.assignInOrder_nil
def Ep:=@PySem.wpAny_rule
def Ej:=@PySem.typeIs_str
def YCq:=@Option.isSome_map
def YCr:=@Bool.not_eq_true'
def YCs:=@PySem.F.args_zip_next_1
def YCt:=@PySem.F.entry_str_split
def YCu:=@false_implies
def YCv:=@PySem.noFill_tuple_add
def YCw:=@List.zipIdx_cons
def YCx:=@PySem.F.entry_zip_next
def YCy:=@PySem.F.slot_str_split
def YCz:=@PySem.codeAny_mono
def YCA:=@PySem.wpAny_specialOf
def YCB:=@Bool.or_eq_true
def YCC:=@Option.map_some
def YCD:=@Nat.min_eq_left
def YCE:=@Nat.min_self
def YCF:=@implies_true
def YCG:=@Int.lt_or_le
def YCH:=@List.nil_append
def YCI:=@Int.ediv_nonneg
def YCJ:=@List.drop_zero
def YCK:=@List.map_id
set_option Elab.async false
set_option linter.all false
set_option maxRecDepth 100000
namespace L2
open PySem
def tH(s:Stmt):Arguments:=match s with
 |.FunctionDef _ a _ _ _ _ _ _ _ _=>a
 |_=>{posonlyargs:=[],args:=[],vararg:=none,kwonlyargs:=[],kw_defaults:=[],kwarg:=none,defaults:=[]}
def nD(s:Stmt):List Stmt:=match s with
 |.FunctionDef _ _ b _ _ _ _ _ _ _=>b
 |_=>[]
def gB(s:Stmt):Scope:=match s with
 |.FunctionDef _ _ _ _ _ _ sc _ _ _=>sc
 |_=>{kind:=.function,names:=[],isGenerator:=false,isCoroutine:=false}
end L2
namespace Fen
open PySem L2
def top(i:Nat):Stmt:=PySem.Challenge.pw_fenlevel_k52_refusals_in_words.main.body.getD i (.Pass ⟨0,0,0,0⟩)
def _root_.PySem.W.Fast.tw8867225592627192254:Program:=PySem.Challenge.pw_fenlevel_k52_refusals_in_words
def _root_.PySem.W.Fast.te8867225592627192254:PySem.Challenge.pw_fenlevel_k52_refusals_in_words=PySem.W.Fast.tw8867225592627192254:=rfl
abbrev zu4:Stmt:=top 0
abbrev JB:Stmt:=top 26
abbrev GP:Stmt:=top 27
abbrev Jj:Stmt:=top 28
abbrev Hh:Stmt:=top 29
abbrev Lj:Stmt:=top 31
abbrev JS:Stmt:=top 32
abbrev FN:Stmt:=top 33
abbrev Jy:Stmt:=top 34
abbrev zhA:Stmt:=top 35
abbrev zeR:Stmt:=top 36
abbrev zdX:Stmt:=top 37
abbrev zeM:Stmt:=top 38
abbrev zef:Stmt:=top 39
abbrev GJ:Stmt:=top 46
abbrev Hf:Stmt:=top 47
abbrev Ky:Stmt:=top 48
abbrev Ii:Stmt:=top 49
abbrev Gy:Stmt:=top 50
abbrev KR:Stmt:=top 51
abbrev Jf:Stmt:=top 52
abbrev IK:Stmt:=top 53
abbrev KC:Stmt:=top 54
abbrev Kf:Stmt:=top 55
abbrev Hu:Stmt:=top 56
abbrev Lw:Stmt:=top 57
abbrev Iz:Stmt:=top 58
abbrev FW:Stmt:=top 59
abbrev Mh:Stmt:=top 60
abbrev Ld:Stmt:=top 62
abbrev zhF:Stmt:=top 64
abbrev zit:Stmt:=top 65
abbrev zlj:Stmt:=top 66
abbrev zki:Stmt:=top 68
abbrev ztR:Stmt:=top 69
abbrev zqN:Stmt:=top 70
abbrev zm4:Stmt:=top 71
abbrev zvf:Stmt:=top 72
abbrev zkt:Stmt:=top 74
abbrev zhv:Stmt:=top 75
abbrev zk7:Stmt:=top 77
abbrev zpH:Stmt:=top 78
abbrev zhy:Stmt:=top 81
abbrev zjs:Stmt:=top 82
abbrev zna:Stmt:=top 83
abbrev zju:Stmt:=top 84
abbrev zeK:Stmt:=top 86
abbrev zhC:Stmt:=top 87
abbrev zhq:Stmt:=top 88
abbrev zni:Stmt:=top 90
abbrev zcC:Stmt:=top 91
abbrev zfB:Stmt:=top 92
abbrev zuV:Stmt:=top 93
abbrev zm5:Stmt:=top 94
abbrev zgh:Stmt:=top 95
abbrev zpz:Stmt:=top 97
abbrev zkJ:Stmt:=top 98
abbrev LR:Stmt:=top 101
abbrev zec:Stmt:=top 102
abbrev Gs:Stmt:=top 103
abbrev zd4:Stmt:=top 104
abbrev Ka:Stmt:=top 105
abbrev zdz:Stmt:=top 106
abbrev JK:Stmt:=top 108
abbrev zjl:Stmt:=top 112
abbrev Mg:Stmt:=top 113
abbrev KY:Stmt:=top 114
abbrev zuE:Stmt:=top 115
abbrev zkD:Stmt:=top 117
abbrev GR:Stmt:=top 120
abbrev Jo:Stmt:=top 121
abbrev zfX:Stmt:=top 122
abbrev zhk:Stmt:=top 123
abbrev zjp:Stmt:=top 124
abbrev zfN:Stmt:=top 125
abbrev Hb:Stmt:=top 126
abbrev Jd:Stmt:=top 127
abbrev Fz:Stmt:=top 128
abbrev Jb:Stmt:=top 129
abbrev zfs:Stmt:=top 130
abbrev Lg:Stmt:=top 131
abbrev zgy:Stmt:=top 132
abbrev Lx:Stmt:=top 133
abbrev zft:Stmt:=top 134
abbrev zfk:Stmt:=top 135
abbrev zeS:Stmt:=top 136
abbrev zgx:Stmt:=top 137
abbrev zfK:Stmt:=top 138
abbrev J6:Stmt:=top 139
abbrev Ju:Stmt:=top 140
abbrev zfG:Stmt:=top 141
abbrev zeX:Stmt:=top 142
abbrev GZ:Stmt:=top 143
abbrev Ip:Stmt:=top 145
abbrev Jr:Stmt:=top 146
abbrev JP:Stmt:=top 148
abbrev Hm:Stmt:=top 149
abbrev Ko:Stmt:=top 150
abbrev HY:Stmt:=top 151
abbrev sI:Stmt:=top 154
abbrev Ab:Stmt:=top 155
abbrev GC:Stmt:=top 156
abbrev J4:Stmt:=top 157
abbrev Jl:Stmt:=top 158
abbrev sG:Stmt:=top 159
def eE:Stmt->Nat->Stmt
 |.ClassDef _ _ _ b _ _ _ _ _ _ _,j=>b.getD j (.Pass ⟨0,0,0,0⟩)
 |_,_=>.Pass ⟨0,0,0,0⟩
abbrev zdu:Stmt:=eE (top 20) 0
abbrev IV:Stmt:=eE (top 107) 0
abbrev J3:Stmt:=eE (top 107) 1
abbrev zjv:Stmt:=eE (top 107) 2
abbrev ziV:Stmt:=eE (top 107) 3
abbrev zkl:Stmt:=eE (top 107) 4
abbrev zgq:Stmt:=eE (top 107) 5
abbrev zii:Stmt:=eE (top 107) 6
abbrev zgm:Stmt:=eE (top 107) 7
abbrev zhe:Stmt:=eE (top 107) 8
abbrev ziN:Stmt:=eE (top 107) 9
abbrev zhw:Stmt:=eE (top 107) 10
abbrev Ge:Stmt:=eE (top 107) 11
abbrev J0:Stmt:=eE (top 107) 12
abbrev zev:Stmt:=eE (top 107) 13
abbrev Gm:Stmt:=eE (top 107) 14
abbrev Kc:Stmt:=eE (top 107) 15
abbrev KJ:Stmt:=eE (top 107) 16
abbrev Lh:Stmt:=eE (top 107) 17
abbrev FT:Stmt:=eE (top 107) 18
abbrev Gx:Stmt:=eE (top 107) 19
abbrev HF:Stmt:=eE (top 107) 20
abbrev Jk:Stmt:=eE (top 107) 21
abbrev Ku:Stmt:=eE (top 107) 22
abbrev Hr:Stmt:=eE (top 107) 23
abbrev zhg:Stmt:=eE (top 107) 24
abbrev zeP:Stmt:=eE (top 107) 25
abbrev Jx:Stmt:=eE (top 107) 26
abbrev zdU:Stmt:=eE (top 107) 27
abbrev zhf:Stmt:=eE (top 107) 28
abbrev zgw:Stmt:=eE (top 107) 29
abbrev Hv:Stmt:=eE (top 107) 30
abbrev zla:Stmt:=eE (top 107) 31
abbrev Je:Stmt:=eE (top 152) 0
abbrev HH:Stmt:=eE (top 152) 1
abbrev Hk:Stmt:=eE (top 152) 2
abbrev HX:Stmt:=eE (top 152) 3
abbrev zfC:Stmt:=eE (top 152) 4
abbrev Lq:Stmt:=eE (top 152) 5
abbrev GQ:Stmt:=eE (top 152) 6
abbrev JF:Stmt:=eE (top 152) 7
abbrev JZ:Stmt:=eE (top 152) 8
abbrev Hq:Stmt:=eE (top 152) 9
abbrev zfh:Stmt:=eE (top 152) 10
abbrev Jv:Stmt:=eE (top 152) 11
abbrev Ja:Stmt:=eE (top 152) 12
abbrev Hi:Stmt:=eE (top 152) 13
abbrev Js:Stmt:=eE (top 152) 14
end Fen
namespace Hd
open PySem L2 Fen PySem.W PySem.Calls PyProof.Rows
noncomputable section
abbrev dE(P:Params)(k:Str)(n:Nat)(v:Value):DictEntry:=⟨PyData.keyHash P k,.str k n,v⟩
def dN:Stmt->Str
 |.FunctionDef x ..=>x
 |_ => ""
noncomputable abbrev cO(s:Stmt)(a:Nat)(l:Int)(lt:Nat)(n:Int)(v:Addr)(g h:Value)(q:Addr)(d:Nat):Obj:=⟨.type "code",none,.fields #[.str (dN s) a,.str (dN s) (a+1),.str "/claim/cut.py" (a+2),.int l lt,.int n 0,.int 0 0,.int 0 0,.int 3 0,.ref v,.bool true,.int 181 0,.ref (v+1),.none,g,h,.ref q,.int (d-1) 0,.int l lt,.str "/claim/cut.py" d],#[]⟩
noncomputable abbrev cQ(s:Stmt)(u:Str)(a:Nat)(l:Int)(lt:Nat)(n:Int)(v:Addr)(g h:Value)(q:Addr)(d:Nat):Obj:=⟨.type "code",none,.fields #[.str (dN s) a,.str u (a+1),.str "/claim/cut.py" (a+2),.int l lt,.int n 0,.int 0 0,.int 0 0,.int 3 0,.ref v,.bool true,.int 181 0,.ref (v+1),.none,g,h,.ref q,.int (d-1) 0,.int l lt,.str "/claim/cut.py" d],#[]⟩
abbrev cP(s:Stmt)(a:Nat)(l:Int)(lt:Nat)(n:Int)(v:Addr)(d:Nat):Obj:=cO s a l lt n v .none .none (v+2) d
abbrev fD(x:Str)(s:Stmt)(m:Str)(t:Nat)(c:Addr):FuncData:=PySem.W.fnOf x x (tH s) (nD s) (gB s) .none .none .none (.str m t) none (.ref c) .none
abbrev fO(s:Stmt)(m:Str)(t:Nat)(c:Addr):Obj:=⟨.type "function",none,.func (fD (dN s) s m t c),#[]⟩
abbrev fI(s:Stmt):Obj:=⟨.none,none,.func ⟨dN s,dN s,tH s,.stmts (nD s),gB s,0,[],.none,.none,.none,.none,none,.none,.none,0⟩,#[]⟩
noncomputable abbrev fQ(s:Stmt)(u m:Str)(t:Nat)(c:Addr):Obj:=⟨.type "function",none,.func (PySem.W.fnOf (dN s) u (tH s) (nD s) (gB s) .none .none .none (.str m t) none (.ref c) .none),#[]⟩
abbrev fJ(s:Stmt)(u:Str):Obj:=⟨.none,none,.func ⟨dN s,u,tH s,.stmts (nD s),gB s,0,[],.none,.none,.none,.none,none,.none,.none,0⟩,#[]⟩
abbrev cT:Obj:=⟨.type "tuple",none,.seq #[] 0,#[]⟩
abbrev cF:Obj:=⟨.none,none,.fields #[],#[]⟩
def tS:Nat->List Str->List Value
 |_,[]=>[]
 |n,x::l=>.str x n::tS (n+1) l
abbrev cN(n:Nat)(l:List Str):Obj:=⟨.type "tuple",none,.seq (tS n l).toArray 0,#[]⟩
def cV:List (Int×Nat×Nat)->List Value
 |[]=>[]
 | (l,t,c)::r=>.int l t::.int 0 0::.ref c::cV r
def bT(f:Nat->Obj)(n:Nat):Nat->Nat->Nat->BT
 |0,_,_=>.nil
 |k+1,a,b=>match Nat.blt b n with
  |true=>.node (f b) (bT f n k (Nat.mul 2 a) (Nat.add a b)) (bT f n k (Nat.mul 2 a) (Nat.add (Nat.mul 2 a) b))
  |false=>.nil
abbrev kP:Obj:=⟨.type "builtin_function_or_method",none,.fields #[.builtin "type.__prepare__",.type "type"],#[]⟩
noncomputable abbrev kD(P:Params)(m:Str)(n:Nat)(x:Str)(l:Int)(t:Nat)(r:Addr):Obj:=⟨.type "dict",none,.dict #[dE P "__module__" t (.str m n),dE P "__qualname__" (t+2) (.str x (t+1)),dE P "__firstlineno__" (t+4) (.int l (t+3)),dE P "__static_attributes__" (t+5) (.ref r)] 4,#[]⟩
noncomputable abbrev kE(P:Params)(m:Str)(n:Nat)(l:Int)(t:Nat)(r:Addr):Obj:=⟨.type "dict",none,.dict #[dE P "__module__" t (.str m n),dE P "__firstlineno__" (t+4) (.int l (t+3)),dE P "__static_attributes__" (t+5) (.ref r),dE P "__doc__" (t+6) (.none)] 2,#[]⟩
noncomputable abbrev kC(x:Str)(l:Int)(t:Nat)(v:Addr):Obj:=⟨.type "code",none,.fields #[.str x t,.str x (t+1),.str "/claim/cut.py" (t+2),.int l 0,.int 0 0,.int 0 0,.int 0 0,.int 0 0,.ref v,.bool false,.int 181 0,.ref (v+1),.none,.none,.none,.none,.int (t+3:Nat) 0,.int l 0,.str "/claim/cut.py" (t+4)],#[]⟩
noncomputable abbrev kF(a b:Addr)(m:Str)(n:Nat):Obj:=⟨.type "frame",none,.plain,#[some (.ref a),some (.ref 3),some (.ref b),none,some (.str m n),none,some (.ref 0)]⟩
noncomputable abbrev kT(x:Str)(b s d q:Addr)(u v:Nat):Obj:=⟨.type "type",none,.cls ⟨x,[.ref b],[.ref s,.ref b,.type "ValueError",.type "Exception",.type "BaseException",.type "object"],d,x,true,[],[],false,none,false⟩,#[some (.ref q),none,some (.str x u),some (.str x v),some (.builtin "ValueError.__new__"),some (.bool true)]⟩
abbrev kS(s:Addr):Obj:=⟨.type "super",none,.fields #[.ref s,.ref s,.ref s],#[]⟩
abbrev kI(s:Addr):Obj:=⟨.type "builtin_function_or_method",none,.fields #[.builtin "object.__init_subclass__",.ref s],#[]⟩
abbrev kQ(s:Addr):Obj:=⟨.type "tuple",none,.seq #[.ref s] 0,#[]⟩
abbrev u0:Str:="__main__"
abbrev u1:Str:="fenlevel.errors"
abbrev u2:Str:="fenlevel.names"
abbrev u3:Str:="fenlevel.stand"
abbrev u4:Str:="fenlevel.deeds"
abbrev u5:Str:="fenlevel.trees"
abbrev u6:Str:="fenlevel.runs"
abbrev u7:Str:="fenlevel.readings"
abbrev u8:Str:="fenlevel.rings"
abbrev u9:Str:="fenlevel.papers"
abbrev Ez:Str:="fenlevel.sure"
abbrev u11:Str:="fenlevel.parting"
abbrev gF:Str:="fenlevel.fen"
abbrev Gw:Str:="fenlevel.pages"
abbrev j8:Str:="fenlevel.lines"
abbrev nG:Str:="fenlevel.office"
abbrev u16:Str:="law_fenlevel_k52_refusals_in_words"
noncomputable def c0(P:Params)(d c:Obj):List Obj:=[PySem.W.boot_o_0 P,PySem.W.boot_o_1 P,PySem.W.boot_o_2 P,d,PySem.W.boot_o_4 P,PySem.W.boot_o_5 P,PySem.W.boot_o_6 P,PySem.W.boot_o_7 P,PySem.W.boot_o_8 P,PySem.W.boot_o_9 P,PySem.W.boot_o_10 P,cT,c,kC "<module>" 1 182 11,kF 13 3 u0 164,cT,cF,cN 190 ["k"],cT,fI zu4,cO zu4 187 1 0 1 15 (.ref 17) (.ref 18) 19 192,fO zu4 u0 164 20,⟨.type "tuple",none,.seq #[.type "ValueError"] 0,#[]⟩,kP]
noncomputable def c1(P:Params):List Obj:=[kD P u1 194 "FenError" 5 203 29,cT,cF,kC "FenError" 5 198 25,kF 27 24 u1 194,cT,⟨.type "dict",none,.dict #[dE P "__module__" 203 (.str "fenlevel.errors" 194),dE P "__firstlineno__" 207 (.int 5 206),dE P "__static_attributes__" 208 (.ref 29),dE P "__weakref__" 210 (.ref 32),dE P "__doc__" 211 (.none)] 3,#[]⟩,⟨.type "type",none,.cls ⟨"FenError",[.type "ValueError"],[.ref 31,.type "ValueError",.type "Exception",.type "BaseException",.type "object"],30,"FenError",true,[],[.ref 44,.ref 56,.ref 68,.ref 80,.ref 92,.ref 104,.ref 116,.ref 128,.ref 140,.ref 152,.ref 164,.ref 176,.ref 188,.ref 200,.ref 212,.ref 224,.ref 236,.ref 255],false,none,false⟩,#[some (.ref 22),none,some (.str "FenError" 196),some (.str "FenError" 204),some (.builtin "ValueError.__new__"),some (.bool true)]⟩,⟨.type "getset_descriptor",none,.fields #[.str "__weakref__" 209,.ref 31,.builtin "ExceptionGroup.__weakref__",.none],#[]⟩,kS 31,kI 31,kQ 31,kP,kD P u1 194 "BadName" 7 221 42,cT,cF,kC "BadName" 7 216 38,kF 40 37 u1 194,cT,kE P u1 194 7 221 42,kT "BadName" 31 44 43 35 214 222,kS 44,kI 44,kQ 31]
noncomputable def c2(P:Params):List Obj:=[kP,kD P u1 194 "Taken" 9 237 54,cT,cF,kC "Taken" 9 232 50,kF 52 49 u1 194,cT,kE P u1 194 9 237 54,kT "Taken" 31 56 55 47 230 238,kS 56,kI 56,kQ 31,kP,kD P u1 194 "Full" 11 253 66,cT,cF,kC "Full" 11 248 62,kF 64 61 u1 194,cT,kE P u1 194 11 253 66,kT "Full" 31 68 67 59 246 254,kS 68,kI 68,kQ 31]
noncomputable def c3(P:Params):List Obj:=[kP,kD P u1 194 "NoMark" 13 269 78,cT,cF,kC "NoMark" 13 264 74,kF 76 73 u1 194,cT,kE P u1 194 13 269 78,kT "NoMark" 31 80 79 71 262 270,kS 80,kI 80,kQ 31,kP,kD P u1 194 "NoHand" 15 285 90,cT,cF,kC "NoHand" 15 280 86,kF 88 85 u1 194,cT,kE P u1 194 15 285 90,kT "NoHand" 31 92 91 83 278 286,kS 92,kI 92,kQ 31]
noncomputable def c4(P:Params):List Obj:=[kP,kD P u1 194 "Same" 17 301 102,cT,cF,kC "Same" 17 296 98,kF 100 97 u1 194,cT,kE P u1 194 17 301 102,kT "Same" 31 104 103 95 294 302,kS 104,kI 104,kQ 31,kP,kD P u1 194 "BadRise" 19 317 114,cT,cF,kC "BadRise" 19 312 110,kF 112 109 u1 194,cT,kE P u1 194 19 317 114,kT "BadRise" 31 116 115 107 310 318,kS 116,kI 116,kQ 31]
noncomputable def c5(P:Params):List Obj:=[kP,kD P u1 194 "NoRun" 21 333 126,cT,cF,kC "NoRun" 21 328 122,kF 124 121 u1 194,cT,kE P u1 194 21 333 126,kT "NoRun" 31 128 127 119 326 334,kS 128,kI 128,kQ 31,kP,kD P u1 194 "Aside" 23 349 138,cT,cF,kC "Aside" 23 344 134,kF 136 133 u1 194,cT,kE P u1 194 23 349 138,kT "Aside" 31 140 139 131 342 350,kS 140,kI 140,kQ 31]
noncomputable def c6(P:Params):List Obj:=[kP,kD P u1 194 "NotAside" 25 365 150,cT,cF,kC "NotAside" 25 360 146,kF 148 145 u1 194,cT,kE P u1 194 25 365 150,kT "NotAside" 31 152 151 143 358 366,kS 152,kI 152,kQ 31,kP,kD P u1 194 "BadNumber" 27 381 162,cT,cF,kC "BadNumber" 27 376 158,kF 160 157 u1 194,cT,kE P u1 194 27 381 162,kT "BadNumber" 31 164 163 155 374 382,kS 164,kI 164,kQ 31]
noncomputable def c7(P:Params):List Obj:=[kP,kD P u1 194 "NothingLeft" 29 397 174,cT,cF,kC "NothingLeft" 29 392 170,kF 172 169 u1 194,cT,kE P u1 194 29 397 174,kT "NothingLeft" 31 176 175 167 390 398,kS 176,kI 176,kQ 31,kP,kD P u1 194 "Steady" 31 413 186,cT,cF,kC "Steady" 31 408 182,kF 184 181 u1 194,cT,kE P u1 194 31 413 186,kT "Steady" 31 188 187 179 406 414,kS 188,kI 188,kQ 31]
noncomputable def c8(P:Params):List Obj:=[kP,kD P u1 194 "NoDeed" 33 429 198,cT,cF,kC "NoDeed" 33 424 194,kF 196 193 u1 194,cT,kE P u1 194 33 429 198,kT "NoDeed" 31 200 199 191 422 430,kS 200,kI 200,kQ 31,kP,kD P u1 194 "Known" 35 445 210,cT,cF,kC "Known" 35 440 206,kF 208 205 u1 194,cT,kE P u1 194 35 445 210,kT "Known" 31 212 211 203 438 446,kS 212,kI 212,kQ 31]
noncomputable def c9(P:Params):List Obj:=[kP,kD P u1 194 "NoFen" 37 461 222,cT,cF,kC "NoFen" 37 456 218,kF 220 217 u1 194,cT,kE P u1 194 37 461 222,kT "NoFen" 31 224 223 215 454 462,kS 224,kI 224,kQ 31,kP,kD P u1 194 "Settled" 39 477 234,cT,cF,kC "Settled" 39 472 230,kF 232 229 u1 194,cT,kE P u1 194 39 477 234,kT "Settled" 31 236 235 227 470 478,kS 236,kI 236,kQ 31]
noncomputable def c10(P:Params):List Obj:=[kP,⟨.type "dict",none,.dict #[dE P "__module__" 493 (.str "fenlevel.errors" 194),dE P "__qualname__" 495 (.str "NoPage" 494),dE P "__firstlineno__" 497 (.int 41 496),dE P "__init__" 505 (.ref 252),dE P "__static_attributes__" 507 (.ref 253)] 5,#[]⟩,cT,⟨.none,none,.fields #[.int 43 0,.int 4 0,.ref 251],#[]⟩,kC "NoPage" 41 488 242,kF 244 241 u1 194,cT,cF,cN 501 ["self","row"],cT,fJ zdu "NoPage.__init__",cQ zdu "NoPage.__init__" 498 43 0 2 246 (.ref 248) (.ref 249) 250 504,fQ zdu "NoPage.__init__" u1 194 251,cN 506 ["row"],⟨.type "dict",none,.dict #[dE P "__module__" 493 (.str "fenlevel.errors" 194),dE P "__firstlineno__" 497 (.int 41 496),dE P "__init__" 505 (.ref 252),dE P "__static_attributes__" 507 (.ref 253),dE P "__doc__" 508 (.none)] 2,#[]⟩,kT "NoPage" 31 255 254 239 486 494,kS 255,kI 255,cT,cF,fI JB,cP JB 521 50 0 3 258 525,fO JB u2 511 261,cT]
noncomputable def c11(P:Params):List Obj:=[cF,cN 530 ["text"],cT,fI GP,cO GP 527 52 0 1 263 (.ref 265) (.ref 266) 267 532,fO GP u2 511 268,cT,cF,cN 537 ["text"],cT,fI Jj,cO Jj 534 54 0 1 270 (.ref 272) (.ref 273) 274 539,fO Jj u2 511 275,cT,cF,cN 544 ["text"],cT,fI Hh,cO Hh 541 56 0 1 277 (.ref 279) (.ref 280) 281 546,fO Hh u2 511 282,cT,cF,fI Lj,cP Lj 550 61 0 1 284 554]
noncomputable def c12(P:Params):List Obj:=[fO Lj u3 548 287,cT,cF,fI JS,cP JS 556 63 0 2 289 560,fO JS u3 548 292,cT,cF,cN 565 ["stands","name"],cT,fI FN,cO FN 562 65 0 2 294 (.ref 296) (.ref 297) 298 568,fO FN u3 548 299,cT,cF,cN 573 ["stands","name","turns"],cT,fI Jy,cO Jy 570 67 0 2 301 (.ref 303) (.ref 304) 305 577,fO Jy u3 548 306,cT,cF,cN 582 ["stands","hands","rows","runs","number","one","turn","other","other_turn","rise","hand"],cT]
noncomputable def c13(P:Params):List Obj:=[fI zhA,cO zhA 579 72 0 3 308 (.ref 310) (.ref 311) 312 594,fO zhA u3 548 313,cT,cF,fI zeR,cP zeR 596 77 0 2 315 600,fO zeR u3 548 318,cT,cF,cN 605 ["hands","reading","false","heights"],cT,fI zdX,cO zdX 602 79 0 2 320 (.ref 322) (.ref 323) 324 610,fO zdX u3 548 325,cT,cF,fI zeM,cP zeM 612 82 0 4 327 616,fO zeM u3 548 330,cT,cF,fI zef,cP zef 618 87 0 2 332 622]
noncomputable def c14(P:Params):List Obj:=[fO zef u3 548 335,cT,cF,cT,cT,fI GJ,cO GJ 636 100 0 0 337 (.ref 339) (.ref 340) 341 640,fO GJ u4 624 342,cT,cF,cN 645 ["book","word","value","fresh"],cT,fI Hf,cO Hf 642 102 0 3 344 (.ref 346) (.ref 347) 348 650,fO Hf u4 624 349,cT,cF,cN 655 ["book","name","stands"],cT,fI Ky,cO Ky 652 106 0 2 351 (.ref 353) (.ref 354) 355 659,fO Ky u4 624 356,cT,cF]
noncomputable def c15(P:Params):List Obj:=[cN 664 ["book","name"],cT,fI Ii,cO Ii 661 111 0 2 358 (.ref 360) (.ref 361) 362 667,fO Ii u4 624 363,cT,cF,cN 672 ["rise"],cT,fI Gy,cO Gy 669 114 0 1 365 (.ref 367) (.ref 368) 369 674,fO Gy u4 624 370,cT,cF,fI KR,cP KR 676 117 0 2 372 680,fO KR u4 624 375,cT,cF,cN 685 ["book","row","word","name"],cT,fI Jf,cO Jf 682 120 0 2 377 (.ref 379) (.ref 380) 381 690,fO Jf u4 624 382]
noncomputable def c16(P:Params):List Obj:=[cT,cF,cN 695 ["book","row","word","name","hands"],cT,fI IK,cO IK 692 127 0 2 384 (.ref 386) (.ref 387) 388 701,fO IK u4 624 389,cT,cF,cN 706 ["book","row","word","one","other","rise","hand","start","start_turn","end","end_turn","number","run"],cT,fI KC,cO KC 703 137 0 2 391 (.ref 393) (.ref 394) 395 720,fO KC u4 624 396,cT,cF,fI Kf,cP Kf 722 150 0 2 398 726,fO Kf u4 624 401,cT,cF,fI Hu,cP Hu 728 154 0 2 403 732,fO Hu u4 624 406]
noncomputable def c17(P:Params):List Obj:=[cT,cF,cN 737 ["book","row","word","name","settling","turn"],cT,fI Lw,cO Lw 734 160 0 2 408 (.ref 410) (.ref 411) 412 744,fO Lw u4 624 413,cT,cF,cN 749 ["book","row","word","hand"],cT,fI Iz,cO Iz 746 164 0 2 415 (.ref 417) (.ref 418) 419 754,fO Iz u4 624 420,cT,cF,fI FW,cP FW 756 170 0 2 422 760,fO FW u4 624 425,cT,cF,cN 765 ["book","row","word","many"],cT,fI Mh]
noncomputable def c18(P:Params):List Obj:=[cO Mh 762 176 0 2 427 (.ref 429) (.ref 430) 431 770,fO Mh u4 624 432,⟨.type "dict",none,.dict #[dE P "mark" 772 (.ref 383),dE P "hand" 773 (.ref 390),dE P "run" 774 (.ref 397),dE P "strike" 775 (.ref 402),dE P "mend" 776 (.ref 407),dE P "settle" 777 (.ref 414),dE P "aside" 778 (.ref 421),dE P "heed" 779 (.ref 426),dE P "allow" 780 (.ref 433)] 9,#[]⟩,cT,cF,cN 794 ["book","row","action"],cT,fI Ld,cO Ld 791 182 0 2 435 (.ref 437) (.ref 438) 439 798,fO Ld u4 624 440,cT,cF,fI zhF,cP zhF 802 186 0 3 442 806,fO zhF u5 800 445,cT,cF,cN 811 ["start","steps","tree","newest","fresh","mark","height","line","number","end","rise"],cT,fI zit,cO zit 808 193 0 2 447 (.ref 449) (.ref 450) 451 823,fO zit u5 800 452,cT,cF]
noncomputable def c19(P:Params):List Obj:=[cN 828 ["size","runs","struck","steps","trees","reached","mark","tree"],cT,fI zlj,cO zlj 825 206 0 3 454 (.ref 456) (.ref 457) 458 837,fO zlj u5 800 459,cT,cF,fI zki,cP zki 841 217 0 1 461 845,fO zki u6 839 464,cT,cF,fI ztR,cP ztR 847 219 0 2 466 851,fO ztR u6 839 469,cT,cF,fI zqN,cP zqN 853 221 0 2 471 857,fO zqN u6 839 474,cT,cF,fI zm4,cP zm4 859 223 0 2 476 863]
noncomputable def c20(P:Params):List Obj:=[fO zm4 u6 839 479,cT,cF,cN 868 ["size","runs","heights","tree","mark","height","line"],cT,fI zvf,cO zvf 865 225 0 2 481 (.ref 483) (.ref 484) 485 876,fO zvf u6 839 486,cT,cF,fI zkt,cP zkt 880 234 0 2 488 884,fO zkt u7 878 491,cT,cF,cN 889 ["size","runs","many","hands","found","length","struck"],cT,fI zhv,cO zhv 886 239 0 3 493 (.ref 495) (.ref 496) 497 897,fO zhv u7 878 498,cT,cF,cN 903 ["size","runs","many","hands","length","struck","heights"],cT]
noncomputable def c21(P:Params):List Obj:=[fI zk7,cO zk7 900 248 0 3 500 (.ref 502) (.ref 503) 504 911,fO zk7 u7 878 505,cT,cF,cN 916 ["size","runs","false","heights"],cT,fI zpH,cO zpH 913 256 0 2 507 (.ref 509) (.ref 510) 511 921,fO zpH u7 878 512,cT,cF,fI zhy,cP zhy 926 261 0 2 514 930,fO zhy u8 924 517,cT,cF,cN 935 ["size","runs","struck","one","other","tree","height","line"],cT,fI zjs,cO zjs 932 263 0 5 519 (.ref 521) (.ref 522) 523 944,fO zjs u8 924 524,cT,cF]
noncomputable def c22(P:Params):List Obj:=[cN 949 ["first","second","shared"],cT,fI zna,cO zna 946 269 0 2 526 (.ref 528) (.ref 529) 530 953,fO zna u8 924 531,cT,cF,cN 958 ["size","runs","struck","reached","tree","number","one","other","rise","hand","low","to_one","high","to_other"],cT,fI zju,cO zju 955 274 0 3 533 (.ref 535) (.ref 536) 537 973,fO zju u8 924 538,cT,cF,fI zeK,cP zeK 977 285 0 5 540 981,fO zeK u9 975 543,cT,cF,cN 986 ["size","runs","many","one","other"],cT,fI zhC,cO zhC 983 296 0 5 545 (.ref 547) (.ref 548) 549 992,fO zhC u9 975 550]
noncomputable def c23(P:Params):List Obj:=[cT,cF,cN 997 ["size","runs","many"],cT,fI zhq,cO zhq 994 298 0 3 552 (.ref 554) (.ref 555) 556 1001,fO zhq u9 975 557,cT,cF,cN 1008 ["size","runs","heights","mark","higher","group","each"],cT,fI zni,cO zni 1005 303 0 4 559 (.ref 561) (.ref 562) 563 1016,fO zni Ez 1003 564,cT,cF,cN 1021 ["size","runs","many","mark","found","false","kept","heights"],cT,fI zcC,cO zcC 1018 310 0 4 566 (.ref 568) (.ref 569) 570 1030,fO zcC Ez 1003 571,cT,cF,cN 1035 ["heights","one","other"]]
noncomputable def c24(P:Params):List Obj:=[cT,fI zfB,cO zfB 1032 318 0 3 573 (.ref 575) (.ref 576) 577 1039,fO zfB Ez 1003 578,cT,cF,cN 1044 ["size","runs","many","one","other","found","false","heights","rise","unlike","others"],cT,fI zuV,cO zuV 1041 320 0 5 580 (.ref 582) (.ref 583) 584 1056,fO zuV Ez 1003 585,cT,cF,fI zm5,cP zm5 1058 330 0 2 587 1062,fO zm5 Ez 1003 590,cT,cF,fI zgh,cP zgh 1064 337 0 3 592 1068,fO zgh Ez 1003 595,cT,cF,cN 1075 ["size","runs","struck","one","other"]]
noncomputable def c25(P:Params):List Obj:=[cT,fI zpz,cO zpz 1072 348 0 5 597 (.ref 599) (.ref 600) 601 1081,fO zpz u11 1070 602,cT,cF,cN 1086 ["size","runs","many","one","other","hands","length","struck"],cT,fI zkJ,cO zkJ 1083 350 0 5 604 (.ref 606) (.ref 607) 608 1095,fO zkJ u11 1070 609,cT,cF,fI LR,cP LR 1100 359 0 1 611 1104,fO LR gF 1098 614,cT,cF,cN 1109 ["book"],cT,fI zec,cO zec 1106 361 0 1 616 (.ref 618) (.ref 619) 620 1111,fO zec gF 1098 621,cT]
noncomputable def c26(P:Params):List Obj:=[cF,cN 1116 ["book","name","stands"],cT,fI Gs,cO Gs 1113 363 0 2 623 (.ref 625) (.ref 626) 627 1120,fO Gs gF 1098 628,cT,cF,cN 1125 ["book","one","other"],cT,fI zd4,cO zd4 1122 366 0 3 630 (.ref 632) (.ref 633) 634 1129,fO zd4 gF 1098 635,cT,cF,cN 1134 ["book","one","other"],cT,fI Ka,cO Ka 1131 368 0 3 637 (.ref 639) (.ref 640) 641 1138,fO Ka gF 1098 642,cT,cF,cN 1143 ["answer"],cT]
noncomputable def c27(P:Params):List Obj:=[fI zdz,cO zdz 1140 370 0 1 644 (.ref 646) (.ref 647) 648 1145,fO zdz gF 1098 649,cT,kP,⟨.type "dict",none,.dict #[dE P "__module__" 1154 (.str "fenlevel.fen" 1098),dE P "__qualname__" 1156 (.str "Fen" 1155),dE P "__firstlineno__" 1158 (.int 374 1157),dE P "__init__" 1165 (.ref 664),dE P "now" 1172 (.ref 671),dE P "mark" 1180 (.ref 678),dE P "hand" 1188 (.ref 685),dE P "run" 1199 (.ref 692),dE P "strike" 1207 (.ref 699),dE P "mend" 1216 (.ref 706),dE P "settle" 1224 (.ref 713),dE P "aside" 1232 (.ref 720),dE P "heed" 1240 (.ref 727),dE P "allow" 1248 (.ref 734),dE P "deed" 1257 (.ref 741),dE P "back" 1264 (.ref 748),dE P "again" 1273 (.ref 755),dE P "deeds" 1280 (.ref 762),dE P "twin" 1288 (.ref 769),dE P "marks" 1295 (.ref 776),dE P "hands" 1302 (.ref 783),dE P "asides" 1308 (.ref 788),dE P "stands" 1315 (.ref 795),dE P "allowed" 1322 (.ref 802),dE P "runs" 1329 (.ref 809),dE P "counting" 1335 (.ref 814),dE P "height" 1344 (.ref 821),dE P "paper" 1355 (.ref 828),dE P "readings" 1366 (.ref 835),dE P "sank" 1378 (.ref 842),dE P "false_sets" 1384 (.ref 847),dE P "least" 1392 (.ref 854),dE P "groups" 1401 (.ref 861),dE P "parting" 1414 (.ref 868),dE P "foe" 1423 (.ref 875),dE P "__static_attributes__" 1427 (.ref 876)] 36,#[]⟩,cT,⟨.none,none,.fields #[.int 376 0,.int 4 0,.ref 663,.int 381 0,.int 4 0,.ref 670,.int 384 0,.int 4 0,.ref 677,.int 387 0,.int 4 0,.ref 684,.int 390 0,.int 4 0,.ref 691,.int 393 0,.int 4 0,.ref 698,.int 396 0,.int 4 0,.ref 705,.int 399 0,.int 4 0,.ref 712,.int 402 0,.int 4 0,.ref 719,.int 405 0,.int 4 0,.ref 726,.int 408 0,.int 4 0,.ref 733,.int 411 0,.int 4 0,.ref 740,.int 420 0,.int 4 0,.ref 747,.int 425 0,.int 4 0,.ref 754,.int 432 0,.int 4 0,.ref 761,.int 435 0,.int 4 0,.ref 768,.int 442 0,.int 4 0,.ref 775,.int 445 0,.int 4 0,.ref 782,.int 448 0,.int 4 0,.ref 787,.int 452 0,.int 4 0,.ref 794,.int 455 0,.int 4 0,.ref 801,.int 458 0,.int 4 0,.ref 808,.int 461 0,.int 4 0,.ref 813,.int 464 0,.int 4 0,.ref 820,.int 467 0,.int 4 0,.ref 827,.int 474 0,.int 4 0,.ref 834,.int 481 0,.int 4 0,.ref 841,.int 489 0,.int 4 0,.ref 846,.int 494 0,.int 4 0,.ref 853,.int 498 0,.int 4 0,.ref 860,.int 505 0,.int 4 0,.ref 867,.int 513 0,.int 4 0,.ref 874],#[]⟩,kC "Fen" 374 1149 654,kF 656 653 gF 1098,cT,cF,cN 1162 ["self"],cT,fJ IV "Fen.__init__",cQ IV "Fen.__init__" 1159 376 0 1 658 (.ref 660) (.ref 661) 662 1164,fQ IV "Fen.__init__" gF 1098 663,cT,cF,cN 1169 ["self"],cT,fJ J3 "Fen.now",cQ J3 "Fen.now" 1166 381 0 1 665 (.ref 667) (.ref 668) 669 1171,fQ J3 "Fen.now" gF 1098 670]
noncomputable def c28(P:Params):List Obj:=[cT,cF,cN 1176 ["self","name"],cT,fJ zjv "Fen.mark",cQ zjv "Fen.mark" 1173 384 0 2 672 (.ref 674) (.ref 675) 676 1179,fQ zjv "Fen.mark" gF 1098 677,cT,cF,cN 1184 ["self","name"],cT,fJ ziV "Fen.hand",cQ ziV "Fen.hand" 1181 387 0 2 679 (.ref 681) (.ref 682) 683 1187,fQ ziV "Fen.hand" gF 1098 684,cT,cF,cN 1192 ["self","one","other","rise","hand"],cT,fJ zkl "Fen.run",cQ zkl "Fen.run" 1189 390 0 5 686 (.ref 688) (.ref 689) 690 1198,fQ zkl "Fen.run" gF 1098 691,cT,cF,cN 1203 ["self","number"]]
noncomputable def c29(P:Params):List Obj:=[cT,fJ zgq "Fen.strike",cQ zgq "Fen.strike" 1200 393 0 2 693 (.ref 695) (.ref 696) 697 1206,fQ zgq "Fen.strike" gF 1098 698,cT,cF,cN 1211 ["self","number","rise"],cT,fJ zii "Fen.mend",cQ zii "Fen.mend" 1208 396 0 3 700 (.ref 702) (.ref 703) 704 1215,fQ zii "Fen.mend" gF 1098 705,cT,cF,cN 1220 ["self","name"],cT,fJ zgm "Fen.settle",cQ zgm "Fen.settle" 1217 399 0 2 707 (.ref 709) (.ref 710) 711 1223,fQ zgm "Fen.settle" gF 1098 712,cT,cF,cN 1228 ["self","hand"],cT,fJ zhe "Fen.aside",cQ zhe "Fen.aside" 1225 402 0 2 714 (.ref 716) (.ref 717) 718 1231]
noncomputable def c30(P:Params):List Obj:=[fQ zhe "Fen.aside" gF 1098 719,cT,cF,cN 1236 ["self","hand"],cT,fJ ziN "Fen.heed",cQ ziN "Fen.heed" 1233 405 0 2 721 (.ref 723) (.ref 724) 725 1239,fQ ziN "Fen.heed" gF 1098 726,cT,cF,cN 1244 ["self","many"],cT,fJ zhw "Fen.allow",cQ zhw "Fen.allow" 1241 408 0 2 728 (.ref 730) (.ref 731) 732 1247,fQ zhw "Fen.allow" gF 1098 733,cT,cF,cN 1252 ["self","row","book"],cT,fJ Ge "Fen.deed",cQ Ge "Fen.deed" 1249 411 0 2 735 (.ref 737) (.ref 738) 739 1256,fQ Ge "Fen.deed" gF 1098 740,cT,cF]
noncomputable def c31(P:Params):List Obj:=[cN 1261 ["self"],cT,fJ J0 "Fen.back",cQ J0 "Fen.back" 1258 420 0 1 742 (.ref 744) (.ref 745) 746 1263,fQ J0 "Fen.back" gF 1098 747,cT,cF,cN 1268 ["self","row","book"],cT,fJ zev "Fen.again",cQ zev "Fen.again" 1265 425 0 1 749 (.ref 751) (.ref 752) 753 1272,fQ zev "Fen.again" gF 1098 754,cT,cF,cN 1277 ["self"],cT,fJ Gm "Fen.deeds",cQ Gm "Fen.deeds" 1274 432 0 1 756 (.ref 758) (.ref 759) 760 1279,fQ Gm "Fen.deeds" gF 1098 761,cT,cF,cN 1284 ["self","other"],cT,fJ Kc "Fen.twin"]
noncomputable def c32(P:Params):List Obj:=[cQ Kc "Fen.twin" 1281 435 0 1 763 (.ref 765) (.ref 766) 767 1287,fQ Kc "Fen.twin" gF 1098 768,cT,cF,cN 1292 ["self"],cT,fJ KJ "Fen.marks",cQ KJ "Fen.marks" 1289 442 0 1 770 (.ref 772) (.ref 773) 774 1294,fQ KJ "Fen.marks" gF 1098 775,cT,cF,cN 1299 ["self"],cT,fJ Lh "Fen.hands",cQ Lh "Fen.hands" 1296 445 0 1 777 (.ref 779) (.ref 780) 781 1301,fQ Lh "Fen.hands" gF 1098 782,cT,cF,fJ FT "Fen.asides",cQ FT "Fen.asides" 1303 448 0 1 784 (.none) (.none) 786 1307,fQ FT "Fen.asides" gF 1098 787,cT,cF,cN 1312 ["self"]]
noncomputable def c33(P:Params):List Obj:=[cT,fJ Gx "Fen.stands",cQ Gx "Fen.stands" 1309 452 0 1 789 (.ref 791) (.ref 792) 793 1314,fQ Gx "Fen.stands" gF 1098 794,cT,cF,cN 1319 ["self"],cT,fJ HF "Fen.allowed",cQ HF "Fen.allowed" 1316 455 0 1 796 (.ref 798) (.ref 799) 800 1321,fQ HF "Fen.allowed" gF 1098 801,cT,cF,cN 1326 ["self"],cT,fJ Jk "Fen.runs",cQ Jk "Fen.runs" 1323 458 0 1 803 (.ref 805) (.ref 806) 807 1328,fQ Jk "Fen.runs" gF 1098 808,cT,cF,fJ Ku "Fen.counting",cQ Ku "Fen.counting" 1330 461 0 1 810 (.none) (.none) 812 1334,fQ Ku "Fen.counting" gF 1098 813,cT]
noncomputable def c34(P:Params):List Obj:=[cF,cN 1339 ["self","one","other"],cT,fJ Hr "Fen.height",cQ Hr "Fen.height" 1336 464 0 3 815 (.ref 817) (.ref 818) 819 1343,fQ Hr "Fen.height" gF 1098 820,cT,cF,cN 1348 ["self","one","other","book","answer"],cT,fJ zhg "Fen.paper",cQ zhg "Fen.paper" 1345 467 0 3 822 (.ref 824) (.ref 825) 826 1354,fQ zhg "Fen.paper" gF 1098 827,cT,cF,cN 1359 ["self","one","other","book","answer"],cT,fJ zeP "Fen.readings",cQ zeP "Fen.readings" 1356 474 0 3 829 (.ref 831) (.ref 832) 833 1365,fQ zeP "Fen.readings" gF 1098 834,cT,cF,cN 1370 ["self","name","book","same","turn","elder"],cT]
noncomputable def c35(P:Params):List Obj:=[fJ Jx "Fen.sank",cQ Jx "Fen.sank" 1367 481 0 2 836 (.ref 838) (.ref 839) 840 1377,fQ Jx "Fen.sank" gF 1098 841,cT,cF,fJ zdU "Fen.false_sets",cQ zdU "Fen.false_sets" 1379 489 0 1 843 (.none) (.none) 845 1383,fQ zdU "Fen.false_sets" gF 1098 846,cT,cF,cN 1388 ["self","book"],cT,fJ zhf "Fen.least",cQ zhf "Fen.least" 1385 494 0 1 848 (.ref 850) (.ref 851) 852 1391,fQ zhf "Fen.least" gF 1098 853,cT,cF,cN 1396 ["self","book","found"],cT,fJ zgw "Fen.groups",cQ zgw "Fen.groups" 1393 498 0 1 855 (.ref 857) (.ref 858) 859 1400,fQ zgw "Fen.groups" gF 1098 860,cT,cF]
noncomputable def c36(P:Params):List Obj:=[cN 1405 ["self","one","other","book","start","end","numbers"],cT,fJ Hv "Fen.parting",cQ Hv "Fen.parting" 1402 505 0 3 862 (.ref 864) (.ref 865) 866 1413,fQ Hv "Fen.parting" gF 1098 867,cT,cF,cN 1418 ["self","one","other"],cT,fJ zla "Fen.foe",cQ zla "Fen.foe" 1415 513 0 3 869 (.ref 871) (.ref 872) 873 1422,fQ zla "Fen.foe" gF 1098 874,cN 1424 ["books","kept","undone"],⟨.type "dict",none,.dict #[dE P "__module__" 1154 (.str "fenlevel.fen" 1098),dE P "__firstlineno__" 1158 (.int 374 1157),dE P "__init__" 1165 (.ref 664),dE P "now" 1172 (.ref 671),dE P "mark" 1180 (.ref 678),dE P "hand" 1188 (.ref 685),dE P "run" 1199 (.ref 692),dE P "strike" 1207 (.ref 699),dE P "mend" 1216 (.ref 706),dE P "settle" 1224 (.ref 713),dE P "aside" 1232 (.ref 720),dE P "heed" 1240 (.ref 727),dE P "allow" 1248 (.ref 734),dE P "deed" 1257 (.ref 741),dE P "back" 1264 (.ref 748),dE P "again" 1273 (.ref 755),dE P "deeds" 1280 (.ref 762),dE P "twin" 1288 (.ref 769),dE P "marks" 1295 (.ref 776),dE P "hands" 1302 (.ref 783),dE P "asides" 1308 (.ref 788),dE P "stands" 1315 (.ref 795),dE P "allowed" 1322 (.ref 802),dE P "runs" 1329 (.ref 809),dE P "counting" 1335 (.ref 814),dE P "height" 1344 (.ref 821),dE P "paper" 1355 (.ref 828),dE P "readings" 1366 (.ref 835),dE P "sank" 1378 (.ref 842),dE P "false_sets" 1384 (.ref 847),dE P "least" 1392 (.ref 854),dE P "groups" 1401 (.ref 861),dE P "parting" 1414 (.ref 868),dE P "foe" 1423 (.ref 875),dE P "__static_attributes__" 1427 (.ref 876),dE P "__dict__" 1429 (.ref 879),dE P "__weakref__" 1431 (.ref 880),dE P "__doc__" 1432 (.none)] 4,#[]⟩,⟨.type "type",none,.cls ⟨"Fen",[.type "object"],[.ref 878,.type "object"],877,"Fen",true,[],[],false,none,false⟩,#[none,none,some (.str "Fen" 1147),some (.str "Fen" 1155),some (.builtin "object.__new__"),some (.bool true)]⟩,⟨.type "getset_descriptor",none,.fields #[.str "__dict__" 1428,.ref 878,.builtin "function.__dict__",.builtin "function.__dict__#set"],#[]⟩,⟨.type "getset_descriptor",none,.fields #[.str "__weakref__" 1430,.ref 878,.builtin "ExceptionGroup.__weakref__",.none],#[]⟩,kS 878,kI 878,cT,cF,cN 1438 ["deeds","fen","row"],cT,fI JK]
noncomputable def c37(P:Params):List Obj:=[cO JK 1435 515 0 1 883 (.ref 885) (.ref 886) 887 1442,fO JK gF 1098 888,⟨.type "dict",none,.dict #[dE P "mark" 1448 (.ref 891),dE P "hand" 1450 (.ref 892),dE P "run" 1452 (.ref 893),dE P "strike" 1457 (.ref 894),dE P "mend" 1459 (.ref 895),dE P "settle" 1462 (.ref 896),dE P "aside" 1464 (.ref 897),dE P "heed" 1466 (.ref 898),dE P "allow" 1468 (.ref 899)] 9,#[]⟩,cN 1449 ["name"],cN 1451 ["name"],cN 1453 ["name","name","rise","name"],cN 1458 ["number"],cN 1460 ["number","rise"],cN 1463 ["name"],cN 1465 ["name"],cN 1467 ["name"],cN 1469 ["number"],cT,cF,fI zjl,cP zjl 1480 523 0 1 900 1484,fO zjl Gw 1444 903,cT,cF,cN 1489 ["kind","text"],cT,fI Mg,cO Mg 1486 525 0 2 905 (.ref 907) (.ref 908) 909 1492,fO Mg Gw 1444 910]
noncomputable def c38(P:Params):List Obj:=[cT,cF,fI KY,cP KY 1494 531 0 1 912 1498,fO KY Gw 1444 915,cT,cF,fI zuE,cP zuE 1500 540 0 1 917 1504,fO zuE Gw 1444 920,cT,cF,cN 1510 ["text","rows","fen","number","row"],cT,fI zkD,cO zkD 1507 543 0 1 922 (.ref 924) (.ref 925) 926 1516,fO zkD Gw 1444 927,⟨.type "dict",none,.dict #[dE P "open" 1520 (.int 2 1521),dE P "copy" 1523 (.int 3 1524),dE P "close" 1526 (.int 2 1527),dE P "join" 1529 (.int 4 1530),dE P "names" 1532 (.int 1 1533),dE P "back" 1535 (.int 2 1536),dE P "again" 1538 (.int 2 1539),dE P "marks" 1541 (.int 2 1542),dE P "hands" 1544 (.int 2 1545),dE P "asides" 1547 (.int 2 1548),dE P "runs" 1550 (.int 2 1551),dE P "least" 1553 (.int 2 1554),dE P "height" 1556 (.int 4 1557),dE P "sank" 1559 (.int 3 1560),dE P "false" 1562 (.int 2 1563),dE P "groups" 1565 (.int 2 1566),dE P "parting" 1568 (.int 4 1569)] 17,#[]⟩,cT,cF,cN 1575 ["words"],cT,fI GR,cO GR 1572 556 0 1 930 (.ref 932) (.ref 933) 934 1577]
noncomputable def c39(P:Params):List Obj:=[fO GR j8 1518 935,cT,cF,cN 1582 ["words"],cT,fI Jo,cO Jo 1579 562 0 1 937 (.ref 939) (.ref 940) 941 1584,fO Jo j8 1518 942,cT,cF,fI zfX,cP zfX 1586 568 0 1 944 1590,fO zfX j8 1518 947,cT,cF,cN 1595 ["names"],cT,fI zhk,cO zhk 1592 570 0 1 949 (.ref 951) (.ref 952) 953 1597,fO zhk j8 1518 954,cT,cF,cN 1602 ["rows"],cT]
noncomputable def c40(P:Params):List Obj:=[fI zjp,cO zjp 1599 574 0 1 956 (.ref 958) (.ref 959) 960 1604,fO zjp j8 1518 961,cT,cF,cN 1609 ["hands"],cT,fI zfN,cO zfN 1606 578 0 1 963 (.ref 965) (.ref 966) 967 1611,fO zfN j8 1518 968,cT,cF,cN 1616 ["office","words"],cT,fI Hb,cO Hb 1613 582 0 2 970 (.ref 972) (.ref 973) 974 1619,fO Hb j8 1518 975,cT,cF,cN 1624 ["office","words"],cT,fI Jd,cO Jd 1621 585 0 2 977 (.ref 979) (.ref 980) 981 1627,fO Jd j8 1518 982]
noncomputable def c41(P:Params):List Obj:=[cT,cF,cN 1632 ["office","words"],cT,fI Fz,cO Fz 1629 588 0 2 984 (.ref 986) (.ref 987) 988 1635,fO Fz j8 1518 989,cT,cF,cN 1640 ["office","words"],cT,fI Jb,cO Jb 1637 591 0 2 991 (.ref 993) (.ref 994) 995 1643,fO Jb j8 1518 996,cT,cF,cN 1648 ["office","words"],cT,fI zfs,cO zfs 1645 594 0 2 998 (.ref 1000) (.ref 1001) 1002 1651,fO zfs j8 1518 1003,cT,cF,cN 1656 ["office","words","number"]]
noncomputable def c42(P:Params):List Obj:=[cT,fI Lg,cO Lg 1653 596 0 2 1005 (.ref 1007) (.ref 1008) 1009 1660,fO Lg j8 1518 1010,cT,cF,cN 1665 ["office","words"],cT,fI zgy,cO zgy 1662 601 0 2 1012 (.ref 1014) (.ref 1015) 1016 1668,fO zgy j8 1518 1017,cT,cF,cN 1673 ["office","words"],cT,fI Lx,cO Lx 1670 604 0 2 1019 (.ref 1021) (.ref 1022) 1023 1676,fO Lx j8 1518 1024,cT,cF,cN 1681 ["office","words"],cT,fI zft,cO zft 1678 607 0 2 1026 (.ref 1028) (.ref 1029) 1030 1684]
noncomputable def c43(P:Params):List Obj:=[fO zft j8 1518 1031,cT,cF,cN 1689 ["office","words"],cT,fI zfk,cO zfk 1686 609 0 2 1033 (.ref 1035) (.ref 1036) 1037 1692,fO zfk j8 1518 1038,cT,cF,cN 1697 ["office","words"],cT,fI zeS,cO zeS 1694 611 0 2 1040 (.ref 1042) (.ref 1043) 1044 1700,fO zeS j8 1518 1045,cT,cF,fI zgx,cP zgx 1702 613 0 2 1047 1706,fO zgx j8 1518 1050,cT,cF,cN 1711 ["office","words"],cT]
noncomputable def c44(P:Params):List Obj:=[fI zfK,cO zfK 1708 615 0 2 1052 (.ref 1054) (.ref 1055) 1056 1714,fO zfK j8 1518 1057,cT,cF,cN 1719 ["office","words"],cT,fI J6,cO J6 1716 617 0 2 1059 (.ref 1061) (.ref 1062) 1063 1722,fO J6 j8 1518 1064,cT,cF,cN 1727 ["office","words"],cT,fI Ju,cO Ju 1724 619 0 2 1066 (.ref 1068) (.ref 1069) 1070 1730,fO Ju j8 1518 1071,cT,cF,fI zfG,cP zfG 1732 621 0 2 1073 1736,fO zfG j8 1518 1076,cT,cF]
noncomputable def c45(P:Params):List Obj:=[fI zeX,cP zeX 1738 623 0 2 1078 1742,fO zeX j8 1518 1081,cT,cF,cN 1747 ["office","words","hands"],cT,fI GZ,cO GZ 1744 628 0 2 1083 (.ref 1085) (.ref 1086) 1087 1751,fO GZ j8 1518 1088,⟨.type "dict",none,.dict #[dE P "open" 1753 (.ref 976),dE P "copy" 1755 (.ref 983),dE P "close" 1757 (.ref 990),dE P "join" 1759 (.ref 997),dE P "names" 1761 (.ref 1004),dE P "in" 1763 (.ref 1011),dE P "back" 1765 (.ref 1018),dE P "again" 1767 (.ref 1025),dE P "marks" 1769 (.ref 1032),dE P "hands" 1771 (.ref 1039),dE P "asides" 1773 (.ref 1046),dE P "runs" 1775 (.ref 1051),dE P "least" 1777 (.ref 1058),dE P "height" 1779 (.ref 1065),dE P "sank" 1781 (.ref 1072),dE P "false" 1783 (.ref 1077),dE P "groups" 1785 (.ref 1082),dE P "parting" 1787 (.ref 1089)] 18,#[]⟩,⟨.type "dict",none,.dict #[dE P "parting" 1787 (.ref 1089)] 1,#[]⟩,cT,cF,cN 1793 ["office","words","action"],cT,fI Ip,cO Ip 1790 634 0 2 1092 (.ref 1094) (.ref 1095) 1096 1797,fO Ip j8 1518 1097,cT,cF,cN 1802 ["office","line","words"],cT,fI Jr]
noncomputable def c46(P:Params):List Obj:=[cO Jr 1799 670 0 2 1099 (.ref 1101) (.ref 1102) 1103 1806,fO Jr j8 1518 1104,cT,cF,cN 1813 ["fen"],cT,fI JP,cO JP 1810 676 0 1 1106 (.ref 1108) (.ref 1109) 1110 1815,fO JP nG 1808 1111,cT,cF,fI Hm,cP Hm 1817 678 0 2 1113 1821,fO Hm nG 1808 1116,cT,cF,fI Ko,cP Ko 1823 680 0 2 1118 1827,fO Ko nG 1808 1121,cT,cF,cN 1832 ["first","second"],cT,fI HY]
noncomputable def c47(P:Params):List Obj:=[cO HY 1829 692 0 2 1123 (.ref 1125) (.ref 1126) 1127 1835,fO HY nG 1808 1128,cT,kP,⟨.type "dict",none,.dict #[dE P "__module__" 1844 (.str "fenlevel.office" 1808),dE P "__qualname__" 1846 (.str "Office" 1845),dE P "__firstlineno__" 1848 (.int 696 1847),dE P "__init__" 1855 (.ref 1143),dE P "fen_called" 1863 (.ref 1150),dE P "need_free" 1871 (.ref 1157),dE P "open_one" 1879 (.ref 1164),dE P "read" 1888 (.ref 1171),dE P "copy_one" 1898 (.ref 1178),dE P "close" 1906 (.ref 1185),dE P "join" 1918 (.ref 1192),dE P "names" 1925 (.ref 1199),dE P "view" 1933 (.ref 1206),dE P "page" 1941 (.ref 1213),dE P "deed" 1950 (.ref 1220),dE P "back" 1958 (.ref 1227),dE P "again" 1966 (.ref 1234),dE P "say" 1974 (.ref 1241),dE P "__static_attributes__" 1976 (.ref 1242)] 19,#[]⟩,cT,⟨.none,none,.fields #[.int 698 0,.int 4 0,.ref 1142,.int 701 0,.int 4 0,.ref 1149,.int 706 0,.int 4 0,.ref 1156,.int 712 0,.int 4 0,.ref 1163,.int 716 0,.int 4 0,.ref 1170,.int 720 0,.int 4 0,.ref 1177,.int 725 0,.int 4 0,.ref 1184,.int 729 0,.int 4 0,.ref 1191,.int 737 0,.int 4 0,.ref 1198,.int 740 0,.int 4 0,.ref 1205,.int 743 0,.int 4 0,.ref 1212,.int 746 0,.int 4 0,.ref 1219,.int 749 0,.int 4 0,.ref 1226,.int 752 0,.int 4 0,.ref 1233,.int 755 0,.int 4 0,.ref 1240],#[]⟩,kC "Office" 696 1839 1133,kF 1135 1132 nG 1808,cT,cF,cN 1852 ["self"],cT,fJ Je "Office.__init__",cQ Je "Office.__init__" 1849 698 0 1 1137 (.ref 1139) (.ref 1140) 1141 1854,fQ Je "Office.__init__" nG 1808 1142,cT,cF,cN 1859 ["self","name"],cT,fJ HH "Office.fen_called",cQ HH "Office.fen_called" 1856 701 0 2 1144 (.ref 1146) (.ref 1147) 1148 1862,fQ HH "Office.fen_called" nG 1808 1149,cT]
noncomputable def c48(P:Params):List Obj:=[cF,cN 1867 ["self","name"],cT,fJ Hk "Office.need_free",cQ Hk "Office.need_free" 1864 706 0 2 1151 (.ref 1153) (.ref 1154) 1155 1870,fQ Hk "Office.need_free" nG 1808 1156,cT,cF,cN 1875 ["self","name"],cT,fJ HX "Office.open_one",cQ HX "Office.open_one" 1872 712 0 2 1158 (.ref 1160) (.ref 1161) 1162 1878,fQ HX "Office.open_one" nG 1808 1163,cT,cF,cN 1883 ["self","name","text"],cT,fJ zfC "Office.read",cQ zfC "Office.read" 1880 716 0 3 1165 (.ref 1167) (.ref 1168) 1169 1887,fQ zfC "Office.read" nG 1808 1170,cT,cF,cN 1892 ["self","name","other","fen"],cT]
noncomputable def c49(P:Params):List Obj:=[fJ Lq "Office.copy_one",cQ Lq "Office.copy_one" 1889 720 0 3 1172 (.ref 1174) (.ref 1175) 1176 1897,fQ Lq "Office.copy_one" nG 1808 1177,cT,cF,cN 1902 ["self","name"],cT,fJ GQ "Office.close",cQ GQ "Office.close" 1899 725 0 2 1179 (.ref 1181) (.ref 1182) 1183 1905,fQ GQ "Office.close" nG 1808 1184,cT,cF,cN 1910 ["self","name","other","new","first","second"],cT,fJ JF "Office.join",cQ JF "Office.join" 1907 729 0 4 1186 (.ref 1188) (.ref 1189) 1190 1917,fQ JF "Office.join" nG 1808 1191,cT,cF,cN 1922 ["self"],cT,fJ JZ "Office.names",cQ JZ "Office.names" 1919 737 0 1 1193 (.ref 1195) (.ref 1196) 1197 1924,fQ JZ "Office.names" nG 1808 1198]
noncomputable def c50(P:Params):List Obj:=[cT,cF,cN 1929 ["self","name"],cT,fJ Hq "Office.view",cQ Hq "Office.view" 1926 740 0 2 1200 (.ref 1202) (.ref 1203) 1204 1932,fQ Hq "Office.view" nG 1808 1205,cT,cF,cN 1937 ["self","name"],cT,fJ zfh "Office.page",cQ zfh "Office.page" 1934 743 0 2 1207 (.ref 1209) (.ref 1210) 1211 1940,fQ zfh "Office.page" nG 1808 1212,cT,cF,cN 1945 ["self","name","row"],cT,fJ Jv "Office.deed",cQ Jv "Office.deed" 1942 746 0 3 1214 (.ref 1216) (.ref 1217) 1218 1949,fQ Jv "Office.deed" nG 1808 1219,cT,cF,cN 1954 ["self","name"]]
noncomputable def c51(P:Params):List Obj:=[cT,fJ Ja "Office.back",cQ Ja "Office.back" 1951 749 0 2 1221 (.ref 1223) (.ref 1224) 1225 1957,fQ Ja "Office.back" nG 1808 1226,cT,cF,cN 1962 ["self","name"],cT,fJ Hi "Office.again",cQ Hi "Office.again" 1959 752 0 2 1228 (.ref 1230) (.ref 1231) 1232 1965,fQ Hi "Office.again" nG 1808 1233,cT,cF,cN 1970 ["self","line"],cT,fJ Js "Office.say",cQ Js "Office.say" 1967 755 0 2 1235 (.ref 1237) (.ref 1238) 1239 1973,fQ Js "Office.say" nG 1808 1240,cN 1975 ["fens"],⟨.type "dict",none,.dict #[dE P "__module__" 1844 (.str "fenlevel.office" 1808),dE P "__firstlineno__" 1848 (.int 696 1847),dE P "__init__" 1855 (.ref 1143),dE P "fen_called" 1863 (.ref 1150),dE P "need_free" 1871 (.ref 1157),dE P "open_one" 1879 (.ref 1164),dE P "read" 1888 (.ref 1171),dE P "copy_one" 1898 (.ref 1178),dE P "close" 1906 (.ref 1185),dE P "join" 1918 (.ref 1192),dE P "names" 1925 (.ref 1199),dE P "view" 1933 (.ref 1206),dE P "page" 1941 (.ref 1213),dE P "deed" 1950 (.ref 1220),dE P "back" 1958 (.ref 1227),dE P "again" 1966 (.ref 1234),dE P "say" 1974 (.ref 1241),dE P "__static_attributes__" 1976 (.ref 1242),dE P "__dict__" 1978 (.ref 1245),dE P "__weakref__" 1980 (.ref 1246),dE P "__doc__" 1981 (.none)] 4,#[]⟩,⟨.type "type",none,.cls ⟨"Office",[.type "object"],[.ref 1244,.type "object"],1243,"Office",true,[],[],false,none,false⟩,#[none,none,some (.str "Office" 1837),some (.str "Office" 1845),some (.builtin "object.__new__"),some (.bool true)]⟩,⟨.type "getset_descriptor",none,.fields #[.str "__dict__" 1977,.ref 1244,.builtin "function.__dict__",.builtin "function.__dict__#set"],#[]⟩,⟨.type "getset_descriptor",none,.fields #[.str "__weakref__" 1979,.ref 1244,.builtin "ExceptionGroup.__weakref__",.none],#[]⟩,kS 1244]
noncomputable def c52(P:Params):List Obj:=[kI 1244,cT,cF,cN 1989 ["_law_script"],cT,fI sI,cO sI 1986 758 0 1 1249 (.ref 1251) (.ref 1252) 1253 1991,fO sI u16 1984 1254,cT,cF,cN 1996 ["_law_box_here","_law_many","_law_rest","_law_cell","_law_seed"],cT,fI Ab,cO Ab 1993 760 0 2 1256 (.ref 1258) (.ref 1259) 1260 2002,fO Ab u16 1984 1261,cT,cF,fI GC,cP GC 2004 776 0 2 1263 2008,fO GC u16 1984 1266,cT,cF,cN 2013 ["_law_fen","_law_found"],cT]
noncomputable def c53(P:Params):List Obj:=[fI J4,cO J4 2010 786 0 1 1268 (.ref 1270) (.ref 1271) 1272 2016,fO J4 u16 1984 1273,cT,cF,cN 2021 ["_law_many","_law_some"],cT,fI Jl,cO Jl 2018 789 0 1 1275 (.ref 1277) (.ref 1278) 1279 2024,fO Jl u16 1984 1280,cT,cF,fI sG,cP sG 2026 803 0 1 1282 2030,fO sG u16 1984 1285]
noncomputable def oC(P:Params)(d c:Obj):List (List Obj):=[c0 P d c,c1 P,c2 P,c3 P,c4 P,c5 P,c6 P,c7 P,c8 P,c9 P,c10 P,c11 P,c12 P,c13 P,c14 P,c15 P,c16 P,c17 P,c18 P,c19 P,c20 P,c21 P,c22 P,c23 P,c24 P,c25 P,c26 P,c27 P,c28 P,c29 P,c30 P,c31 P,c32 P,c33 P,c34 P,c35 P,c36 P,c37 P,c38 P,c39 P,c40 P,c41 P,c42 P,c43 P,c44 P,c45 P,c46 P,c47 P,c48 P,c49 P,c50 P,c51 P,c52 P,c53 P]
def oB(P:Params)(d c:Obj):List Obj:=(oC P d c).flatten
def gO(P:Params)(i:Nat):Obj:=((oC P cT cT).getD (Nat.div i 24) []).getD (Nat.mod i 24) cT
def tQ(P:Params)(n:Nat)(d c:Obj):BT:=((bT (gO P) n 12 1 0).set 3 λ_=>d).set 12 λ_=>c
noncomputable def e3(P:Params):List DictEntry:=[dE P "__doc__" 166 (.none),dE P "__package__" 167 (.none),dE P "__loader__" 168 (.builtin "__main__.__loader__#opaque"),dE P "__spec__" 169 (.none),dE P "__annotations__" 170 (.ref 6),dE P "__builtins__" 171 (.ref 4),dE P "__file__" 173 (.str "/claim/cut.py" 172),dE P "__cached__" 174 (.none),dE P "_wall" 193 (.ref 21),dE P "FenError" 213 (.ref 31),dE P "BadName" 229 (.ref 44),dE P "Taken" 245 (.ref 56),dE P "Full" 261 (.ref 68),dE P "NoMark" 277 (.ref 80),dE P "NoHand" 293 (.ref 92),dE P "Same" 309 (.ref 104),dE P "BadRise" 325 (.ref 116),dE P "NoRun" 341 (.ref 128),dE P "Aside" 357 (.ref 140),dE P "NotAside" 373 (.ref 152),dE P "BadNumber" 389 (.ref 164),dE P "NothingLeft" 405 (.ref 176),dE P "Steady" 421 (.ref 188),dE P "NoDeed" 437 (.ref 200),dE P "Known" 453 (.ref 212),dE P "NoFen" 469 (.ref 224),dE P "Settled" 485 (.ref 236),dE P "NoPage" 510 (.ref 255),dE P "LETTERS" 514 (.str "abcdefghijklmnopqrstuvwxyz" 513),dE P "FIGURES" 516 (.str "0123456789" 515),dE P "LONGEST_NAME" 518 (.int 8 517),dE P "LONGEST_NUMBER" 520 (.int 10 519),dE P "is_made_of" 526 (.ref 262),dE P "is_name" 533 (.ref 269),dE P "is_number" 540 (.ref 276),dE P "is_rise" 547 (.ref 283),dE P "marks_of" 555 (.ref 288),dE P "turns_of" 561 (.ref 293),dE P "next_stand" 569 (.ref 300),dE P "last_stand" 578 (.ref 307),dE P "by_numbers" 595 (.ref 314),dE P "hands_by_names" 601 (.ref 319),dE P "reading_by_names" 611 (.ref 326),dE P "paper_by_names" 617 (.ref 331),dE P "groups_by_names" 623 (.ref 336),dE P "MOST_STANDS" 627 (.int 12 626),dE P "MOST_HANDS" 629 (.int 10 628),dE P "MOST_RUNS" 631 (.int 40 630),dE P "MOST_FALSE" 633 (.int 3 632),dE P "HIGHEST_RISE" 635 (.int 1000000000 634),dE P "empty_book" 641 (.ref 343),dE P "with_entry" 651 (.ref 350),dE P "with_new_stand" 660 (.ref 357),dE P "need_hand" 668 (.ref 364),dE P "need_rise" 675 (.ref 371),dE P "need_run" 681 (.ref 376),dE P "mark_entered" 691 (.ref 383),dE P "hand_entered" 702 (.ref 390),dE P "run_entered" 721 (.ref 397),dE P "run_struck" 727 (.ref 402),dE P "run_mended" 733 (.ref 407),dE P "mark_settled" 745 (.ref 414),dE P "hand_set_aside" 755 (.ref 421),dE P "hand_heeded" 761 (.ref 426),dE P "number_allowed" 771 (.ref 433),dE P "ACTIONS" 790 (.ref 434),dE P "book_behind" 799 (.ref 441),dE P "steps_from" 807 (.ref 446),dE P "tree_from" 824 (.ref 453),dE P "trees_of" 838 (.ref 460),dE P "hands_of" 846 (.ref 465),dE P "left" 852 (.ref 470),dE P "holds" 858 (.ref 475),dE P "groups" 864 (.ref 480),dE P "flat" 877 (.ref 487),dE P "lists_of" 885 (.ref 492),dE P "false_sets" 898 (.ref 499),dE P "false_sets_readings" 899 (.ref 499),dE P "reading" 912 (.ref 506),dE P "least" 922 (.ref 513),dE P "least_readings" 923 (.ref 513),dE P "line_hands" 931 (.ref 518),dE P "some_line" 945 (.ref 525),dE P "across" 954 (.ref 532),dE P "open_ring" 974 (.ref 539),dE P "paper_without" 982 (.ref 544),dE P "some_paper" 993 (.ref 551),dE P "none_paper" 1002 (.ref 558),dE P "lifted" 1017 (.ref 565),dE P "readings_to_compare" 1031 (.ref 572),dE P "rise_between" 1040 (.ref 579),dE P "told" 1057 (.ref 586),dE P "places" 1063 (.ref 591),dE P "sure_groups" 1069 (.ref 596),dE P "parts" 1082 (.ref 603),dE P "parting" 1096 (.ref 610),dE P "parting_parting" 1097 (.ref 610),dE P "rows_that_count" 1105 (.ref 615),dE P "runs_that_count" 1112 (.ref 622),dE P "place_of" 1121 (.ref 629),dE P "told_between" 1130 (.ref 636),dE P "told_of" 1139 (.ref 643),dE P "without_proof" 1146 (.ref 650),dE P "Fen" 1434 (.ref 878),dE P "fen_of" 1443 (.ref 889),dE P "FIRST_ROW" 1447 (.str "fen" 1446),dE P "FORMS" 1479 (.ref 890),dE P "deed_text" 1485 (.ref 904),dE P "is_written_as" 1493 (.ref 911),dE P "deed_of" 1499 (.ref 916),dE P "page" 1505 (.ref 921),dE P "page_pages" 1506 (.ref 921),dE P "fen_from" 1517 (.ref 928),dE P "LENGTHS" 1571 (.ref 929),dE P "is_deed" 1578 (.ref 936),dE P "is_form" 1585 (.ref 943),dE P "parts_text" 1591 (.ref 948),dE P "names_text" 1598 (.ref 955),dE P "rows_text" 1605 (.ref 962),dE P "hands_text" 1612 (.ref 969),dE P "answer_open" 1620 (.ref 976),dE P "answer_copy" 1628 (.ref 983),dE P "answer_close" 1636 (.ref 990),dE P "answer_join" 1644 (.ref 997),dE P "answer_names" 1652 (.ref 1004),dE P "answer_in" 1661 (.ref 1011),dE P "answer_back" 1669 (.ref 1018),dE P "answer_again" 1677 (.ref 1025),dE P "answer_marks" 1685 (.ref 1032),dE P "answer_hands" 1693 (.ref 1039),dE P "answer_asides" 1701 (.ref 1046),dE P "answer_runs" 1707 (.ref 1051),dE P "answer_least" 1715 (.ref 1058),dE P "answer_height" 1723 (.ref 1065),dE P "answer_sank" 1731 (.ref 1072),dE P "answer_false" 1737 (.ref 1077),dE P "answer_groups" 1743 (.ref 1082),dE P "answer_parting" 1752 (.ref 1089),dE P "ANSWERS" 1789 (.ref 1090),dE P "answer_or_refusal" 1798 (.ref 1098),dE P "answer" 1807 (.ref 1105),dE P "has_settled" 1816 (.ref 1112),dE P "each_once" 1822 (.ref 1117),dE P "joined_deeds" 1828 (.ref 1122),dE P "joined" 1836 (.ref 1129),dE P "Office" 1983 (.ref 1244),dE P "_law_box" 1992 (.ref 1255),dE P "_law_take" 2003 (.ref 1262),dE P "_law_same" 2009 (.ref 1267),dE P "_law_seen" 2017 (.ref 1274),dE P "_law_lines" 2025 (.ref 1281),dE P "law" 2031 (.ref 1286)]
def d3(P:Params)(x:Str)(t k:Nat):Obj:=⟨.type "dict",none,.dict (dE P "__name__" 165 (.str x t)::(e3 P).take k).toArray (k+1),#[]⟩
noncomputable def v4:List Value:=cV [(1,0,20),(5,0,27),(7,0,40),(9,0,52),(11,0,64),(13,0,76),(15,0,88),(17,0,100),(19,0,112),(21,0,124),(23,0,136),(25,0,148),(27,0,160),(29,0,172),(31,0,184),(33,0,196),(35,0,208),(37,0,220),(39,0,232),(41,0,244),(50,0,261),(52,0,268),(54,0,275),(56,0,282),(61,0,287),(63,0,292),(65,0,299),(67,0,306),(72,0,313),(77,0,318),(79,0,325),(82,0,330),(87,0,335),(100,0,342),(102,0,349),(106,0,356),(111,0,363),(114,0,370),(117,0,375),(120,0,382),(127,0,389),(137,0,396),(150,0,401),(154,0,406),(160,0,413),(164,0,420),(170,0,425),(176,0,432),(182,0,440),(186,0,445),(193,0,452),(206,0,459),(217,0,464),(219,0,469),(221,0,474),(223,0,479),(225,0,486),(234,0,491),(239,0,498),(248,0,505),(256,0,512),(261,0,517),(263,0,524),(269,0,531),(274,0,538),(285,0,543),(296,0,550),(298,0,557),(303,0,564),(310,0,571),(318,0,578),(320,0,585),(330,0,590),(337,0,595),(348,0,602),(350,0,609),(359,0,614),(361,0,621),(363,0,628),(366,0,635),(368,0,642),(370,0,649),(374,0,656),(515,0,888),(523,0,903),(525,0,910),(531,0,915),(540,0,920),(543,0,927),(556,0,935),(562,0,942),(568,0,947),(570,0,954),(574,0,961),(578,0,968),(582,0,975),(585,0,982),(588,0,989),(591,0,996),(594,0,1003),(596,0,1010),(601,0,1017),(604,0,1024),(607,0,1031),(609,0,1038),(611,0,1045),(613,0,1050),(615,0,1057),(617,0,1064),(619,0,1071),(621,0,1076),(623,0,1081),(628,0,1088),(634,0,1097),(670,0,1104),(676,0,1111),(678,0,1116),(680,0,1121),(692,0,1128),(696,0,1135),(758,0,1254),(760,0,1261),(776,0,1266),(786,0,1273),(789,0,1280),(803,0,1285)]
def d4(k:Nat):Obj:=⟨.none,none,.fields (v4.take k).toArray,#[]⟩
def bE:List Stmt:=PySem.W.behindTheImports PySem.Challenge.pw_fenlevel_k52_refusals_in_words
noncomputable def eN:PySem.Env:={scope:=(PySem.Challenge.pw_fenlevel_k52_refusals_in_words).main.scope,locals:=mainNs,globals:=mainNs,cells:=[],code:=.ref 13,frame:=some 14}
def cB:Code:=.body bE eN
def fB:List Frame:=[topFrame ⟨0,0,0,0⟩]
def sA(w:PySem.World)(os:OsState):Shared:=⟨⟨⟨(oB w.params (d3 w.params "__main__" 164 8) (d4 0)).take 15⟩,{}⟩,#[],{},187,os⟩
def sB0(w:PySem.World)(os:OsState):SharedT:=⟨(tQ w.params 15 (d3 w.params "__main__" 164 8) (d4 0)),15,{},#[],{},187,os⟩
noncomputable def x31(n:Nat):Obj:=⟨.type "type",none,.cls ⟨"FenError",[.type "ValueError"],[.ref 31,.type "ValueError",.type "Exception",.type "BaseException",.type "object"],30,"FenError",true,[],(([.ref 44,.ref 56,.ref 68,.ref 80,.ref 92,.ref 104,.ref 116,.ref 128,.ref 140,.ref 152,.ref 164,.ref 176,.ref 188,.ref 200,.ref 212,.ref 224,.ref 236,.ref 255]:List Value).take n),false,none,false⟩,#[some (.ref 22),none,some (.str "FenError" 196),some (.str "FenError" 204),some (.builtin "ValueError.__new__"),some (.bool true)]⟩
noncomputable def sB1(w:PySem.World)(os:OsState):SharedT:=⟨((tQ w.params 167 (d3 w.params "fenlevel.errors" 194 21) (d4 39)).set 31 λ_=>x31 11),167,{},#[],{},390,os⟩
def G8(w:PySem.World)(os:OsState):SharedT:=⟨(tQ w.params 434 (d3 w.params "fenlevel.deeds" 624 65) (d4 144)),434,{},#[],{},772,os⟩
def FZ(w:PySem.World)(os:OsState):SharedT:=⟨(tQ w.params 435 (d3 w.params "fenlevel.deeds" 624 66) (d4 144)),435,{},#[],{},791,os⟩
def K8(w:PySem.World)(os:OsState):SharedT:=⟨(tQ w.params 890 (d3 w.params "fenlevel.pages" 1444 106) (d4 252)),890,{},#[],{},1448,os⟩
def K9(w:PySem.World)(os:OsState):SharedT:=⟨(tQ w.params 900 (d3 w.params "fenlevel.pages" 1444 107) (d4 252)),900,{},#[],{},1480,os⟩
def Gu(w:PySem.World)(os:OsState):SharedT:=⟨(tQ w.params 929 (d3 w.params "fenlevel.lines" 1518 113) (d4 267)),929,{},#[],{},1520,os⟩
def Ln(w:PySem.World)(os:OsState):SharedT:=⟨(tQ w.params 930 (d3 w.params "fenlevel.lines" 1518 114) (d4 267)),930,{},#[],{},1572,os⟩
def Kw(w:PySem.World)(os:OsState):SharedT:=⟨(tQ w.params 1090 (d3 w.params "fenlevel.lines" 1518 138) (d4 339)),1090,{},#[],{},1753,os⟩
def GD(w:PySem.World)(os:OsState):SharedT:=⟨(tQ w.params 1092 (d3 w.params "fenlevel.lines" 1518 139) (d4 339)),1092,{},#[],{},1790,os⟩
noncomputable def HD(w:PySem.World)(os:OsState):SharedT:=⟨(tQ w.params 1287 (d3 w.params "law_fenlevel_k52_refusals_in_words" 1984 152) (d4 378)),1287,{},#[],{},2032,os⟩
def hE(P:Params):Heap:=⟨⟨oB P (d3 P "law_fenlevel_k52_refusals_in_words" 1984 152) (d4 378)⟩,{}⟩
noncomputable def St0:Prop:=∀(w:PySem.World)(os:OsState),topGo treeTable PySem.Challenge.pw_fenlevel_k52_refusals_in_words w 11 (some (.ref 6)) 12 ⟨PySem.W.boot_heap w.params,Array.mk [],PySem.W.boot_drawn,PySem.W.boot_toks,os⟩ (topStub PySem.Challenge.pw_fenlevel_k52_refusals_in_words)=some (sA w os,⟨denote treeTable cB,cB,⟨0,0,0,0⟩,fB⟩)
noncomputable def St1:Prop:=∀(w:PySem.World)(os:OsState),segRun treeTable PySem.Challenge.pw_fenlevel_k52_refusals_in_words w 11 (some (.ref 6)) 1 1 (sA w os) (blockOf bE eN cB ⟨0,0,0,0⟩ fB)=some (.next,(sB0 w os).abs,cB,⟨0,0,0,0⟩)
noncomputable abbrev Sg(n a k:Nat)(s s':PySem.World->OsState->SharedT)(p q:Pos):Prop:=∀(w:PySem.World)(os:OsState),segRunT treeTable PySem.Challenge.pw_fenlevel_k52_refusals_in_words w 11 (some (.ref 6)) 1 n (s w os) (piecesOf ((bE.drop a).take k) eN cB p fB)=some (.next,s' w os,cB,q)
def St2:Prop:=Sg 2568 0 14 sB0 sB1 ⟨0,0,0,0⟩ ⟨27,0,28,8⟩
def St3:Prop:=Sg 2465 14 47 sB1 G8 ⟨27,0,28,8⟩ ⟨176,0,180,44⟩
noncomputable def St4f:Prop:=∀(w:PySem.World)(os:OsState),segRunT treeTable PySem.Challenge.pw_fenlevel_k52_refusals_in_words (w.withFollow "special-get-raises" false) 11 (some (.ref 6)) 1 155 (G8 (w.withFollow "special-get-raises" false) os) (piecesOf ((bE.drop 61).take 1) eN cB ⟨176,0,180,44⟩ fB)=some (.next,FZ (w.withFollow "special-get-raises" false) os,cB,⟨181,0,181,7⟩)
noncomputable def St4t:Prop:=∀(w:PySem.World)(os:OsState),segRunT treeTable PySem.Challenge.pw_fenlevel_k52_refusals_in_words (w.withFollow "special-get-raises" true) 11 (some (.ref 6)) 1 155 (G8 (w.withFollow "special-get-raises" true) os) (piecesOf ((bE.drop 61).take 1) eN cB ⟨176,0,180,44⟩ fB)=some (.next,FZ (w.withFollow "special-get-raises" true) os,cB,⟨181,0,181,7⟩)
def St5:Prop:=Sg 2434 62 49 FZ K8 ⟨181,0,181,7⟩ ⟨521,0,521,9⟩
noncomputable def St6f:Prop:=∀(w:PySem.World)(os:OsState),segRunT treeTable PySem.Challenge.pw_fenlevel_k52_refusals_in_words (w.withFollow "special-get-raises" false) 11 (some (.ref 6)) 1 168 (K8 (w.withFollow "special-get-raises" false) os) (piecesOf ((bE.drop 111).take 1) eN cB ⟨521,0,521,9⟩ fB)=some (.next,K9 (w.withFollow "special-get-raises" false) os,cB,⟨522,0,522,5⟩)
noncomputable def St6t:Prop:=∀(w:PySem.World)(os:OsState),segRunT treeTable PySem.Challenge.pw_fenlevel_k52_refusals_in_words (w.withFollow "special-get-raises" true) 11 (some (.ref 6)) 1 168 (K8 (w.withFollow "special-get-raises" true) os) (piecesOf ((bE.drop 111).take 1) eN cB ⟨521,0,521,9⟩ fB)=some (.next,K9 (w.withFollow "special-get-raises" true) os,cB,⟨522,0,522,5⟩)
def St7:Prop:=Sg 161 112 7 K9 Gu ⟨522,0,522,5⟩ ⟨554,0,554,8⟩
noncomputable def St8f:Prop:=∀(w:PySem.World)(os:OsState),segRunT treeTable PySem.Challenge.pw_fenlevel_k52_refusals_in_words (w.withFollow "special-get-raises" false) 11 (some (.ref 6)) 1 267 (Gu (w.withFollow "special-get-raises" false) os) (piecesOf ((bE.drop 119).take 1) eN cB ⟨554,0,554,8⟩ fB)=some (.next,Ln (w.withFollow "special-get-raises" false) os,cB,⟨555,0,555,7⟩)
noncomputable def St8t:Prop:=∀(w:PySem.World)(os:OsState),segRunT treeTable PySem.Challenge.pw_fenlevel_k52_refusals_in_words (w.withFollow "special-get-raises" true) 11 (some (.ref 6)) 1 267 (Gu (w.withFollow "special-get-raises" true) os) (piecesOf ((bE.drop 119).take 1) eN cB ⟨554,0,554,8⟩ fB)=some (.next,Ln (w.withFollow "special-get-raises" true) os,cB,⟨555,0,555,7⟩)
def St9:Prop:=Sg 702 120 24 Ln Kw ⟨555,0,555,7⟩ ⟨628,0,632,28⟩
noncomputable def St10f:Prop:=∀(w:PySem.World)(os:OsState),segRunT treeTable PySem.Challenge.pw_fenlevel_k52_refusals_in_words (w.withFollow "special-get-raises" false) 11 (some (.ref 6)) 1 312 (Kw (w.withFollow "special-get-raises" false) os) (piecesOf ((bE.drop 144).take 1) eN cB ⟨628,0,632,28⟩ fB)=some (.next,GD (w.withFollow "special-get-raises" false) os,cB,⟨633,0,633,7⟩)
noncomputable def St10t:Prop:=∀(w:PySem.World)(os:OsState),segRunT treeTable PySem.Challenge.pw_fenlevel_k52_refusals_in_words (w.withFollow "special-get-raises" true) 11 (some (.ref 6)) 1 312 (Kw (w.withFollow "special-get-raises" true) os) (piecesOf ((bE.drop 144).take 1) eN cB ⟨628,0,632,28⟩ fB)=some (.next,GD (w.withFollow "special-get-raises" true) os,cB,⟨633,0,633,7⟩)
def St11:Prop:=Sg 1042 145 15 GD HD ⟨633,0,633,7⟩ ⟨803,0,829,59⟩
abbrev ZS(w:PySem.World)(os:OsState):Shared:=⟨hE w.params,#[],{},2032,os⟩
noncomputable def St12:Prop:=∀(w:PySem.World)(os:OsState),topRun treeTable PySem.Challenge.pw_fenlevel_k52_refusals_in_words w 11 (some (.ref 6)) 2 (HD w os).abs ⟨doneF .next,cB,⟨803,0,829,59⟩,fB⟩=some (ZS w os)
noncomputable def vw:Program:={PySem.Challenge.pw_fenlevel_k52_refusals_in_words with main:={(PySem.Challenge.pw_fenlevel_k52_refusals_in_words).main with body:=[top 0,top 2,top 3,top 4,top 5,top 6,top 7,top 8,top 9,top 10,top 11,top 12,top 13,top 14,top 15,top 16,top 17,top 18,top 19,top 20,top 22,top 23,top 24,top 25,top 26,top 27,top 28,top 29,top 31,top 32,top 33,top 34,top 35,top 36,top 37,top 38,top 39,top 41,top 42,top 43,top 44,top 45,top 46,top 47,top 48,top 49,top 50,top 51,top 52,top 53,top 54,top 55,top 56,top 57,top 58,top 59,top 60,top 61,top 62,top 64,top 65,top 66,top 68,top 69,top 70,top 71,top 72,top 74,top 75,top 76,top 77,top 78,top 79,top 81,top 82,top 83,top 84,top 86,top 87,top 88,top 90,top 91,top 92,top 93,top 94,top 95,top 97,top 98,top 99,top 101,top 102,top 103,top 104,top 105,top 106,top 107,top 108,top 110,top 111,top 112,top 113,top 114,top 115,top 116,top 117,top 119,top 120,top 121,top 122,top 123,top 124,top 125,top 126,top 127,top 128,top 129,top 130,top 131,top 132,top 133,top 134,top 135,top 136,top 137,top 138,top 139,top 140,top 141,top 142,top 143,top 144,top 145,top 146,top 148,top 149,top 150,top 151,top 152,top 154,top 155,top 156,top 157,top 158,top 159]}}
noncomputable def hA:List Addr:=[3,261,262,268,269,275,276,282,283,287,288,292,293,299,300,306,307,342,343,349,350,356,357,363,364,370,371,375,376,382,383,389,390,396,397,401,402,406,407,413,414,420,421,425,426,432,433,440,441,614,615,628,629,635,636,642,643,649,650,888,889,910,911,915,916,935,936,942,943,947,948,968,969,975,976,982,983,989,990,996,997,1010,1011,1024,1025,1064,1065,1071,1072,1088,1089,1097,1098,1104,1105,1111,1112,1116,1117,1121,1122,1128,1129,1254,1255,1261,1262,1266,1267,1273,1274,1280,1281,1285,1286,663,664,670,671,740,741,747,748,754,755,761,762,768,769,775,776,782,783,787,788,794,795,801,802,808,809,813,814,820,821,841,842,867,868,1142,1143,1149,1150,1156,1157,1163,1164,1177,1178,1184,1185,1191,1192,1198,1199,1205,1206,1219,1220,1226,1227,1233,1234,1240,1241,24,29,30,29,31,37,42,43,42,44,49,54,55,54,56,61,66,67,66,68,73,78,79,78,80,85,90,91,90,92,97,102,103,102,104,109,114,115,114,116,121,126,127,126,128,133,138,139,138,140,145,150,151,150,152,157,162,163,162,164,169,174,175,174,176,181,186,187,186,188,193,198,199,198,200,205,210,211,210,212,217,222,223,222,224,229,234,235,234,236,241,253,254,253,255,434,653,876,877,876,878,890,891,892,893,894,895,896,897,898,899,929,1090,1091,1132,1242,1243,1242,1244]
def hK(P:Params):List (Nat×Obj):=hA.map λa=>(a,bif Nat.beq a 3 then d3 P "law_fenlevel_k52_refusals_in_words" 1984 152 else gO P a)
def hH:PySem.W.Hook:=kHook hK hA (λ_=>by left)
def xT(s:Shared):Bool:=xlAt vw [] s&&recOk (RowW.records (PySem.Challenge.rw_fenlevel_k52_refusals_in_words).row.toRowW) s
noncomputable def StZ:Prop:=∀w:PySem.World,((PySem.W.boot_heap w.params).isNs mainGlobals&&(Array.mk []:Array GenState).size==0,(PySem.W.boot_heap w.params).objs.size,(PySem.W.boot_heap w.params).nsMap mainGlobals "__annotations__")=(true,11,some (.ref 6))
noncomputable def StA:Prop:=∀(w:PySem.World)(os:OsState),(staticsOk (importedModules (PySem.Challenge.pw_fenlevel_k52_refusals_in_words).main.body) (PySem.W.boot_heap w.params) (hE w.params)&&namesBound PySem.Challenge.pw_fenlevel_k52_refusals_in_words (hE w.params)&&gensDone (ZS w os)&&laidKept (PySem.W.boot_heap w.params) (hE w.params))=true
noncomputable def StB0:Prop:=∀(w:PySem.World)(os:OsState),seen (List.map (λx=>x.name) (recsOf vw)) (ownsOf vw) [] {heap:=(ZS w os).heap,drawn:=(ZS w os).drawn,toks:=(ZS w os).toks,os:=(ZS w os).os}=expectedOf vw
def StB1:Prop:=∀(w:PySem.World)(os:OsState),(ZS w os).heap.bltView=bltViewBooted
abbrev ZL:List Str:=["ACTIONS","false_sets_readings","least_readings","parting_parting","FORMS","page_pages","LENGTHS","ANSWERS"]
noncomputable def StB2:Prop:=∀(w:PySem.World)(os:OsState),((ZS w os).heap.keysOk (looseW vw ZL) (List.map (λx=>x.name) (recsOf vw)) (List.map (λx=>x.fst) (litsOf vw)) (List.map (λx=>x.name) (clssOf vw (looseW vw ZL)))&&(ZS w os).heap.accountedOkI (importedModules (PySem.Challenge.pw_fenlevel_k52_refusals_in_words).main.body)&&(ZS w os).heap.isNs mainGlobals&&(ZS w os).heap.isNs builtinsNs&&tablesOk vw (ZS w os).heap&&xT (ZS w os)&&if true=true then(ZS w os).gens.size==0 else !leftWithCleanup (ZS w os).gens)=true
def StB3:Prop:=∀(w:PySem.World)(os:OsState),tabsOk vw (ZS w os)=true
def StB4:Prop:=∀(w:PySem.World)(os:OsState),pinSeenD vw (drecsOf vw) (ZS w os)=pinGoodD (drecsOf vw)
noncomputable def StB5:Prop:=∀(w:PySem.World)(os:OsState),plainSeenE vw (looseW vw ZL) (ZS w os)=plainGoodE vw (looseW vw ZL)
noncomputable def StB6:Prop:=∀(w:PySem.World)(os:OsState),plainSeenD vw ZL (ZS w os)=plainGoodD vw ZL
def StB7:Prop:=∀(w:PySem.World)(os:OsState),wideSeen vw (ZS w os)=wideGood vw
noncomputable def StB8:Prop:=∀(w:PySem.World)(os:OsState),clsSeenW vw ZL (ZS w os)=clsGoodW vw ZL
def StC:Prop:=∀(w:PySem.World)(os:OsState),hH.obs (ZS w os)=hH.val w
def pr0:(Function.const Prop true (St0/\St1/\St2/\St3/\St4f/\St4t/\St5/\St6f/\St6t/\St7/\St8f/\St8t/\St9/\St10f/\St10t/\St11/\St12/\StZ/\StA/\StC/\StB0/\StB1/\StB2/\StB3/\StB4/\StB5/\StB6/\StB7/\StB8))=true:=by k_qdec
def thB0:StB0:=PySem.W.Fast.te16712540127745682568.mpr (λ_ _=>by left)
def thB5:StB5:=PySem.W.Fast.te14736738506286536821.mpr (λ_ _=>by left)
def thB1:StB1:=PySem.W.Fast.te9537947621804818233.mpr (λ_ _=>by left)
def thB2:StB2:=PySem.W.Fast.te6993315812243800469.mpr (λ_ _=>by left)
def thB3:StB3:=PySem.W.Fast.te11528826059950916358.mpr (λ_ _=>by left)
def thB4:StB4:=PySem.W.Fast.te10105630229643876845.mpr (λ_ _=>by left)
def thB6:StB6:=PySem.W.Fast.te7690871981798463819.mpr (λ_ _=>by left)
def thB7:StB7:=PySem.W.Fast.te7594569300429222660.mpr (λ_ _=>by left)
def thB8:StB8:=PySem.W.Fast.te15082058975717902005.mpr (λ_ _=>by left)
def th0:St0:=PySem.W.Fast.te937873346748051313.mpr (λ_ _=>by left)
def th1:St1:=PySem.W.Fast.te13982121027552719780.mpr (λ_ _=>by left)
def th2:St2:=PySem.W.Fast.te10105581574835445100.mpr (λ_ _=>by left)
def th3:St3:=PySem.W.Fast.te16437609458486848278.mpr (λ_ _=>by left)
def th4f:St4f:=PySem.W.Fast.te6944738681326951792.mpr (λ_ _=>by left)
def th4t:St4t:=PySem.W.Fast.te7567888393959558463.mpr (λ_ _=>by left)
def th5:St5:=PySem.W.Fast.te6988618110474044161.mpr (λ_ _=>by left)
def th6f:St6f:=PySem.W.Fast.te11863049994404413770.mpr (λ_ _=>by left)
def th6t:St6t:=PySem.W.Fast.te14042466156059391291.mpr (λ_ _=>by left)
def th7:St7:=PySem.W.Fast.te529641759280289813.mpr (λ_ _=>by left)
def th8f:St8f:=PySem.W.Fast.te4254747769804419317.mpr (λ_ _=>by left)
def th8t:St8t:=PySem.W.Fast.te1892728792605207102.mpr (λ_ _=>by left)
def th9:St9:=PySem.W.Fast.te4606531515639888929.mpr (λ_ _=>by left)
def zxZ:St10f:=PySem.W.Fast.te15317324401260120624.mpr (λ_ _=>by left)
def zx1:St10t:=PySem.W.Fast.te1685086602369919322.mpr (λ_ _=>by left)
def th11:St11:=PySem.W.Fast.te5240782450552466234.mpr (λ_ _=>by left)
def th12:St12:=PySem.W.Fast.te7108782601475264861.mpr (λ_ _=>by left)
def thZ:StZ:=PySem.W.Fast.te16988565736444548789.mpr (λ_=>by left)
def thA:StA:=PySem.W.Fast.te17744963595637626835.mpr (λ_ _=>by left)
def thC:StC:=PySem.W.Fast.te1647357278597937641.mpr (λ_ _=>by left)
def th4:∀(w:PySem.World)(os:OsState),segRunT treeTable PySem.Challenge.pw_fenlevel_k52_refusals_in_words w 11 (some (.ref 6)) 1 155 (G8 w os) (piecesOf ((bE.drop 61).take 1) eN cB ⟨176,0,180,44⟩ fB)=some (.next,FZ w os,cB,⟨181,0,181,7⟩):=λw=>byRow2 "special-get-raises" (P:=λw=>∀os:OsState,segRunT treeTable PySem.Challenge.pw_fenlevel_k52_refusals_in_words w 11 (some (.ref 6)) 1 155 (G8 w os) (piecesOf ((bE.drop 61).take 1) eN cB ⟨176,0,180,44⟩ fB)=some (.next,FZ w os,cB,⟨181,0,181,7⟩)) (λw=>th4f w) (λw=>th4t w) w
def th6:∀(w:PySem.World)(os:OsState),segRunT treeTable PySem.Challenge.pw_fenlevel_k52_refusals_in_words w 11 (some (.ref 6)) 1 168 (K8 w os) (piecesOf ((bE.drop 111).take 1) eN cB ⟨521,0,521,9⟩ fB)=some (.next,K9 w os,cB,⟨522,0,522,5⟩):=λw=>byRow2 "special-get-raises" (P:=λw=>∀os:OsState,segRunT treeTable PySem.Challenge.pw_fenlevel_k52_refusals_in_words w 11 (some (.ref 6)) 1 168 (K8 w os) (piecesOf ((bE.drop 111).take 1) eN cB ⟨521,0,521,9⟩ fB)=some (.next,K9 w os,cB,⟨522,0,522,5⟩)) (λw=>th6f w) (λw=>th6t w) w
def th8:∀(w:PySem.World)(os:OsState),segRunT treeTable PySem.Challenge.pw_fenlevel_k52_refusals_in_words w 11 (some (.ref 6)) 1 267 (Gu w os) (piecesOf ((bE.drop 119).take 1) eN cB ⟨554,0,554,8⟩ fB)=some (.next,Ln w os,cB,⟨555,0,555,7⟩):=λw=>byRow2 "special-get-raises" (P:=λw=>∀os:OsState,segRunT treeTable PySem.Challenge.pw_fenlevel_k52_refusals_in_words w 11 (some (.ref 6)) 1 267 (Gu w os) (piecesOf ((bE.drop 119).take 1) eN cB ⟨554,0,554,8⟩ fB)=some (.next,Ln w os,cB,⟨555,0,555,7⟩)) (λw=>th8f w) (λw=>th8t w) w
def th10:∀(w:PySem.World)(os:OsState),segRunT treeTable PySem.Challenge.pw_fenlevel_k52_refusals_in_words w 11 (some (.ref 6)) 1 312 (Kw w os) (piecesOf ((bE.drop 144).take 1) eN cB ⟨628,0,632,28⟩ fB)=some (.next,GD w os,cB,⟨633,0,633,7⟩):=λw=>byRow2 "special-get-raises" (P:=λw=>∀os:OsState,segRunT treeTable PySem.Challenge.pw_fenlevel_k52_refusals_in_words w 11 (some (.ref 6)) 1 312 (Kw w os) (piecesOf ((bE.drop 144).take 1) eN cB ⟨628,0,632,28⟩ fB)=some (.next,GD w os,cB,⟨633,0,633,7⟩)) (λw=>zxZ w) (λw=>zx1 w) w
def gr{tb:String->Option Builtin}{p:Program}{w:PySem.World}{n₀:Nat}{ann:Option Value}{env:PySem.Env}{q:Pos}{n N:Nat}{s s' r:Shared}{c:Code}{pos p':Pos}(l:List Stmt)(a k:Nat)(h:segRun tb p w n₀ ann 1 n s (piecesOf ((l.drop a).take k) env c pos [topFrame q])=some (.next,s',c,p'))
  (z:topRun tb p w n₀ ann N s' (restOf (l.drop (a+k)) env c p' [topFrame q])=some r):topRun tb p w n₀ ann (n+N) s (restOf (l.drop a) env c pos [topFrame q])=some r:=by
 have:=piece_app (rest:=(l.drop a).drop k) h (by rw[List.drop_drop];exact z)
 rwa[List.take_append_drop]at this
def zvd:bE.drop 160=[]:=by left
def zuK:∀(w:PySem.World)(os:OsState),topRun treeTable PySem.Challenge.pw_fenlevel_k52_refusals_in_words w 11 (some (.ref 6)) (12+(1+(2568+(2465+(155+(2434+(168+(161+(267+(702+(312+(1042+2)))))))))))) ⟨PySem.W.boot_heap w.params,Array.mk [],PySem.W.boot_drawn,PySem.W.boot_toks,os⟩ (topStub PySem.Challenge.pw_fenlevel_k52_refusals_in_words)=some (ZS w os):=λw os=>
 go_top (th0 w os) (piece_block (th1 w os) (gr bE 0 14 (vR (th2 w os)) (gr bE 14 47 (vR (th3 w os)) (gr bE 61 1 (vR (th4 w os)) (gr bE 62 49 (vR (th5 w os)) (gr bE 111 1 (vR (th6 w os)) (gr bE 112 7 (vR (th7 w os)) (gr bE 119 1 (vR (th8 w os)) (gr bE 120 24 (vR (th9 w os)) (gr bE 144 1 (vR (th10 w os)) (gr bE 145 15 (vR (th11 w os)) (by rw[zvd];exact piece_nil (th12 w os)))))))))))))
def Az:LeftO PySem.Challenge.pw_fenlevel_k52_refusals_in_words vw ZL xT hH.obs hH.val 20654:=
 LeftO.of_pieces (boot_open (by left) (by left) (λ_=>by left)) thZ zuK (by left) λw=>funext λos=>looks_pair (thA w os) (looks_pair (show openSeen vw ZL (importedModules (PySem.Challenge.pw_fenlevel_k52_refusals_in_words).main.body) xT true (ZS w os)=openGood vw ZL from congr (congrArg Prod.mk (thB0 w os)) (congr (congrArg Prod.mk (thB1 w os)) (congr (congrArg Prod.mk (thB2 w os)) (congr (congrArg Prod.mk (thB3 w os)) (congr (congrArg Prod.mk (thB4 w os)) (congr (congrArg Prod.mk (thB5 w os)) (congr (congrArg Prod.mk (thB6 w os)) (congr (congrArg Prod.mk (thB7 w os)) (thB8 w os))))))))) (thC w os))
end
end Hd
namespace L2
open PySem PySem.Spec PyProof.Rows
abbrev Key:=Sum Int Str
def An:Key->Value->Bool
 |.inl k,v=>Value.isInt k v
 |.inr x,v=>Value.isStrOf x v
def keyH(w:World):Key->Int
 |.inl k=>hashInt k
 |.inr x=>hashStr w x
def wk:∀{k:Key}{v:Value},An k v=true->(∃i t,k=Sum.inl i/\v=Value.int i t)\/(∃x t,k=Sum.inr x/\v=Value.str x t)
 |.inl i,v,h=>by
  obtain⟨t,e⟩:=Value.isInt_shape h;exact .inl ⟨i,t,rfl,e⟩
 |.inr x,v,h=>by
  obtain⟨t,e⟩:=Value.isStrOf_shape h;exact .inr ⟨x,t,rfl,e⟩
def zqg(i:Int)(t:Tok):An (.inl i) (.int i t)=true:=by simp[An,Value.isInt]
def ziD(x:Str)(t:Tok):An (.inr x) (.str x t)=true:=by simp[An,Value.isStrOf]
def zwv(a b:Int):decide ((Sum.inl a:Key)=Sum.inl b)=(a==b):=by
 by_cases e:a=b
 .subst e;simp
 .have h:¬ (Sum.inl a:Key)=Sum.inl b:=λq=>e (Sum.inl.inj q);rw[jq h];exact(YAE.mpr e).symm
def zvZ(a b:Str):decide ((Sum.inr a:Key)=Sum.inr b)=decide (a=b):=by simp
def zxA(a:Int)(b:Str):decide ((Sum.inl a:Key)=Sum.inr b)=false:=rfl
def zvu(a:Str)(b:Int):decide ((Sum.inr a:Key)=Sum.inl b)=false:=rfl
def lX(prog:Program)(w:World):PySem.KeyKind prog w Key where
 is:=An
 hash:=keyH w
 inj:=λv a b ha hb=>by
  rcases wk ha with⟨i,t,rfl,rfl⟩|⟨x,t,rfl,rfl⟩
  .rcases wk hb with⟨j,u,rfl,e⟩|⟨y,u,rfl,e⟩
   .injection e with e1 _;rw[e1]
   .exact nomatch e
  .rcases wk hb with⟨j,u,rfl,e⟩|⟨y,u,rfl,e⟩
   .exact nomatch e
   .injection e with e1 _;rw[e1]
 byValue:=λk v h=>by
  rcases wk h with⟨i,t,rfl,rfl⟩|⟨x,t,rfl,rfl⟩<;>rfl
 pyHash:=λhv h=>by
  rcases wk hv with⟨i,t,rfl,rfl⟩|⟨x,t,rfl,rfl⟩
  .exact wpAny_pyHash_int h
  .exact wpAny_pyHash_str h
 eqBool:=λhu hv h=>by
  rcases wk hu with⟨i,t,rfl,rfl⟩|⟨x,t,rfl,rfl⟩
  .rcases wk hv with⟨j,u,rfl,rfl⟩|⟨y,u,rfl,rfl⟩
   .rw[zwv]at h;exact wpAny_eqBool_int h
   .rw[zxA]at h;exact SeqAt.EqAt.int_str i t y u _ _ _ _ h
  .rcases wk hv with⟨j,u,rfl,rfl⟩|⟨y,u,rfl,rfl⟩
   .rw[zvu]at h;exact SeqAt.EqAt.str_int x t j u _ _ _ _ h
   .rw[zvZ]at h;exact wpAny_eqBool_str h
 «strs»:=λk x t v h=>by
  rcases wk h with⟨i,u,rfl,e⟩|⟨y,u,rfl,e⟩
  .exact nomatch e
  .injection e with e1 _
   subst e1;cases v<;>rfl
def zmS(prog:Program)(w:World)(i:Int)(t:Tok):(lX prog w).is (.inl i) (.int i t)=true:=zqg i t
def zmE(prog:Program)(w:World)(x:Str)(t:Tok):(lX prog w).is (.inr x) (.str x t)=true:=ziD x t
inductive V where
 |non|bl (b:Bool)|int (i:Int)|str (x:Str)|byt (b:Array UInt8)|flt (b:UInt64)|ref (a:Addr)|ty (n:String)
 deriving DecidableEq
def RelV:V->Value->Prop
 |.non,u=>u=Value.none
 |.bl b,u=>u=Value.bool b
 |.int i,u=>∃t,u=Value.int i t
 |.str x,u=>∃t,u=Value.str x t
 |.byt b,u=>∃t,u=Value.bytes b t
 |.flt b,u=>∃t,u=Value.float b t
 |.ref a,u=>u=Value.ref a
 |.ty n,u=>u=Value.type n
abbrev Vals:List V->List Value->Prop:=Paired RelV
theorem Vals.length{xs:List V}{us:List Value}(r:Vals xs us):xs.length=us.length:=Paired.length r
theorem Vals.get:∀{xs:List V}{us:List Value}{i:Nat}{x:V},Vals xs us->xs[i]?=some x->∃u,us[i]?=some u/\RelV x u
 |_,_,_,_,.nil,e=>by simp at e
 |_,_,0,_,.cons r _,e=>by simp at e;subst e;exact⟨_,rfl,r⟩
 |_,_,i+1,x,.cons _ t,e=>by
  obtain⟨u,h1,h2⟩:=Vals.get t (by simpa using e);exact⟨u,by simpa using h1,h2⟩
theorem Vals.set(r:RelV x u):∀{xs:List V}{us:List Value}(i:Nat),Vals xs us->Vals (xs.set i x) (us.set i u)
 |_,_,_,.nil=>.nil
 |_,_,0,.cons _ t=>.cons r t
 |_,_,i+1,.cons q t=>.cons q (Vals.set r i t)
theorem Vals.append:∀{xs ys:List V}{us ws:List Value},Vals xs us->Vals ys ws->Vals (xs++ys) (us++ws)
 |_,_,_,_,.nil,s=>s
 |_,_,_,_,.cons r t,s=>.cons r (Vals.append t s)
theorem Vals.take:∀{xs:List V}{us:List Value}(n:Nat),Vals xs us->Vals (xs.take n) (us.take n)
 |_,_,0,_=>.nil
 |_,_,_+1,.nil=>.nil
 |_,_,n+1,.cons r t=>.cons r (Vals.take n t)
theorem Vals.drop:∀{xs:List V}{us:List Value}(n:Nat),Vals xs us->Vals (xs.drop n) (us.drop n)
 |_,_,0,r=>r
 |_,_,_+1,.nil=>.nil
 |_,_,n+1,.cons _ t=>Vals.drop n t
def gH:Option V->Option Value->Prop
 |some v,some u=>RelV v u
 |none,none=>True
 |_,_=>False
def KV{κ:Type}:List (κ×V)->List (κ×Value)->Prop:=Paired λ(p:κ×V) (q:κ×Value)=>p.1=q.1/\RelV p.2 q.2
def kV:Key->V
 |.inl i=>.int i
 |.inr x=>.str x
inductive HO where
 /-- a list -/
 |lst (xs:List V)
 /-- a tuple (never changes) -/
 |tup (xs:List V)
 /-- a dict whose keys are ints and texts;one whose keys are tuples of ints and texts (the empty one is both) -/
 |dK (kvs:List (Key×V))|dT (kvs:List (List Key×V))
 /-- a set of ints: its members,its size -/
 |set (S:Int->Bool) (n:Nat)
 /-- an instance of the class at C,its dict at dx,its attributes -/
 |ins (C dx:Addr) (fs:List (Str×V))
 /-- the dict of the instance at x -/
 |own (x:Addr)
 /-- the dict of an exception -/
 |xd (fs:List (Str×V))
 /-- a bound method,f of x -/
 |met (f x:Addr)
 /-- a range object lo,lo + 1,.. below hi -/
 |rng (lo hi:Int)
 /-- a thing that is known to the object (the script;a dict while a loop walks it): read,never written while it is so -/
 |pG (o:Obj) (u:HO)
 /-- a code object's table -/
 |tbl (ps:Array Value)
 /-- any o8 thing,by what is true of its one object (a def of one's own: SetO a S n:=HO.ext λh=>..) -/
 |ext (φ:Heap->Prop)
abbrev Hp:=Addr->Option HO
def upd(H:Hp)(a:Addr)(o:HO):Hp:=λb=>if b=a then some o else H b
def cG:upd H a o a=some o:=by unfold upd;rw[if_pos rfl]
def ao(h:b≠a):upd H a o b=H b:=by unfold upd;rw[if_neg h]
def zvn:upd (upd H a o) a u=upd H a u:=by
 funext b;unfold upd;split<;>rfl
def zxX{H:Hp}{a b:Addr}{o u:HO}(h:H a=some o)(h':H b=some u)(d:o≠u):a≠b:=by
 intro e;subst e;rw[h]at h';exact d (Option.some.inj h')
def mW{H:Hp}{a b:Addr}{o:HO}(h:H a=some o)(h':H b=none):a≠b:=by
 intro e;subst e;rw[h]at h';cases h'
def zn2{h:Heap}{u:Obj}(f:u.isFreed=false:=by rfl)(e:u.dict=none:=by rfl):∃o,(h.push u).get? h.objs.size=some o/\o.dict=none:=⟨u,lV _ f,e⟩
section
variable(P:Program)(w:World)
def cJ(H:Hp)(h:Heap)(a:Addr):HO->Prop
 |.lst xs=>xs.length<=sizeLine/\∃(its:List Value)(n:Nat),Vals xs its/\h.get? a=some {cls:=.type "list",data:=.seq its.toArray n}
 |.tup xs=>(xs.length<=sizeLine/\∃o,h.get? a=some o/\o.dict=none)/\∃its:List Value,Vals xs its/\IsTup h a its.toArray
 |.dK kvs=>kvs.length<=sizeLine/\(a==sysModules)=false/\∃vs,KV kvs vs/\h.DictOf (lX P w) a vs
 |.dT kvs=>kvs.length<=sizeLine/\(a==sysModules)=false/\∃xs:List (List Key×Addr×Value),
   Paired (λ(p:List Key×V) (q:List Key×Addr×Value)=>p.1=q.1/\H q.2.1=some (.tup (p.1.map kV))/\RelV p.2 q.2.2) kvs xs /\
   ∃o es ep,h.get? a=some o/\o.ExactDict/\o.data=.dict es ep/\es.toList=xs.map (entryOfKey (tupleKind (lX P w)))/\(xs.map (·.1)).Nodup
 |.set S n=>h.SetOf (intKind P w) a S n
 |.ins C dx fs=>H dx=some (.own a)/\fs.length<=1000/\dx≠a/\h.get? a=some (PySem.W.instObj C dx) /\
   ∃mA,h.Ns1 dx mA/\(∀f,gH (fs.lookup f) (mA f))/\PySem.Within mA (fs.map (·.1))
 |.own _=>∃o,h.get? a=some o
 |.xd fs=>∃mA,h.Ns1 a mA/\∀f,gH (fs.lookup f) (mA f)
 |.rng lo hi=>∃t u v,h.get? a=some {cls:=.type "range",data:=.fields #[.int lo t,.int hi u,.int 1 v]}
 |.pG o u=>h.get? a=some o/\cJ H h a u
 |.tbl ps=>h.get? a=some {cls:=.none,data:=.fields ps}
 |.met f x=>h.get? a=some (PySem.W.methodObj (.ref f) (.ref x))
 |.ext φ=>φ h/\(∃o,h.get? a=some o)/\∀h1 h2:Heap,φ h1->(∀o,h1.get? a=some o->h2.get? a=some o)->φ h2
def jj(H:Hp)(h:Heap):Prop:=∀a o,H a=some o->cJ P w H h a o
end
section
variable{P:Program}{w:World}{H H':Hp}{h h':Heap}{a:Addr}{o:HO}
theorem cJ.lt(x:cJ P w H h a o):a<h.objs.size:=by
 cases o with
 |lst xs=>obtain⟨_,_,_,_,e⟩:=x;exact dG e
 |tup xs=>obtain⟨_,_,_,p⟩:=x;exact p.lt
 |dK kvs=>obtain⟨_,_,_,_,o,_,_,e,_⟩:=x;exact dG e
 |dT kvs=>obtain⟨_,_,_,_,o,_,_,e,_⟩:=x;exact dG e
 |set S n=>obtain⟨o,_,_,_,e,_⟩:=x;exact dG e
 |ins C dx fs=>obtain⟨_,_,_,e,_⟩:=x;exact dG e
 |own y=>obtain⟨_,e⟩:=x;exact dG e
 |xd fs=>obtain⟨_,⟨_,_,_,e,_⟩,_⟩:=x;exact dG e
 |rng lo hi=>obtain⟨_,_,_,e⟩:=x;exact dG e
 |pG ob u=>obtain⟨e,_⟩:=x;exact dG e
 |tbl ps=>exact dG (x)
 |met f y=>exact dG (show h.get? a=some _ from x)
 |ext φ=>obtain⟨_,⟨_,e⟩,_⟩:=x;exact dG e
theorem Paired.mapP{α β:Type}{F G:α->β->Prop}:∀{l₁:List α}{l₂:List β},Paired F l₁ l₂->(∀a b,F a b->G a b)->Paired G l₁ l₂
 |_,_,.nil,_=>.nil
 |_,_,.cons r t,f=>.cons (f _ _ r) (Paired.mapP t f)
def cJ.stay(x:cJ P w H h a o)(k:∀b u,(b=a\/H b=some (.own a))->h.get? b=some u->h'.get? b=some u)
  (ho:∀b,H b=some (.own a)->H' b=some (.own a)) (ht:∀b xs,H b=some (.tup xs)->H' b=some (.tup xs)):cJ P w H' h' a o:=by
 induction o with
 |lst xs=>obtain⟨z,its,n,r,e⟩:=x;exact⟨z,its,n,r,k _ _ (.inl rfl) e⟩
 |tup xs=>obtain⟨⟨z,y,f,g⟩,its,r,ob,e,c⟩:=x;exact⟨⟨z,y,k _ _ (.inl rfl) f,g⟩,its,r,ob,k _ _ (.inl rfl) e,c⟩
 |dK kvs=>obtain⟨z,y,vs,r,ob,es,ep,e,c⟩:=x;exact⟨z,y,vs,r,ob,es,ep,k _ _ (.inl rfl) e,c⟩
 |dT kvs=>
  obtain⟨z,y,xs,r,ob,es,ep,e,c⟩:=x;exact⟨z,y,xs,Paired.mapP r λp q z=>⟨z.1,ht _ _ z.2.1,z.2.2⟩,ob,es,ep,k _ _ (.inl rfl) e,c⟩
 |set S n=>obtain⟨ob,es,ep,t,e,c⟩:=x;exact⟨ob,es,ep,t,k _ _ (.inl rfl) e,c⟩
 |ins C dx fs=>
  obtain⟨d,z,ne,e,mA,⟨od,es,ep,e2,c⟩,r⟩:=x;exact⟨ho _ d,z,ne,k _ _ (.inl rfl) e,mA,⟨od,es,ep,k _ _ (.inr d) e2,c⟩,r⟩
 |own y=>obtain⟨ob,e⟩:=x;exact⟨ob,k _ _ (.inl rfl) e⟩
 |xd fs=>obtain⟨mA,⟨od,es,ep,e,c⟩,r⟩:=x;exact⟨mA,⟨od,es,ep,k _ _ (.inl rfl) e,c⟩,r⟩
 |rng lo hi=>obtain⟨t,u,v,e⟩:=x;exact⟨t,u,v,k _ _ (.inl rfl) e⟩
 |pG ob u ih=>obtain⟨e,q⟩:=x;exact⟨k _ _ (.inl rfl) e,ih q⟩
 |tbl ps=>
  have e:=x;exact k a _ (.inl rfl) e
 |met f y=>
  have e:=x;exact k a _ (.inl rfl) e
 |ext φ=>obtain⟨p,⟨o,e⟩,st⟩:=x;exact⟨st _ _ p λo q=>k _ _ (.inl rfl) q,⟨o,k _ _ (.inl rfl) e⟩,st⟩
theorem jj.lt(x:jj P w H h)(e:H a=some o):a<h.objs.size:=(x a o e).lt
def jj.fresh(x:jj P w H h)(e:h.objs.size<=a):H a=none:=by
 cases q:H a with
 |none=>rfl
 |some u=>exact absurd (lg (x.lt q) e) (YAR _)
def jj.kept(x:jj P w H h)(k:∀b u,h.get? b=some u->h'.get? b=some u):jj P w H h':=λa o e=>
 (x a o e).stay (λb u _ q=>k b u q) (λ_ q=>q) λ_ _ q=>q
def jj.laid(x:jj P w H h)(k:∀b u,h.get? b=some u->h'.get? b=some u)(hp:h.objs.size<=a)(new:cJ P w (upd H a o) h' a o):jj P w (upd H a o) h':=λb u e=>by
 have hn:=x.fresh hp;by_cases hb:b=a
 .subst hb;rw[cG]at e;cases e;exact new
 .rw[ao hb]at e;exact(x b u e).stay (λc v _ q=>k c v q) (λc q=>by rw[ao (mW q hn)];exact q) λc xs q=>by rw[ao (mW q hn)];exact q
end
def Rd(H:Hp)(a:Addr)(u:HO):Prop:=H a=some u\/∃o,H a=some (.pG o u)
def Rd.ok{P:Program}{w:World}{H:Hp}{h:Heap}{a:Addr}{u:HO}(r:Rd H a u)(x:jj P w H h):cJ P w H h a u:=by
 rcases r with r|⟨o,r⟩
 .exact x a u r
 .obtain⟨_,q⟩:=x a _ r;exact q
def JN:Option HO->Prop
 |some (.lst _)=>True
 |some (.dK _)=>True
 |some (.dT _)=>True
 |some (.set _ _)=>True
 |some (.ins _ _ _)=>True
 |some (.ext _)=>True
 |_=>False
section
variable{P:Program}{w:World}{H:Hp}{h h':Heap}{x e:Addr}{o':HO}
def jj.write(ok:jj P w H h)(mu:JN (H x))(he:e=x\/H e=some (.own x))(k:∀b u,b≠e->h.get? b=some u->h'.get? b=some u)(heo:∃u,h'.get? e=some u)
  (new:cJ P w (upd H x o') h' x o'):jj P w (upd H x o') h':=λb u q=>by
 have nown:∀c y,H c=some (.own y)->c≠x:=λc y r z=>by subst z;rw[r]at mu;exact mu
 have ntup:∀c xs,H c=some (.tup xs)->c≠x:=λc xs r z=>by subst z;rw[r]at mu;exact mu
 by_cases hb:b=x
 .subst hb;rw[cG]at q;cases q;exact new
 .rw[ao hb]at q;by_cases hbe:b=e
  .have q':H b=some (.own x):=by
    rcases he with z|z
    .exact absurd (hbe.trans z) hb
    .rw[hbe];exact z
   rw[q]at q';cases q';obtain⟨v,hv⟩:=heo;exact⟨v,by rw[hbe];exact hv⟩
  .refine(ok b u q).stay (λc v hc r=>k c v ?_ r) (λc r=>by rw[ao (nown c b r)];exact r) λc xs r=>by rw[ao (ntup c xs r)];exact r
   rcases hc with rfl|hc
   .exact hbe
   .rintro rfl;rcases he with z|z
    .exact nown c b hc z
    .rw[hc]at z;cases z;exact hb rfl
end
structure Un(fs ex:List Addr)(H H':Hp)(h h':Heap):Prop where
 keep:∀b o,h.get? b=some o->H b=none->b∉fs->b∉ex->h'.get? b=some o
 slot:∀b o,h.get? b=some o->H b=none->b∈fs->b∉ex->∃sl,h'.get? b=some {o with slots:=sl}
 free:∀b o,h.get? b=some o->H b=none->b∉ex->H' b=none
 there:∀b o,h.get? b=some o->b∉ex->∃o',h'.get? b=some o'
 tups:∀b xs,H b=some (.tup xs)->H' b=some (.tup xs)
 frzs:∀b o u,H b=some (.pG o u)->H' b=some (.pG o u)
 tbls:∀b ps,H b=some (.tbl ps)->∃more,H' b=some (.tbl (ps++more))
section
variable{fs fs' ex ex':List Addr}{H H1 H2:Hp}{h h1 h2 h':Heap}{a x e:Addr}{o:HO}
def Un.any(u:Un fs ex H H1 h h1){b:Addr}{ob:Obj}(q:h.get? b=some ob)(n:H b=none)(hx:b∉ex):∃sl,h1.get? b=some {ob with slots:=sl}:=by
 by_cases hb:b∈fs
 .exact u.slot b ob q n hb hx
 .exact⟨ob.slots,u.keep b ob q n hb hx⟩
def Un.kept(k:∀b u,h.get? b=some u->h'.get? b=some u):Un fs ex H H h h':=
 ⟨λb ob q _ _ _=>k b ob q,λb ob q _ _ _=>⟨ob.slots,k b ob q⟩,λ_ _ _ n _=>n,λb ob q _=>⟨ob,k b ob q⟩,λ_ _ q=>q,λ_ _ _ q=>q,λ_ ps q=>⟨#[],by rw[q];simp⟩⟩
def Un.refl:Un fs ex H H h h:=Un.kept λ_ _ q=>q
def Un.laid(k:∀b u,h.get? b=some u->h'.get? b=some u)(hp:h.objs.size<=a)(hn:H a=none):Un fs ex H (upd H a o) h h' where
 keep:=λb u q _ _ _=>k b u q
 slot:=λb u q _ _ _=>⟨u.slots,k b u q⟩
 free:=λb u q n _=>by rw[ao (iU (lg (dG q) hp))];exact n
 there:=λb u q _=>⟨u,k b u q⟩
 tups:=λb xs q=>by rw[ao (mW q hn)];exact q
 frzs:=λb u xs q=>by rw[ao (mW q hn)];exact q
 tbls:=λb ps q=>⟨#[],by rw[ao (mW q hn),q];simp⟩
def Un.write(mu:JN (H x))(he:e=x\/H e=some (.own x))(k:∀b u,b≠e->h.get? b=some u->h'.get? b=some u)(heo:∃u,h'.get? e=some u):Un fs ex H (upd H x o) h h':=by
 have hx:∀b,H b=none->b≠x:=λb n z=>by subst z;rw[n]at mu;exact mu
 have hb:∀b,H b=none->b≠e:=λb n z=>by
  subst z;rcases he with r|r
  .exact hx b n r
  .rw[n]at r;cases r
 have hm:∀b u,H b=some u->¬ JN (some u)->b≠x:=λb u q nm z=>by subst z;rw[q]at mu;exact nm mu
 refine⟨λb u q n _ _=>k b u (hb b n) q,λb u q n _ _=>⟨u.slots,k b u (hb b n) q⟩,λb u q n _=>by rw[ao (hx b n)];exact n,λb u q _=>?_,
  λb xs q=>by rw[ao (hm b _ q λz=>z)];exact q,λb u xs q=>by rw[ao (hm b _ q λz=>z)];exact q,λb ps q=>⟨#[],by rw[ao (hm b _ q λz=>z),q];simp⟩⟩
 by_cases hbe:b=e
 .subst hbe;exact heo
 .exact⟨u,k b u hbe q⟩
end
def xq(h:Heap)(H:Hp):List Addr:=(List.range h.objs.size).filter λa=>(H a).isSome
def nJ(h:Heap)(H:Hp):Heap:=PySem.W.hideAll h (xq h H)
def zp4(h:Heap)(H:Hp):(nJ h H).objs.size=h.objs.size:=PySem.W.hideAll_size _ _
def zsv{h:Heap}{H:Hp}{b:Addr}{o:Obj}(e:h.get? b=some o)(n:H b=none):(nJ h H).get? b=some o:=
 PySem.W.hideAll_get _ e λhm=>by
  have q:=(v5.mp hm).2;rw[n]at q;simp at q
def zuu{h:Heap}{H:Hp}{b:Addr}{o:Obj}(e:(nJ h H).get? b=some o):h.get? b=some o/\H b=none:=by
 have e':=PySem.W.of_hideAll _ e;refine⟨e',?_⟩;cases q:H b with
 |none=>rfl
 |some x=>
  have hm:b∈xq h H:=v5.mpr ⟨List.mem_range.mpr (dG e'),by simp[q]⟩;have z:(nJ h H).get? b=none:=PySem.W.hideAll_none _ hm;rw[z]at e;cases e
structure Mod(K:qd)(mg:Str->Option Value)(base:Heap):Prop where
 kin:K.In base
 glob:base.Ns mainGlobals mg
 blt:∃mb,base.Ns builtinsNs mb/\∀x:Str,x≠"__name__" -> mb x=bootBuiltins x
 nolimit:base.NoLimit
structure Cx where
 prog:Program
 w:World
 K:qd
 mg:Str->Option Value
 base:Heap
 A:Around
 N:List Str
 s₀:Shared
 H₀:Hp
 env:Env
 outer:List Env
 stack:List Env
 ex:List Addr
 fn:Str->Bool
 calm:Bool
 pn:List (Addr×Obj)
 xe:Value->Shared->Prop
abbrev ZD(x:Str):Prop:=(x==("__debug__":Str))=false
abbrev ZB(o:Expr)(f:Str)(X:Cx):Prop:=attributeBase o f X.env (eval o X.env)=eval o X.env
abbrev ZE(e:Expr)(X:Cx):Prop:=starEach [e] X.env=(false,eval e X.env)::starEach [] X.env
abbrev ZF(c:Pos)(e:Expr)(X:Cx):Prop:=((backTo c (starEach [e] X.env)).all (λx=>!x.1)&&(backToKw c (keywordEach [] X.env)).all (λx=>x.1.isSome)&&decide (([e]:List Expr).length+([]:List Keyword).length+(if ([]:List Keyword).isEmpty then 0 else 1)<30))=true
def frs(l:List Env):List Addr:=l.filterMap (·.frame)
abbrev Cx.fs(X:Cx):List Addr:=frs X.outer
def Et(sc:Scope)(x:Str):Prop:=sc.names.lookup x=some .local\/sc.names.lookup x=some .cell\/sc.names.lookup x=some .free
def Loc(sc:Scope)(x:Str):Prop:=sc.names.lookup x=some .local\/sc.names.lookup x=some .cell
def Look(env:Env)(h:Heap)(m:Str->Option Value)(x:Str)(u:Value):Prop:=
 (env.kindOf x=some .local/\m x=some u)\/((env.kindOf x=some .cell\/env.kindOf x=some .free)/\∃c,env.cells.lookup x=some c/\h.IsCell c (some u))
structure Cx.Ok(X:Cx):Prop where
 mod:Mod X.K X.mg X.base
 kind:X.env.scope.kind=.function
 glob:X.env.globals=mainGlobals
 blt:X.env.builtins=builtinsNs
 above:X.s₀.heap.objs.size<=X.env.locals
 inj:∀x y c,X.env.cells.lookup x=some c->X.env.cells.lookup y=some c->x=y
 has:∀x,(X.env.kindOf x=some .cell\/X.env.kindOf x=some .free)->∃c,X.env.cells.lookup x=some c
 cab:∀x c,X.fn x=true->X.env.cells.lookup x=some c->X.s₀.heap.objs.size<=c
 hd:X.calm=true->X.A.handled=none
 frames:X.A.frames=some X.stack
 stk:X.stack=X.outer\/(X.stack=X.env::X.outer/\X.env.frame=some X.env.locals)
 exf:∀b∈X.ex,b≠X.env.locals/\∀x c,X.env.cells.lookup x=some c->c≠b
 bs:∀b o,X.base.get? b=some o->X.s₀.heap.get? b=some o/\X.H₀ b=none
 bsz:X.base.objs.size<=X.s₀.heap.objs.size
 noex:∀b o,X.base.get? b=some o->b∉X.ex
 exfs:∀b∈X.ex,b∉X.fs
 funs:X.s₀.heap.FunFrames X.base X.outer
 frf:∀b∈X.fs,X.H₀ b=none
structure Inv(X:Cx)(aa:List (Addr×Obj))(U:List (Option V))(H:Hp)(s:Shared):Prop where
 ok:X.Ok
 os:s.os=X.s₀.os
 bare:AllBare s.gens
 base:Un X.fs X.ex X.H₀ H X.s₀.heap s.heap
 loc:∃m,s.heap.Ns X.env.locals m/\∀(i:Nat)(x:Str)(v:V),X.N[i]?=some x->U[i]?=some (some v)->Et X.env.scope x->∃u,RelV v u/\Look X.env s.heap m x u
 cell:∀x c,X.env.cells.lookup x=some c->∃v,s.heap.IsCell c v
 free:H X.env.locals=none
 freeC:∀x c,X.env.cells.lookup x=some c->H c=none
 pin:∀p∈X.pn++aa,s.heap.get? p.1=some p.2/\H p.1=none/\p.1≠X.env.locals/\p.1∉X.fs/\∀v,p.2.data≠.cell v
 hok:jj X.prog X.w H s.heap
 len:U.length=X.N.length
section
variable{X:Cx}{aa:List (Addr×Obj)}{U:List (Option V)}{H H':Hp}{s:Shared}{h':Heap}
def Cx.Ok.nofr(ok:X.Ok)(e:X.base.get? b=some o):b∉X.fs:=λhb=>by
 have:=(ok.funs.mem hb).1
 rw[e]at this;cases this
theorem Inv.bs(I:Inv X aa U H s):∀b o,X.base.get? b=some o->s.heap.get? b=some o/\H b=none:=λb o e=>
 ⟨I.base.keep b o (I.ok.bs b o e).1 (I.ok.bs b o e).2 (I.ok.nofr e) (I.ok.noex b o e),I.base.free b o (I.ok.bs b o e).1 (I.ok.bs b o e).2 (I.ok.noex b o e)⟩
def Inv.bk(I:Inv X aa U H s):∀b o,X.base.get? b=some o->s.heap.get? b=some o:=λb o e=>(I.bs b o e).1
theorem Inv.mod(I:Inv X aa U H s):Mod X.K X.mg X.base:=I.ok.mod
def Inv.kIn(I:Inv X aa U H s):X.K.In s.heap:=I.ok.mod.kin.keeps I.bk
theorem Inv.lt(I:Inv X aa U H s):X.env.locals<s.heap.objs.size:=let⟨_,hn,_⟩:=I.loc;hn.lt
def Inv.sz(I:Inv X aa U H s):X.s₀.heap.objs.size<=s.heap.objs.size:=gJ I.ok.above (Nat.le_of_lt I.lt)
def Inv.nofs(I:Inv X aa U H s)(h:s.heap.objs.size<=a):a∉X.fs:=λhb=>by
 obtain⟨_,o,ho,_⟩:=I.ok.funs.mem hb;exact absurd (lg (dG ho) (gJ I.sz h)) (YAR _)
def Inv.cne(I:Inv X aa U H s):∀x c,X.env.cells.lookup x=some c->c≠X.env.locals:=λx c e z=>by
 obtain⟨v,o,ho,hd⟩:=I.cell x c e;obtain⟨m,⟨o',es,ep,ho',hd',_⟩,_⟩:=I.loc;rw[z,ho']at ho;cases ho;rw[hd']at hd;cases hd
theorem Inv.funs(I:Inv X aa U H s):s.heap.FunFrames X.base X.outer:=by
 have all:∀(l:List Env),(∀b∈frs l,b∈X.fs)->X.s₀.heap.FunFrames X.base l->s.heap.FunFrames X.base l:=by
  intro l
  induction l with
  |nil=>intro _ _;trivial
  |cons env r ih=>
   intro hs hl;obtain⟨hk,⟨L,o,hf,hn,ho,hd⟩,hr⟩:=hl;have hL:=hs L (by unfold frs;rw[YAN,hf];exact lF);obtain⟨sl,e⟩:=I.base.slot L o ho (I.ok.frf L hL) hL λz=>I.ok.exfs L z hL;exact⟨hk,⟨L,_,hf,hn,e,hd⟩,ih (λb hb=>hs b (by unfold frs;rw[YAN,hf];exact fL _ hb)) hr⟩
 exact all X.outer (λ_ hb=>hb) I.ok.funs
theorem Inv.stack(I:Inv X aa U H s):s.heap.FunFrames X.base X.stack:=by
 rcases I.ok.stk with e|⟨e,hf⟩
 .rw[e];exact I.funs
 .rw[e];obtain⟨m,hn,_⟩:=I.loc;refine .cons (by rw[I.ok.kind];decide) hf hn ?_ I.funs;exact Heap.get?_none_of_le (gJ I.ok.bsz I.ok.above)
def Inv.stkSub(I:Inv X aa U H s):∀b∈frs X.stack,b∈X.env.locals::X.fs:=λb hb=>by
 rcases I.ok.stk with e|⟨e,hf⟩
 .rw[e]at hb;exact fL _ hb
 .rw[e]at hb;unfold frs at hb;rw[YAN,hf]at hb;exact hb
def Inv.stkFree(I:Inv X aa U H s):∀b∈frs X.stack,H b=none:=λb hb=>by
 rcases eX.mp (I.stkSub b hb)with e|hb
 .rw[e];exact I.free
 .obtain⟨_,o,ho,_⟩:=I.ok.funs.mem hb;exact I.base.free b o ho (I.ok.frf b hb) λz=>I.ok.exfs b z hb
def Inv.step{g':Array GenState}{t':Nat}{d':Drawn}{ch:List Addr}(I:Inv X aa U H s)
  (hch:∀b∈ch,(b∈X.ex\/X.s₀.heap.objs.size<=b)/\b≠X.env.locals/\(∀x c,X.env.cells.lookup x=some c->c≠b)/\∀p∈X.pn++aa,p.1≠b)
  (keep:∀b o,b≠X.env.locals->b∉X.fs->b∉ch->s.heap.get? b=some o->H b=none->h'.get? b=some o)
  (slot:∀b o,b≠X.env.locals->b∈X.fs->b∉ch->s.heap.get? b=some o->H b=none->∃sl,h'.get? b=some {o with slots:=sl}) (free:∀b o,b∉ch->s.heap.get? b=some o->H b=none->H' b=none)
  (there:∀b o,b∉ch->s.heap.get? b=some o->∃o',h'.get? b=some o')
  (tups:∀b xs,H b=some (.tup xs)->H' b=some (.tup xs)) (frzs:∀b o u,H b=some (.pG o u)->H' b=some (.pG o u)) (tbls:∀b ps,H b=some (.tbl ps)->∃more,H' b=some (.tbl (ps++more)))
  (ns:∀m,s.heap.Ns X.env.locals m->h'.Ns X.env.locals m) (hok:jj X.prog X.w H' h') (hg:AllBare g') :
  Inv X aa U H' {s with heap:=h',gens:=g',drawn:=d',toks:=t'}:=by
 have neL:∀b o,X.s₀.heap.get? b=some o->b≠X.env.locals:=λb o e=>iU (lg (dG e) I.ok.above);have neC:∀b o,X.s₀.heap.get? b=some o->b∉X.ex->b∉ch:=λb o e hx hb=>by
  rcases(hch b hb).1 with z|z
  .exact hx z
  .exact absurd (lg (dG e) z) (YAR _)
 have cellK:∀x c,X.env.cells.lookup x=some c->∀v,s.heap.IsCell c v->h'.IsCell c v:=λx c e v ⟨o,ho,hd⟩=>by
  have nch:=λz=>(hch c z).2.2.1 x c e rfl;by_cases hc:c∈X.fs
  .obtain⟨sl,q⟩:=slot c o (I.cne x c e) hc nch ho (I.freeC x c e);exact⟨_,q,hd⟩
  .exact⟨o,keep c o (I.cne x c e) hc nch ho (I.freeC x c e),hd⟩
 refine⟨I.ok,I.os,hg,⟨λb o e n hb hx=>?_,λb o e n hb hx=>?_,λb o e n hx=>?_,λb o e hx=>?_,λb xs e=>tups b xs (I.base.tups b xs e),λb o xs e=>frzs b o xs (I.base.frzs b o xs e),λb ps e=>?_⟩,?_,λx c e=>?_,?_,λx c e=>?_,λp hp=>?_,hok,I.len⟩
 .exact keep b o (neL b o e) hb (neC b o e hx) (I.base.keep b o e n hb hx) (I.base.free b o e n hx)
 .obtain⟨sl,e1⟩:=I.base.slot b o e n hb hx;obtain⟨sl',e2⟩:=slot b _ (neL b o e) hb (neC b o e hx) e1 (I.base.free b o e n hx);exact⟨sl',e2⟩
 .obtain⟨o',e1⟩:=I.base.there b o e hx;exact free b o' (neC b o e hx) e1 (I.base.free b o e n hx)
 .obtain⟨o',e1⟩:=I.base.there b o e hx;exact there b o' (neC b o e hx) e1
 .obtain⟨m1,e1⟩:=I.base.tbls b ps e;obtain⟨m2,e2⟩:=tbls b _ e1;exact⟨m1++m2,by rw[e2,Array.append_assoc]⟩
 .obtain⟨m,hn,hl⟩:=I.loc;refine⟨m,ns m hn,λi x v e1 e2 e3=>?_⟩;obtain⟨u,r,l⟩:=hl i x v e1 e2 e3;refine⟨u,r,?_⟩;rcases l with l|⟨k,c,e,z⟩
  .exact .inl l
  .exact .inr ⟨k,c,e,cellK x c e _ z⟩
 .obtain⟨v,z⟩:=I.cell x c e;exact⟨v,cellK x c e v z⟩
 .obtain⟨m,⟨o,_,_,ho,_⟩,_⟩:=I.loc;exact free _ o (λz=>(hch _ z).2.1 rfl) ho I.free
 .obtain⟨v,o,ho,hd⟩:=I.cell x c e;exact free c o (λz=>(hch c z).2.2.1 x c e rfl) ho (I.freeC x c e)
 .obtain⟨e,n,ne,nf,d⟩:=I.pin p hp;have nch:=λz=>(hch p.1 z).2.2.2 p hp rfl;exact⟨keep p.1 p.2 ne nf nch e n,free p.1 p.2 nch e n,ne,nf,d⟩
def Inv.un{t':Nat}(I:Inv X aa U H s)(u:Un X.fs [] H H' s.heap h')(hok:jj X.prog X.w H' h'):Inv X aa U H' {s with heap:=h',toks:=t'}:=by
 obtain⟨m,⟨o,es,ep,ho,r⟩,_⟩:=id I.loc;obtain⟨sl,hL⟩:=u.any ho I.free (by simp);exact I.step (g':=s.gens) (d':=s.drawn) (ch:=[]) (λ_ z=>nomatch z) (λb o _ hb _ e n=>u.keep b o e n hb (by simp)) (λb o _ hb _ e n=>u.slot b o e n hb (by simp)) (λb o _ e n=>u.free b o e n (by simp)) (λb o _ e=>u.there b o e (by simp)) u.tups u.frzs u.tbls (λm' hm=>by
  obtain⟨o',es',ep',ho',r'⟩:=hm;rw[ho]at ho';cases ho';exact⟨_,es',ep',hL,r'⟩) hok I.bare
def Inv.call{g':Array GenState}{t':Nat}{d':Drawn}{ch:List Addr}(I:Inv X aa U H s)(u:Un (frs X.stack) ch H H' s.heap h')(hok:jj X.prog X.w H' h')(hg:AllBare g')
  (hch:∀b∈ch,(b∈X.ex\/X.s₀.heap.objs.size<=b)/\b≠X.env.locals/\(∀x c,X.env.cells.lookup x=some c->c≠b)/\∀p∈X.pn++aa,p.1≠b) :
  Inv X aa U H' {s with heap:=h',gens:=g',drawn:=d',toks:=t'}:=by
 obtain⟨m,⟨o,es,ep,ho,r⟩,_⟩:=id I.loc;obtain⟨sl,hL⟩:=u.any ho I.free λz=>(hch _ z).2.1 rfl;exact I.step hch (λb o hL hb hc e n=>u.keep b o e n (λz=>(eX.mp (I.stkSub b z)).elim hL hb) hc) (λb o _ _ hc e n=>u.any e n hc) (λb o hc e n=>u.free b o e n hc) (λb o hc e=>u.there b o e hc) u.tups u.frzs u.tbls (λm' hm=>by
  obtain⟨o',es',ep',ho',r'⟩:=hm;rw[ho]at ho';cases ho';exact⟨_,es',ep',hL,r'⟩) hok hg
def Inv.turned{t':Nat}{it:Addr}(I:Inv X aa U H s)(k:∀b o,b≠it->s.heap.get? b=some o->h'.get? b=some o)(hn:H it=none)(hL:it≠X.env.locals)
  (h1:it∈X.ex\/X.s₀.heap.objs.size<=it) (h2:∀x c,X.env.cells.lookup x=some c->c≠it) (h3:∀p∈X.pn++aa,p.1≠it):Inv X aa U H {s with heap:=h',toks:=t'}:=by
 have nit:∀b u,H b=some u->b≠it:=λb u e z=>by rw[z,hn]at e;cases e
 refine I.step (g':=s.gens) (d':=s.drawn) (ch:=[it]) (λb hb=>?_) (λb o _ _ hc e _=>k b o (λz=>hc (by simp[z])) e) (λb o _ _ hc e _=>⟨o.slots,k b o (λz=>hc (by simp[z])) e⟩) (λ_ _ _ _ n=>n)
  (λb o hc e=>⟨o,k b o (λz=>hc (by simp[z])) e⟩) (λ_ _ e=>e) (λ_ _ _ e=>e) (λb ps e=>⟨#[],by rw[e];simp⟩) (λm hm=>?_) (λb u e=>?_) I.bare
 .have e:b=it:=by simpa using hb
  subst e;exact⟨h1,hL,h2,h3⟩
 .obtain⟨o,es,ep,ho,r⟩:=hm;exact⟨o,es,ep,k _ o (YAD hL) ho,r⟩
 .refine(I.hok b u e).stay (λc v hc q=>k c v ?_ q) (λ_ q=>q) λ_ _ q=>q;rcases hc with z|z
  .rw[z];exact nit b u e
  .exact nit c _ z
def Inv.tok(I:Inv X aa U H s)(t:Nat):Inv X aa U H {s with toks:=t}:=I.un (h':=s.heap) (t':=t) Un.refl I.hok
theorem Inv.kept{t':Nat}(I:Inv X aa U H s)(k:∀b u,s.heap.get? b=some u->h'.get? b=some u):Inv X aa U H {s with heap:=h',toks:=t'}:=I.un (Un.kept k) (I.hok.kept k)
theorem Inv.laid{a:Addr}{o:HO}{t':Nat}(I:Inv X aa U H s)(k:∀b u,s.heap.get? b=some u->h'.get? b=some u)(hp:s.heap.objs.size<=a)(new:cJ X.prog X.w (upd H a o) h' a o) :
  Inv X aa U (upd H a o) {s with heap:=h',toks:=t'}:=I.un (Un.laid k hp (I.hok.fresh hp)) (I.hok.laid k hp new)
theorem Inv.write{x e:Addr}{o:HO}{t':Nat}(I:Inv X aa U H s)(mu:JN (H x))(he:e=x\/H e=some (.own x))(k:∀b u,b≠e->s.heap.get? b=some u->h'.get? b=some u)(heo:∃u,h'.get? e=some u)
  (new:cJ X.prog X.w (upd H x o) h' x o):Inv X aa U (upd H x o) {s with heap:=h',toks:=t'}:=I.un (Un.write mu he k heo) (I.hok.write mu he k heo new)
def Inv.weak(I:Inv X aa U H s)(hl:U'.length=U.length)(w:∀(i:Nat) v,U'[i]?=some (some v)->U[i]?=some (some v)):Inv X aa U' H s:=
 ⟨I.ok,I.os,I.bare,I.base,let⟨m,hn,hl'⟩:=I.loc;⟨m,hn,λi x v e1 e2 e3=>hl' i x v e1 (w i v e2) e3⟩,I.cell,I.free,I.freeC,I.pin,I.hok,hl.trans I.len⟩
def Inv.pins_of(I:Inv X aa U H s)(h:∀p∈pins',s.heap.get? p.1=some p.2/\H p.1=none/\p.1≠X.env.locals/\p.1∉X.fs/\∀v,p.2.data≠.cell v):Inv X pins' U H s:=
 ⟨I.ok,I.os,I.bare,I.base,I.loc,I.cell,I.free,I.freeC,λp hp=>(rJ.mp hp).elim (λz=>I.pin p (Ay _ z)) (h p),I.hok,I.len⟩
def znP{N:List Str}(hN:N.Nodup){i j:Nat}{x:Str}(a:N[i]?=some x)(b:N[j]?=some x):i=j:=by
 obtain⟨h1,e1⟩:=nW.mp a;obtain⟨h2,e2⟩:=nW.mp b;exact(List.getElem_inj hN).mp (e1.trans e2.symm)
def zlz{M:Model}{A:Around}{E:Value->Shared->Prop}{i:Nat}{x:Str}{v:V}{u:Value}{Q:Unit->Shared->Prop}(I:Inv X aa U H s)(hN:X.N.Nodup)(hi:X.N[i]?=some x)(hx:Loc X.env.scope x)(r:RelV v u)
  (h:∀s',Inv X aa (U.set i (some v)) H s'->(∃a,Heap.SameBut a s.heap s'.heap/\(a=X.env.locals\/X.env.cells.lookup x=some a))->Q () s') (hf:X.fn x=true\/X.env.scope.names.lookup x=some .local:=by first|exact .inl rfl|exact .inr rfl|assumption):wpAny M A (storeName X.env x u) Q E s:=by
 obtain⟨m,hn,hl⟩:=id I.loc;have hcls:(X.env.scope.kind==.class || (X.env.scope.kind==.module&&X.env.locals != X.env.globals))=false:=by rw[I.ok.kind];rfl
 have hiσ:i<U.length:=by rw[I.len];exact(nW.mp hi).1
 have cne:=I.cne;have tracked:∀{a:Addr}{h':Heap},(∃o,s.heap.get? a=some o/\H a=none)->Heap.SameBut a s.heap h'->jj X.prog X.w H h':=λ{a h'} ha hs b ob e=>by
  obtain⟨_,_,hfree⟩:=ha;refine(I.hok b ob e).stay (λc w' hc q=>(hs.2 c ?_).trans q) (λ_ q=>q) λ_ _ q=>q;rintro rfl;rcases hc with rfl|hc
  .rw[hfree]at e;cases e
  .rw[hfree]at hc;cases hc
 rcases hx with hk|hk
 .refine wpAny_storeName_local hk hn (λh' hn' hs=>?_) hcls;obtain⟨oL,_,_,hoL,_⟩:=id hn;refine h _ ⟨I.ok,I.os,I.bare,⟨λb o e n hb hx=>?_,λb o e n hb hx=>?_,I.base.free,λb o e hx=>?_,I.base.tups,I.base.frzs,I.base.tbls⟩,⟨_,hn',λj y v' e1 e2 e3=>?_⟩,λy c e=>?_,I.free,I.freeC,λp hp=>?_,tracked ⟨oL,hoL,I.free⟩ hs,by simpa using I.len⟩ ⟨_,hs,.inl rfl⟩
  .exact(hs.2 b (iU (lg (dG e) I.ok.above))).trans (I.base.keep b o e n hb hx)
  .obtain⟨sl,e1⟩:=I.base.slot b o e n hb hx;exact⟨sl,(hs.2 b (iU (lg (dG e) I.ok.above))).trans e1⟩
  .obtain⟨o',e1⟩:=I.base.there b o e hx;exact⟨o',(hs.2 b (iU (lg (dG e) I.ok.above))).trans e1⟩
  .by_cases hj:j=i
   .subst hj;rw[hi]at e1;cases e1;rw[pZ hiσ]at e2;cases e2;exact⟨u,r,.inl ⟨hk,by simp⟩⟩
   .rw[mY (YAD hj)]at e2;obtain⟨u',r',q⟩:=hl j y v' e1 e2 e3;refine⟨u',r',?_⟩;rcases q with⟨k,e⟩|⟨k,c,e,z⟩
    .refine .inl ⟨k,?_⟩
     have:y≠x:=λe=>hj (znP hN e1 (e▸hi))
     simp[this,e]
    .exact .inr ⟨k,c,e,z.sameBut hs (cne y c e)⟩
  .obtain⟨w',z⟩:=I.cell y c e;exact⟨w',z.sameBut hs (cne y c e)⟩
  .obtain⟨e,n,ne,nf,d⟩:=I.pin p hp;exact⟨(hs.2 p.1 ne).trans e,n,ne,nf,d⟩
 .have hfn:X.fn x=true:=by
   rcases hf with z|z
   .exact z
   .rw[z]at hk;cases hk
  obtain⟨c,hc⟩:=I.ok.has x (.inl hk);obtain⟨w',z⟩:=I.cell x c hc;refine wpAny_storeName_cell I.ok.kind hk hc z (λh' hc' hs=>?_);obtain⟨oc,hoc,hocd⟩:=id z;refine h {s with heap:=h'} ⟨I.ok,I.os,I.bare,⟨λb o e n hb hx=>?_,λb o e n hb hx=>?_,I.base.free,λb o e hx=>?_,I.base.tups,I.base.frzs,I.base.tbls⟩,⟨m,hn.sameBut hs (YAD (cne x c hc)),λj y v' e1 e2 e3=>?_⟩,λy c' e=>?_,I.free,I.freeC,λp hp=>?_,tracked ⟨oc,hoc,I.freeC x c hc⟩ hs,by simpa using I.len⟩ ⟨c,hs,.inr hc⟩
  .exact(hs.2 b (iU (lg (dG e) (I.ok.cab x c hfn hc)))).trans (I.base.keep b o e n hb hx)
  .obtain⟨sl,e1⟩:=I.base.slot b o e n hb hx;exact⟨sl,(hs.2 b (iU (lg (dG e) (I.ok.cab x c hfn hc)))).trans e1⟩
  .obtain⟨o',e1⟩:=I.base.there b o e hx;exact⟨o',(hs.2 b (iU (lg (dG e) (I.ok.cab x c hfn hc)))).trans e1⟩
  .by_cases hj:j=i
   .subst hj;rw[hi]at e1;cases e1;rw[pZ hiσ]at e2;cases e2;exact⟨u,r,.inr ⟨.inl hk,c,hc,hc'⟩⟩
   .rw[mY (YAD hj)]at e2;obtain⟨u',r',q⟩:=hl j y v' e1 e2 e3;refine⟨u',r',?_⟩;rcases q with q|⟨k,c',e,z'⟩
    .exact .inl q
    .refine .inr ⟨k,c',e,z'.sameBut hs ?_⟩;rintro rfl;exact hj (znP hN e1 (I.ok.inj _ _ _ e hc▸hi))
  .by_cases hcc:c'=c
   .subst hcc;exact⟨_,hc'⟩
   .obtain⟨w2,z2⟩:=I.cell y c' e;exact⟨w2,z2.sameBut hs hcc⟩
  .obtain⟨e,n,ne,nf,d⟩:=I.pin p hp;refine⟨(hs.2 p.1 ?_).trans e,n,ne,nf,d⟩;intro q;rw[q,hoc]at e;have q':=Option.some.inj e;exact d w' (by rw[<-q'];exact hocd)
def zie{M:Model}{A:Around}{E:Value->Shared->Prop}{i:Nat}{x:Str}{v:V}{u:Value}{Q:Unit->Shared->Prop}(I:Inv X aa U H s)(hN:X.N.Nodup)(hi:X.N[i]?=some x)(hx:Loc X.env.scope x)(r:RelV v u)
  (h:∀s',Inv X aa (U.set i (some v)) H s'->Q () s') (hf:X.fn x=true\/X.env.scope.names.lookup x=some .local:=by first|exact .inl rfl|exact .inr rfl|assumption):wpAny M A (storeName X.env x u) Q E s:=
 zlz I hN hi hx r (λs' I' _=>h s' I') hf
def Inv.call'(I:Inv X aa U H s)(ho:s'.os=s.os)(u:Un (frs X.stack) ch H H' s.heap s'.heap)(hok:jj X.prog X.w H' s'.heap)(hg:AllBare s'.gens)
  (hch:∀b∈ch,(b∈X.ex\/X.s₀.heap.objs.size<=b)/\b≠X.env.locals/\(∀x c,X.env.cells.lookup x=some c->c≠b)/\∀p∈X.pn++aa,p.1≠b):Inv X aa U H' s':=by
 obtain⟨h',g',d',t',o'⟩:=s';have e:=ho;subst e;exact I.call (g':=g') (t':=t') (d':=d') u hok hg hch
end
abbrev XK:=Value->Option Addr->Hp->Prop
abbrev St:=List (Option V)
abbrev VK:=V->Hp->Prop
abbrev TE:=St->Hp->VK->Prop
abbrev TT:=St->Hp->(Bool->Hp->Prop)->Prop
abbrev TA:=St->Hp->(List V->Hp->Prop)->Prop
structure Ends where
 nx:St->Hp->Prop
 rt:VK
 bk:St->Hp->Prop:=λ_ _=>False
 ct:St->Hp->Prop:=λ_ _=>False
abbrev TS:=Ends->St->Hp->Prop
def EP(X:Cx)(aa:List (Addr×Obj))(U:St)(Q:VK)(u:Value)(s':Shared):Prop:=∃v H',Inv X aa U H' s'/\RelV v u/\Q v H'
def TP(X:Cx)(aa:List (Addr×Obj))(U:St)(Q:Bool->Hp->Prop)(b:Bool)(s':Shared):Prop:=∃H',Inv X aa U H' s'/\Q b H'
def AP(X:Cx)(aa:List (Addr×Obj))(U:St)(Q:List V->Hp->Prop)(us:List Value)(s':Shared):Prop:=∃vs H',Inv X aa U H' s'/\Vals vs us/\Q vs H'
def SP(X:Cx)(aa:List (Addr×Obj))(D:Ends)(f:Flow)(s':Shared):Prop:=
 match f with
 |.next=>∃ U' H',Inv X aa U' H' s'/\D.nx U' H'
 |.brk=>∃ U' H',Inv X aa U' H' s'/\D.bk U' H'
 |.cont=>∃ U' H',Inv X aa U' H' s'/\D.ct U' H'
 |.ret u=>∃v U' H',Inv X aa U' H' s'/\RelV v u/\D.rt v H'
def PE(X:Cx)(e:Expr)(t:TE):Prop:=
 ∀(aa:List (Addr×Obj))(s:Shared)(U:St)(H:Hp)(Q:VK),Inv X aa U H s->t U H Q->wpAny (model X.prog X.w) X.A (eval e X.env) (EP X aa U Q) X.xe s
def PT(X:Cx)(e:Expr)(t:TT):Prop:=
 ∀(aa:List (Addr×Obj))(s:Shared)(U:St)(H:Hp)(Q:Bool->Hp->Prop),Inv X aa U H s->t U H Q->wpAny (model X.prog X.w) X.A (isTrue e X.env (eval e X.env)) (TP X aa U Q) X.xe s
def PW(X:Cx)(e:Expr)(t:TT):Prop:=
 ∀(whole:Sem Value)(aa:List (Addr×Obj))(s:Shared)(U:St)(H:Hp)(Q:Bool->Hp->Prop),Inv X aa U H s->t U H Q->wpAny (model X.prog X.w) X.A (isTrue e X.env whole) (TP X aa U Q) X.xe s
def PW.pt{X:Cx}{e:Expr}{t:TT}(h:PW X e t):PT X e t:=h _
def PA(X:Cx)(es:List Expr)(t:TA):Prop:=
 ∀(pos:Pos)(aa:List (Addr×Obj))(s:Shared)(U:St)(H:Hp)(Q:List V->Hp->Prop),Inv X aa U H s->t U H Q->wpAny (model X.prog X.w) X.A (spliced (backTo pos (starEach es X.env))) (AP X aa U Q) X.xe s
def PS(X:Cx)(st:Stmt)(t:TS):Prop:=
 ∀(aa:List (Addr×Obj))(s:Shared)(U:St)(H:Hp)(D:Ends),Inv X aa U H s->t D U H->wpAny (model X.prog X.w) X.A (exec st X.env) (SP X aa D) X.xe s
def mq(X:Cx)(st:List Stmt)(t:TS):Prop:=
 ∀(aa:List (Addr×Obj))(s:Shared)(U:St)(H:Hp)(D:Ends),Inv X aa U H s->t D U H->wpAny (model X.prog X.w) X.A (execs st X.env) (SP X aa D) X.xe s
def bK{α:Type}{t:Sem α}{Q Q':α->Shared->Prop}{M:Model}{A:Around}{E:Value->Shared->Prop}{s:Shared}(h:wpAny M A t Q E s)(hQ:∀a s,Q a s->Q' a s):wpAny M A t Q' E s:=YAQ h hQ λ_ _ x=>x
section
variable{X:Cx}
def uK(i:Nat):TE:=λU H Q=>∃v,U[i]?=some (some v)/\Q v H
def tC(v:V):TE:=λ_ H Q=>Q v H
def kY(hN:X.N[i]?=some x)(hv:Et X.env.scope x)(hd:ZD x:=by decide)(hcd:(x==("__classdict__":Str))=false:=by decide):PE X (.Name x pos) (uK i):=by
 intro aa s U H Q I h;obtain⟨v,e,h⟩:=h;obtain⟨m,hn,hl⟩:=I.loc;obtain⟨u,r,l⟩:=hl i x v hN e hv;have fin:EP X aa U Q u s:=⟨v,H,I,r,h⟩;rcases l with⟨hk,hm⟩|⟨hk,c,hc,hcell⟩
 .exact DN (wpAny_loadName_local I.ok.kind hk hn hm fin) hd
 .rcases hk with hk|hk
  .exact DN (wpAny_loadName_cell I.ok.kind hk hc hcell fin) hd
  .exact DN (wpAny_loadName_free I.ok.kind hk hc hcell fin hcd) hd
def jM{i j pos}:PE X (.Constant (.int i) j pos) (tC (.int i)):=λ_ _ _ H _ I h=>wpAny_Constant_int ⟨.int i,H,I.tok _,⟨_,rfl⟩,h⟩
def zyK{b j pos}:PE X (.Constant (.bool b) j pos) (tC (.bl b)):=λ_ _ _ H _ I h=>Constant_bool ⟨.bl b,H,I,rfl,h⟩
def zxr{j pos}:PE X (.Constant .none j pos) (tC .non):=λ_ _ _ H _ I h=>Constant_none ⟨.non,H,I,rfl,h⟩
def zp2{x j pos}:PE X (.Constant (.str x) j pos) (tC (.str x)):=λ_ _ _ H _ I h=>Calls.Constant_str ⟨.str x,H,I.tok _,⟨_,rfl⟩,h⟩
def Gl(X:Cx)(x:Str):Prop:=X.env.kindOf x=some .globalImplicit
def vZ{E:Value->Shared->Prop}{aa:List (Addr×Obj)}{s:Shared}{U:St}{H:Hp}{x:Str}{u:Value}{pos:Pos}{Q:Value->Shared->Prop}(I:Inv X aa U H s)(hg:Gl X x)(hm:X.mg x=some u)(h:Q u s)
  (hd:ZD x:=by decide):wpAny (model X.prog X.w) X.A (eval (.Name x pos) X.env) Q E s:=
 Calls.Name_function_global I.ok.kind hg (Calls.loadGlobal_global (by rw[I.ok.glob];exact I.mod.glob.keeps I.bk) hm h) hd
def JV{E:Value->Shared->Prop}{aa:List (Addr×Obj)}{s:Shared}{U:St}{H:Hp}{x:Str}{u:Value}{pos:Pos}{Q:Value->Shared->Prop}(I:Inv X aa U H s)(hg:Gl X x)(hm:X.mg x=none)(hv:bootBuiltins x=some u)(h:Q u s)
  (hn:x≠"__name__":=by decide) (hd:ZD x:=by decide):wpAny (model X.prog X.w) X.A (eval (.Name x pos) X.env) Q E s:=by
 obtain⟨mb,h1,h2⟩:=I.mod.blt;exact Calls.Name_function_global I.ok.kind hg (Calls.loadGlobal_builtin (by rw[I.ok.glob];exact I.mod.glob.keeps I.bk) hm (by rw[I.ok.blt];exact h1.keeps I.bk) ((h2 x hn).trans hv) h) hd
def zra(hg:Gl X x)(hm:X.mg x=some u)(r:RelV v u)(hd:ZD x:=by decide):PE X (.Name x pos) (tC v):=
 λ_ _ _ H _ I h=>vZ I hg hm ⟨v,H,I,r,h⟩ hd
def zuY(hg:Gl X x)(hm:X.mg x=none)(hv:bootBuiltins x=some u)(r:RelV v u)(hn:x≠"__name__":=by decide)(hd:ZD x:=by decide):PE X (.Name x pos) (tC v):=
 λ_ _ _ H _ I h=>JV I hg hm hv ⟨v,H,I,r,h⟩ hn hd
variable{a b:Expr}{ta tb:TE}{pos:Pos}
def PC(X:Cx)(op:CmpOp)(a b:Expr)(t:TE):Prop:=
 ∀(aa:List (Addr×Obj))(s:Shared)(U:St)(H:Hp)(Q:VK),Inv X aa U H s->t U H Q ->
  wpAny (model X.prog X.w) X.A (eval a X.env) (λv s₁=>wpAny (model X.prog X.w) X.A (eval b X.env) (λu s₂=>wpAny (model X.prog X.w) X.A (compareOp op v u) (EP X aa U Q) X.xe s₂) X.xe s₁) X.xe s
def znJ(b:Expr){op:CmpOp}(h:op≠.In)(h2:op≠.NotIn):behindInMarks op b=false:=by
 have e1:(op==CmpOp.In)=false:=by cases op<;>first|rfl|exact absurd rfl h
 have e2:(op==CmpOp.NotIn)=false:=by cases op<;>first|rfl|exact absurd rfl h2
 cases b<;>simp[behindInMarks,e1,e2]
def tIsN(ta:TE):TE:=λU H Q=>ta U H λx H1=>Q (.bl (decide (x=.non))) H1
def RelV.none_iff{x:V}{v:Value}(r:RelV x v):(v==Value.none)=decide (x=.non):=by
 cases x with
 |non=>cases r;rfl
 |bl _=>cases r;rfl
 |int _=>obtain⟨t,rfl⟩:=r;rfl
 |str _=>obtain⟨t,rfl⟩:=r;rfl
 |byt _=>obtain⟨t,rfl⟩:=r;rfl
 |flt _=>obtain⟨t,rfl⟩:=r;rfl
 |ref _=>cases r;rfl
 |ty _=>cases r;rfl
def ztv{j pos'}(ha:PE X a ta):PC X .Is a (.Constant .none j pos') (tIsN ta):=by
 intro aa s U H Q I h;exact bK (ha aa s U H _ I h) λv s1 ⟨x,H1,I1,r1,q1⟩=>(Constant_none (is_none_gen ⟨.bl _,H1,I1,by rw[r1.none_iff];rfl,q1⟩))
def tB(t:TE):TT:=λU H Q=>t U H λx H1=>∃c,x=.bl c/\Q c H1
def zxw(h:PC X op a b t)(h1:behindInMarks op b=false:=by first|exact znJ _ (by decide) (by decide)|rfl):PE X (.Compare a [op] [b] pos) t:=λaa s U H Q I hw=>wpAny_Compare1 (h aa s U H Q I hw) h1
def znT{op:CmpOp}{t:TE}(h:PC X op a b t)(h1:behindInMarks op b=false:=by first|exact znJ _ (by decide) (by decide)|rfl):PT X (.Compare a [op] [b] pos) (tB t):=by
 intro aa s U H Q I hw;refine wpAny_isTrue_Compare1 (bK (h aa s U H _ I hw) λv s1 h1=>bK h1 λu s2 h2=>bK h2 λc s3 ⟨x,H1,I1,r1,q1⟩=>?_) h1;obtain⟨d,rfl,q⟩:=q1;cases r1;exact zG ⟨H1,I1,q⟩
variable{tA tB':TT}{rest:List Expr}
def tOr(t u:TT):TT:=λU H Q=>t U H λc H1=>if c=true then Q true H1 else u U H1 Q
def tNot(t:TT):TT:=λU H Q=>t U H λc H1=>Q (!c) H1
def zxt(ha:PT X a tA):PW X (.BoolOp .Or [a] pos) tA:=by
 intro wh aa s U H Q I h;refine isTrue_or (bK (ha aa s U H Q I h) λc s1 e=>?_);cases c with
 |false=>exact isTrue_or_nil e
 |true=>exact e
def zyB(ha:PT X a tA)(hb:PW X (.BoolOp .Or (b::rest) pos) tB'):PW X (.BoolOp .Or (a::b::rest) pos) (tOr tA tB'):=by
 intro wh aa s U H Q I h;refine isTrue_or (bK (ha aa s U H _ I h) λc s1 ⟨H1,I1,q1⟩=>?_);cases c with
 |true=>exact⟨H1,I1,q1⟩
 |false=>exact hb wh aa s1 U H1 Q I1 q1
def ztc(ha:PT X a tA):PT X (.UnaryOp .Not a pos) (tNot tA):=by
 intro aa s U H Q I h;exact isTrue_not (ha aa s U H (λc H1=>Q (!c) H1) I h)
def zyE(ta tb:TE):TE:=λU H Q=>ta U H λx H1=>∃c,x=.bl c/\if c=true then tb U H1 Q else Q (.bl false) H1
def tOrV(ta tb:TE):TE:=λU H Q=>ta U H λx H1=>∃c,x=.bl c/\if c=true then Q (.bl true) H1 else tb U H1 Q
def zya(ta:TE):TE:=λU H Q=>ta U H λx H1=>∃c,x=.bl c/\Q (.bl (!c)) H1
def zws{op}(h:PE X a t):PE X (.BoolOp op [a] pos) t:=λaa s U H Q I hw=>BoolOp_one (h aa s U H Q I hw)
def zwg(ha:PE X a ta)(hb:PE X (.BoolOp .And (b::rest) pos) tb):PE X (.BoolOp .And (a::b::rest) pos) (zyE ta tb):=by
 intro aa s U H Q I h;refine BoolOp_and (bK (ha aa s U H _ I h) λv s1 ⟨x,H1,I1,r1,q1⟩=>?_);obtain⟨c,rfl,q1⟩:=q1;cases r1;refine zG ?_;cases c with
 |true=>exact hb aa s1 U H1 Q I1 q1
 |false=>exact⟨.bl false,H1,I1,rfl,q1⟩
def zyV(ha:PE X a ta)(hb:PE X (.BoolOp .Or (b::rest) pos) tb):PE X (.BoolOp .Or (a::b::rest) pos) (tOrV ta tb):=by
 intro aa s U H Q I h;refine BoolOp_or (bK (ha aa s U H _ I h) λv s1 ⟨x,H1,I1,r1,q1⟩=>?_);obtain⟨c,rfl,q1⟩:=q1;cases r1;refine zG ?_;cases c with
 |false=>exact hb aa s1 U H1 Q I1 q1
 |true=>exact⟨.bl true,H1,I1,rfl,q1⟩
def zxN(ha:PE X a ta):PE X (.UnaryOp .Not a pos) (zya ta):=by
 intro aa s U H Q I h;refine UnaryOp_ (bK (ha aa s U H _ I h) λv s1 ⟨x,H1,I1,r1,q1⟩=>?_);obtain⟨c,rfl,q1⟩:=q1;cases r1;exact not_of (zG ⟨.bl (!c),H1,I1,rfl,q1⟩)
def tIf(t:TT)(ta tb:TE):TE:=λU H Q=>t U H λc H1=>if c=true then ta U H1 Q else tb U H1 Q
def zrT{c:Expr}(hc:PT X c tA)(ha:PE X a ta)(hb:PE X b tb):PE X (.IfExp c a b pos) (tIf tA ta tb):=by
 intro aa s U H Q I h;refine wpAny_IfExp (bK (hc aa s U H _ I h) λd s1 ⟨H1,I1,q1⟩=>?_);cases d with
 |true=>exact ha aa s1 U H1 Q I1 q1
 |false=>exact hb aa s1 U H1 Q I1 q1
end
def cg(K:qd)(H:Hp)(a:Addr)(xs:List V):Prop:=
 Rd H a (.lst xs) \/
  ∃(o:Obj)(its:Array Value)(n:Nat),K.lookup a=some o/\o.cls=.type "list" /\ o.dict=none/\o.data=.seq its n/\its.size<=sizeLine/\Vals xs its.toList
def fM(K:qd)(H:Hp)(a:Addr)(xs:List V):Prop:=
 Rd H a (.tup xs) \/
  ∃(o:Obj)(its:Array Value)(n:Nat),(K.lookup a=some o/\o.dict=none)/\o.cls=.type "tuple" /\ o.data=.seq its n/\its.size<=sizeLine/\Vals xs its.toList
def absV:Value->Option V
 |.none=>some .non
 |.bool b=>some (.bl b)
 |.int i _=>some (.int i)
 |.str x _=>some (.str x)
 |.bytes b _=>some (.byt b)
 |.float b _=>some (.flt b)
 |.ref a=>some (.ref a)
 |.type n=>some (.ty n)
 |_=>none
def RelV.abs(r:RelV x u):absV u=some x:=by
 cases x with
 |non=>cases r;rfl
 |bl _=>cases r;rfl
 |int _=>obtain⟨t,rfl⟩:=r;rfl
 |str _=>obtain⟨t,rfl⟩:=r;rfl
 |byt _=>obtain⟨t,rfl⟩:=r;rfl
 |flt _=>obtain⟨t,rfl⟩:=r;rfl
 |ref _=>cases r;rfl
 |ty _=>cases r;rfl
theorem RelV.inj{x y:V}{u:Value}(r:RelV x u)(q:RelV y u):x=y:=Option.some.inj (r.abs.symm.trans q.abs)
theorem Vals.inj:∀{xs ys:List V}{us:List Value},Vals xs us->Vals ys us->xs=ys
 |_,_,_,.nil,.nil=>rfl
 |_,_,_,.cons r t,.cons r' t'=>by rw[r.inj r',Vals.inj t t']
section
variable{X:Cx}{aa:List (Addr×Obj)}{U:St}{H:Hp}{s:Shared}{a:Addr}{xs ys:List V}
def cg.of{K:qd}(h:H a=some (.lst xs)):cg K H a xs:=.inl (.inl h)
def fM.of{K:qd}(h:H a=some (.tup xs)):fM K H a xs:=.inl (.inl h)
def Inv.list(I:Inv X aa U H s)(h:cg X.K H a xs):∃its:List Value,Vals xs its/\PlainL s.heap a its.toArray/\xs.length<=sizeLine:=by
 rcases h with h|⟨o,its,n,hk,hc,hd,hs,hz,r⟩
 .obtain⟨z,its,n,r,e⟩:=h.ok I.hok;exact⟨its,r,⟨_,n,e,rfl,rfl,rfl⟩,z⟩
 .refine⟨its.toList,r,⟨o,n,I.kIn a o hk,hc,hd,by simpa using hs⟩,?_⟩;have e:=r.length;simp only[Af]at e;omega
def Inv.tuple(I:Inv X aa U H s)(h:fM X.K H a xs):∃its:List Value,Vals xs its/\IsTup s.heap a its.toArray/\xs.length<=sizeLine:=by
 rcases h with h|⟨o,its,n,hk,hc,hs,hz,r⟩
 .obtain⟨z,its,r,p⟩:=h.ok I.hok;exact⟨its,r,p,z.1⟩
 .refine⟨its.toList,r,⟨o,I.kIn a o hk.1,hc,n,by simpa using hs⟩,?_⟩;have e:=r.length;simp only[Af]at e;omega
def Inv.uM(I:Inv X aa U H s)(h:fM X.K H a xs):∃o,s.heap.get? a=some o/\o.dict=none:=by
 rcases h with h|⟨o,its,n,hk,_⟩
 .exact(h.ok I.hok).1.2
 .exact⟨o,I.kIn a o hk.1,hk.2⟩
def Inv.list_inj(I:Inv X aa U H s)(h:cg X.K H a xs)(h':cg X.K H a ys):xs=ys:=by
 obtain⟨its,r,⟨o,n,e,_,_,d⟩,_⟩:=I.list h;obtain⟨its',r',⟨o',n',e',_,_,d'⟩,_⟩:=I.list h';rw[e]at e';cases e';rw[d]at d';injection d' with d1 _
 have:its=its':=by simpa using congrArg Array.toList d1
 subst this;exact r.inj r'
def Inv.tuple_inj(I:Inv X aa U H s)(h:fM X.K H a xs)(h':fM X.K H a ys):xs=ys:=by
 obtain⟨its,r,⟨o,e,_,n,d⟩,_⟩:=I.tuple h;obtain⟨its',r',⟨o',e',_,n',d'⟩,_⟩:=I.tuple h';rw[e]at e';cases e';rw[d]at d';injection d' with d1 _
 have:its=its':=by simpa using congrArg Array.toList d1
 subst this;exact r.inj r'
end
abbrev Cx.wish(X:Cx)(E:Value->Shared->Prop):Cx:={X with xe:=E}
abbrev Cx.nox(X:Cx):Cx:=X.wish λ_ _=>False
theorem Cx.Ok.wish{X:Cx}(ok:X.Ok)(E:Value->Shared->Prop):(X.wish E).Ok:=
 ⟨ok.mod,ok.kind,ok.glob,ok.blt,ok.above,ok.inj,ok.has,ok.cab,ok.hd,ok.frames,ok.stk,ok.exf,ok.bs,ok.bsz,ok.noex,ok.exfs,ok.funs,ok.frf⟩
def Cx.Ok.unwish{X:Cx}{E:Value->Shared->Prop}(ok:(X.wish E).Ok):X.Ok:=
 ⟨ok.mod,ok.kind,ok.glob,ok.blt,ok.above,ok.inj,ok.has,ok.cab,ok.hd,ok.frames,ok.stk,ok.exf,ok.bs,ok.bsz,ok.noex,ok.exfs,ok.funs,ok.frf⟩
section
variable{X:Cx}{aa:List (Addr×Obj)}{U:St}{H:Hp}{s:Shared}{E:Value->Shared->Prop}
theorem Inv.wish(I:Inv X aa U H s)(E:Value->Shared->Prop):Inv (X.wish E) aa U H s:=⟨I.ok.wish E,I.os,I.bare,I.base,I.loc,I.cell,I.free,I.freeC,I.pin,I.hok,I.len⟩
theorem Inv.unwish(I:Inv (X.wish E) aa U H s):Inv X aa U H s:=⟨I.ok.unwish,I.os,I.bare,I.base,I.loc,I.cell,I.free,I.freeC,I.pin,I.hok,I.len⟩
theorem SP.unwish(h:SP (X.wish E) aa D f s'):SP X aa D f s':=by
 cases f with
 |next=>obtain⟨U',H',I,q⟩:=h;exact⟨U',H',I.unwish,q⟩
 |brk=>obtain⟨U',H',I,q⟩:=h;exact⟨U',H',I.unwish,q⟩
 |cont=>obtain⟨U',H',I,q⟩:=h;exact⟨U',H',I.unwish,q⟩
 |ret u=>obtain⟨v,U',H',I,r,q⟩:=h;exact⟨v,U',H',I.unwish,r,q⟩
theorem PE.nox(h:PE X.nox e t):PE X e t:=λaa s U H Q I hw=>
 YAQ (h aa s U H Q (I.wish _) hw) (λ_ _ ⟨v,H',I',r,q⟩=>⟨v,H',I'.unwish,r,q⟩) λ_ _ z=>False.elim z
theorem PT.nox(h:PT X.nox e t):PT X e t:=λaa s U H Q I hw=>
 YAQ (h aa s U H Q (I.wish _) hw) (λ_ _ ⟨H',I',q⟩=>⟨H',I'.unwish,q⟩) λ_ _ z=>False.elim z
theorem mq.nox{st:List Stmt}{t:TS}(h:mq X.nox st t):mq X st t:=λaa s U H D I hw=>
 YAQ (h aa s U H D (I.wish _) hw) (λ_ _ q=>q.unwish) λ_ _ z=>False.elim z
end
section
variable{X:Cx}{st:Stmt}{rest:List Stmt}{t u:TS}{e:Expr}{te:TE}{pos:Pos}
def zx5:TS:=λD U H=>D.nx U H
def tSeq(t u:TS):TS:=λD U H=>t {D with nx:=u D} U H
def LQ:mq X [] zx5:=λ_ _ U H _ I h=>KN ⟨U,H,I,h⟩
def pD(h1:PS X st t)(h2:mq X rest u):mq X (st::rest) (tSeq t u):=by
 intro aa s U H D I h;refine wpAny_execs_cons (bK (h1 aa s U H {D with nx:=u D} I h) λf s1 q=>?_);cases f with
 |next=>
  obtain⟨U',H',I',q⟩:=q;exact h2 aa s1 U' H' D I' q
 |ret v=>exact q
 |brk=>exact q
 |cont=>exact q
def vO(h1:PS X st t):mq X [st] t:=by
 intro aa s U H D I h;refine wpAny_execs_cons (bK (h1 aa s U H D I h) λf s1 q=>?_);cases f with
 |next=>exact KN q
 |ret v=>exact q
 |brk=>exact q
 |cont=>exact q
def Inv.quiet{aa:List (Addr×Obj)}{U:St}{H:Hp}{s:Shared}(I:Inv X aa U H s):interactive X.env=false:=by simp[interactive,I.ok.kind]
def zx6(te:TE):TS:=λD U H=>te U H λ_ H1=>D.nx U H1
def Ex(he:PE X e te)(hs:swapsWith e none pos.line X.env=pure false:=by rfl):PS X (.Expr e pos) (zx6 te):=by
 intro aa s U H D I h;exact wpAny_Expr_any (bK (he aa s U H _ I h) λv s1 ⟨x,H1,I1,r1,q1⟩=>⟨U,H1,I1,q1⟩) I.quiet hs
def tRet(te:TE):TS:=λD U H=>te U H D.rt
def yq(he:PE X e te):PS X (.Return (some e) pos) (tRet te):=by
 intro aa s U H D I h;exact wpAny_Return_some (bK (he aa s U H _ I h) λv s1 ⟨x,H1,I1,r1,q1⟩=>⟨x,U,H1,I1,r1,q1⟩)
def tIfS(c:TT)(t u:TS):TS:=λD U H=>c U H λb H1=>if b=true then t D U H1 else u D U H1
def Dj{c:Expr}{a b:List Stmt}{tc:TT}(hc:PT X c tc)(ha:mq X a t)(hb:mq X b u):PS X (.If c a b pos) (tIfS tc t u):=by
 intro aa s U H D I h;refine wpAny_If (bK (hc aa s U H _ I h) λd s1 ⟨H1,I1,q1⟩=>?_);cases d with
 |true=>exact ha aa s1 U H1 D I1 q1
 |false=>exact hb aa s1 U H1 D I1 q1
end
abbrev TG:=V->St->Hp->(St->Hp->Prop)->Prop
abbrev uc:=List V->St->Hp->(St->Hp->Prop)->Prop
def PG(X:Cx)(target:Expr)(t:TG):Prop:=
 ∀(aa:List (Addr×Obj))(s:Shared)(U:St)(H:Hp)(v:V)(u:Value)(Q:St->Hp->Prop),Inv X aa U H s->RelV v u->t v U H Q ->
  wpAny (model X.prog X.w) X.A (assign target X.env u) (λ_ s'=>∃ U' H',Inv X aa U' H' s'/\Q U' H') X.xe s
def JR(X:Cx)(ts:List Expr)(t:uc):Prop:=
 ∀(aa:List (Addr×Obj))(s:Shared)(U:St)(H:Hp)(vs:List V)(us:List Value)(Q:St->Hp->Prop),Inv X aa U H s->Vals vs us->t vs U H Q ->
  wpAny (model X.prog X.w) X.A (assignInOrder ((assignEach ts X.env).map (·.2)) us) (λ_ s'=>∃ U' H',Inv X aa U' H' s'/\Q U' H') X.xe s
abbrev uW:=V->V->V->Hp->(Hp->Prop)->Prop
def Cp(X:Cx)(t:uW):Prop:=
 ∀(aa:List (Addr×Obj))(s:Shared)(U:St)(H:Hp)(o i v:V)(ov iv u:Value)(Q:Hp->Prop),Inv X aa U H s->RelV o ov->RelV i iv->RelV v u->t o i v H Q ->
  wpAny (model X.prog X.w) X.A (setItem ov iv u) (λ_ s'=>∃H',Inv X aa U H' s'/\Q H') X.xe s
abbrev TIp:=V->V->Hp->VK->Prop
def PIp(X:Cx)(op:Operator)(t:TIp):Prop:=
 ∀(aa:List (Addr×Obj))(s:Shared)(U:St)(H:Hp)(x y:V)(v u:Value)(Q:VK),Inv X aa U H s->RelV x v->RelV y u->t x y H Q ->
  wpAny (model X.prog X.w) X.A (inplaceOp op v u) (EP X aa U Q) X.xe s
section
variable{X:Cx}{pos:Pos}
def yh(i:Nat):TG:=λv U H Q=>Q (U.set i (some v)) H
def zm8(hN:X.N.Nodup)(hi:X.N[i]?=some x)(hx:Loc X.env.scope x)(hf:X.fn x=true\/X.env.scope.names.lookup x=some .local:=by first|exact .inl rfl|exact .inr rfl|assumption):PG X (.Name x pos) (yh i):=by
 intro aa s U H v u Q I r h;exact wpAny_assign_Name (zie I hN hi hx r (λs' I'=>⟨_,H,I',h⟩) hf)
def xU:uc:=λvs U H Q=>vs=[]/\Q U H
def zsy(t:TG)(u:uc):uc:=λvs U H Q=>∃v r,vs=v::r/\t v U H λU' H'=>u r U' H' Q
def mU:JR X [] xU:=by
 intro aa s U H vs us Q I r h;obtain⟨e,h⟩:=h;subst e;exact YCn ⟨U,H,I,h⟩
def dY{e:Expr}{es:List Expr}{t:TG}{u:uc}(h1:PG X e t)(h2:JR X es u)
  (hs:(assignEach (e::es) X.env).map (·.2)=assign e X.env::(assignEach es X.env).map (·.2):=by rfl):JR X (e::es) (zsy t u):=by
 intro aa s U H vs us Q I r h;obtain⟨v,vr,e1,h⟩:=h;subst e1;cases r with
 |cons r rr=>
  rw[hs];refine LK (bK (h1 aa s U H _ _ _ I r h) λ_ s1 ⟨U1,H1,I1,q1⟩=>?_);exact h2 aa s1 U1 H1 _ _ Q I1 rr q1
def gTup(K:qd)(n:Nat)(t:uc):TG:=λv U H Q=>∃a xs,v=.ref a/\fM K H a xs/\xs.length=n/\t xs U H Q
def zvM(hc:X.calm=true)(h:JR X es t)
  (hn:(assignEach es X.env).length=n:=by rfl) (hst:(assignEach es X.env).findIdx? (·.1)=none:=by rfl):PG X (.Tuple es k pos) (gTup X.K n t):=by
 intro aa s U H v u Q I r hw;obtain⟨a,xs,e1,hq,hl,hw⟩:=hw;subst e1;cases r;obtain⟨its,rv,ht,hz⟩:=I.tuple hq;refine assign_Tuple_tuple (I.ok.hd hc) ht (by simp[hn,<-hl,rv.length]) hst λh' hx=>?_;have I1:=I.kept (t':=s.toks) λb o e=>hx b o (iU (dG e)) e;exact h aa _ U H xs _ Q I1 (by simpa using rv) hw
def gSub(to ti:TE)(t:uW):TG:=λv U H Q=>to U H λo H1=>ti U H1 λi H2=>t o i v H2 λH3=>Q U H3
def zpx{o i:Expr}{to ti:TE}{t:uW}(ho:PE X o to)(hi:PE X i ti)(hs:Cp X t)
  (ha:∀v,assign (.Subscript o i pos) X.env v=(do
   let ov <-holding [v] (eval o X.env)
   let iv <-holding [v,ov] (eval i X.env)
   standAt pos
   holding [v,ov,iv] (setItem ov iv v)
   release [v,ov,iv] []):=by intro _;rfl):PG X (.Subscript o i pos) (gSub to ti t):=by
 intro aa s U H v u Q I r h;refine aP (YAU (bK (ho aa s U H _ I h) λov s1 ⟨x,H1,I1,r1,q1⟩=>?_));refine aP (YAU (bK (hi aa s1 U H1 _ I1 q1) λiv s2 ⟨y,H2,I2,r2,q2⟩=>?_));refine aP (Ed (aP (YAU (bK (hs aa s2 U H2 x y v ov iv u _ I2 r1 r2 r q2) λ_ s3 ⟨H3,I3,q3⟩=>?_))));exact wpAny_release ⟨U,H3,I3,q3⟩
def tR(te:TE)(g:TG):TS:=λD U H=>te U H λx H1=>g x U H1 D.nx
def CG{tg e:Expr}{te:TE}{g:TG}(he:PE X e te)(hg:PG X tg g)(hs:swapsWithSole [tg] e pos.line X.env=pure false:=by rfl)(hw:swappedStores [tg] e X.env=pure none:=by rfl)
  (h1:(assignEach [tg] X.env).map (·.2)=[assign tg X.env]:=by rfl):PS X (.Assign [tg] e pos) (tR te g):=by
 intro aa s U H D I h;refine wpAny_Assign_stores (bK (he aa s U H _ I h) λv s1 ⟨x,H1,I1,r1,q1⟩=>?_) hs hw;rw[h1];exact bK (hg aa s1 U H1 x v _ I1 r1 q1) λ_ s2 q=>q
def xJ{i:Nat}{x:Str}{e:Expr}{te:TE}{pos':Pos}(hN:X.N.Nodup)(hi:X.N[i]?=some x)(hx:Loc X.env.scope x)(he:PE X e te)(hs:swapsWith e (some (.Name x pos')) pos.line X.env=pure false:=by rfl)(hf:X.fn x=true\/X.env.scope.names.lookup x=some .local:=by first|exact .inl rfl|exact .inr rfl|assumption) :
  PS X (.Assign [.Name x pos'] e pos) (tR te (yh i)):=by
 intro aa s U H D I h;refine wpAny_Assign_Name (bK (he aa s U H _ I h) λv s1 ⟨y,H1,I1,r1,q1⟩=>?_) hs;exact zie I1 hN hi hx r1 (λs2 I2=>⟨_,H1,I2,q1⟩) hf
def tPar(i j:Nat)(ta:TA):TS:=λD U H=>ta U H λvs H1=>∃v w,vs=[v,w]/\D.nx ((U.set i (some v)).set j (some w)) H1
def zv5{i j:Nat}{x y:Str}{a b:Expr}{ta:TA}{px py pt:Pos}{kt k2 pt2}(hc:X.calm=true)(hN:X.N.Nodup)(hi:X.N[i]?=some x)(hj:X.N[j]?=some y)(hij:i≠j)
  (hx:X.env.scope.names.lookup x=some .local) (hy:X.env.scope.names.lookup y=some .local) (ha:PA X [a,b] ta)
  (hw:swappedStores [.Tuple [.Name x px,.Name y py] kt pt] (.Tuple [a,b] k2 pt2) X.env=pure (some [x,y]))
  (hs:swapsWithSole [.Tuple [.Name x px,.Name y py] kt pt] (.Tuple [a,b] k2 pt2) pos.line X.env=pure false:=by rfl) :
  PS X (.Assign [.Tuple [.Name x px,.Name y py] kt pt] (.Tuple [a,b] k2 pt2) pos) (tPar i j ta):=by
 intro aa s U H D I h;rw[exec_Assign_arm];refine aP (Ed ?_);rw[hs];refine aP (dO ?_);rw[if_neg (by decide)];refine aP (Tuple_ (bK (ha _ aa s U H _ I h) λus s1 ⟨vs,H1,I1,r1,q1⟩=>?_));obtain⟨v,w,e1,q1⟩:=q1;subst e1;obtain⟨u1,u2,rfl,rv,rw'⟩:∃u1 u2,us=[u1,u2]/\RelV v u1/\RelV w u2:=by
  cases r1 with
  |cons p q=>
   cases q with
   |cons p' q'=>
    cases q';exact⟨_,_,rfl,p,p'⟩
 refine Cw ?_ (by show 2<=sizeLine;decide);have I2:Inv X aa U H1 {s1 with heap:=s1.heap.push {cls:=.type "tuple",data:=.seq [u1,u2].toArray}}:=I1.kept (t':=s1.toks) λb o e=>fG _ e;rw[hw];refine aP (dO ?_);show wpAny (model X.prog X.w) X.A (do rule "assign.swapped-stores"; let items <-unpackItems (.ref s1.heap.objs.size) 2 none;assignInOrder [λv=>bindName X.env y v,λv=>bindName X.env x v] items.reverse;pure Flow.next) _ _ _;refine aP (Ep (aP (unpackItems_tuple (items:=#[u1,u2]) (I.ok.hd hc) (IsTup.new s1.heap _) λh' hx'=>?_)));have I3:=I2.kept (h':=h') (t':=s1.toks) λb o e=>hx' b o (iU (dG e)) e;show wpAny _ _ (assignInOrder [λv=>bindName X.env y v,λv=>bindName X.env x v] [u2,u1] >>=λ_=>pure Flow.next) _ _ _;refine aP (LK (wpAny_bindName (zie I3 hN hj (.inl hy) rw' (λs2 I4=>?_) (.inr hy))));refine LK (wpAny_bindName (zie I4 hN hi (.inl hx) rv (λs3 I5=>YCn (dO ?_)) (.inr hx)));rw[List.set_comm _ _ (YAD hij)]at I5;exact⟨_,H1,I5,q1⟩
def zyC(to ti te:TE)(tget:V->V->Hp->VK->Prop)(tip:TIp)(tset:uW):TS:=λD U H=>to U H λo H1=>ti U H1 λi H2=>tget o i H2 λx H3=>te U H3 λy H4=>tip x y H4 λz H5=>tset o i z H5 λH6=>D.nx U H6
def Jz(X:Cx)(t:V->V->Hp->VK->Prop):Prop:=
 ∀(aa:List (Addr×Obj))(s:Shared)(U:St)(H:Hp)(o i:V)(ov iv:Value)(Q:VK),Inv X aa U H s->RelV o ov->RelV i iv->t o i H Q ->
  wpAny (model X.prog X.w) X.A (getItem ov iv) (EP X aa U Q) X.xe s
def zt3{o i e:Expr}{to ti te:TE}{tget:V->V->Hp->VK->Prop}{tip:TIp}{tset:uW}{op:Operator}{tpos:Pos}(ho:PE X o to)(hi:PE X i ti)(hg:Jz X tget)(he:PE X e te)(hp:PIp X op tip)(hs:Cp X tset)
  (ha:∀ov iv new,augStore i ov iv new=(do holding [new,ov,iv] (setItem ov iv new);release [new,ov,iv] [];pure .next):=by intros;rfl):PS X (.AugAssign (.Subscript o i tpos) op e pos) (zyC to ti te tget tip tset):=by
 intro aa s U H D I h;refine wpAny_AugAssign_SubscriptAny (bK (ho aa s U H _ I h) λov s1 ⟨x1,H1,I1,r1,q1⟩=>?_) ha;refine bK (hi aa s1 U H1 _ I1 q1) λiv s2 ⟨x2,H2,I2,r2,q2⟩=>?_;refine bK (hg aa s2 U H2 x1 x2 ov iv _ I2 r1 r2 q2) λold s3 ⟨x3,H3,I3,r3,q3⟩=>?_;refine bK (he aa s3 U H3 _ I3 q3) λv s4 ⟨x4,H4,I4,r4,q4⟩=>?_;refine bK (hp aa s4 U H4 x3 x4 old v _ I4 r3 r4 q4) λnew s5 ⟨x5,H5,I5,r5,q5⟩=>?_;exact bK (hs aa s5 U H5 x1 x2 x5 ov iv new _ I5 r1 r2 r5 q5) λ_ s6 ⟨H6,I6,q6⟩=>⟨U,H6,I6,q6⟩
def ipI(f:Int->Int->Int):TIp:=λx y H Q=>∃i j,x=.int i/\y=.int j/\Q (.int (f i j)) H
def zvW:PIp X .Add (ipI λi j=>i+j):=by
 intro aa s U H x y v u Q I r1 r2 h;obtain⟨i,j,e1,e2,q⟩:=h;subst e1;subst e2;obtain⟨t,rfl⟩:=r1;obtain⟨t',rfl⟩:=r2;exact iadd_int ⟨.int _,H,I.tok _,⟨_,rfl⟩,q⟩
end
structure It where
 go:Nat->Hp->Prop
 yld:Nat->Hp->V->Hp->Prop
 stop:Nat->Hp->Prop
def iV(X:Cx)(aa:List (Addr×Obj))(H:Hp)(b:Addr):Prop:=
 H b=none/\b≠X.env.locals/\b∉X.fs/\(b∈X.ex\/X.s₀.heap.objs.size<=b)/\(∀x c,X.env.cells.lookup x=some c->c≠b)/\∀p∈X.pn++aa,p.1≠b
def Inv.fpOk{X:Cx}{aa:List (Addr×Obj)}{U:St}{H H':Hp}{s:Shared}{b:Addr}(I:Inv X aa U H s)(hb:s.heap.objs.size<=b)(hn:H' b=none):iV X aa H' b:=by
 refine⟨hn,Dk (lg I.lt hb),I.nofs hb,.inr (gJ I.sz hb),λx c e z=>?_,λp hp z=>?_⟩
 .obtain⟨v,q⟩:=I.cell x c e;exact absurd (lg q.lt (by rw[z];exact hb)) (YAR _)
 .exact absurd (lg (dG (I.pin p hp).1) (by rw[z];exact hb)) (YAR _)
structure Turn(P:Program)(w:World)(K:qd)(tg:Expr)(J:It)(fp:List Addr)(it:Addr)(tn:Nat->Heap->Prop):Prop where
 mem:it∈fp
 obj:∀i h,tn i h->∀b∈fp,∃o,h.get? b=some o/\∀v,o.data≠.cell v
 keep:∀i h h',tn i h->(∀b∈fp,∀o,h.get? b=some o->h'.get? b=some o)->tn i h'
 item:∀(X:Cx),X.prog=P->X.w=w->X.K=K->X.calm=true->∀(i:Nat)(aa:List (Addr×Obj))(s:Shared)(U:St)(H:Hp)(E:Value->Shared->Prop),Inv X aa U H s->(∀b∈fp,iV X aa H b)->tn i s.heap->J.go i H ->
  wpAny (model P w) X.A (pyNext (.ref it)) (λr s1=>∃u,r=some u /\
   wpAny (model P w) X.A (letOwnedTupleGo tg (.ref it) u) (λ_ s2=>∃x H',Inv X aa U H' s2/\RelV x u/\J.yld i H x H'/\tn (i+1) s2.heap/\∀b∈fp,H' b=none) E s1) E s
 done:∀(X:Cx),X.prog=P->X.w=w->X.K=K->X.calm=true->∀(i:Nat)(aa:List (Addr×Obj))(s:Shared)(U:St)(H:Hp)(E:Value->Shared->Prop),Inv X aa U H s->(∀b∈fp,iV X aa H b)->tn i s.heap->J.stop i H ->
  wpAny (model P w) X.A (pyNext (.ref it)) (λr s1=>r=none/\Inv X aa U H s1) E s
 self:∀(A:Around)(i:Nat)(s:Shared)(Q:Value->Shared->Prop)(E:Value->Shared->Prop),tn i s.heap->Q (.ref it) s->wpAny (model P w) A (pyIter (.ref it)) Q E s
abbrev TI:=St->Hp->(It->Hp->Prop)->Prop
def PIE(X:Cx)(aa:List (Addr×Obj))(U:St)(tg:Expr)(R:It->Hp->Prop)(itv:Value)(s2:Shared):Prop:=
 ∃(it:Addr)(fp:List Addr)(tn:Nat->Heap->Prop)(J:It)(H':Hp),itv=.ref it/\Inv X aa U H' s2/\Turn X.prog X.w X.K tg J fp it tn/\tn 0 s2.heap/\(∀b∈fp,iV X aa H' b)/\R J H'
def PI(X:Cx)(tg iter:Expr)(wi:TI):Prop:=
 ∀(aa:List (Addr×Obj))(s:Shared)(U:St)(H:Hp)(R:It->Hp->Prop),Inv X aa U H s->wi U H R ->
  wpAny (model X.prog X.w) X.A (eval iter X.env) (λv s1=>wpAny (model X.prog X.w) X.A (pyIter v) (PIE X aa U tg R) X.xe s1) X.xe s
def zrA(ho:s.heap.get? it=some o)(hc:o.cls=.type n)(hd:o.data=.fields vs)
    (hn:["enumerate","zip","dict_itemiterator","dict_reverseitemiterator","odict_iterator","itertools.zip_longest","itertools.pairwise"].contains n=false) (hQ:Q () s):wpAny M A (letOwnedTupleGo tg (.ref it) u) Q E s:=by
  cases tg<;>first
    |exact dO hQ
    | (cases u<;>first
        |exact dO hQ
        | (refine aP (wpAny_load ho ?_)
           rw[hc,hd];show wpAny M A (if _=true then _ else _) Q E s;rw[if_neg (by intro h;rw[hn]at h;cases h)];exact dO hQ))
def Itl(K:qd)(a:Addr):It:=
 ⟨λi H=>∃xs x,cg K H a xs/\xs[i]?=some x,λi H x H'=>H'=H/\∀xs,cg K H a xs->xs[i]?=some x,λi H=>∃xs,cg K H a xs/\xs.length<=i⟩
def Itt(K:qd)(a:Addr):It:=
 ⟨λi H=>∃xs x,fM K H a xs/\xs[i]?=some x,λi H x H'=>H'=H/\∀xs,fM K H a xs->xs[i]?=some x,λi H=>∃xs,fM K H a xs/\xs.length<=i⟩
def Itr(lo:Int)(n:Nat):It:=⟨λi _=>i<n,λi H x H'=>H'=H/\x=.int (lo+i),λi _=>n<=i⟩
def zrj{P:Program}{w:World}{K:qd}{tg:Expr}(a it:Addr):Turn P w K tg (Itl K a) [it] it (λi h=>h.IsListIter it a i)where
 mem:=by simp
 obj:=λi h st b hb=>by
  have e:b=it:=by simpa using hb
  subst e;obtain⟨o,e,c,d⟩:=st;exact⟨o,e,λv z=>by rw[d]at z;cases z⟩
 keep:=λi h h' st k=>st.at λo e=>k it (by simp) o e
 item:=by
  intro X hP hw hK hc i aa s U H E I hf st hg;subst hP hw hK;obtain⟨xs,x,hq,hx⟩:=hg;obtain⟨its,rv,p,hz⟩:=I.list hq;obtain⟨u,hu,ru⟩:=rv.get hx;obtain⟨f0,f1,f2,f3,f4,f5⟩:=hf it (by simp);refine wpAny_pyNext_list_item st p.isList (by simpa using hu) λh' st' sb=>?_;have I1:=I.turned (t':=s.toks) (λb o hb e=>(sb.2 b hb).trans e) f0 f1 f3 f4 f5;obtain⟨o,e,c,d⟩:=id st';exact⟨u,rfl,zrA e c d (by decide) ⟨x,H,I1,ru,⟨rfl,λys hy=>by rw[I.list_inj hy hq];exact hx⟩,st',λb hb=>(hf b hb).1⟩⟩
 done:=by
  intro X hP hw hK hc i aa s U H E I hf st hg;subst hP hw hK;obtain⟨xs,hq,hx⟩:=hg;obtain⟨its,rv,p,hz⟩:=I.list hq;obtain⟨f0,f1,f2,f3,f4,f5⟩:=hf it (by simp);have hl:=rv.length;exact wpAny_pyNext_list_end (I.ok.hd hc) st p.isList (by simp;omega) λh' eb=>⟨rfl,I.turned (t':=s.toks) (λb o hb e=>eb b o hb e) f0 f1 f3 f4 f5⟩
 self:=λ_ _ _ _ _ st h=>wpAny_pyIter_listiter st h
def zo1{P:Program}{w:World}{K:qd}{tg:Expr}(a it:Addr):Turn P w K tg (Itt K a) [it] it (λi h=>h.IsTupleIter it a i)where
 mem:=by simp
 obj:=λi h st b hb=>by
  have e:b=it:=by simpa using hb
  subst e;obtain⟨o,e,c,d⟩:=st;exact⟨o,e,λv z=>by rw[d]at z;cases z⟩
 keep:=λi h h' st k=>st.at λo e=>k it (by simp) o e
 item:=by
  intro X hP hw hK hc i aa s U H E I hf st hg;subst hP hw hK;obtain⟨xs,x,hq,hx⟩:=hg;obtain⟨its,rv,p,hz⟩:=I.tuple hq;obtain⟨u,hu,ru⟩:=rv.get hx;obtain⟨f0,f1,f2,f3,f4,f5⟩:=hf it (by simp);refine wpAny_pyNext_tuple_item st (p) (by simpa using hu) λh' st' sb=>?_;have I1:=I.turned (t':=s.toks) (λb o hb e=>(sb.2 b hb).trans e) f0 f1 f3 f4 f5;obtain⟨o,e,c,d⟩:=id st';exact⟨u,rfl,zrA e c d (by decide) ⟨x,H,I1,ru,⟨rfl,λys hy=>by rw[I.tuple_inj hy hq];exact hx⟩,st',λb hb=>(hf b hb).1⟩⟩
 done:=by
  intro X hP hw hK hc i aa s U H E I hf st hg;subst hP hw hK;obtain⟨xs,hq,hx⟩:=hg;obtain⟨its,rv,p,hz⟩:=I.tuple hq;obtain⟨f0,f1,f2,f3,f4,f5⟩:=hf it (by simp);have hl:=rv.length;exact wpAny_pyNext_tuple_end (I.ok.hd hc) st (p) (by simp;omega) λh' eb=>⟨rfl,I.turned (t':=s.toks) (λb o hb e=>eb b o hb e) f0 f1 f3 f4 f5⟩
 self:=λ_ _ _ _ _ st h=>wpAny_pyIter_tupleiter st h
def zoW{P:Program}{w:World}{K:qd}{tg:Expr}(it:Addr)(lo:Int)(n:Nat):Turn P w K tg (Itr lo n) [it] it (λi h=>IsRangeIter h it (lo+(i:Nat)*1) ((n:Int)-(i:Nat)) 1)where
 mem:=by simp
 obj:=λi h st b hb=>by
  have e:b=it:=by simpa using hb
  subst e;exact⟨_,st,λv z=>by
   have z':=z;cases z'⟩
 keep:=λi h h' st k=>k it (by simp) _ st
 item:=by
  intro X hP hw hK hc i aa s U H E I hf st hg;subst hP hw hK;obtain⟨f0,f1,f2,f3,f4,f5⟩:=hf it (by simp);have W:=Walks.range (prog:=X.prog) (w:=X.w) (I.ok.hd hc) it lo 1 n;refine W.item i s _ _ hg st λv h' tk hv st' kk=>?_;obtain⟨t,rfl⟩:=hv;have I1:Inv X aa U H {s with heap:=h',toks:=tk}:=I.turned (λb o hb e=>kk b o (by simpa using hb) e) f0 f1 f3 f4 f5;refine⟨_,rfl,zrA st' rfl rfl (by decide) ⟨.int _,H,I1,⟨t,?_⟩,⟨rfl,rfl⟩,st',λb hb=>(hf b hb).1⟩⟩;rw[Int.mul_one]
 done:=by
  intro X hP hw hK hc i aa s U H E I hf st hg;subst hP hw hK;obtain⟨f0,f1,f2,f3,f4,f5⟩:=hf it (by simp);exact wpAny_pyNext_range_end (I.ok.hd hc) st (by have:n<=i:=hg;omega) λh' eb=>⟨rfl,I.turned (t':=s.toks) (λb o hb e=>eb b o hb e) f0 f1 f3 f4 f5⟩
 self:=λ_ _ _ _ _ st h=>wpAny_pyIter_rangeiter st h
section
variable{X:Cx}{tg:Expr}
def zsp{aa:List (Addr×Obj)}{U:St}{H:Hp}{s:Shared}{R:It->Hp->Prop}{E:Value->Shared->Prop}{lo hi:Int}{t u v:Tok}{tk:Nat}(I:Inv X aa U H s)(h1:-(2^62)<=lo)(h2:lo<2^62)(h3:-(2^62)<=hi)(h4:hi<2^62)
  (q:R (Itr lo (hi-lo).toNat) H):wpAny (model X.prog X.w) X.A (pyIter (.ref s.heap.objs.size)) (PIE X aa U tg R) E {s with heap:=s.heap.push {cls:=.type "range",data:=.fields #[.int lo t,.int hi u,.int 1 v]},toks:=tk}:=by
 refine wpAny_pyIter_range (IsRange.new ..) (small_one h1 h2 h3 h4) ?_;have I1:Inv X aa U H {s with heap:=s.heap.push {cls:=.type "range",data:=.fields #[.int lo t,.int hi u,.int 1 v]},toks:=tk}:=I.kept λb o e=>fG _ e;refine⟨(s.heap.push {cls:=.type "range",data:=.fields #[.int lo t,.int hi u,.int 1 v]}).objs.size,[(s.heap.push {cls:=.type "range",data:=.fields #[.int lo t,.int hi u,.int 1 v]}).objs.size],_,_,H,rfl,
  I1.kept (t':=tk) λb o e=>fG _ e,zoW _ lo (hi-lo).toNat,?_,λb hb=>?_,q⟩
 .have e1:lo+((0:Nat):Int)*1=lo:=by simp
  have e2:(((hi-lo).toNat:Nat):Int)-((0:Nat):Int)=Builtin.Range.rangeSize lo hi 1:=by rw[rangeSize_one];split<;>omega
  rw[e1,e2];exact lV _ rfl
 .have e:b=(s.heap.push {cls:=.type "range",data:=.fields #[.int lo t,.int hi u,.int 1 v]}).objs.size:=by simpa using hb
  subst e;exact I1.fpOk (d8 _) (I1.hok.fresh (d8 _))
def zyf(ta:TA):TI:=λU H R=>ta U H λvs H1=>∃j:Int,vs=[.int j]/\-(2^62)<=j/\j<2^62/\R (Itr 0 j.toNat) H1
def zqG{a:Expr}{ta:TA}{p pos:Pos}(hg:Gl X "range")(hm:X.mg "range"=none)(ha:PA X [a] ta)(hs:starEach [a] X.env=[(false,eval a X.env)]:=by rfl):PI X tg (.Call (.Name "range" p) [a] [] pos) (zyf ta):=by
 intro aa s U H R I h;refine Call_ (JV I hg hm boot_range (YBz (bK (ha pos aa s U H _ I h) λus s1 ⟨vs,H1,I1,r1,q1⟩=>?_) hs rfl));obtain⟨j,e,q1,q2,q⟩:=q1;subst e;cases r1 with
 |cons r rr=>
  cases rr;obtain⟨t,rfl⟩:=r;exact call_range_1 (zsp I1 (by omega) (by omega) q1 q2 (by simpa using q))
def tFor(wi:TI)(g:TG)(tb:TS):TS:=λD U H=>wi U H λJ H1=>∃W:Nat->Nat->St->Hp->Prop,(∃m,W 0 m U H1)/\∀i m U H,W i m U H ->
 (J.stop i H/\D.nx U H)\/(J.go i H/\∃N:St->Hp->Prop,(∀ U' H',N U' H'->∃m',m'<m/\W (i+1) m' U' H')/\∀x H',J.yld i H x H'->g x U H' λU2 H2=>tb {D with nx:=N,ct:=N,bk:=D.nx} U2 H2)
def zn8(fp:List Addr)(h:Heap):List (Addr×Obj):=fp.filterMap λb=>(h.get? b).map λo=>(b,o)
def zfR{fp:List Addr}{h:Heap}{b:Addr}{o:Obj}(hb:b∈fp)(e:h.get? b=some o):(b,o)∈zn8 fp h:=Hw.mpr ⟨b,hb,by rw[e];rfl⟩
def zqe(hp:p∈zn8 fp h):p.1∈fp/\h.get? p.1=some p.2:=by
 obtain⟨b,hb,e⟩:=Hw.mp hp;cases q:h.get? b with
 |none=>rw[q]at e;cases e
 |some o=>
  rw[q]at e;have e':(b,o)=p:=Option.some.inj e;subst e';exact⟨hb,q⟩
def Inv.pinned{aa:List (Addr×Obj)}{U:St}{H:Hp}{s:Shared}{fp:List Addr}(I:Inv X aa U H s)(hf:∀b∈fp,iV X aa H b)(ho:∀b∈fp,∃o,s.heap.get? b=some o/\∀v,o.data≠.cell v):Inv X (aa++zn8 fp s.heap) U H s:=
 I.pins_of λp hp=>(rJ.mp hp).elim (λz=>I.pin p (sY _ z)) λz=>by
  obtain⟨hb,e⟩:=zqe z;obtain⟨f0,f1,f2,_⟩:=hf p.1 hb;obtain⟨o,e',d⟩:=ho p.1 hb;rw[e]at e';cases e';exact⟨e,f0,f1,f2,d⟩
def Inv.unpinned{aa pl:List (Addr×Obj)}{U:St}{H:Hp}{s:Shared}(I:Inv X (aa++pl) U H s):Inv X aa U H s:=I.pins_of λp hp=>I.pin p (sY _ (Ay _ hp))
def ztA{iter:Expr}{body:List Stmt}{wi:TI}{g:TG}{tb:TS}{pos:Pos}(hp:PassesOwn (model X.prog X.w) X.A X.env X.xe)(hc:X.calm=true)(hi:PI X tg iter wi)(hg:PG X tg g)(hb:mq X body tb)
  (hs:∀x,foldedSetIterable iter X.env x=pure x:=by intro _;rfl):PS X (.For tg iter body [] pos) (tFor wi g tb):=by
 intro aa s U H D I h;refine wpAny_For (bK (hi aa s U H _ I h) λv s1 h1=>bK h1 λitv s2 h2=>?_) hs;obtain⟨it,fp,tn,J,H2,e,I2,T,st2,f2,W,⟨m0,w0⟩,turn⟩:=h2;subst e
 -- what stays true of the iterator's objects through the loop
 have stat:∀{H':Hp},(∀b∈fp,H' b=none)->∀b∈fp,iV X aa H' b:=λhn b hb=>⟨hn b hb,(f2 b hb).2⟩;refine codeAny_forLoop_any (λn s'=>∃i U' H',Inv X aa U' H' s'/\tn i s'.heap/\(∀b∈fp,H' b=none)/\W i n U' H') ?_ m0 ⟨0,U,H2,I2,st2,λb hb=>(f2 b hb).1,w0⟩;rintro n s3 ⟨i,U3,H3,I3,st3,fr3,w3⟩;rcases turn i n U3 H3 w3 with⟨stop,qn⟩|⟨go,N,hN,step⟩
 .refine JH hp (bK (T.done X rfl rfl rfl hc i aa s3 U3 H3 X.xe I3 (stat fr3) st3 stop) λr s4 ⟨hr,I4⟩=>?_);subst hr;exact KN ⟨U3,H3,I4,qn⟩
 .refine JH hp (bK (T.item X rfl rfl rfl hc i aa s3 U3 H3 X.xe I3 (stat fr3) st3 go) λr s4 ⟨u,hr,h4⟩=>?_);subst hr;refine JH hp (bK h4 λ_ s5 ⟨x,H5,I5,r5,y5,st5,fr5⟩=>?_);have I5':=I5.pinned (stat fr5) (T.obj _ _ st5);refine JH hp (bK (hg _ s5 U3 H5 x u _ I5' r5 (step x H5 y5)) λ_ s6 ⟨U6,H6,I6,q6⟩=>?_);refine JH hp (bK (hb _ s6 U6 H6 _ I6 q6) λf s7 q7=>?_);have again:∀{U7:St}{H7:Hp},Inv X _ U7 H7 s7->N U7 H7->∃m,m<n/\∃i U' H',Inv X aa U' H' s7/\tn i s7.heap/\(∀b∈fp,H' b=none)/\W i m U' H':=λ{U7 H7} I7 n7=>by
   obtain⟨m',hm,w7⟩:=hN U7 H7 n7;refine⟨m',hm,i+1,U7,H7,I7.unpinned,T.keep _ _ _ st5 λb hb o e=>(I7.pin _ (sY _ (sY _ (zfR hb e)))).1,λb hb=>?_,w7⟩;obtain⟨o,e,d⟩:=T.obj _ _ st5 b hb;exact(I7.pin _ (sY _ (sY _ (zfR hb e)))).2.1
  cases f with
  |next=>obtain⟨U7,H7,I7,n7⟩:=q7;exact again I7 n7
  |cont=>obtain⟨U7,H7,I7,n7⟩:=q7;exact again I7 n7
  |brk=>obtain⟨U7,H7,I7,q7⟩:=q7;exact⟨U7,H7,I7.unpinned,q7⟩
  |ret v=>obtain⟨x7,U7,H7,I7,r7,q7⟩:=q7;exact⟨x7,U7,H7,I7.unpinned,r7,q7⟩
end
abbrev R2:=V->V->Hp->VK->Prop
def gP(X:Cx)(f:Value->Value->Sem Value)(r:R2):Prop:=
 ∀(aa:List (Addr×Obj))(s:Shared)(U:St)(H:Hp)(x y:V)(v u:Value)(Q:VK),Inv X aa U H s->RelV x v->RelV y u->r x y H Q ->
  wpAny (model X.prog X.w) X.A (f v u) (EP X aa U Q) X.xe s
def UnR(X:Cx)(f:Value->Sem Value)(r:V->Hp->VK->Prop):Prop:=
 ∀(aa:List (Addr×Obj))(s:Shared)(U:St)(H:Hp)(x:V)(v:Value)(Q:VK),Inv X aa U H s->RelV x v->r x H Q ->
  wpAny (model X.prog X.w) X.A (f v) (EP X aa U Q) X.xe s
def cL(X:Cx)(f:Value)(r:List V->Hp->VK->Prop):Prop:=
 ∀(aa:List (Addr×Obj))(s:Shared)(U:St)(H:Hp)(xs:List V)(us:List Value)(Q:VK),Inv X aa U H s->Vals xs us->r xs H Q ->
  wpAny (model X.prog X.w) X.A (call f us) (EP X aa U Q) X.xe s
def TruR(X:Cx)(r:V->Hp->(Bool->Hp->Prop)->Prop):Prop:=
 ∀(aa:List (Addr×Obj))(s:Shared)(U:St)(H:Hp)(x:V)(v:Value)(Q:Bool->Hp->Prop),Inv X aa U H s->RelV x v->r x H Q ->
  wpAny (model X.prog X.w) X.A (truthy v) (TP X aa U Q) X.xe s
def HN(r:R2)(ta tb:TE):TE:=λU H Q=>ta U H λx H1=>tb U H1 λy H2=>r x y H2 Q
def tUn(r:V->Hp->VK->Prop)(ta:TE):TE:=λU H Q=>ta U H λx H1=>r x H1 Q
def rI(C:Int->Int->Prop)(g:Int->Int->V):R2:=λx y H Q=>∃i j,x=.int i/\y=.int j/\C i j/\Q (g i j) H
def xu(g:Int->Int->V):R2:=λx y H Q=>∃i j,x=.int i/\y=.int j/\Q (g i j) H
def rU(g:Int->V):V->Hp->VK->Prop:=λx H Q=>∃i,x=.int i/\Q (g i) H
section
variable{X:Cx}{a b c:Expr}{ta tb tc:TE}{pos:Pos}
def Bc(ha:PE X a ta)(hb:PE X b tb){aa:List (Addr×Obj)}{s:Shared}{U:St}{H:Hp}{R:V->V->Hp->Prop}(I:Inv X aa U H s)
  (h:ta U H λx H1=>tb U H1 λy H2=>R x y H2) {Q:Value->Shared->Prop} {f:Value->Value->Sem Value}
  (hf:∀v u s2 x y H2,Inv X aa U H2 s2->RelV x v->RelV y u->R x y H2->wpAny (model X.prog X.w) X.A (f v u) Q X.xe s2) :
  wpAny (model X.prog X.w) X.A (eval a X.env) (λv s₁=>wpAny (model X.prog X.w) X.A (eval b X.env) (λu s₂=>wpAny (model X.prog X.w) X.A (f v u) Q X.xe s₂) X.xe s₁) X.xe s:=by
 refine bK (ha aa s U H _ I h) λv s1 ⟨x,H1,I1,r1,q1⟩=>(bK (hb aa s1 U H1 _ I1 q1) λu s2 ⟨y,H2,I2,r2,q2⟩=>?_);exact hf v u s2 x y H2 I2 r1 r2 q2
def qG{op:Operator}{r:R2}(ho:gP X (binaryOp op) r)(ha:PE X a ta)(hb:PE X b tb):PE X (.BinOp a op b pos) (HN r ta tb):=by
 intro aa s U H Q I h;exact wpAny_BinOp (Bc ha hb I h λv u s2 x y H2 I2 rx ry q=>ho aa s2 U H2 x y v u Q I2 rx ry q)
def zyG{op:UnaryOp}{r:V->Hp->VK->Prop}(ho:UnR X (unaryOp op) r)(ha:PE X a ta):PE X (.UnaryOp op a pos) (tUn r ta):=by
 intro aa s U H Q I h;exact UnaryOp_ (bK (ha aa s U H _ I h) λv s1 ⟨x,H1,I1,r1,q1⟩=>ho aa s1 U H1 x v Q I1 r1 q1)
def Lb{f:Value->Value->Sem Value}{C:Int->Int->Prop}{g:Int->Int->Int}
  (rule:∀(i j:Int)(t u:Tok)(s:Shared)(Q:Value->Shared->Prop)(E:Value->Shared->Prop),C i j->Q (.int (g i j) s.toks) {s with toks:=s.toks+1}->wpAny (model X.prog X.w) X.A (f (.int i t) (.int j u)) Q E s) :
  gP X f (rI C λi j=>.int (g i j)):=by
 intro aa s U H x y v u Q I rx ry h;obtain⟨i,j,rfl,rfl,hc,q⟩:=h;obtain⟨t,rfl⟩:=rx;obtain⟨t',rfl⟩:=ry;exact rule i j t t' s _ _ hc ⟨.int _,H,I.tok _,⟨_,rfl⟩,q⟩
def opI0{f:Value->Value->Sem Value}{g:Int->Int->Int}
  (rule:∀(i j:Int)(t u:Tok)(s:Shared)(Q:Value->Shared->Prop)(E:Value->Shared->Prop),Q (.int (g i j) s.toks) {s with toks:=s.toks+1}->wpAny (model X.prog X.w) X.A (f (.int i t) (.int j u)) Q E s) :
  gP X f (xu λi j=>.int (g i j)):=by
 intro aa s U H x y v u Q I rx ry h;obtain⟨i,j,rfl,rfl,q⟩:=h;obtain⟨t,rfl⟩:=rx;obtain⟨t',rfl⟩:=ry;exact rule i j t t' s _ _ ⟨.int _,H,I.tok _,⟨_,rfl⟩,q⟩
def xO{f:Value->Value->Sem Value}{g:Int->Int->Bool}
  (rule:∀(i j:Int)(t u:Tok)(s:Shared)(Q:Value->Shared->Prop)(E:Value->Shared->Prop),Q (.bool (g i j)) s->wpAny (model X.prog X.w) X.A (f (.int i t) (.int j u)) Q E s) :
  gP X f (xu λi j=>.bl (g i j)):=by
 intro aa s U H x y v u Q I rx ry h;obtain⟨i,j,rfl,rfl,q⟩:=h;obtain⟨t,rfl⟩:=rx;obtain⟨t',rfl⟩:=ry;exact rule i j t t' s _ _ ⟨.bl _,H,I,rfl,q⟩
def CDiv(i j:Int):Prop:=0<j/\j<1073741824
def CPow(i j:Int):Prop:=0<=j/\j<=1000000/\i.natAbs<2^64
def Cj(i j:Int):Prop:=(-(2^64)<i/\i<2^64)\/(-(2^64)<j/\j<2^64)
def Cj.ok{i j:Int}(h:Cj i j):IntMulOk i j:=by
 rcases h with⟨h1,h2⟩|⟨h1,h2⟩
 .exact .of_left (intBits_le_64 h1 h2)
 .exact .of_right (intBits_le_64 h1 h2)
def nM:gP X (binaryOp .Add) (xu λi j=>.int (i+j)):=opI0 λ_ _ _ _ _ _ _ q=>add_int q
def zts:gP X (binaryOp .Mult) (rI Cj λi j=>.int (i*j)):=Lb λ_ _ _ _ _ _ _ hc q=>mul_int q hc.ok
def zuR:gP X (binaryOp .FloorDiv) (rI CDiv λi j=>.int (i / j)):=Lb λi j _ _ _ _ _ hc q=>by
 have h1:(0:Int)<j:=hc.1;have h2:j<1073741824:=hc.2;exact floordiv_int (by omega) (by rw[Int.fdiv_eq_ediv_of_nonneg i (by omega)];exact q) (.inl (PyProof.noPylong_small (by omega)))
def Dn:gP X (binaryOp .Mod) (rI (λ_ j=>0<j) λi j=>.int (i % j)):=Lb λi j _ _ _ _ _ hc q=>by
 exact mod_int' (by omega) (by rw[Int.fmod_eq_emod_of_nonneg i (by omega)];exact q)
def ztj:gP X (binaryOp .Pow) (rI CPow λi j=>.int (i^j.toNat)):=Lb λ_ _ _ _ _ _ _ hc q=>pow_int_small hc.1 hc.2.1 hc.2.2 q
def unI{f:Value->Sem Value}{g:Int->Int}
  (rule:∀(i:Int)(t:Tok)(s:Shared)(Q:Value->Shared->Prop)(E:Value->Shared->Prop),Q (.int (g i) s.toks) {s with toks:=s.toks+1}->wpAny (model X.prog X.w) X.A (f (.int i t)) Q E s) :
  UnR X f (rU λi=>.int (g i)):=by
 intro aa s U H x v Q I rx h;obtain⟨i,rfl,q⟩:=h;obtain⟨t,rfl⟩:=rx;exact rule i t s _ _ ⟨.int (g i),H,I.tok _,⟨_,rfl⟩,q⟩
def zvL:UnR X (unaryOp .USub) (rU λi=>.int (-i)):=unI λ_ _ _ _ _ q=>neg_int q
end
section
variable{X:Cx}{a b c:Expr}{ta tb tc:TE}{pos:Pos}
def zv9(I:Inv X aa U H s)(q:Q (.bl k) H)(e:k=k'):EP X aa U Q (.bool k') s:=by
 subst e;exact⟨.bl k,H,I,rfl,q⟩
def zwE:gP X (compareOp .Lt) (xu λi j=>.bl (decide (i<j))):=xO λ_ _ _ _ _ _ _ q=>lt_int q
def zxx:gP X (compareOp .LtE) (xu λi j=>.bl (decide (i<=j))):=xO λ_ _ _ _ _ _ _ q=>le_int q
def zub:gP X (compareOp .Gt) (xu λi j=>.bl (decide (j<i))):=xO λ_ _ _ _ _ _ _ q=>gt_int q
def zvP:gP X (compareOp .GtE) (xu λi j=>.bl (decide (j<=i))):=xO λ_ _ _ _ _ _ _ q=>ge_int q
def zrr:gP X (compareOp .In) (λx y H Q=>∃i j,x=.str i/\y=.str j/\Q (.bl (!(Builtin.Str.occurrences j i 0 j.length 1).isEmpty)) H):=by
 intro aa s U H x y v u Q I rx ry h;obtain⟨i,j,rfl,rfl,q⟩:=h;obtain⟨t,rfl⟩:=rx;obtain⟨t',rfl⟩:=ry;exact in_str (zv9 I q rfl)
def gP.or{f:Value->Value->Sem Value}{r r':R2}(h:gP X f r)(h':gP X f r'):gP X f (λx y H Q=>r x y H Q\/r' x y H Q):=by
 intro aa s U H x y v u Q I rx ry q;rcases q with q|q
 .exact h aa s U H x y v u Q I rx ry q
 .exact h' aa s U H x y v u Q I rx ry q
def uR(b:Expr)(h:op≠.In:=by decide)(h2:op≠.NotIn:=by decide):behindInMarks op b=false:=by
 have e1:(op==CmpOp.In)=false:=by cases op<;>first|rfl|exact absurd rfl h
 have e2:(op==CmpOp.NotIn)=false:=by cases op<;>first|rfl|exact absurd rfl h2
 cases b<;>simp[behindInMarks,e1,e2]
def zuj(ho:gP X (compareOp op) r)(ha:PE X a ta)(hb:PE X b tb)(hm:behindInMarks op b=false):PE X (.Compare a [op] [b] pos) (HN r ta tb):=by
 intro aa s U H Q I h;exact wpAny_Compare1 (Bc ha hb I h λv u s2 x y H2 I2 rx ry q=>ho aa s2 U H2 x y v u Q I2 rx ry q) hm
def zwK(t:TE):TT:=λU H Q=>t U H λx H'=>∃k,x=.bl k/\Q k H'
def zks{op:CmpOp}{r:R2}(ho:gP X (compareOp op) r)(ha:PE X a ta)(hb:PE X b tb)(hm:behindInMarks op b=false):PT X (.Compare a [op] [b] pos) (zwK (HN r ta tb)):=by
 intro aa s U H Q I h;refine wpAny_isTrue_Compare1 (bK (ha aa s U H _ I h) λv s1 ⟨x,H1,I1,r1,q1⟩=>bK (hb aa s1 U H1 _ I1 q1) λu s2 ⟨y,H2,I2,r2,q2⟩=>
  bK (ho aa s2 U H2 x y v u _ I2 r1 r2 q2) λc s3 ⟨z,H3,I3,r3,k,e,q3⟩=>?_) hm
 subst e;cases r3;exact zG ⟨H3,I3,q3⟩
def ztB(r r':R2)(ta tb tc:TE):TE:=λU H Q=>ta U H λx H1=>tb U H1 λy H2=>r x y H2 λz H3=>∃k,z=.bl k /\
 (if k=true then tc U H3 λw' H4=>r' y w' H4 Q else Q (.bl false) H3)
def zrL{op op':CmpOp}{r r':R2}(ho:gP X (compareOp op) r)(ho':gP X (compareOp op') r')(ha:PE X a ta)(hb:PE X b tb)(hc:PE X c tc)
  (hm:lastMarks [op,op'] [b,c]=false:=by with_unfolding_all rfl):PE X (.Compare a [op,op'] [b,c] pos) (ztB r r' ta tb tc):=by
 intro aa s U H Q I h;refine Compare_chain (bK (ha aa s U H _ I h) λv s1 ⟨x,H1,I1,r1,q1⟩=>chain_link (bK (hb aa s1 U H1 _ I1 q1) λu s2 ⟨y,H2,I2,r2,q2⟩=>
  bK (ho aa s2 U H2 x y v u _ I2 r1 r2 q2) λd s3 ⟨z,H3,I3,r3,k,e,q3⟩=>?_)) hm
 subst e;cases r3;refine zG ?_;cases k with
 |false=>exact ite_ff ⟨.bl false,H3,I3,rfl,q3⟩
 |true=>exact ite_tt (chain_last (bK (hc aa s3 U H3 _ I3 q3) λw' s4 ⟨z',H4,I4,r4,q4⟩=>ho' aa s4 U H4 y z' u w' Q I4 r2 r4 q4))
def BL(K:qd)(x:V)(H:Hp)(k:Bool):Prop:=
 match x with
 |.non=>k=false
 |.bl b=>k=b
 |.int i=>k=(i != 0)
 |.str y=>y.length<=sizeLine/\k=((y.length:Int) != 0)
 |.byt y=>y.size<=sizeLine/\k=((y.size:Int) != 0)
 |.ref p=>(∃xs,cg K H p xs/\k = !xs.isEmpty)\/(∃xs,fM K H p xs/\k = !xs.isEmpty)\/∃kvs,H p=some (.dK kvs)/\k = !kvs.isEmpty
 |_=>False
def zoB{κ:Type}{kvs:List (κ×V)}{vs:List (κ×Value)}(r:KV kvs vs):(!vs.isEmpty) = !kvs.isEmpty:=by
 cases r<;>rfl
def zkb{xs:List V}{its:List Value}(r:Vals xs its):(!its.toArray.isEmpty) = !xs.isEmpty:=by
 cases r<;>simp
def Be:(sizeLine:Nat)<2^63:=by decide
def zwl:TruR X (λx H Q=>∃k,BL X.K x H k/\Q k H):=by
 intro aa s U H x v Q I rx h;obtain⟨k,e,q⟩:=h;have hs:=YAS;cases x with
 |non=>
  cases rx;have e':=e;subst e';exact truthy_none ⟨H,I,q⟩
 |bl b=>
  cases rx;have e':=e;subst e';exact zG ⟨H,I,q⟩
 |int i=>
  obtain⟨t,rfl⟩:=rx;have e':=e;subst e';exact PySem.P.truthy_int ⟨H,I,q⟩
 |str y=>
  obtain⟨t,rfl⟩:=rx;obtain⟨hy,e'⟩:y.length<=sizeLine/\k=_:=e;subst e';exact PySem.P.truthy_str (by omega) ⟨H,I.tok _,q⟩
 |byt y=>
  obtain⟨t,rfl⟩:=rx;obtain⟨hy,e'⟩:y.size<=sizeLine/\k=_:=e;subst e';exact PySem.W.truthy_bytes (by omega) ⟨H,I.tok _,q⟩
 |ref p=>
  cases rx;have e':=e;rcases e' with⟨xs,hx,e'⟩|⟨xs,hx,e'⟩|⟨kvs,hx,e'⟩
  .subst e';obtain⟨its,r,pl,hz⟩:=I.list hx;have hlen:=r.length;exact wpAny_truthy_list pl.isList (by simp only[jx];omega) ⟨H,I.tok _,by rw[zkb r];exact q⟩
  .subst e';obtain⟨its,r,pl,hz⟩:=I.tuple hx;have hlen:=r.length;exact truthy_tuple pl (by simp only[jx];omega) ⟨H,I.tok _,by rw[zkb r];exact q⟩
  .subst e';obtain⟨hz,hS,vs,r,m⟩:kvs.length<=sizeLine/\_=false/\∃vs,KV kvs vs/\s.heap.DictOf _ p vs:=I.hok p _ hx;have hlen:=Paired.length r;exact wpAny_truthy_dict hS m (by omega) ⟨H,I.tok _,by rw[zoB r];exact q⟩
 |_=>exact(e).elim
def zkx(ha:PE X a ta)(he:∀whole,isTrue a X.env whole=(do let v <-whole;standAt a.pos;holding [v] (truthy v))) :
  PT X a (λU H Q=>ta U H λx H'=>∃k,BL X.K x H' k/\Q k H'):=by
 intro aa s U H Q I h;exact isTrue_plain (bK (ha aa s U H _ I h) λv s1 ⟨x,H1,I1,r1,q1⟩=>zwl aa s1 U H1 x v Q I1 r1 q1) (he _)
def zpp:gP X (binaryOp .Add) (λx y H Q=>∃i j,x=.str i/\y=.str j/\i.length+j.length<=sizeLine/\Q (.str (i++j)) H):=by
 intro aa s U H x y v u Q I rx ry h;obtain⟨i,j,rfl,rfl,hz,q⟩:=h;obtain⟨t,rfl⟩:=rx;obtain⟨t',rfl⟩:=ry;exact add_str (λt' tk=>⟨.str _,H,I.tok _,⟨_,rfl⟩,q⟩) hz
def qx(r:Vals [x] us):∃u,us=[u]/\RelV x u:=by
 cases r with
 |cons r1 r2=>cases r2;exact⟨_,rfl,r1⟩
def zuD(r:Vals [x,y] us):∃u w',us=[u,w']/\RelV x u/\RelV y w':=by
 cases r with
 |cons r1 r2=>
  cases r2 with
  |cons r3 r4=>cases r4;exact⟨_,_,rfl,r1,r3⟩
def zql(hc:X.calm=true):cL X (.builtin "max") (λxs H Q=>∃i j,xs=[.int i,.int j]/\Q (.int (if j>i then j else i)) H):=by
 intro aa s U H xs us Q I r h;obtain⟨i,j,rfl,q⟩:=h;obtain⟨u,w',rfl,⟨t,rfl⟩,⟨t',rfl⟩⟩:=zuD r;refine max_two_ints (I.ok.hd hc) λh' tk k=>⟨_,H,I.kept k,?_,q⟩;by_cases hj:j>i
 .rw[if_pos hj,if_pos hj];exact⟨_,rfl⟩
 .rw[if_neg hj,if_neg hj];exact⟨_,rfl⟩
def sO:cL X (.type "int") (λxs H Q=>(∃i,xs=[.int i]/\Q (.int i) H)\/∃k,xs=[.bl k]/\Q (.int (if k then 1 else 0)) H):=by
 intro aa s U H xs us Q I r h;rcases h with⟨i,rfl,q⟩|⟨k,rfl,q⟩
 .obtain⟨u,rfl,t,rfl⟩:=qx r;exact call_int_int ⟨.int i,H,I,⟨_,rfl⟩,q⟩
 .obtain⟨u,rfl,r1⟩:=qx r;cases r1;exact call_int_bool ⟨.int _,H,I.tok _,⟨_,rfl⟩,q⟩
def nO:cL X (.type "str") (λxs H Q=>∃i,xs=[.int i]/\i.natAbs.log2<1920/\Q (.str (toString i)) H):=by
 intro aa s U H xs us Q I r h;obtain⟨i,rfl,hz,q⟩:=h;obtain⟨u,rfl,t,rfl⟩:=qx r;exact PySem.P.str_of_int hz ⟨.str _,H,I.tok _,⟨_,rfl⟩,q⟩
end
structure rF(h:Heap)(x dx C:Addr)(mA:Str->Option Value):Prop where
 obj:h.get? x=some (PySem.W.instObj C dx)
 ns:h.Ns1 dx mA
 ne:dx≠x
def zri{h:Heap}{dx:Addr}{mA:Str->Option Value}(n:h.Ns1 dx mA):∃od,h.get? dx=some od/\∀name,PySem.W.lookIn name od=some (mA name):=by
 obtain⟨o,es,ep,ho,hd,hk,_,hm⟩:=n;refine⟨o,ho,λname=>?_⟩;have e:=hm name;unfold nsFind findBy at e;rw[<-Array.find?_toList]at e;unfold PySem.W.lookIn;rw[hd];dsimp only;split
 .rename_i y q
  rw[q]at e;exact congrArg some e
 .rename_i q
  rw[q]at e;have a:es.toList.any (·.refKey)=false:=by
   rw[List.any_eq_false];intro y hy;obtain⟨z,t,hkey⟩:=hk y (Array.mem_toList_iff.mp hy);simp[DictEntry.refKey,hkey]
  have a':¬ es.toList.any (·.refKey)=true:=by rw[a];exact Bool.false_ne_true
  rw[if_neg a'];exact congrArg some e
def rF.look(I:rF h x dx C mA):∃od,PySem.W.InstAt h x (PySem.W.instObj C dx) C (some od)/\∀name,PySem.W.lookIn name od=some (mA name):=
 let⟨od,ho,hl⟩:=zri I.ns
 ⟨od,⟨I.obj,rfl,rfl,ho⟩,hl⟩
section
variable{prog:Program}{w:World}{A:Around}{E:Value->Shared->Prop}{s:Shared}{K:qd}{x dx C f:Addr}{mA:Str->Option Value}{name:Str}{v:Value}
def zuO(X:K.In s.heap)(I:rF s.heap x dx C mA)(hg:PySem.W.plainGet K C name=true)(hh:PySem.W.hasDictIn K C=true)
  (ha:PySem.W.findIn K (.ref C) name=some none) (hv:mA name=some v) (hv':PySem.W.handedIn v=true) (h:Q v {s with toks:=s.toks+1}) :
  wpAny (model prog w) A (getAttr (.ref x) name expr) Q E s:=by
 obtain⟨od,J,hl⟩:=I.look;exact PySem.W.get_value X J (YCe hg).1 (PySem.W.findObj_own hh ha rfl (by rw[hl,hv])) hv' h
def zsX(X:K.In s.heap)(I:rF s.heap x dx C mA)(hg:PySem.W.plainGet K C name=true)
  (hf:PySem.W.findIn K (.ref C) name=some (some (.ref f))) (ht:PySem.W.isFn K (.ref f)=true) (hv:mA name=none) (h:Q (.ref f,[.ref x]) s) :
  wpAny (model prog w) A (getMethod (.ref x) name pl) Q E s:=by
 obtain⟨od,J,hl⟩:=I.look;exact PySem.W.method_fn X J (YCe hg).1 (YCe hg).2 hf (Ad.mp ht) (by show(PySem.W.lookIn name od).map _=some false;rw[hl,hv];rfl) h
def zve(X:K.In s.heap)(I:rF s.heap x dx C mA)
  (hs:PySem.W.findIn K (.ref C) "__setattr__"=some (some (.builtin "object.__setattr__"))) (hp:PySem.W.plainOver K C=true) (ht:PySem.W.takerIn K C name=some none) (hh:PySem.W.hasDictIn K C=true)
  (hw:PySem.Within mA ns) (hsz:ns.length<=sizeLine)
  (h:∀h',rF h' x dx C (λy=>if y=name then some v else mA y)->Heap.SameBut dx s.heap h'->Q () {s with heap:=h',toks:=s.toks+2}) :
  wpAny (model prog w) A (setAttr (.ref x) name v) Q E s:=by
 obtain⟨od,J,hl⟩:=I.look;refine PySem.W.set_plain X J hs (PySem.W.osa_open X J hp ht λb=>?_);obtain⟨cd,hc,hd'⟩:=PySem.W.any_some hh;have hx:=I.obj;refine aP (dO (aP (aP (wpAny_loadPart hx (aP (PySem.W.Looks.here (PySem.W.looks_clsIn X hc) ?_))))));rw[hd'];refine dO (aP (dO (aP ?_)));refine wpAny_nsSet1 I.ns λh' hn2 hs2=>?_;obtain⟨oD,esD,epD,hoD,hdD,hcD⟩:=hn2.count (PySem.Within.cons name v hw);refine aP (wpAny_lookBehind hoD (by rw[hdD];exact pastItsLine_dict (gJ hcD (by rw[YAA];omega))) ?_);exact dO (h _ ⟨(hs2.2 _ (YAD I.ne)).trans I.obj,hn2,I.ne⟩ hs2)
def zrG(X:K.In s.heap)(hm:PySem.W.makesIn K C=true)
  (hi:PySem.W.findIn K (.ref C) "__init__"=some (some (.ref f))) (hf:PySem.W.typeIn K (.ref f)=some (.type "function"))
  (h:codeAny (model prog w) (A.under (.builtin "type.__call__" ⟨.ref C::vs,kw⟩)) (.call (.ref f) ⟨.ref (s.heap.objs.size+1)::vs,kw⟩) (PySem.W.InitBack (s.heap.objs.size+1) R)
   {s with heap:=(s.heap.push PySem.W.emptyDict).push (PySem.W.instObj C s.heap.objs.size)}) :
  codeAny (model prog w) A (.call (.ref C) ⟨vs,kw⟩) R s:=by
 obtain⟨hh,g,d,t,os⟩:=s;exact PySem.W.make_core (PySem.W.makes_of X hm) (PySem.W.looks_findIn X hi) (λself=>PySem.W.bind_fn X self hf) (.inl rfl) h
end
def gW(f:Str)(v:V):List (Str×V)->List (Str×V)
 |[]=>[(f,v)]
 | (g,x)::r=>if g=f then(g,v)::r else(g,x)::gW f v r
theorem zjg(f g:Str)(v:V):∀fs:List (Str×V),(gW f v fs).lookup g=if g=f then some v else fs.lookup g
 |[]=>by
  show List.lookup g [_]=_;by_cases h:g=f
  .have hb:=Ad.mpr h;simp only[List.lookup,hb,if_pos h]
  .have hb:=YAE.mpr h;simp only[List.lookup,hb,if_neg h]
 | (k,x)::r=>by
  have ih:=zjg f g v r;rw[show gW f v _=(if k=f then _::r else _::gW f v r)from rfl];by_cases hk:k=f
  .rw[if_pos hk];by_cases h:g=k
   .have hb:=Ad.mpr h;simp only[List.lookup,hb,if_pos (h.trans hk)]
   .have hb:=YAE.mpr h;simp only[List.lookup,hb,if_neg (λe:g=f=>h (e.trans hk.symm))]
  .rw[if_neg hk];by_cases h:g=k
   .have hb:(g==k)=true:=Ad.mpr h;simp only[List.lookup,hb,if_neg (λe:g=f=>hk (h.symm.trans e))]
   .have hb:(g==k)=false:=YAE.mpr h;simp only[List.lookup,hb];exact ih
theorem zir(f:Str)(v:V):∀fs:List (Str×V),f∈(gW f v fs).map (·.1)/\∀g,g∈fs.map (·.1)->g∈(gW f v fs).map (·.1)
 |[]=>⟨by simp[gW],λg h=>by simp at h⟩
 | (k,x)::r=>by
  obtain⟨i1,i2⟩:=zir f v r;rw[show gW f v _=(if k=f then _::r else _::gW f v r)from rfl];by_cases hk:k=f
  .rw[if_pos hk];subst hk;exact⟨by simp,λg h=>by simpa using h⟩
  .rw[if_neg hk];refine⟨?_,λg h=>?_⟩
   .rw[fj];exact fL _ i1
   .rw[fj]at h ⊢;rcases eX.mp h with e|e
    .exact eX.mpr (.inl e)
    .exact fL _ (i2 g e)
theorem ziA(f:Str)(v:V):∀fs:List (Str×V),(gW f v fs).length<=fs.length+1
 |[]=>by simp[gW]
 | (k,x)::r=>by
  have ih:=ziA f v r;rw[show gW f v ((k,x)::r)=(if k=f then(k,v)::r else(k,x)::gW f v r)from rfl];by_cases hk:k=f
  .rw[if_pos hk,YAA,YAA];omega
  .rw[if_neg hk,YAA,YAA];omega
def gH.some_of(r:gH (some v) o):∃u,o=some u/\RelV v u:=by
 cases o with
 |none=>exact(r).elim
 |some u=>exact⟨u,rfl,r⟩
def gH.none_of(r:gH none o):o=none:=by
 cases o with
 |none=>rfl
 |some u=>exact(r).elim
def zpA(r:RelV v u):PySem.W.handedIn u=true:=by
 cases v with
 |non=>cases (r);rfl
 |bl b=>cases (r);rfl
 |int i=>obtain⟨t,e⟩:=(r);cases e;rfl
 |str x=>obtain⟨t,e⟩:=(r);cases e;rfl
 |byt b=>obtain⟨t,e⟩:=(r);cases e;rfl
 |flt b=>obtain⟨t,e⟩:=(r);cases e;rfl
 |ref a=>cases (r);rfl
 |ty n=>cases (r);rfl
section
variable{P:Program}{w:World}{H H':Hp}{h h':Heap}{a C dx:Addr}{fs fs':List (Str×V)}
def zmN(hok:jj P w H h)(e:H a=some (.ins C dx fs)):∃mA,rF h a dx C mA/\(∀f,gH (fs.lookup f) (mA f))/\PySem.Within mA (fs.map (·.1))/\fs.length<=1000/\H dx=some (.own a):=by
 obtain⟨d,z,ne,ob,mA,n,r,q⟩:=(hok a _ e);exact⟨mA,⟨ob,n,ne⟩,r,q,z,d⟩
end
structure jN(K:qd)(C:Addr):Prop where
 pg:PySem.W.plainGet K C Str.empty=true
 hd:PySem.W.hasDictIn K C=true
 po:PySem.W.plainOver K C=true
 sa:PySem.W.findIn K (.ref C) "__setattr__"=some (some (.builtin "object.__setattr__"))
def jN.get{K:qd}{C:Addr}(c:jN K C)(f:Str):PySem.W.plainGet K C f=true:=c.pg
def bH(K:qd)(C:Addr)(f:Str):Prop:=PySem.W.findIn K (.ref C) f=some none
def bH.taker{K:qd}{C:Addr}{f:Str}(n:bH K C f):PySem.W.takerIn K C f=some none:=by
 unfold PySem.W.takerIn;rw[show PySem.W.findIn K _ f=some none from n];rfl
structure Meth(K:qd)(C:Addr)(m:Str)(f:Addr):Prop where
 at_:PySem.W.findIn K (.ref C) m=some (some (.ref f))
 fn:PySem.W.isFn K (.ref f)=true
 kp:PySem.W.keepIn K (.ref f)=true
section
variable{X:Cx}{aa:List (Addr×Obj)}{U:St}{H:Hp}{s:Shared}{a C dx:Addr}{fs:List (Str×V)}{f:Str}{v:V}{A:Around}{E:Value->Shared->Prop}
def zpg{b:Bool}{Q:Value->Shared->Prop}(I:Inv X aa U H s)(e:H a=some (.ins C dx fs))(c:jN X.K C)(n:bH X.K C f)(l:fs.lookup f=some v)
  (h:∀u s',Inv X aa U H s'->RelV v u->Q u s'):wpAny (model X.prog X.w) A (getAttr (.ref a) f b) Q E s:=by
 obtain⟨mA,O,r,_,_,_⟩:=zmN I.hok e;obtain⟨u,hu,ru⟩:=gH.some_of (by rw[<-l];exact r f);exact zuO I.kIn O (c.get f) c.hd n hu (zpA ru) (h u _ (I.tok _) ru)
def zjX{m:Str}{g:Addr}{pl:Sem Bool}{Q:Value×List Value->Shared->Prop}(I:Inv X aa U H s)(e:H a=some (.ins C dx fs))(c:jN X.K C)(k:Meth X.K C m g)(l:fs.lookup m=none)
  (h:Q (.ref g,[.ref a]) s):wpAny (model X.prog X.w) A (getMethod (.ref a) m pl) Q E s:=by
 obtain⟨mA,O,r,_,_,_⟩:=zmN I.hok e;have hn:=gH.none_of (by rw[<-l];exact r m);exact zsX I.kIn O (c.get m) k.at_ k.fn hn h
def zo0{y:V}{u:Value}{Q:Unit->Shared->Prop}(I:Inv X aa U H s)(e:H a=some (.ins C dx fs))(c:jN X.K C)(n:bH X.K C f)(hl:fs.length<1000)(ry:RelV y u)
  (h:∀s',Inv X aa U (upd H a (.ins C dx (gW f y fs))) s'->Q () s'):wpAny (model X.prog X.w) A (setAttr (.ref a) f u) Q E s:=by
 obtain⟨mA,O,r,wi,_,ho⟩:=zmN I.hok e;have hz:(fs.map (·.1)).length<=sizeLine:=by rw[cY,YAS];omega
 refine zve I.kIn O c.sa c.po n.taker c.hd wi hz λh' O' sb=>h _ ?_;have hd:∃o,h'.get? dx=some o:=let⟨o,_,_,e',_⟩:=O'.ns;⟨o,e'⟩
 refine I.write (by rw[e];exact True.intro) (.inr ho) (λb q hb z=>(sb.2 b hb).trans z) hd (⟨by rw[ao O.ne];exact ho,?_,O.ne,O'.obj,_,O'.ns,λg=>?_,λg hg=>?_⟩)
 .have:=ziA f y fs;omega
 .show gH _ _;rw[zjg];by_cases q:g=f
  .rw[if_pos q,if_pos q];exact ry
  .rw[if_neg q,if_neg q];exact r g
 .by_cases q:g=f
  .rw[q];exact(zir f y fs).1
  .refine(zir f y fs).2 g (wi g λz=>hg ?_);show(if g=f then some u else mA g)=none;rw[if_neg q];exact z
def Inv.made(I:Inv X aa U H s):Inv X aa U (upd (upd H s.heap.objs.size (.own (s.heap.objs.size+1))) (s.heap.objs.size+1) (.ins C s.heap.objs.size []))
  {s with heap:=(s.heap.push PySem.W.emptyDict).push (PySem.W.instObj C s.heap.objs.size)}:=by
 have e1:(s.heap.push PySem.W.emptyDict).get? s.heap.objs.size=some PySem.W.emptyDict:=lV s.heap rfl;have e2:((s.heap.push PySem.W.emptyDict).push (PySem.W.instObj C s.heap.objs.size)).get? (s.heap.objs.size+1)=some (PySem.W.instObj C s.heap.objs.size):=by
  have:=lV (s.heap.push PySem.W.emptyDict) (o:=PySem.W.instObj C s.heap.objs.size) rfl
  rwa[Bb]at this
 have e3:(s.heap.push PySem.W.emptyDict).Ns s.heap.objs.size (λ_=>none):=⟨PySem.W.emptyDict,#[],_,e1,rfl,(λe he=>absurd he (by simp)),λ_=>rfl⟩;have I1:=I.laid (a:=s.heap.objs.size) (o:=.own (s.heap.objs.size+1)) (h':=s.heap.push PySem.W.emptyDict) (t':=s.toks) (λb u q=>fG _ q) (d8 _) ⟨_,e1⟩;refine I1.laid (a:=s.heap.objs.size+1) (o:=.ins C s.heap.objs.size []) (t':=s.toks) (λb u q=>fG _ q) (Nat.le_of_eq (Bb _ _)) ?_;have ne:s.heap.objs.size≠s.heap.objs.size+1:=iU (Nat.lt_succ_self _);refine⟨by rw[ao ne,cG],wy _,ne,e2,λ_=>none,(Heap.Ns1.of_empty e3).at λo q=>fG _ q,λ_=>True.intro,λy hy=>absurd rfl hy⟩
def zuC{prog:Program}{w:World}{env:Env}{e:Expr}{f:Str}{pos:Pos}{s:Shared}{Q:Value->Shared->Prop}(hb:attributeBase e f env (eval e env)=eval e env)
  (h:wpAny (model prog w) A (eval e env) (λo s₁=>wpAny (model prog w) A (getAttr o f true) Q E s₁) E s):wpAny (model prog w) A (eval (.Attribute e f pos) env) Q E s:=
 Attribute_any_ h (by rw[arm_eval_Attribute,hb])
end
def tFld(K:qd)(ta:TE)(f:Str):TE:=λU H Q=>ta U H λx H1=>∃a C dx fs v,x=.ref a/\H1 a=some (.ins C dx fs)/\jN K C/\bH K C f/\fs.lookup f=some v/\Q v H1
def sFld(K:qd)(ta tv:TE)(f:Str):TS:=λD U H=>tv U H λy H1=>ta U H1 λx H2=>∃a C dx fs,x=.ref a/\H2 a=some (.ins C dx fs)/\jN K C/\bH K C f/\fs.length<1000 /\
 D.nx U (upd H2 a (.ins C dx (gW f y fs)))
section
variable{X:Cx}{o e value:Expr}{f:Str}{pos pos' tpos:Pos}{ta tv:TE}
def tE(he:PE X e ta)(hb:ZB e f X):PE X (.Attribute e f pos) (tFld X.K ta f):=by
 intro aa s U H Q I h;refine zuC hb (bK (he aa s U H _ I h) λu s1 ⟨x,H1,I1,rx,a,C,dx,fs,v,ex,ea,c,n,l,q⟩=>?_);subst ex;obtain rfl:u=Value.ref a:=rx;exact zpg I1 ea c n l λu' s2 I2 ru=>⟨v,H1,I2,ru,q⟩
def ztF(ha:PE X o ta)(hv:PE X value tv)(hs:swapsWith value (some (.Attribute o f pos')) pos.line X.env=pure false):PS X (.Assign [.Attribute o f pos'] value pos) (sFld X.K ta tv f):=by
 intro aa s U H D I h;refine plainObj_wpAny_Assign_Attribute (bK (hv aa s U H _ I h) λu s1 ⟨y,H1,I1,ry,q⟩=>bK (ha aa s1 U H1 _ I1 q) λov s2 ⟨x,H2,I2,rx,a,C,dx,fs,ex,ea,c,n,l,q2⟩=>?_) hs;subst ex;obtain rfl:ov=Value.ref a:=rx;exact zo0 I2 ea c n l ry λs3 I3=>⟨U,_,I3,q2⟩
end
structure bA(k:Nat)(A:Around):Prop where
 hd:A.handled=none
 dp:A.depth+3*k+5<recursionLimit
 un:A.units+16*k+200<cLine
def bA.mono(r:bA k A)(h:j<=k):bA j A:=⟨r.hd,by have:=r.dp;omega,by have:=r.un;omega⟩
theorem bA.deeper{k:Nat}{A:Around}(r:bA (k+1) A)(env:Env):bA k (A.deeper env):=
 ⟨r.hd,by have:=r.dp;show A.depth+1+3*k+5<_;omega,by have:=r.un;show A.units+3+16*k+200<_;omega⟩
def zoE{A:Around}{C:Addr}{us:List Value}{kw:List (Str×Value)}:(A.under (.builtin "type.__call__" ⟨.ref C::us,kw⟩)).depth=A.depth+1:=rfl
def zoy{A:Around}{C:Addr}{us:List Value}{kw:List (Str×Value)}:(A.under (.builtin "type.__call__" ⟨.ref C::us,kw⟩)).units=A.units+1:=rfl
def bA.make(r:bA (k+1) A)(C:Addr)(us:List Value)(kw:List (Str×Value)):bA k (A.under (.builtin "type.__call__" ⟨.ref C::us,kw⟩)):=
 ⟨r.hd,by have:=r.dp;rw[zoE];omega,by have:=r.un;rw[zoy];omega⟩
theorem bA.depth{k:Nat}{A:Around}(r:bA k A):A.depth<recursionLimit:=by have:=r.dp;omega
theorem bA.units(r:bA k A):A.units+64<cLine:=by have:=r.un;omega
def ye:TA:=λ_ H Q=>Q [] H
def zyt(ta:TE)(tr:TA):TA:=λU H Q=>ta U H λx H1=>tr U H1 λxs H2=>Q (x::xs) H2
section
variable{X:Cx}{e:Expr}{es:List Expr}{te:TE}{t:TA}{pos:Pos}
def nF:PA X [] ye:=λ_ _ _ _ H Q I h=>Calls.spliced_nil ⟨[],H,I,.nil,h⟩
def kj(ha:PE X e te)(hr:PA X es t)(hs:starEach (e::es) X.env=(false,eval e X.env)::starEach es X.env:=by rfl):PA X (e::es) (zyt te t):=by
 intro pos aa s U H Q I h;rw[hs];refine Calls.spliced_cons (bK (ha aa s U H _ I h) λu s1 ⟨x,H1,I1,r1,q1⟩=>?_);exact bK (hr pos aa s1 U H1 _ I1 q1) λus s2 ⟨xs,H2,I2,r2,q2⟩=>⟨x::xs,H2,I2,.cons r1 r2,q2⟩
def tTup(t:TA):TE:=λU H Q=>t U H λxs H1=>xs.length<=sizeLine/\∀p,H1 p=none->Q (.ref p) (upd H1 p (.tup xs))
def tLst(t:TA):TE:=λU H Q=>t U H λxs H1=>xs.length<=sizeLine/\∀p,H1 p=none->Q (.ref p) (upd H1 p (.lst xs))
def ztd{x1}(h:PA X es t):PE X (.Tuple es x1 pos) (tTup t):=by
 intro aa s U H Q I hq;refine wpAny_Tuple_spliced (bK (h pos aa s U H _ I hq) λus s1 ⟨xs,H1,I1,r,z,q⟩=>⟨by rw[<-r.length];exact z,?_⟩);have hf:H1 s1.heap.objs.size=none:=I1.hok.fresh (d8 _);refine⟨.ref s1.heap.objs.size,upd H1 s1.heap.objs.size (.tup xs),I1.laid (t':=s1.toks) (λb u e=>fG _ e) (d8 _) ?_,rfl,q _ hf⟩;exact⟨⟨z,zn2⟩,us,r,⟨_,lV _ rfl,rfl,_,rfl⟩⟩
def zre(h:PA X es t):PE X (.List es pos) (tLst t):=by
 intro aa s U H Q I hq;refine wpAny_List_spliced (bK (h pos aa s U H _ I hq) λus s1 ⟨xs,H1,I1,r,z,q⟩=>⟨by rw[<-r.length];exact z,?_⟩);have hf:H1 s1.heap.objs.size=none:=I1.hok.fresh (d8 _);refine⟨.ref s1.heap.objs.size,upd H1 s1.heap.objs.size _,I1.laid (t':=s1.toks) (λb u e=>fG _ e) (d8 _) ?_,rfl,q _ hf⟩;exact⟨z,us,0,r,lV _ rfl⟩
end
abbrev Sp:=List V->Hp->VK->XK->Prop
abbrev qC:=List Env->Hp->Shared->XK->Value->Shared->Prop
structure qY(P:Program)(w:World)(K:qd)(mg:Str->Option Value)(base:Heap)(A:Around)(outer:List Env)(s:Shared)(H:Hp):Prop where
 frames:A.frames=some outer
 mod:Mod K mg base
 bs:∀b o,base.get? b=some o->s.heap.get? b=some o/\H b=none
 bsz:base.objs.size<=s.heap.objs.size
 funs:s.heap.FunFrames base outer
 frf:∀b∈frs outer,H b=none
 hok:jj P w H s.heap
 bare:AllBare s.gens
def CE(outer:List Env)(P:Program)(w:World)(H:Hp)(s:Shared)(Q:VK)(u:Value)(s':Shared):Prop:=
 ∃v H',s'.os=s.os/\AllBare s'.gens/\Un (frs outer) [] H H' s.heap s'.heap/\jj P w H' s'.heap/\RelV v u/\Q v H'
def CR(CX:qC)(outer:List Env)(P:Program)(w:World)(H:Hp)(s:Shared)(Q:VK)(E:XK)(r:Result)(s':Shared):Prop:=
 match r with
 |.ok (.ret u)=>CE outer P w H s Q u s'
 |.ok _=>False
 |.error e=>CX outer H s E e s'
structure aG(P:Program)(w:World)(K:qd)(mg:Str->Option Value)(base:Heap)(CX:qC)(k:Nat)(f:Addr)(fd:FuncData)(ps:List Str)(sp:Sp):Prop where
 len:∀vs H Q E,sp vs H Q E->vs.length=ps.length
 run:∀(A:Around)(outer:List Env)(s:Shared)(H:Hp)(args:Args)(us:List Value)(vs:List V)(Q:VK)(E:XK),bA k A->qY P w K mg base A outer s H->BindsTo s fd args (ps.zip us)->Vals vs us->sp vs H Q E ->
  codeAny (model P w) A (.call (.ref f) args) (CR CX outer P w H s Q E) s
def aG.imp{P:Program}{w:World}{K:qd}{mg:Str->Option Value}{base:Heap}{CX:qC}{k:Nat}{f:Addr}{fd:FuncData}{ps:List Str}{sp sp':Sp}(F:aG P w K mg base CX k f fd ps sp)
  (h:∀vs H Q E,sp' vs H Q E->sp vs H Q E):aG P w K mg base CX k f fd ps sp':=
 ⟨λvs H Q E q=>F.len vs H Q E (h _ _ _ _ q),λA outer s H args us vs Q E hr he hb hv hs=>F.run A outer s H args us vs Q E hr he hb hv (h _ _ _ _ hs)⟩
def qY.make{P:Program}{w:World}{K:qd}{mg:Str->Option Value}{base:Heap}{A:Around}{outer:List Env}{s:Shared}{H:Hp}(e:qY P w K mg base A outer s H)(C:Addr)(us:List Value)(kw:List (Str×Value)) :
  qY P w K mg base (A.under (.builtin "type.__call__" ⟨.ref C::us,kw⟩)) outer s H:=⟨by first|exact e.frames|(simpa[Around.under,Code.envs,Code.isFrame,pushEnvs]using e.frames),e.mod,e.bs,e.bsz,e.funs,e.frf,e.hok,e.bare⟩
section
variable{X:Cx}{aa:List (Addr×Obj)}{U:St}{H:Hp}{s s':Shared}
def Inv.env0(I:Inv X aa U H s):qY X.prog X.w X.K X.mg X.base X.A X.stack s H:=
 ⟨I.ok.frames,I.ok.mod,I.bs,gJ I.ok.bsz I.sz,I.stack,I.stkFree,I.hok,I.bare⟩
def Inv.after(I:Inv X aa U H s)(h:CE X.stack X.prog X.w H s Q u s'):EP X aa U Q u s':=by
 obtain⟨v,H',os,bare,un,hok,r,q⟩:=h;obtain⟨hh,g,d,t,os'⟩:=s';obtain rfl:os'=s.os:=os;exact⟨v,H',I.call (h':=hh) (g':=g) (d':=d) (t':=t) un hok bare (λb z=>absurd z (by simp)),r,q⟩
end
def zxJ(sp:Sp)(dvs:List V)(E:XK)(t:TA):TE:=λU H Q=>t U H λvs H1=>sp (vs++dvs) H1 Q E
def Ey(C:Addr)(m:Str)(sp:Sp)(dvs:List V)(E:XK)(ta:TE)(t:TA):TE:=λU H Q=>ta U H λx H1=>∃a dx fs,x=.ref a/\H1 a=some (.ins C dx fs)/\fs.lookup m=none /\
 t U H1 λvs H2=>sp (x::(vs++dvs)) H2 Q E
def zyy(C:Addr)(sp:Sp)(dvs:List V)(E:XK)(t:TA):TE:=λU H Q=>t U H λvs H1=>∀x dx,H1 x=none->H1 dx=none->dx≠x ->
 sp (.ref x::(vs++dvs)) (upd (upd H1 dx (.own x)) x (.ins C dx [])) (λv H2=>v=.non/\Q (.ref x) H2) E
def Binds(K:qd)(fd:FuncData)(ps:List Str)(ds:List Value):Prop:=
 ∀(s:Shared)(us:List Value),K.In s.heap->(us++ds).length=ps.length->BindsTo s fd ⟨us,[]⟩ (ps.zip (us++ds))
def Binds.all{K:qd}{fd:FuncData}{ps:List Str}(h:∀us:List Value,us.length=ps.length->bindArgs fd ⟨us,[]⟩=pure (ps.zip us)):Binds K fd ps []:=λs us _ hl=>by
 rw[YAF]at hl ⊢;exact .of_eq (h us hl)
def jZ(CX:qC)(X:Cx)(E:XK):Prop:=∀(aa:List (Addr×Obj))(U:St)(H:Hp)(s:Shared)(e:Value)(s':Shared),Inv X aa U H s->CX X.stack H s E e s'->X.xe e s'
section
variable{X:Cx}{CX:qC}{k:Nat}{f C:Addr}{fd:FuncData}{ps:List Str}{sp:Sp}{dvs:List V}{ds:List Value}{E:XK}{x m:Str}{p pos apos:Pos}{e o:Expr}{es:List Expr}{ta:TE}{t:TA}
def Hl{aa:List (Addr×Obj)}{U:St}{H:Hp}{s:Shared}{Q:VK}{us:List Value}{vs:List V}(F:aG X.prog X.w X.K X.mg X.base CX k f fd ps sp)(hr:bA k X.A)(hb:Binds X.K fd ps ds)(hd:Vals dvs ds)(hx:jZ CX X E)
  (I:Inv X aa U H s) (r:Vals vs us) (h:sp (vs++dvs) H Q E):wpAny (model X.prog X.w) X.A (call (.ref f) us) (EP X aa U Q) X.xe s:=by
 have r2:=r.append hd;have hl:(us++ds).length=ps.length:=r2.length▸(F.len _ _ _ _ h);refine wpAny_call (YCz (F.run X.A X.stack s H ⟨us,[]⟩ _ _ Q E hr I.env0 (hb s us I.kIn hl) r2 h) λr s' hq=>?_);cases r with
 |error e=>exact hx aa U H s e s' I hq
 |ok fl=>
  cases fl with
  |ret u=>exact I.after hq
  |next=>exact False.elim hq
  |brk=>exact False.elim hq
  |cont=>exact False.elim hq
def zq(F:aG X.prog X.w X.K X.mg X.base CX k f fd ps sp)(hr:bA k X.A)(hg:Gl X x)(hm:X.mg x=some (.ref f))(hk:PySem.W.keepIn X.K (.ref f)=true)(hb:Binds X.K fd ps ds)(hd:Vals dvs ds)(hx:jZ CX X E)
  (ha:PA X (e::es) t) (hdb:ZD x:=by decide) (he:starEach (e::es) X.env=(false,eval e X.env)::starEach es X.env:=by rfl) (hpl:(backTo pos (starEach es X.env)).any (·.1)=false:=by rfl) :
  PE X (.Call (.Name x p) (e::es) [] pos) (zxJ sp dvs E t):=by
 intro aa s U H Q I h;refine zp (vZ I hg hm ?_ hdb);refine YCj I.ok.mod.kin hk (bK (ha pos aa s U H _ I h) λus s1 ⟨vs,H1,I1,r,q⟩=>⟨I1.kIn,?_⟩) he hpl;exact Hl F hr hb hd hx I1 r q
def zsa(F:aG X.prog X.w X.K X.mg X.base CX k f fd ps sp)(hr:bA k X.A)(hg:Gl X x)(hm:X.mg x=some (.ref f))(hk:PySem.W.keepIn X.K (.ref f)=true)(hb:Binds X.K fd ps ds)(hd:Vals dvs ds)(hx:jZ CX X E)
  (hdb:ZD x:=by decide):PE X (.Call (.Name x p) [] [] pos) (zxJ sp dvs E ye):=by
 intro aa s U H Q I h;refine zp (vZ I hg hm ?_ hdb);exact YCf I.kIn hk (Hl F hr hb hd hx I .nil h)
def zqE(he:PE X o ta)(c:jN X.K C)(hm:Meth X.K C m f)(F:aG X.prog X.w X.K X.mg X.base CX k f fd ps sp)(hr:bA k X.A)(hb:Binds X.K fd ps ds)(hd:Vals dvs ds)(hx:jZ CX X E)(ha:PA X (e::es) t)
  (hst:starEach (e::es) X.env=(false,eval e X.env)::starEach es X.env:=by rfl) (hpl:(backTo pos (starEach es X.env)).any (·.1)=false:=by rfl)
  (ht:eval (.Call (.Attribute o m apos) (e::es) [] pos) X.env=(do
   let ov <-eval o X.env
   standAt apos.atName
   let(f,first) <-holding [ov] (getMethod ov m pl)
   callWith pos f first (backTo pos (starEach (e::es) X.env)) (backToKw pos (keywordEach [] X.env))):=by rfl) :
  PE X (.Call (.Attribute o m apos) (e::es) [] pos) (Ey C m sp dvs E ta t):=by
 intro aa s U H Q I h;refine PySem.W.methodCall_KW (pl:=pl) (bK (he aa s U H _ I h) λu s1 ⟨x,H1,I1,rx,a,dx,fs,ex,ea,l,q⟩=>?_) ht;subst ex;obtain rfl:u=Value.ref a:=rx;refine zjX I1 ea c hm l ?_;refine YCj (first:=[.ref a]) (h₀:=X.base) I.ok.mod.kin hm.kp (bK (ha pos aa s1 U H1 _ I1 q) λus s2 ⟨vs,H2,I2,r,q2⟩=>⟨I2.kIn,?_⟩) hst hpl;exact Hl (us:=.ref a::us) (vs:=.ref a::vs) F hr hb hd hx I2 (.cons rfl r) q2
def zh3(he:PE X o ta)(c:jN X.K C)(hm:Meth X.K C m f)(F:aG X.prog X.w X.K X.mg X.base CX k f fd ps sp)(hr:bA k X.A)(hb:Binds X.K fd ps ds)(hd:Vals dvs ds)(hx:jZ CX X E)
  (ht:eval (.Call (.Attribute o m apos) [] [] pos) X.env=(do
   let ov <-eval o X.env
   standAt apos.atName
   let(f,first) <-holding [ov] (getMethod ov m pl)
   callWith pos f first (backTo pos (starEach [] X.env)) (backToKw pos (keywordEach [] X.env))):=by rfl) :
  PE X (.Call (.Attribute o m apos) [] [] pos) (Ey C m sp dvs E ta ye):=by
 intro aa s U H Q I h;refine PySem.W.methodCall_KW (bK (he aa s U H _ I h) λu s1 ⟨x,H1,I1,rx,a,dx,fs,ex,ea,l,q⟩=>?_) ht;subst ex;obtain rfl:u=Value.ref a:=rx;exact zjX I1 ea c hm l (YCf I1.kIn hm.kp (Hl (vs:=[.ref a]) F hr hb hd hx I1 (.cons rfl .nil) q))
structure Mk(K:qd)(C f:Addr):Prop where
 makes:PySem.W.makesIn K C=true
 init:PySem.W.findIn K (.ref C) "__init__"=some (some (.ref f))
 fn:PySem.W.isFn K (.ref f)=true
 kp:PySem.W.keepIn K (.ref C)=true
def zr3(M:Mk X.K C f)(F:aG X.prog X.w X.K X.mg X.base CX k f fd ps sp)(hr:bA (k+1) X.A)(hb:Binds X.K fd ps ds)(hd:Vals dvs ds)
  (hx:jZ CX X E) (I:Inv X aa U H s) (r:Vals vs us)
  (h:∀x dx,H x=none->H dx=none->dx≠x->sp (.ref x::(vs++dvs)) (upd (upd H dx (.own x)) x (.ins C dx [])) (λv H2=>v=.non/\Q (.ref x) H2) E) :
  wpAny (model X.prog X.w) X.A (call (.ref C) us) (EP X aa U Q) X.xe s:=by
 have hq:=h _ s.heap.objs.size (I.hok.fresh (Nat.le_succ _)) (I.hok.fresh (d8 _)) (iU (Nat.lt_succ_self _));have I2:=Inv.made (C:=C) I;have r2:Vals (V.ref (s.heap.objs.size+1)::_) _:=.cons rfl (r.append hd);have hl:(Value.ref (s.heap.objs.size+1)::us++ds).length=ps.length:=by
  have e:=r2.length;rw[F.len _ _ _ _ hq]at e;exact e.symm
 refine wpAny_call (zrG I.kIn M.makes M.init (Ad.mp M.fn) (YCz (F.run _ X.stack _ _ ⟨Value.ref (s.heap.objs.size+1)::us,[]⟩ _ _ _ E (hr.make C us [])
  (I2.env0.make C us []) (hb _ _ I2.kIn hl) r2 hq) λr s' hq'=>?_))
 cases r with
 |error e=>exact hx aa U _ _ e s' I2 hq'
 |ok fl=>
  cases fl with
  |ret u=>
   obtain⟨v,H',I3,rv,ev,q3⟩:=I2.after hq';subst ev;exact⟨rv,⟨V.ref _,H',I3,rfl,q3⟩⟩
  |next=>exact False.elim hq'
  |brk=>exact False.elim hq'
  |cont=>exact False.elim hq'
def zrB(M:Mk X.K C f)(F:aG X.prog X.w X.K X.mg X.base CX k f fd ps sp)(hr:bA (k+1) X.A)(hg:Gl X x)(hm:X.mg x=some (.ref C))(hb:Binds X.K fd ps ds)(hd:Vals dvs ds)(hx:jZ CX X E)
  (hdb:ZD x:=by decide):PE X (.Call (.Name x p) [] [] pos) (zyy C sp dvs E ye):=by
 intro aa s U H Q I h;refine zp (vZ I hg hm ?_ hdb);exact YCf I.kIn M.kp (zr3 M F hr hb hd hx I .nil h)
end
structure dj(N P:List Str)(sc:Scope):Prop where
 kind:sc.kind=.function
 co:sc.isCoroutine=false
 gen:sc.isGenerator=false
 nd:N.Nodup
 pre:N.take P.length=P
 par:∀x∈P,sc.names.lookup x=some .local\/sc.names.lookup x=some .cell
 nofree:∀y∈sc.names,y.2≠.free
theorem zlG{kindOf:Str->Option NameKind}{x:Str}:∀{binds:List (Str×Value)}{m:Str->Option Value},(∀v,(x,v)∉binds)->bindL kindOf binds m x=m x
 |[],_,_=>rfl
 | (n,v)::r,m,h=>by
  unfold bindL;rw[zlG λw hw=>h w (fL _ hw)];split
  .have:x≠n:=by rintro rfl;exact h v lF
   simp[this]
  .rfl
theorem zmi{kindOf:Str->Option NameKind}{x:Str}:∀{binds:List (Str×Value)}{m:Str->Option Value},(∀v,(x,v)∉binds)->bindC kindOf binds m x=m x
 |[],_,_=>rfl
 | (n,v)::r,m,h=>by
  unfold bindC;rw[zmi λw hw=>h w (fL _ hw)];split
  .rfl
  .have:x≠n:=by rintro rfl;exact h v lF
   simp[this]
theorem zml{kindOf:Str->Option NameKind}{x:Str}{v:Value}:∀{P:List Str}{vs:List Value}{i:Nat}{m:Str->Option Value},P.Nodup->P[i]?=some x->vs[i]?=some v->kindOf x=some .local ->
  bindL kindOf (P.zip vs) m x=some v
 |[],_,_,_,_,h,_,_=>by simp at h
 |_::_,[],_,_,_,_,h,_=>by simp at h
 |p::P,w::vs,0,m,nd,h1,h2,hk=>by
  simp at h1 h2;subst h1;subst h2;show bindL kindOf ((p,w)::P.zip vs) m p=_;unfold bindL;rw[zlG λv hv=>(yE.mp nd).1 (Kv hv).1,if_pos hk]
  simp
 |p::P,w::vs,i+1,m,nd,h1,h2,hk=>by
  unfold bindL;exact zml (yE.mp nd).2 (by simpa using h1) (by simpa using h2) hk
theorem zl3{kindOf:Str->Option NameKind}{x:Str}{v:Value}:∀{P:List Str}{vs:List Value}{i:Nat}{m:Str->Option Value},P.Nodup->P[i]?=some x->vs[i]?=some v->kindOf x≠some .local ->
  bindC kindOf (P.zip vs) m x=some v
 |[],_,_,_,_,h,_,_=>by simp at h
 |_::_,[],_,_,_,_,h,_=>by simp at h
 |p::P,w::vs,0,m,nd,h1,h2,hk=>by
  simp at h1 h2;subst h1;subst h2;show bindC kindOf ((p,w)::P.zip vs) m p=_;unfold bindC;rw[zmi λv hv=>(yE.mp nd).1 (Kv hv).1,if_neg hk]
  simp
 |p::P,w::vs,i+1,m,nd,h1,h2,hk=>by
  show bindC kindOf ((p,w)::P.zip vs) m x=_;unfold bindC;exact zl3 (i:=i) (yE.mp nd).2 (by simpa using h1) (by simpa using h2) hk
def uC(N:List Str)(vs:List V):St:=vs.map some++List.replicate (N.length-vs.length) none
noncomputable def dI(CX:qC)(P:Program)(w:World)(K:qd)(mg:Str->Option Value)(base:Heap)(N:List Str)(qual:Str)(scope:Scope)(f:Addr)(cd:Value)(A:Around)(outer:List Env)(s:Shared)(H:Hp)(E:XK):Cx where
 prog:=P
 w:=w
 K:=K
 mg:=mg
 base:=base
 A:=A.deeper (envOfC qual scope s.heap.objs.size f cd)
 N:=N
 s₀:=s
 H₀:=H
 env:=envOfC qual scope s.heap.objs.size f cd
 outer:=outer
 stack:=envOfC qual scope s.heap.objs.size f cd::outer
 ex:=[]
 calm:=true
 fn:=λ_=>true
 pn:=[]
 xe:=λe s'=>wpAny (model P w) (A.deeper (envOfC qual scope s.heap.objs.size f cd)) (leaving (envOfC qual scope s.heap.objs.size f cd) e) (λ_ s''=>CX outer H s E e s'') (λe' s''=>CX outer H s E e' s'') s'
def znC{sc:Scope}{n:Nat}{x:Str}(h:sc.names.lookup x=some .cell):∃c,(cellsFrom n sc.names []).lookup x=some c:=by
 have q:=PySem.W.cellsFrom_some sc.names n [] (.inl h);exact Option.isSome_iff_exists.mp q
def zpX{CX:qC}{P:Program}{w:World}{K:qd}{mg:Str->Option Value}{base:Heap}{N ps:List Str}{qual:Str}{scope:Scope}{f:Addr}{cd:Value}{A:Around}{outer:List Env}{s s1:Shared}{H:Hp}{E:XK}{us:List Value}{vs:List V}
  (S:dj N ps scope) (hd:A.handled=none) (e0:qY P w K mg base A outer s H) (hl:vs.length=ps.length) (r:Vals vs us)
  (x:InCallC s s.heap.objs.size (bindL (envOfC qual scope s.heap.objs.size f cd).kindOf (ps.zip us) λ_=>none) (cellsFrom (s.heap.objs.size+1) scope.names []) (bindC (envOfC qual scope s.heap.objs.size f cd).kindOf (ps.zip us) λ_=>none) s1) :
  Inv (dI CX P w K mg base N qual scope f cd A outer s H E) [] (uC N vs) H s1:=by
 have hpl:ps.length<=N.length:=by have:=congrArg List.length S.pre;rw[Fq]at this;omega
 obtain⟨h1,tk,rfl,hk⟩:=x.done;have noA:∀b:Addr,b∉(dI CX P w K mg base N qual scope f cd A outer s H E).ex:=λb z=>absurd (show b∈([]:List Addr)from z) (by simp);refine⟨⟨e0.mod,S.kind,rfl,rfl,d8 _,λy z c h1 h2=>?_,λy hy=>?_,λy c _ h=>?_,λ_=>hd,Around.frames_deeper e0.frames,.inr ⟨rfl,rfl⟩,λb z=>absurd z (noA b),e0.bs,e0.bsz,λb _ _=>noA b,λb z=>absurd z (noA b),e0.funs,e0.frf⟩,
  rfl,e0.bare,Un.kept hk,⟨_,x.toInCall.ns,λi y v h1 h2 h3=>?_⟩,λy c h=>⟨_,x.cell y c h⟩,e0.hok.fresh (d8 _),λy c h=>?_,λp hp=>absurd (show p∈([]:List (Addr×Obj))from hp) (by simp),e0.hok.kept hk,?_⟩
 .exact name_of_addr x.apart (YAZ h1) (YAZ h2)
 .have hy:scope.names.lookup y=some .cell\/scope.names.lookup y=some .free:=hy;rcases hy with hy|hy
  .exact znC hy
  .exact absurd rfl (S.nofree _ (YAZ hy))
 .exact Nat.le_of_lt (x.above y c (YAZ h))
 .have hi:i<vs.length:=by
   unfold uC at h2;by_cases hi:i<vs.length
   .exact hi
   .rw[YBF (by simpa using hi)]at h2;rw[CP]at h2;split at h2<;>cases h2
  have ha:vs[i]?=some v:=by
   unfold uC at h2;rw[Li (by simpa using hi),YAG]at h2;cases e:vs[i]? with
   |none=>rw[e]at h2;cases h2
   |some a=>rw[e]at h2;cases h2;rfl
  obtain⟨u,hu,rv⟩:=r.get ha;have hp:ps[i]?=some y:=by
   rw[<-S.pre,List.getElem?_take_of_lt (by omega)];exact h1
  have ndP:ps.Nodup:=by rw[<-S.pre];exact S.nd.sublist (List.take_sublist _ _)
  refine⟨u,rv,?_⟩;rcases S.par y (YBH hp)with k|k
  .exact .inl ⟨k,zml ndP hp hu k⟩
  .obtain⟨c,e⟩:=znC (n:=s.heap.objs.size+1) k;refine .inr ⟨.inl k,c,e,?_⟩;have q:=x.cell y c e;rw[zl3 ndP hp hu (by show scope.names.lookup y≠_;rw[k];decide)]at q;exact q
 .exact e0.hok.fresh (Nat.le_of_lt (x.above y c (YAZ h)))
 .unfold uC;show _=N.length;rw[iB,cY,List.length_replicate];omega
def zrZ{CX:qC}{P:Program}{w:World}{K:qd}{mg:Str->Option Value}{base:Heap}{k:Nat}{f:Addr}{name qual:Str}{params:Arguments}{body:List Stmt}{scope:Scope}{dV kV doc pm cdv ct oc:Value}{an od:Option Addr}
  {osl:Array (Option Value)} {N ps:List Str} {sp:Sp} (lk:K.lookup f=some ⟨oc,od,.func (PySem.W.fnOf name qual params body scope dV kV doc pm an cdv ct),osl⟩) (hcd:PySem.W.codeIn K cdv qual=true) (S:dj N ps scope)
  (len:∀vs H Q E,sp vs H Q E->vs.length=ps.length)
  (hbody:∀(A:Around)(outer:List Env)(s:Shared)(H:Hp)(vs:List V)(Q:VK)(E:XK),bA k (A.deeper (envOfC qual scope s.heap.objs.size f cdv))->sp vs H Q E ->
   ∃t,mq (dI CX P w K mg base N qual scope f cdv A outer s H E) body t/\t {nx:=λ_ H'=>Q .non H',rt:=Q} (uC N vs) H) :
  aG P w K mg base CX (k+1) f (PySem.W.fnOf name qual params body scope dV kV doc pm an cdv ct) ps sp:=by
 refine⟨len,λA outer s H args us vs Q E hr e0 hb r hsp=>?_⟩;have hl:=len _ _ _ _ hsp;have KX:=e0.mod.kin.keeps λb o e=>(e0.bs b o e).1;have lim:=e0.mod.nolimit.keeps λb o e=>(e0.bs b o e).1;have hkind:∀y∈ps.zip us,scope.names.lookup y.1=some .local\/(scope.names.lookup y.1=some .cell/\((cellsFrom (s.heap.objs.size+1) scope.names []).lookup y.1).isSome=true):=λ⟨n,v⟩ hy=>by
  rcases S.par n (Kv hy).1 with q|q
  .exact .inl q
  .exact .inr ⟨q,PySem.W.cellsFrom_some _ _ _ (.inl q)⟩
 refine codeAny_call_function hr.depth (KX _ _ lk) rfl S.co S.gen rfl (PySem.W.codeRec_of KX hcd) (hb _ _ _ _ ?_);refine wpAny_newFunctionEnv_cells S.kind hkind λenv he s1 x=>?_;subst he;refine⟨lim.keeps x.toInCall.keep,codeAny_func ?_⟩;obtain⟨t,ht,hq⟩:=hbody A outer s H vs Q E (hr.deeper _) hsp;have I:Inv (dI CX P w K mg base N qual scope f cdv A outer s H E) [] _ H s1:=zpX S hr.hd e0 hl r x;refine YAQ (ht [] s1 _ H _ I hq) (λfl s' hs=>?_) λe s' hs=>hs;have fin:∀{U':St}{H':Hp}{v:V}{u:Value},Inv (dI CX P w K mg base N qual scope f cdv A outer s H E) [] U' H' s'->RelV v u->Q v H'->CE outer P w H s Q u s':=
  λ{U' H' v u} J rv q=>⟨v,H',J.os,J.bare,J.base,J.hok,rv,q⟩
 cases fl with
 |ret u=>
  obtain⟨v,U',H',J,rv,q⟩:=hs;exact fin J rv q
 |next=>
  obtain⟨U',H',J,q⟩:=hs;exact fin (v:=V.non) J rfl q
 |brk=>
  obtain⟨_,_,_,q⟩:=hs;exact False.elim q
 |cont=>
  obtain⟨_,_,_,q⟩:=hs;exact False.elim q
section
variable{X:Cx}{x:Str}{p pos:Pos}{e:Expr}{es:List Expr}{t:TA}{id T:String}{r:List V->Hp->VK->Prop}
def tCB(r:List V->Hp->VK->Prop)(t:TA):TE:=λU H Q=>t U H λvs H1=>r vs H1 Q
def zlb(hc:cL X (.builtin id) r)(hg:Gl X x)(hm:X.mg x=none)(hv:bootBuiltins x=some (.builtin id))(ha:PA X (e::es) t)(hn:x≠"__name__":=by decide)(hdb:ZD x:=by decide)
  (he:starEach (e::es) X.env=(false,eval e X.env)::starEach es X.env:=by rfl) (hpl:(backTo pos (starEach es X.env)).any (·.1)=false:=by rfl):PE X (.Call (.Name x p) (e::es) [] pos) (tCB r t):=by
 intro aa s U H Q I h;refine zp (JV I hg hm hv ?_ hn hdb);exact PyProof.Rows.callWith_builtin1 (bK (ha pos aa s U H _ I h) λus s1 ⟨vs,H1,I1,r1,q1⟩=>hc aa s1 U H1 vs us Q I1 r1 q1) he hpl
def Es(hc:cL X (.type T) r)(hg:Gl X x)(hm:X.mg x=none)(hv:bootBuiltins x=some (.type T))(ha:PA X (e::es) t)(hn:x≠"__name__":=by decide)(hdb:ZD x:=by decide)
  (he:starEach (e::es) X.env=(false,eval e X.env)::starEach es X.env:=by rfl) (hpl:(backTo pos (starEach es X.env)).any (·.1)=false:=by rfl):PE X (.Call (.Name x p) (e::es) [] pos) (tCB r t):=by
 intro aa s U H Q I h;refine zp (JV I hg hm hv ?_ hn hdb);exact YBz (bK (ha pos aa s U H _ I h) λus s1 ⟨vs,H1,I1,r1,q1⟩=>hc aa s1 U H1 vs us Q I1 r1 q1) he hpl
end
end L2
namespace HT
open PySem PyProof.Rows
section
variable{prog:Program}{w:World}{A:Around}{E:Value->Shared->Prop}{s:Shared}
def xH(ht:IsTup s.heap t vs.toArray)(hb:IsTup s.heap b ws.toArray)(hv:vs≠[])
  (h1:ws=[]->Q (.ref t) s) (h2:ws≠[]->Q (.ref s.heap.objs.size) {s with heap:=s.heap.push {cls:=.type "tuple",data:=.seq (vs++ws).toArray}})
  (hsz:vs.length+ws.length<=sizeLine):wpAny (model prog w) A (binaryOp .Add (.ref t) (.ref b)) Q E s:=by
 obtain⟨⟨cls,dd,data,sl⟩,ho,hc,n,hd⟩:=id ht;obtain⟨⟨cls2,dd2,data2,sl2⟩,ho2,hc2,n2,hd2⟩:=id hb;simp only at hc hd hc2 hd2;subst hc hd hc2 hd2;have e:vs.toArray++ws.toArray=(vs++ws).toArray:=by simp
 by_cases hw:ws=[]
 .exact concat_meets ⟨_,ho,rfl⟩ ⟨_,ho2,rfl⟩ YCv seq_tuple_add YBY YBT (YBM _ _)
   (tuple_addW1 t b vs.toArray ws.toArray n n2 dd dd2 sl sl2 (by simpa using hv) (by simp[hw])) ⟨ho,ho2,h1 hw⟩
 .refine concat_meets ⟨_,ho,rfl⟩ ⟨_,ho2,rfl⟩ YCv seq_tuple_add YBY YBT (YBM _ _)
   (tuple_addW2 t b vs.toArray ws.toArray n n2 dd dd2 sl sl2 (by simpa using hv) (by simpa using hw) (by rw[jx,jx];exact hsz)) ⟨ho,ho2,?_⟩
  rw[e];exact h2 hw
def cM(n d:Nat):Option Int->Nat
 |none=>d
 |some v=>if v<0 then(v+(n:Int)).toNat else min v.toNat n
def vC(n d:Nat):cM n d none=d:=rfl
def jH(n d k:Nat):cM n d (some (k:Int))=min k n:=rfl
def zqW(v:Int)(n d:Nat):(if v<0 then max (v+(n:Int)) 0 else min v (n:Int))=((cM n d (some v):Nat):Int):=by
 show _=(((if v<0 then(v+_).toNat else min v.toNat n):Nat):Int);by_cases hv:v<0
 .simp only[if_pos hv];omega
 .simp only[if_neg hv];omega
def zoN(lo hi:Option Int)(n:Nat):Builtin.Slice.sliceAdjust lo hi 1 (n:Int)=(((cM n 0 lo:Nat):Int),((cM n n hi:Nat):Int)):=by
 have h1:¬ ((1:Int)<0):=by omega
 unfold Builtin.Slice.sliceAdjust;refine Prod.ext ?_ ?_
 .cases lo with
  |none=>rfl
  |some v=>exact zqW v n 0
 .cases hi with
  |none=>rfl
  |some v=>exact zqW v n n
def zpi(i j:Nat):Builtin.Slice.slicePlaces (i:Int) (j:Int) 1=j-i:=by
 unfold Builtin.Slice.slicePlaces;have h1:(1:Int)>0:=by omega
 split<;>omega
def zj6{v:Value}{o:Option Int}{Q:Option Int->Shared->Prop}(p:IsPart v o)(h:Q o s):wpAny (model prog w) A (Builtin.Slice.slicePartIndex v) Q E s:=by
 cases p with
 |none=>exact slicePart_none h
 |int i t=>exact slicePart_int h
def zeZ{sl:Addr}{vl vu:Value}{lo hi:Option Int}{n:Nat}{Q:Int×Int×Nat->Shared->Prop}(hs:s.heap.IsSliceOf sl vl vu .none)(pl:IsPart vl lo)(pu:IsPart vu hi)
  (h:Q (((cM n 0 lo:Nat):Int),1,cM n n hi-cM n 0 lo) s):wpAny (model prog w) A (Builtin.Slice.sliceApplied (.ref sl) (pure (n:Int))) Q E s:=by
 obtain⟨os,hos,hcs,hds⟩:=id hs;unfold Builtin.Slice.sliceApplied Builtin.Slice.sliceFields;refine aP (aP (YAI hos hds (x:=vl) rfl (aP (YAI hos hds (x:=vu) rfl (aP (YAI hos hds (x:=.none) rfl (dO ?_)))))));refine aP (slicePart_none ?_);show wpAny _ _ (if ((1:Int)==0)=true then _ else _) _ _ s;rw[if_neg (by decide)];refine aP (zj6 pl (aP (zj6 pu (aP (dO ?_)))));show wpAny _ _ (match Builtin.Slice.sliceAdjust lo hi 1 (n:Int)with|(lo,hi)=>pure (lo,(1:Int),Builtin.Slice.slicePlaces lo hi 1)) _ _ s;rw[zoN lo hi n];show wpAny _ _ (pure (((cM n 0 lo:Nat):Int),(1:Int),Builtin.Slice.slicePlaces ((cM n 0 lo:Nat):Int) ((cM n n hi:Nat):Int) 1)) _ _ s;rw[zpi];exact dO h
def zsJ(xs:Array Value)(i k:Nat):((List.range k).filterMap λ(m:Nat)=>xs[((i:Int)+(m:Int)*1).toNat]?).toArray=((xs.toList.drop i).take k).toArray:=by
 have e:(λ(m:Nat)=>xs[((i:Int)+(m:Int)*1).toNat]?)=λm=>xs[i+m]?:=by
  funext m
  have:((i:Int)+(m:Int)*1).toNat=i+m:=by omega
  rw[this]
 rw[e]
 have:=pick_run xs i k
 rw[List.filterMap_map]at this;have e2:((λx=>xs[x]?)∘λx=>i+x)=λm=>xs[i+m]?:=rfl;rw[e2]at this;rw[this]
def jE{t sl:Addr}{items:Array Value}{vl vu:Value}{lo hi:Option Int}{Q:Value->Shared->Prop}(ht:IsTup s.heap t items)(hs:s.heap.IsSliceOf sl vl vu .none)(pl:IsPart vl lo)(pu:IsPart vu hi)
  (hw:¬ (cM items.size 0 lo=0/\cM items.size items.size hi=items.size))
  (h:Q (.ref s.heap.objs.size) {s with heap:=s.heap.push {cls:=.type "tuple",data:=.seq ((items.toList.drop (cM items.size 0 lo)).take (cM items.size items.size hi-cM items.size 0 lo)).toArray}})
  (hsz:items.size<=sizeLine):wpAny (model prog w) A (getItem (.ref t) (.ref sl)) Q E s:=by
 have htake:sizeOk (.seq ((items.toList.drop (cM items.size 0 lo)).take (cM items.size items.size hi-cM items.size 0 lo)).toArray):=by
  show((items.toList.drop (cM items.size 0 lo)).take (cM items.size items.size hi-cM items.size 0 lo)).toArray.size<=sizeLine;rw[jx,Fq,YB5,Af];omega
 obtain⟨os,hos,hcs,hds⟩:=id hs;have hTs:s.TypeIs (.ref sl) "slice":=⟨os,hos,hcs⟩;unfold getItem
 try with_reducible refine YAU ?_
 first|refine aP _|skip
 refine aP (wpAny_sequenceKey ht.typeIs (by decide) ?_);refine aP (YAV ht.typeIs YAP
  (Ca YAP ht.typeIs entry_tuple_getitem ?_ (args_tuple_getitem _ _)))
 show wpAny _ _ (Builtin.Tuple.tupleItemsOf (.ref t) >>= _) _ _ s;refine aP (tupleItemsOf_ ht ?_);refine aP (wpAny_typeOf hTs ?_);refine aP (zeZ hs pl pu ?_);have hno:¬ ((((cM items.size 0 lo:Nat):Int)==0&&(1:Int)==1&&(cM items.size items.size hi-cM items.size 0 lo)==items.size)=true):=by
  intro q;rw[jT,jT]at q;have q1:=eq_of_beq q.1.1;have q2:=eq_of_beq q.2;exact hw ⟨by omega,by omega⟩
 show wpAny _ _ (if _=true then _ else _) _ _ s;rw[if_neg hno,zsJ];first
  |exact aP (Cw (dO ⟨_,rfl,dO h⟩) htake)
  |exact aP (m:=Builtin.Tuple.tupleExact _) _
  |exact aP _
  |exact aP _
end
end HT
namespace L2
open PySem PySem.Spec PyProof.Rows
abbrev TO:=St->Hp->(Option Int->Hp->Prop)->Prop
def PO(X:Cx)(e:Option Expr)(t:TO):Prop:=
 ∀(aa:List (Addr×Obj))(s:Shared)(U:St)(H:Hp)(Q:Option Int->Hp->Prop),Inv X aa U H s->t U H Q ->
  wpAny (model X.prog X.w) X.A (evalPart e X.env) (λu s'=>∃o H',Inv X aa U H' s'/\IsPart u o/\Q o H') X.xe s
def zua:TO:=λ_ H Q=>Q none H
def zx7(t:TE):TO:=λU H Q=>t U H λx H1=>∃i,x=.int i/\Q (some i) H1
section
variable{X:Cx}{e:Expr}{te:TE}{lo hi:Option Expr}{tl th:TO}{pos p2:Pos}
def zqj:PO X none zua:=by
 intro aa s U H Q I h;rw[evalPart_none];exact dO ⟨none,H,I,.none,h⟩
def zp8(h:PE X e te):PO X (some e) (zx7 te):=by
 intro aa s U H Q I hw;rw[evalPart_some];refine bK (h aa s U H _ I hw) λu s1 ⟨x,H1,I1,r1,q1⟩=>?_;obtain⟨i,rfl,q⟩:=q1;obtain⟨t,rfl⟩:=r1;exact⟨some i,H1,I1,.int i t,q⟩
def xK(X:Cx)(r:V->Option Int->Option Int->Hp->VK->Prop):Prop:=
 ∀(aa:List (Addr×Obj))(s:Shared)(U:St)(H:Hp)(x:V)(v vl vu:Value)(lo hi:Option Int)(sl:Addr)(Q:VK),Inv X aa U H s->RelV x v->s.heap.IsSliceOf sl vl vu .none->IsPart vl lo->IsPart vu hi->r x lo hi H Q ->
  ∃T id,typeLookup (.type T) "__getitem__"=pure (some (.builtin id))/\s.TypeIs v T/\wpAny (model X.prog X.w) X.A (getItem v (.ref sl)) (EP X aa U Q) X.xe s
def xK.or{r r':V->Option Int->Option Int->Hp->VK->Prop}(h:xK X r)(h':xK X r'):xK X (λx lo hi H Q=>r x lo hi H Q\/r' x lo hi H Q):=by
 intro aa s U H x v vl vu lo hi sl Q I rx hs pl pu q;rcases q with q|q
 .exact h aa s U H x v vl vu lo hi sl Q I rx hs pl pu q
 .exact h' aa s U H x v vl vu lo hi sl Q I rx hs pl pu q
def tSl(r:V->Option Int->Option Int->Hp->VK->Prop)(te:TE)(tl th:TO):TE:=λU H Q=>te U H λx H1=>tl U H1 λl H2=>th U H2 λu H3=>r x l u H3 Q
def znX(hr:xK X r)(he:PE X e te)(hl:PO X lo tl)(hu:PO X hi th):PE X (.Subscript e (.Slice lo hi none p2) pos) (tSl r te tl th):=by
 intro aa s U H Q I h;refine Subscript_ (bK (he aa s U H _ I h) λv s1 ⟨x,H1,I1,r1,q1⟩=>?_);refine wpAny_Slice (bK (hl aa s1 U H1 _ I1 q1) λvl s2 ⟨l,H2,I2,pl,q2⟩=>bK (hu aa s2 U H2 _ I2 q2) λvu s3 ⟨u,H3,I3,pu,q3⟩=>?_);refine dO ?_;have I4:Inv X aa U H3 {s3 with heap:=s3.heap.push {cls:=.type "slice",data:=.fields #[vl,vu,.none]}}:=I3.kept (t':=s3.toks) λb ob q=>fG _ q;obtain⟨T,id,hT,ht,hg⟩:=hr aa {s3 with heap:=s3.heap.push {cls:=.type "slice",data:=.fields #[vl,vu,.none]}} U H3 x v vl vu l u s3.heap.objs.size Q I4 r1 (Heap.IsSliceOf.new ..) pl pu q3;exact tail_any (ops:=[.ref s3.heap.objs.size,v]) ht hT hg (by with_unfolding_all rfl)
def lJ(xs:List V)(lo hi:Option Int):List V:=(xs.drop (HT.cM xs.length 0 lo)).take (HT.cM xs.length xs.length hi-HT.cM xs.length 0 lo)
def ziL(xs:List V)(lo hi:Option Int):(lJ xs lo hi).length<=xs.length:=by
 unfold lJ;rw[Fq,YB5];omega
def rSlT(K:qd):V->Option Int->Option Int->Hp->VK->Prop:=λx lo hi H Q=>∃a xs,x=.ref a/\fM K H a xs /\
 ¬ (HT.cM xs.length 0 lo=0/\HT.cM xs.length xs.length hi=xs.length)/\∀p,H p=none->Q (.ref p) (upd H p (.tup (lJ xs lo hi)))
def zvy:xK X (rSlT X.K):=by
 intro aa s U H x v vl vu lo hi sl Q I rx hs pl pu h;obtain⟨a,xs,rfl,hx,hw,q⟩:=h;cases rx;obtain⟨its,r,ht,hz⟩:=I.tuple hx;have hlen:its.toArray.size=xs.length:=r.length.symm;refine⟨"tuple",_,YAP.lookup,ht.typeIs,?_⟩;refine HT.jE ht hs pl pu (by rw[hlen];exact hw) ?_ (by rw[hlen];exact hz);rw[hlen];refine⟨.ref s.heap.objs.size,_,I.laid (t':=s.toks) (λb ob q=>fG _ q) (d8 _) ?_,rfl,q _ (I.hok.fresh (d8 _))⟩;exact⟨⟨gJ (ziL xs lo hi) hz,zn2⟩,_,(r.drop _).take _,IsTup.new _ _⟩
def zye(K:qd):R2:=λx y H Q=>∃a b xs ys,x=.ref a/\y=.ref b/\fM K H a xs/\fM K H b ys/\xs≠[]/\xs.length+ys.length<=sizeLine /\
 (ys=[]->Q (.ref a) H)/\(ys≠[]->∀p,H p=none->Q (.ref p) (upd H p (.tup (xs++ys))))
def Vals.nil_iff(r:Vals xs us):us=[]↔xs=[]:=by
 cases r with
 |nil=>simp
 |cons _ _=>simp
def zuv:gP X (binaryOp .Add) (zye X.K):=by
 intro aa s U H x y v u Q I rx ry h;obtain⟨a,b,xs,ys,rfl,rfl,ha,hb,hx,hz,q1,q2⟩:=h;cases rx;cases ry;obtain⟨its,r1,p1,_⟩:=I.tuple ha;obtain⟨its2,r2,p2,_⟩:=I.tuple hb;refine HT.xH p1 p2 (λz=>hx (r1.nil_iff.mp z)) (λz=>⟨.ref a,H,I,rfl,q1 (r2.nil_iff.mp z)⟩) (λz=>?_) (by rw[<-r1.length,<-r2.length];exact hz);refine⟨.ref s.heap.objs.size,_,I.laid (t':=s.toks) (λb ob q=>fG _ q) (d8 _) ?_,rfl,q2 (λw=>z (r2.nil_iff.mpr w)) _ (I.hok.fresh (d8 _))⟩;exact⟨⟨by rw[iB];exact hz,zn2⟩,_,r1.append r2,IsTup.new _ _⟩
end
def xM(n:Nat)(i:Int):Option Nat:=if 0<=i then(if i<n then some i.toNat else none)else if -(n:Int)<=i then some (i+n).toNat else none
def lE{α:Type}(xs:List α)(i:Int):Option α:=(xM xs.length i).bind λj=>xs[j]?
def zqZ(h:xM n i=some j):seqIndex? i n=some j/\j<n/\-(n:Int)<=i/\i<n:=by
 unfold xM at h;by_cases h0:0<=i
 .rw[if_pos h0]at h;by_cases h1:i<n
  .rw[if_pos h1]at h;have e:=Option.some.inj h;exact⟨by rw[seqIndex_of h0 h1,e],by omega,by omega,h1⟩
  .rw[if_neg h1]at h;cases h
 .rw[if_neg h0]at h;by_cases h1:-(n:Int)<=i
  .rw[if_pos h1]at h;have e:=Option.some.inj h;exact⟨by rw[seqIndex_neg (by omega) h1,e],by omega,h1,by omega⟩
  .rw[if_neg h1]at h;cases h
def zm6{α:Type}{xs:List α}{i:Int}{v:α}(h:lE xs i=some v):∃j,seqIndex? i xs.length=some j/\xs[j]?=some v/\j<xs.length/\-(xs.length:Int)<=i/\i<xs.length:=by
 unfold lE at h;cases e:xM xs.length i with
 |none=>rw[e]at h;cases h
 |some j=>
  rw[e]at h;obtain⟨h1,h2,h3,h4⟩:=zqZ e;exact⟨j,h1,h,h2,h3,h4⟩
def wj{α:Type}{xs:List α}{j:Nat}{v:α}(h:xs[j]?=some v):lE xs (j:Int)=some v:=by
 have hj:=(nW.mp h).1;have e:xM xs.length (j:Int)=some j:=by
  unfold xM;rw[if_pos (by omega),if_pos (by omega)];simp
 unfold lE;rw[e];exact h
def zm7(b:Expr):Prop:=∀o i,subscripted b false o i=operate [o,i] (getItem o i)
def wK(X:Cx)(r:R2):Prop:=
 ∀(value slice:Expr)(aa:List (Addr×Obj))(s:Shared)(U:St)(H:Hp)(x y:V)(v u:Value)(Q:VK),Inv X aa U H s->RelV x v->RelV y u->r x y H Q ->
  subscripted slice false v u=operate [v,u] (getItem v u)->wpAny (model X.prog X.w) X.A (subscriptTail value slice v u) (EP X aa U Q) X.xe s
def yU(X:Cx)(id:String)(r:V->List V->Hp->VK->Prop):Prop:=
 ∀(aa:List (Addr×Obj))(s:Shared)(U:St)(H:Hp)(x:V)(xs:List V)(v:Value)(us:List Value)(Q:VK),Inv X aa U H s->RelV x v->Vals xs us->r x xs H Q ->
  wpAny (model X.prog X.w) X.A (call (.builtin id) (v::us)) (EP X aa U Q) X.xe s
section
variable{X:Cx}{a b:Expr}{ta tb:TE}{pos:Pos}
def wK.or{r r':R2}(h:wK X r)(h':wK X r'):wK X (λx y H Q=>r x y H Q\/r' x y H Q):=by
 intro value slice aa s U H x y v u Q I rx ry q hs;rcases q with q|q
 .exact h value slice aa s U H x y v u Q I rx ry q hs
 .exact h' value slice aa s U H x y v u Q I rx ry q hs
def uN(hr:wK X r)(ha:PE X a ta)(hb:PE X b tb)(hs:zm7 b):PE X (.Subscript a b pos) (HN r ta tb):=by
 intro aa s U H Q I h;exact Subscript_ (Bc ha hb I h λv u s2 x y H2 I2 rx ry q=>hr a b aa s2 U H2 x y v u Q I2 rx ry q (hs _ _))
def Jt(K:qd):R2:=λx y H Q=>∃p xs i v,x=.ref p/\y=.int i/\cg K H p xs/\lE xs i=some v/\Q v H
def Kr(K:qd):R2:=λx y H Q=>∃p xs i v,x=.ref p/\y=.int i/\fM K H p xs/\lE xs i=some v/\Q v H
def Jq:R2:=λx y H Q=>∃z i c,x=.str z/\y=.int i/\z.length<=sizeLine/\lE z.cps.toList i=some c/\Q (.str ⟨#[c]⟩) H
def dD:wK X (Jt X.K):=by
 intro value slice aa s U H x y v u Q I rx ry h hs;obtain⟨p,xs,i,z,rfl,rfl,hq,he,q⟩:=h;cases rx;obtain⟨t,rfl⟩:=ry;obtain⟨its,r,pl,hz⟩:=I.list hq;obtain⟨j,h1,h2,h3,h4,h5⟩:=zm6 he;obtain⟨w,ew,rw'⟩:=r.get h2;have hl:=r.length;have hn:=Be;have fin:EP X aa U Q w s:=⟨z,H,I,rw',q⟩;by_cases h0:0<=i
 .have hj:i.toNat=j:=by
   rw[seqIndex_of h0 h5]at h1;exact Option.some.inj h1
  exact item_listR pl.isList h0 (by omega) (by rw[hj];simpa using ew) fin hs
 .have hj:(i+(its.toArray.size:Int)).toNat=j:=by
   rw[seqIndex_neg (by omega) h4]at h1;rw[jx,<-hl];exact Option.some.inj h1
  exact subscriptTail_builtinR pl.isList.typeIs slot_list_getitem.lookup
   (wpAny_getItem_list_neg pl.isList (by omega) (by rw[jx]<;>omega) (by omega) (by rw[hj];simpa using ew) ⟨rfl,fin⟩) hs
def zU:wK X (Kr X.K):=by
 intro value slice aa s U H x y v u Q I rx ry h hs;obtain⟨p,xs,i,z,rfl,rfl,hq,he,q⟩:=h;cases rx;obtain⟨t,rfl⟩:=ry;obtain⟨its,r,pl,hz⟩:=I.tuple hq;obtain⟨j,h1,h2,h3,h4,h5⟩:=zm6 he;obtain⟨w,ew,rw'⟩:=r.get h2;have hl:=r.length;have hn:=Be;have fin:EP X aa U Q w s:=⟨z,H,I,rw',q⟩;exact subscriptTail_builtinR pl.typeIs slot_tuple_getitem.lookup
  (getItem_tuple pl (by omega) (by omega) (by rw[jx,<-hl];exact h1) (by simpa using ew) ⟨rfl,fin⟩) hs
def zwy:wK X Jq:=by
 intro value slice aa s U H x y v u Q I rx ry h hs;obtain⟨z,i,c,rfl,rfl,hz,he,q⟩:=h;obtain⟨t,rfl⟩:=rx;obtain⟨t',rfl⟩:=ry;obtain⟨j,h1,h2,h3,h4,h5⟩:=zm6 he;have hl:z.cps.toList.length=z.length:=by simp[Str.length]
 rw[hl]at h1 h4 h5;have hn:=Be;exact tail_any (Ej s z t) slot_str_getitem.lookup (getItem_str (c:=c) (by
  have e1:decide (i < -(2^63:Int))=false:=jq (by omega);have e2:decide (i ≥ 2^63)=false:=jq (by omega);rw[e1,e2,Bool.or_false]) (by rw[h1];simpa using h2) ⟨.str ⟨#[c]⟩,H,I.tok _,⟨_,rfl⟩,q⟩) hs
def rIx(K:qd):R2:=λx y H Q=>Jt K x y H Q\/Kr K x y H Q\/Jq x y H Q
def zty:wK X (rIx X.K):=dD.or (zU.or zwy)
def zoU(its:List Value)(n j:Nat)(u:Value):Obj.mapSeq (·.setIfInBounds j u) {cls:=.type "list",data:=.seq its.toArray n}={cls:=.type "list",data:=.seq (its.set j u).toArray n}:=by
 simp[Obj.mapSeq]
theorem Inv.lst{aa:List (Addr×Obj)}{U:St}{H:Hp}{s:Shared}{p:Addr}{xs:List V}(I:Inv X aa U H s)(h:H p=some (.lst xs)) :
  ∃(its:List Value)(n:Nat),Vals xs its/\s.heap.get? p=some {cls:=.type "list",data:=.seq its.toArray n}/\xs.length<=sizeLine:=by
 obtain⟨z,its,n,r,e⟩:=I.hok p _ h;exact⟨its,n,r,e,z⟩
def Inv.lstUpd{aa:List (Addr×Obj)}{U:St}{H:Hp}{s:Shared}{p:Addr}{xs ys:List V}{its its':List Value}{n n':Nat}{f:Obj->Obj}(I:Inv X aa U H s)(h:H p=some (.lst xs))
  (ho:s.heap.get? p=some {cls:=.type "list",data:=.seq its.toArray n}) (hf:f {cls:=.type "list",data:=.seq its.toArray n}={cls:=.type "list",data:=.seq its'.toArray n'}) (r:Vals ys its') (hz:ys.length<=sizeLine) (t:Nat) :
  Inv X aa U (upd H p (.lst ys)) {s with heap:=s.heap.update p f,toks:=t}:=by
 have e:(s.heap.update p f).get? p=some {cls:=.type "list",data:=.seq its'.toArray n'}:=by
  rw[YBA f ho (by rw[hf]<;>rfl),hf]
 exact I.write (by rw[h];trivial) (.inl rfl) (λb u hb q=>(CN _ _ (YAD hb)).trans q) ⟨_,e⟩ (⟨hz,its',n',r,e⟩)
def zyp:V->V->V->Hp->(Hp->Prop)->Prop:=λo i v H Q=>∃p xs k j,o=.ref p/\i=.int k/\H p=some (.lst xs)/\xM xs.length k=some j/\Q (upd H p (.lst (xs.set j v)))
def zh7:Cp X zyp:=by
 intro aa s U H o i v ov iv u Q I ro ri rv h;obtain⟨p,xs,k,j,rfl,rfl,hp,hj,q⟩:=h;cases ro;obtain⟨t,rfl⟩:=ri;obtain⟨its,n,r,ho,hz⟩:=I.lst hp;obtain⟨h1,h2,h3,h4⟩:=zqZ hj;have hl:=r.length;have hn:=Be;have I':Inv X aa U (upd H p (.lst (xs.set j v))) {s with heap:=s.heap.update p (Obj.mapSeq (·.setIfInBounds j u))}:=
  I.lstUpd hp ho (zoU its n j u) (r.set rv j) (by rw[List.length_set];exact hz) s.toks
 by_cases h0:0<=k
 .have hk:k.toNat=j:=by
   rw[seqIndex_of h0 h4]at h1;exact Option.some.inj h1
  exact PySem.W.ki_setAt ho h0 (by omega) (by rw[jx,<-hl];exact h4) (by rw[hk];exact⟨_,I',q⟩)
 .have hk:(k+(its.toArray.size:Int)).toNat=j:=by
   rw[seqIndex_neg (by omega) h3]at h1;rw[jx,<-hl];exact Option.some.inj h1
  exact PySem.W.ki_setBack ho (by omega) (by rw[jx,<-hl];exact h3) (by omega) (by rw[hk];exact⟨_,I',q⟩)
def zl1(lo hi:Option Int)(n:Nat):(sliceBounds lo hi none n).1=((HT.cM n 0 lo:Nat):Int)/\(sliceBounds lo hi none n).2.1=((HT.cM n n hi:Nat):Int)/\(sliceBounds lo hi none n).2.2=1:=by
 refine⟨?_,?_,rfl⟩
 .cases lo with
  |none=>simp[sliceBounds,HT.cM]
  |some i=>
   simp only[sliceBounds,HT.cM,Option.getD_none,show(1:Int)>0 by decide,uU];by_cases h:i<0
   .simp only[h,uU]<;>omega
   .simp only[h,if_false]<;>omega
 .cases hi with
  |none=>simp[sliceBounds,HT.cM]
  |some i=>
   simp only[sliceBounds,HT.cM,Option.getD_none,show(1:Int)>0 by decide,uU];by_cases h:i<0
   .simp only[h,uU]<;>omega
   .simp only[h,if_false]<;>omega
def zkR(its:List Value)(lo hi:Option Int):slicePick its.toArray lo hi none=((its.drop (HT.cM its.length 0 lo)).take (HT.cM its.length its.length hi-HT.cM its.length 0 lo)).toArray:=by
 obtain⟨h1,h2,h3⟩:=zl1 lo hi its.toArray.size;unfold slicePick;rw[h1,h2,h3];simp only[sliceRange_one,pick_run,jx]<;>rfl
def rSlL(K:qd):V->Option Int->Option Int->Hp->VK->Prop:=λx lo hi H Q=>∃a xs,x=.ref a/\cg K H a xs/\∀p,H p=none->Q (.ref p) (upd H p (.lst (lJ xs lo hi)))
def rH:xK X (rSlL X.K):=by
 intro aa s U H x v vl vu lo hi sl Q I rx hs pl pu h;obtain⟨a,xs,rfl,hx,q⟩:=h;cases rx;obtain⟨its,r,ht,hz⟩:=I.list hx;have hlen:=r.length;refine⟨"list",_,slot_list_getitem.lookup,ht.isList.typeIs,?_⟩;refine wpAny_getItem_list_slice ht.isList hs pl pu .none (by simp) ?_ (by rw[jx]<;>omega);rw[zkR,<-hlen];refine⟨.ref s.heap.objs.size,_,I.laid (t':=s.toks) (λb ob q=>fG _ q) (d8 _) ?_,rfl,q _ (I.hok.fresh (d8 _))⟩;exact⟨gJ (ziL xs lo hi) hz,_,0,(r.drop (HT.cM xs.length 0 lo)).take _,lV _ rfl⟩
def zly:gP X (compareOp .NotIn) (λx y H Q=>∃i j,x=.str i/\y=.str j/\Q (.bl (!(!(Builtin.Str.occurrences j i 0 j.length 1).isEmpty))) H):=by
 intro aa s U H x y v u Q I rx ry h;obtain⟨i,j,rfl,rfl,q⟩:=h;obtain⟨t,rfl⟩:=rx;obtain⟨t',rfl⟩:=ry;exact notIn_str ⟨.bl _,H,I,rfl,q⟩
def jC:cL X (.builtin "len") (λxs H Q=>∃p ys,xs=[.ref p]/\(cg X.K H p ys\/fM X.K H p ys)/\Q (.int ys.length) H):=by
 intro aa s U H xs us Q I r h;obtain⟨p,ys,rfl,hq,q⟩:=h;obtain⟨u,rfl,rx⟩:=qx r;cases rx;have hn:=Be;rcases hq with hq|hq
 .obtain⟨its,r',pl,hz⟩:=I.list hq;have hlen:=r'.length;exact Calls.call_len_list pl.isList (by simp only[jx]<;>omega) ⟨.int ys.length,H,I.tok _,⟨s.toks+1,by rw[jx,hlen]⟩,q⟩
 .obtain⟨its,r',pl,hz⟩:=I.tuple hq;have hlen:=r'.length;exact len_tuple pl (by simp only[jx]<;>omega) ⟨.int ys.length,H,I.tok _,⟨s.toks+1,by rw[jx,hlen]⟩,q⟩
def zl6:cL X (.builtin "len") (λxs H Q=>∃z,xs=[.str z]/\z.length<=sizeLine/\Q (.int z.length) H):=by
 intro aa s U H xs us Q I r h;obtain⟨z,rfl,hz,q⟩:=h;obtain⟨u,rfl,t,rfl⟩:=qx r;have hn:=Be;exact len_str (by omega) ⟨.int z.length,H,I.tok _,⟨_,rfl⟩,q⟩
def cL.or{f:Value}{r r':List V->Hp->VK->Prop}(h:cL X f r)(h':cL X f r'):cL X f (λxs H Q=>r xs H Q\/r' xs H Q):=by
 intro aa s U H xs us Q I rs q;rcases q with q|q
 .exact h aa s U H xs us Q I rs q
 .exact h' aa s U H xs us Q I rs q
def zff:cL X (.type "list") (λxs H Q=>∃p ys,xs=[.ref p]/\(cg X.K H p ys\/fM X.K H p ys)/\∀l,H l=none->Q (.ref l) (upd H l (.lst ys))):=by
 intro aa s U H xs us Q I r h;obtain⟨p,ys,rfl,hq,q⟩:=h;obtain⟨u,rfl,rx⟩:=qx r;cases rx;have fin:∀(its:List Value),Vals ys its->ys.length<=sizeLine->∀(h':Heap)(c':Nat),(∀b o',s.heap.get? b=some o'->h'.get? b=some o') ->
   h'.get? s.heap.objs.size=some {cls:=.type "list",dict:=none,data:=.seq its.toArray c',slots:=#[]}->EP X aa U Q (.ref s.heap.objs.size) {s with heap:=h'}:=λits r' hz h' c' kp e=>
  ⟨.ref s.heap.objs.size,_,I.laid (t':=s.toks) kp (d8 _) (show cJ X.prog X.w _ h' _ (.lst ys)from⟨hz,its,c',r',e⟩),rfl,q _ (I.hok.fresh (d8 _))⟩
 rcases hq with hq|hq
 .obtain⟨its,r',pl,hz⟩:=I.list hq;have hlen:=r'.length;obtain⟨o,ho,hc,n,hd⟩:=pl.isList;exact call_list_seq p (.inl rfl) ho hc hd (λh' c' kp e=>fin its r' hz h' c' kp e) (by simp only[jx]<;>omega)
 .obtain⟨its,r',pl,hz⟩:=I.tuple hq;have hlen:=r'.length;obtain⟨o,ho,hc,n,hd⟩:=pl;exact call_list_seq p (.inr rfl) ho hc hd (λh' c' kp e=>fin its r' hz h' c' kp e) (by simp only[jx]<;>omega)
def zk4:cL X (.type "tuple") (λxs H Q=>∃p ys,xs=[.ref p]/\((cg X.K H p ys/\∀l,H l=none->Q (.ref l) (upd H l (.tup ys)))\/(fM X.K H p ys/\Q (.ref p) H))):=by
 intro aa s U H xs us Q I r h;obtain⟨p,ys,rfl,h⟩:=h;obtain⟨u,rfl,rx⟩:=qx r;cases rx;rcases h with⟨hq,q⟩|⟨hq,q⟩
 .obtain⟨its,r',pl,hz⟩:=I.list hq;have hlen:=r'.length;refine call_tuple_list pl.isList (λh' kp=>?_) (by simp only[jx]<;>omega);have I1:=I.kept (t':=s.toks) kp;have I2:=
   I1.laid (t':=s.toks) (λb o e=>fG _ e) (d8 _) (show cJ X.prog X.w _ _ _ (.tup ys)from⟨⟨hz,zn2⟩,its,r',IsTup.new _ _⟩)
  exact⟨.ref h'.objs.size,_,I2,rfl,q _ (I1.hok.fresh (d8 _))⟩
 .obtain⟨its,r',pl,hz⟩:=I.tuple hq;exact call_tuple_same pl ⟨.ref p,H,I,rfl,q⟩
def tyV(K:qd)(T:String)(x:V)(H:Hp):Prop:=match x with
 |.str _=>T="str"
 |.int _=>T="int"
 |.ref p=>(T="list" /\ ∃xs,cg K H p xs)\/(T="tuple" /\ ∃o,K.lookup p=some o/\o.cls=.type "tuple" /\ o.dict=none) \/
   (T="dict" /\ ((∃kvs,H p=some (.dK kvs))\/∃kvs,H p=some (.dT kvs)))\/(T="set" /\ ∃S n,H p=some (.set S n))
 |_=>False
def ztw(I:Inv X aa U H s)(r:RelV x v)(ty:tyV X.K T x H) :
  s.TypeIs v T/\∀a,v=.ref a->∃ob,s.heap.get? a=some ob/\ob.dict=none:=by
 cases x with
 |str z=>
  obtain⟨t,rfl⟩:=r;cases (ty);exact⟨Ej s z t,λ_ e=>nomatch e⟩
 |int i=>
  obtain⟨t,rfl⟩:=r;cases (ty);exact⟨typeIs_int s i t,λ_ e=>nomatch e⟩
 |ref p=>
  cases r;rcases ty with⟨rfl,xs,hq⟩|⟨rfl,o,hk,hc,hd⟩|⟨rfl,hk⟩|⟨rfl,S,n,hk⟩
  .obtain⟨its,_,pl,_⟩:=I.list hq;refine⟨pl.isList.typeIs,λa e=>?_⟩;cases e;obtain⟨o,n,e,c,hd,_⟩:=pl;exact⟨o,e,hd⟩
  .refine⟨⟨o,I.kIn p o hk,hc⟩,λa e=>?_⟩;cases e;exact⟨o,I.kIn _ o hk,hd⟩
  .have z:∃o,s.heap.get? p=some o/\o.ExactDict:=by
    rcases hk with⟨kvs,hk⟩|⟨kvs,hk⟩
    .obtain⟨_,_,_,_,o,_,_,e,ex,_⟩:=I.hok p _ hk;exact⟨o,e,ex⟩
    .obtain⟨_,_,_,_,o,_,_,e,ex,_⟩:=I.hok p _ hk;exact⟨o,e,ex⟩
   obtain⟨o,e,ex⟩:=z;refine⟨⟨o,e,ex.1⟩,λa e2=>?_⟩;cases e2;exact⟨o,e,ex.2.1⟩
  .obtain⟨o,_,_,_,e,ex,_⟩:=I.hok p _ hk;refine⟨⟨o,e,ex.1⟩,λa e2=>?_⟩;cases e2;exact⟨o,e,ex.2.1⟩
 |_=>exact False.elim ty
def tBM0(K:qd)(T:String)(r:V->List V->Hp->VK->Prop)(to:TE):TE:=λU H Q=>to U H λx H1=>tyV K T x H1/\r x [] H1 Q
def tBM(K:qd)(T:String)(r:V->List V->Hp->VK->Prop)(to:TE)(t:TA):TE:=λU H Q=>to U H λx H1=>tyV K T x H1/\t U H1 λxs H2=>r x xs H2 Q
variable{o e:Expr}{es:List Expr}{to:TE}{t:TA}{name:Str}{apos cpos:Pos}{T id:String}{r:V->List V->Hp->VK->Prop}
def zpN(pa:PlainAttrs T)(slot:Slot T name id)(hty:typeOf (.builtin id)=pure (.type "method_descriptor"))(hm:yU X id r)(ho:PE X o to)
  (hbase:ZB o name X:=by rfl) (hline:(apos.endLine==cpos.line)=true:=by rfl):PE X (.Call (.Attribute o name apos) [] [] cpos) (tBM0 X.K T r to):=by
 intro aa s U H Q I h;refine wpAny_Call_method0_late hbase hline (bK (ho aa s U H _ I h) λv s1 ⟨x,H1,I1,r1,ty,q1⟩=>?_);obtain⟨h1,h2⟩:=ztw I1 r1 ty;exact⟨T,id,pa,slot,hty,h1,h2,YBw rfl (PySem.evalArgs_none (hm aa s1 U H1 x [] v [] Q I1 r1 .nil q1))⟩
def HB(pa:PlainAttrs T)(slot:Slot T name id)(hty:typeOf (.builtin id)=pure (.type "method_descriptor"))(hm:yU X id r)(ho:PE X o to)(ha:PA X (e::es) t)
  (hbase:ZB o name X:=by rfl)
  (hfew:((backTo cpos (starEach (e::es) X.env)).all (λx=>!x.1)&&(backToKw cpos (keywordEach [] X.env)).all (λx=>x.1.isSome)
   && decide ((e::es).length+([]:List Keyword).length+(if ([]:List Keyword).isEmpty then 0 else 1)<30))=true:=by rfl)
  (hline:(apos.endLine==cpos.line)=true:=by rfl) (hs:starEach (e::es) X.env=(false,eval e X.env)::starEach es X.env:=by rfl) (hplain:(backTo cpos (starEach es X.env)).any (·.1)=false:=by rfl) :
  PE X (.Call (.Attribute o name apos) (e::es) [] cpos) (tBM X.K T r to t):=by
 intro aa s U H Q I h;refine wpAny_Call_method_late hbase hfew hline rfl (bK (ho aa s U H _ I h) λv s1 ⟨x,H1,I1,r1,ty,q1⟩=>?_);obtain⟨h1,h2⟩:=ztw I1 r1 ty;refine⟨T,id,pa,slot,hty,h1,h2,?_⟩;have hA:=ha cpos aa s1 U H1 _ I1 q1;rw[hs]at hA ⊢;refine YBw (by show(false || (backTo cpos _).any (·.1))=false;rw[hplain]<;>rfl) (YBI ?_);exact bK hA λus s2 ⟨vs,H2,I2,r2,q2⟩=>hm aa s2 U H2 x vs v us Q I2 r1 r2 q2
end
def MtM(X:Cx)(id:String)(r:V->List V->Hp->VK->Prop):Prop:=
 ∀(aa:List (Addr×Obj))(s:Shared)(U:St)(H:Hp)(x:V)(xs:List V)(v:Value)(us:List Value)(Q:VK),Inv X aa U H s->RelV x v->Vals xs us->r x xs H Q ->
  wpAny (model X.prog X.w) X.A (call (.builtin id) (v::us)) (EP X aa U Q) X.xe s
def Vals.one:∀{x:V}{us:List Value},Vals [x] us->∃u,us=[u]/\RelV x u
 |_,_,.cons r .nil=>⟨_,rfl,r⟩
def Vals.zero:∀{us:List Value},Vals [] us->us=[]
 |_,.nil=>rfl
theorem Vals.dropLast{xs:List V}{us:List Value}(h:Vals xs us):Vals xs.dropLast us.dropLast:=by
 induction h with
 |nil=>exact .nil
 |cons r t ih=>
  cases t with
  |nil=>exact .nil
  |cons q t'=>exact .cons r ih
def zpk{α:Type}(l:List α):l.eraseIdx (l.length-1)=l.dropLast:=by
 induction l with
 |nil=>rfl
 |cons a r ih=>
  cases r with
  |nil=>rfl
  |cons b r=>
   have e:(a::b::r).length-1=((b::r).length-1)+1:=by
    have h1:(a::b::r).length=r.length+2:=rfl;have h2:(b::r).length=r.length+1:=rfl;omega
   rw[e,List.eraseIdx_cons_succ,ih]
   all_goals rfl
section
variable{X:Cx}{aa:List (Addr×Obj)}{U:St}{H:Hp}{s:Shared}{l b:Addr}{xs ys zs:List V}
def Inv.lset{its its':List Value}{n:Nat}{f:Array Value->Array Value}{t':Nat}(I:Inv X aa U H s)(hH:H l=some (.lst xs))
  (e:s.heap.get? l=some {cls:=.type "list",data:=.seq its.toArray n}) (hf:f its.toArray=its'.toArray) (hv:Vals ys its') (hz:ys.length<=sizeLine) :
  Inv X aa U (upd H l (.lst ys)) {s with heap:=s.heap.update l (Obj.mapSeq f),toks:=t'}:=by
 have q:=PySem.IsL.update e f;rw[hf]at q;exact I.write (by rw[hH];exact trivial) (.inl rfl) (λb' u hb hu=>(CN s.heap _ (YAD hb)).trans hu) ⟨_,q⟩ (⟨hz,its',_,hv,q⟩)
def Inv.lnew(I:Inv X aa U H s)(hv:Vals ys its)(hz:ys.length<=sizeLine) :
  Inv X aa U (upd H s.heap.objs.size (.lst ys)) {s with heap:=s.heap.push {cls:=.type "list",data:=.seq its.toArray},toks:=t'}:=
 I.laid (λ_ _ q=>fG _ q) (d8 _) ⟨hz,its,0,hv,lV _ rfl⟩
theorem Inv.fresh(I:Inv X aa U H s):H s.heap.objs.size=none:=I.hok.fresh (d8 _)
def Inv.lstM(I:Inv X aa U H s)(hH:H l=some (.lst xs)):xs.length<=sizeLine/\∃(its:List Value)(n:Nat),Vals xs its/\xs.length=its.length/\s.heap.get? l=some {cls:=.type "list",data:=.seq its.toArray n}:=by
 obtain⟨z,its,n,r,e⟩:=I.hok l _ hH;exact⟨z,its,n,r,r.length,e⟩
def zsY{n:Nat}(h:n<=sizeLine):Builtin.List.listTooLong n=false:=by
 exact jq (by omega)
end
section
variable{X:Cx}
def zur:V->List V->Hp->VK->Prop:=λx vs H Q=>∃l xs y,x=.ref l/\vs=[y]/\H l=some (.lst xs)/\xs.length<sizeLine/\Q .non (upd H l (.lst (xs++[y])))
def zg8:MtM X "list.append" zur:=by
 intro aa s U H x vs v us Q I rx rv h;obtain⟨l,xs,y,rfl,rfl,hH,hz,q⟩:=h;cases rx;obtain⟨u,rfl,ru⟩:=rv.one;obtain⟨z,its,n,r,hl,e⟩:=I.lstM hH;refine BJ F.slot_list_append ⟨_,e,rfl⟩ F.entry_list_append (F.args_list_append_2 _ _) (PySem.list_append l its.toArray n u (by rw[jx];omega)) ⟨e,?_⟩;refine⟨.non,_,I.lset (its':=its++[u]) hH e (by simp) (r.append (.cons ru .nil)) ?_,rfl,q⟩;rw[iB,List.length_singleton];omega
def zux:V->List V->Hp->VK->Prop:=λx vs H Q=>∃l b xs zs,x=.ref l/\vs=[.ref b]/\H l=some (.lst xs)/\H b=some (.lst zs)/\xs.length+zs.length<=sizeLine/\Q .non (upd H l (.lst (xs++zs)))
def zqd:MtM X "list.extend" zux:=by
 intro aa s U H x vs v us Q I rx rv h;obtain⟨l,b,xs,zs,rfl,rfl,hH,hB,hz,q⟩:=h;cases rx;obtain⟨u,rfl,ru⟩:=rv.one;cases ru;obtain⟨z,its,n,r,hl,e⟩:=I.lstM hH;obtain⟨z2,its2,n2,r2,hl2,e2⟩:=I.lstM hB;have hsz:its.toArray.size+its2.toArray.size<=sizeLine:=by rw[jx,jx];omega
 have hlong:¬ (!its.toArray.isEmpty&&Builtin.List.listTooLong (its.toArray.size+its2.toArray.size))=true:=by
  rw[zsY hsz,Bool.and_false];exact Bool.false_ne_true
 refine BJ F.slot_list_extend ⟨_,e,rfl⟩ F.entry_list_extend (F.args_list_extend_2 _ _)
  (AutoSeq1.list_extend_list_list_0 l its.toArray n b its2.toArray n2 hlong (by rw[jx];omega) (by omega)) ⟨e,e2,?_⟩
 refine⟨.non,_,I.lset (its':=its++its2) hH e (by simp) (r.append r2) ?_,rfl,q⟩;rw[iB];omega
def rPop:V->List V->Hp->VK->Prop:=λx vs H Q=>∃l xs y,x=.ref l/\vs=[]/\H l=some (.lst xs)/\xs[xs.length-1]?=some y/\Q y (upd H l (.lst xs.dropLast))
def zqF:MtM X "list.pop" rPop:=by
 intro aa s U H x vs v us Q I rx rv h;obtain⟨l,xs,y,rfl,rfl,hH,hy,q⟩:=h;cases rx;have hus:=rv.zero;subst hus;obtain⟨z,its,n,r,hl,e⟩:=I.lstM hH;obtain⟨u,hu,ru⟩:=r.get hy;have hy':its.toArray[its.toArray.size-1]?=some u:=by
  show its.toArray[its.length-1]?=some u;rw[<-YBB,<-hl];exact hu
 refine BJ F.slot_list_pop ⟨_,e,rfl⟩ F.entry_list_pop (F.args_list_pop_1 _) (MeetsSeq.list_pop_last l its.toArray n u hy' (by rw[jx];omega)) ⟨e,?_⟩;refine⟨y,_,I.lset (its':=its.dropLast) hH e ?_ r.dropLast ?_,ru,q⟩
 .show its.toArray.eraseIdxIfInBounds (its.toArray.size-1)=its.dropLast.toArray;rw[jx,List.eraseIdxIfInBounds_toArray,zpk]
 .rw[List.length_dropLast];omega
def KZ:R2:=λx y H Q=>∃l b xs zs,x=.ref l/\y=.ref b/\H l=some (.lst xs)/\H b=some (.lst zs)/\xs.length+zs.length<=sizeLine/\∀p,H p=none->Q (.ref p) (upd H p (.lst (xs++zs)))
def zW:gP X (binaryOp .Add) KZ:=by
 intro aa s U H x y v u Q I rx ry h;obtain⟨l,b,xs,zs,rfl,rfl,hH,hB,hz,q⟩:=h;cases rx;cases ry;obtain⟨z,its,n,r,hl,e⟩:=I.lstM hH;obtain⟨z2,its2,n2,r2,hl2,e2⟩:=I.lstM hB;refine PySem.P.add_list e e2 ?_ (by rw[jx,jx];omega);have ea:its.toArray++its2.toArray=(its++its2).toArray:=by simp
 rw[ea];exact⟨.ref _,_,I.lnew (t':=s.toks) (r.append r2) (by rw[iB];omega),rfl,q _ I.fresh⟩
end
end L2
namespace Att
open PySem PySem.W PySem.Calls PyProof.Rows
def ziB{P:Params}{h:Heap}:∀(ns:List Int)(vs:List Value),WellAll P h vs (ns.map WData.int)->IntsAre vs ns:=by
 intro ns
 induction ns with
 |nil=>
  intro vs w;rw[ue]at w;cases w;exact .nil
 |cons n ns ih=>
  intro vs w;rw[fj]at w;cases w with
  |cons a b=>
   cases a;exact .cons _ _ (ih _ b)
def zpr{l:OpenLaw}{n:Nat}(hn:l.most=some n){P:Params}{h:Heap}{args:List WData}{vals:List Value}
  (hpre:l.row.toRowW.claim.pre args=true) (hwl:WellAll P h vals args) :
  ∃a vs ns,vals=[Value.ref a]/\args=[WData.list (ns.map WData.int)]/\h.get? a=some {cls:=.type "list",data:=.seq vs.toArray}/\IntsAre vs ns/\ns.length<=n:=by
 have hsh:=(pre_splitW hpre).1;have hc:l.pre.holds [] {args:=args}=true:=(pre_splitW hpre).2;obtain⟨d,r,rfl,h1,h2⟩:=hasAllW_cons hsh;obtain rfl:=hasAllW_nil h2;obtain⟨xs,rfl,h3⟩:=hasW_list h1;obtain⟨ns,rfl⟩:=items_int h3;have hlen:ns.length<=n:=by
  have h4:(WTm.not (.lt (.lit (.int (n:Int))) (.len (.arg 0)))).holds [] {args:=[.list (ns.map .int)]}=true:=by
   have h4:=(holds_andW hc).1;rw[hn]at h4;exact h4
  have h5:=condW_of h4 (w_not (w_lt w_lit (w_len_list (w_arg rfl))));first
   | (rw[iQ q']at h5;exact absurd h5 (by decide))
   | (simp at h5;omega)
 cases hwl with
 |cons w1 w2=>
  cases w2;cases w1 with
  |list ho hall=>exact⟨_,_,ns,rfl,rfl,ho,ziB ns _ hall,hlen⟩
def zrn(l:OpenLaw)(args:List WData):l.row.toRowW.claim.post args (.bool true) args=true:=
 postW_of (r:=l.row.toRowW) (X:=(true==true))
  (show WShape.has [] (.bool true) .bool=true by first|rfl|decide|simp[WShape.has,WShape.arms,WShape.armsAll])
  (show(WTm.eq .res (.lit (.bool true))).value [] {args:=args,res:=some (.bool true),after:=args}=some (.bool (true==true))from w_eq_bool (w_res rfl) w_lit) rfl
def pQ{l:OpenLaw}{n:Nat}{q:Program}{loose:List Str}{XP:(Str->Option Value)->Heap->Prop}{YP:World->Heap->Prop}{d:DefRec}
  (hn:l.most=some n) (hdf:d.params.defaults=[])
  (call:∀(w:World)(s₀ s₁:Shared)(mg mb:Str->Option Value)(fa:Addr)(o:Obj)(pm cd doc:Value)(a:Addr)(vs:List Value)(ns:List Int),
   Ground q loose [] XP w s₀ mg mb s₁.heap->YP w s₁.heap ->
   s₁.heap.get? fa=some o->o.data=.func (docDef d.name d.params d.body d.scope pm cd doc)->s₁.heap.CodeRec cd d.name->mg d.name=some (.ref fa) ->
   s₁.heap.get? a=some {cls:=.type "list",data:=.seq vs.toArray}->IntsAre vs ns->ns.length<=n->s₁.gens=#[] ->
   codeAny (model l.prog w) callerA (.call (.ref fa) ⟨[.ref a],[]⟩) (λr s'=>r=.ok (.ret (.bool true))/\OldK s₁.heap s'.heap/\s'.os=s₁.os/\AllBare s'.gens) s₁) :
  WalkO q loose XP YP l.row.toRowW d [] (λf vs=>PySem.call f vs):=by
 intro w s₀ s₁ mg mb G Y fa o pm cd doc dV kV ho hd hcd hD hmg hg args vals as hpre hlay hrd hwl hlo;obtain rfl:dV=.none:=Dflts.none hD hdf;obtain rfl:kV=.none:=Dflts.noKw hD;obtain⟨a,vs,ns,rfl,rfl,hobj,hints,hlen⟩:=zpr hn hpre hwl;refine enter_call (YCz (call w s₀ s₁ mg mb fa o pm cd doc a vs ns G Y ho (fd_plain hd) hcd hmg hobj hints hlen hg) λr s' hq=>?_);obtain⟨rfl,h2,h3,h4⟩:=hq;exact⟨.inl ⟨.bool true,.bool true,[],rfl,λ_=>rfl,.bool true,zrn l _,λ_=>⟨List.Pairwise.nil,λ_ hm=>(nomatch hm)⟩⟩,h2,h3,h4⟩
end Att
namespace L2
open PySem PySem.Spec PyProof.Rows
theorem zl2:∀{vs:List Value}{ns:List Int},IntsAre vs ns->Vals (ns.map V.int) vs
 |_,_,.nil=>.nil
 |_,_,.cons n t h=>.cons ⟨t,rfl⟩ (zl2 h)
def Only(H:Hp):Prop:=∀b,H b=none\/∃o xs,H b=some (.pG o (.lst xs))
def zsU{P:Program}{w:World}{K:qd}{mg mb:Str->Option Value}{CX:qC}{k:Nat}{fa a:Addr}{fd:FuncData}{x:Str}{sp:Sp}{s₁:Shared}{vs:List Value}{ns:List Int}
  (KX:K.In s₁.heap) (hns:s₁.heap.Ns mainGlobals mg) (hb:s₁.heap.Ns builtinsNs mb) (hbb:∀x:Str,x≠"__name__" -> mb x=bootBuiltins x) (hlim:s₁.heap.NoLimit) (hg:s₁.gens=#[])
  (ha:s₁.heap.get? a=some {cls:=.type "list",data:=.seq vs.toArray}) (hi:IntsAre vs ns) (hl:ns.length<=sizeLine) (hr:bA k callerA)
  (F:∀base:Heap,K.In base->base.Ns mainGlobals mg->aG P w K mg base CX k fa fd [x] sp) (hbind:∀(s:Shared)(u:Value),BindsTo s fd ⟨[u],[]⟩ [(x,u)])
  (hsp:∀H:Hp,Only H->cg K H a (ns.map V.int)->sp [.ref a] H (λv _=>v=.bl true) λ_ _ _=>False)
  (hCX:∀H e s',CX [] H s₁ (λ_ _ _=>False) e s'->False) :
  codeAny (model P w) callerA (.call (.ref fa) ⟨[.ref a],[]⟩) (λr s'=>r=.ok (.ret (.bool true))/\OldK s₁.heap s'.heap/\s'.os=s₁.os/\AllBare s'.gens) s₁:=by
 have rv:=zl2 hi;have lenV:=hi.length
 -- from an abstract heap in which nothing but the script may be tracked
 have core:∀H:Hp,Only H->cg K H a (ns.map V.int)->jj P w H s₁.heap->(∀b,H b≠none->b=a)->(H a≠none->K.lookup a=none) ->
   codeAny (model P w) callerA (.call (.ref fa) ⟨[.ref a],[]⟩) (λr s'=>r=.ok (.ret (.bool true))/\OldK s₁.heap s'.heap/\s'.os=s₁.os/\AllBare s'.gens) s₁:=by
  intro H hO hS hok hA hK;have base_of:∀{b:Addr}{o:Obj},s₁.heap.get? b=some o->H b=none->(nJ s₁.heap H).get? b=some o:=λe n=>zsv e n;have noA:∀{b:Addr}{o:Obj}{es:Array DictEntry}{ep:Nat},s₁.heap.get? b=some o->o.data=.dict es ep->H b=none:=λ{b o es ep} e d=>by
   cases q:H b with
   |none=>rfl
   |some u=>
    have e':b=a:=hA b (by rw[q];simp);subst e';rw[ha]at e;cases e;have d':Data.seq vs.toArray _=Data.dict es ep:=d;cases d'
  have nsK:∀{b:Addr}{m:Str->Option Value},s₁.heap.Ns b m->(nJ s₁.heap H).Ns b m:=λ{b m} ⟨o,es,ep,e,d,r⟩=>⟨o,es,ep,base_of e (noA e d),d,r⟩;have hKb:K.In (nJ s₁.heap H):=λb o e=>base_of (KX b o e) (by
   cases q:H b with
   |none=>rfl
   |some u=>
    have e':b=a:=hA b (by rw[q];simp);subst e';rw[hK (by rw[q];simp)]at e;cases e)
  have hM:Mod K mg (nJ s₁.heap H):=⟨hKb,nsK hns,⟨mb,nsK hb,hbb⟩,let⟨mc,h1,h2⟩:=hlim;⟨mc,nsK h1,h2⟩⟩;have e0:qY P w K mg (nJ s₁.heap H) callerA [] s₁ H:=⟨rfl,hM,λb o e=>zuu e,Nat.le_of_eq (zp4 _ _),trivial,λb hb=>absurd (show b∈([]:List Addr)from hb) (by simp),hok,.of_eq hg⟩;refine YCz ((F _ hKb (nsK hns)).run callerA [] s₁ H ⟨[.ref a],[]⟩ [.ref a] [.ref a] _ _ hr e0 (hbind s₁ (.ref a)) (.cons rfl .nil) (hsp H hO hS)) λr s' h=>?_;cases r with
  |error e=>exact(hCX H e s' h).elim
  |ok fl=>
   cases fl with
   |next=>exact False.elim h
   |brk=>exact False.elim h
   |cont=>exact False.elim h
   |ret u=>
    obtain⟨v,H',os,bare,un,hok',r',q⟩:=h;have q':v=.bl true:=q;subst q';obtain rfl:u=Value.bool true:=r';refine⟨rfl,OldK.of_keep λb o e=>?_,os,bare⟩;cases q:H b with
    |none=>exact un.keep b o e q (by intro z;exact absurd (show b∈([]:List Addr)from z) (by simp)) (by simp)
    |some u=>
     rcases hO b with z|⟨ob,xs,z⟩
     .rw[q]at z;cases z
     .have z2:=un.frzs b ob _ z;obtain⟨e1,_⟩:=hok b _ z;obtain⟨e2,_⟩:=hok' b _ z2;rw[e]at e1;cases e1;exact e2
 cases hk:K.lookup a with
 |some o=>
  -- the script is one of the module's own objects
  have e:=KX a o hk;rw[ha]at e;cases e;refine core (λ_=>none) (λ_=>.inl rfl) (.inr ⟨_,vs.toArray,_,hk,rfl,rfl,rfl,by rw[jx,lenV];exact hl,by simpa using rv⟩) (λb u z=>by have z':(none:Option HO)=some u:=z;cases z') (λb z=>absurd rfl z) λz=>absurd rfl z
 |none=>
  refine core (λb=>if b=a then some (.pG {cls:=.type "list",data:=.seq vs.toArray} (.lst (ns.map V.int)))else none) (λb=>?_) (.inl (.inr ⟨{cls:=.type "list",data:=.seq vs.toArray},if_pos rfl⟩)) (λb u z=>?_) (λb z=>?_) λ_=>hk
  .by_cases hb:b=a
   .exact .inr ⟨_,_,if_pos hb⟩
   .exact .inl (if_neg hb)
  .by_cases hb:b=a
   .have z':=(if_pos hb).symm.trans z;cases z';subst hb;exact⟨ha,by rw[cY];exact hl,vs,_,rv,ha⟩
   .have z':=(if_neg hb).symm.trans z;cases z'
  .by_cases hb:b=a
   .exact hb
   .exact absurd (if_neg hb) z
def zuS{l:PySem.W.OpenLaw}{n k:Nat}{q:Program}{loose:List Str}{XP:(Str->Option Value)->Heap->Prop}{YP:World->Heap->Prop}{d:DefRec}{K:Params->qd}{CX:World->qC}{sp:World->Sp}{x:Str}
  (hn:l.most=some n) (hn2:n<=sizeLine) (hdf:d.params.defaults=[]) (hr:bA k callerA)
  (hY:∀(w:World)(h:Heap),YP w h->(K w.params).In h)
  (F:∀(w:World)(mg:Str->Option Value)(fa:Addr)(h:Heap),(K w.params).In h->h.Ns mainGlobals mg->mg d.name=some (.ref fa) ->
   ∃fd:FuncData,(∀(s:Shared)(u:Value),BindsTo s fd ⟨[u],[]⟩ [(x,u)]) /\
    ∀base:Heap,(K w.params).In base->base.Ns mainGlobals mg->aG l.prog w (K w.params) mg base (CX w) k fa fd [x] (sp w))
  (hsp:∀(w:World)(H:Hp)(a:Addr)(ns:List Int),ns.length<=n->Only H->cg (K w.params) H a (ns.map V.int)->sp w [.ref a] H (λv _=>v=.bl true) λ_ _ _=>False)
  (hCX:∀(w:World)(H:Hp)(s:Shared)(e:Value)(s':Shared),CX w [] H s (λ_ _ _=>False) e s'->False) :
  PySem.W.WalkO q loose XP YP l.row.toRowW d [] (λf vs=>PySem.call f vs):=by
 refine Att.pQ hn hdf λw s₀ s₁ mg mb fa o pm cd doc a vs ns G Y ho hd hcd hmg hobj hints hlen hg=>?_;have KX:=hY w _ Y;obtain⟨fd,hb,hF⟩:=F w mg fa _ KX G.T.g hmg;exact zsU KX G.T.g G.T.b G.T.builtins G.T.nolimit hg hobj hints (gJ hlen hn2) hr hF hb (λH hO hS=>hsp w H a ns hlen hO hS) λH e s'=>hCX w H s₁ e s'
abbrev dh:qC:=λ_ _ _ _ _ _=>False
abbrev E0:XK:=λ_ _ _=>False
def zc:jZ dh X E0:=λ_ _ _ _ _ _ _ h=>h.elim
structure bD(K:qd)(x qual:Str)(st:Stmt)(f:Addr)(fd:FuncData):Prop where
 ex:∃(oc:Value)(od:Option Addr)(kV doc pm:Value)(an:Option Addr)(cdv ct:Value)(osl:Array (Option Value)),
  fd=PySem.W.fnOf x qual (tH st) (nD st) (gB st) .none kV doc pm an cdv ct/\K.lookup f=some ⟨oc,od,.func fd,osl⟩/\PySem.W.codeIn K cdv qual=true
 kp:PySem.W.keepIn K (.ref f)=true
section
variable{P:Program}{w:World}{K:qd}{mg:Str->Option Value}{base:Heap}
def bD.ok{x qual:Str}{st:Stmt}{f:Addr}{fd:FuncData}{N ps:List Str}{k:Nat}{sp:Sp}(F:bD K x qual st f fd)(S:dj N ps (gB st))(len:∀vs H Q E,sp vs H Q E->vs.length=ps.length)
  (hbody:∀(cdv:Value)(A:Around)(outer:List Env)(s:Shared)(H:Hp)(vs:List V)(Q:VK)(E:XK),bA k (A.deeper (envOfC qual (gB st) s.heap.objs.size f cdv))->sp vs H Q E ->
   ∃t,mq (dI dh P w K mg base N qual (gB st) f cdv A outer s H E).nox (nD st) t/\t {nx:=λ_ H'=>Q .non H',rt:=Q} (uC N vs) H):aG P w K mg base dh (k+1) f fd ps sp:=by
 obtain⟨oc,od,kV,doc,pm,an,cdv,ct,osl,rfl,lk,hcd⟩:=F.ex;refine zrZ lk hcd S len λA outer s H vs Q E hr hsp=>?_;obtain⟨t,h,q⟩:=hbody cdv A outer s H vs Q E hr hsp;exact⟨t,h.nox,q⟩
def bD.binds{x qual:Str}{st:Stmt}{f:Addr}{fd:FuncData}{ps:List Str}(F:bD K x qual st f fd)
  (h:∀(kV doc pm:Value)(an:Option Addr)(cdv ct:Value)(us:List Value),us.length=ps.length->bindArgs (PySem.W.fnOf x qual (tH st) (nD st) (gB st) .none kV doc pm an cdv ct) ⟨us,[]⟩=pure (ps.zip us)):Binds K fd ps []:=by
 obtain⟨oc,od,kV,doc,pm,an,cdv,ct,osl,rfl,lk,hcd⟩:=F.ex;exact .all (h kV doc pm an cdv ct)
end
section
variable{X:Cx}
def pv(i:Nat)(hN:X.N[i]?=some x:=by rfl)(hv:Et X.env.scope x:=by first|exact Or.inl rfl|exact Or.inr (Or.inl rfl)|exact Or.inr (Or.inr rfl))(hd:ZD x:=by decide)
  (hcd:(x==("__classdict__":Str))=false:=by decide):PE X (.Name x pos) (uK i):=kY hN hv hd hcd
end
def yc{c A B:Prop}[Decidable c](h1:c->A)(h2:¬ c->B):if c then A else B:=by
 by_cases h:c
 .rw[if_pos h];exact h1 h
 .rw[if_neg h];exact h2 h
def Same(H H':Hp):Prop:=∀b o,H b=some o->H' b=some o
def Same.refl(H:Hp):Same H H:=λ_ _ h=>h
def Same.trans{H H1 H2:Hp}(a:Same H H1)(b:Same H1 H2):Same H H2:=λc o h=>b c o (a c o h)
def Same.free{H H':Hp}(e:Same H H'){l:Addr}(h:H' l=Option.none):H l=Option.none:=by
 cases q:H l with
 |none=>rfl
 |some o=>
  rw[e l o q]at h;cases h
def Same.seq{K:qd}{H H':Hp}{a:Addr}{xs:List V}(e:Same H H')(h:cg K H a xs):cg K H' a xs:=by
 rcases h with(h|⟨o,h⟩)|h
 .exact .inl (.inl (e _ _ h))
 .exact .inl (.inr ⟨o,e _ _ h⟩)
 .exact .inr h
section
variable{κ:Type}[DecidableEq κ]
def dR(kvs:List (κ×V))(k:κ):Option V:=(kvs.find? λkv=>decide (kv.1=k)).map (·.2)
def putK(kvs:List (κ×V))(k:κ)(v:V):List (κ×V):=
 if (kvs.any λkv=>decide (kv.1=k))=true then kvs.map (λkv=>if kv.1=k then(kv.1,v)else kv)else kvs++[(k,v)]
def Kd{p:κ×V}{r:List (κ×V)}{k:κ}(e:p.1=k):dR (p::r) k=some p.2:=by simp[dR,e]
def Jw{p:κ×V}{r:List (κ×V)}{k:κ}(e:¬ p.1=k):dR (p::r) k=dR r k:=by simp[dR,e]
theorem zh6(k:κ):∀kvs:List (κ×V),(kvs.any λkv=>decide (kv.1=k))=(dR kvs k).isSome
 |[]=>rfl
 |p::r=>by
  rw[KQ];by_cases e:p.1=k
  .simp only[Kd e,iQ e,Bool.true_or,Option.isSome_some]
  .rw[Jw e,jq e];exact zh6 k r
def zgi(kvs:List (κ×V))(k:κ)(v:V):(putK kvs k v).length<=kvs.length+1:=by
 unfold putK;split
 .rw[cY];omega
 .rw[iB,YAA,List.length_nil];omega
def zr9{kvs:List (κ×V)}{k:κ}(v:V)(h:dR kvs k=none):putK kvs k v=kvs++[(k,v)]:=by
 unfold putK;rw[zh6,h];exact if_neg (by decide)
def gH.isSome_eq(r:gH o u):o.isSome=u.isSome:=by
 cases o with
 |none=>cases u with
  |none=>rfl
  |some _=>exact(r).elim
 |some _=>cases u with
  |none=>exact(show False from r).elim
  |some _=>rfl
theorem gH.getD(r:gH o u)(rd:RelV d d'):RelV (o.getD d) (u.getD d'):=by
 cases o with
 |none=>cases u with
  |none=>exact rd
  |some _=>exact(show False from r).elim
 |some _=>cases u with
  |none=>exact(show False from r).elim
  |some _=>exact r
def KV.val{kvs:List (κ×V)}{vs:List (κ×Value)}(r:KV kvs vs)(k:κ):gH (dR kvs k) (valueAt vs k):=by
 induction r with
 |nil=>exact True.intro
 |@cons p q ps qs h t ih=>
  obtain⟨h1,h2⟩:=h;by_cases e:p.1=k
  .have e':=h1.symm.trans e;have b:valueAt (q::qs) k=some q.2:=by simp[valueAt,e']
   rw[Kd e,b];exact h2
  .have e':¬ q.1=k:=λz=>e (h1.trans z);have b:valueAt (q::qs) k=valueAt qs k:=by simp[valueAt,List.find?_cons,e']
   rw[Jw e,b];exact ih
theorem KV.any(r:KV kvs vs)(k:κ):(kvs.any λkv=>decide (kv.1=k))=vs.any λkv=>decide (kv.1=k):=by
 induction r with
 |nil=>rfl
 |cons h t ih=>rw[KQ,KQ,ih,h.1]
def KV.repl(r:KV kvs vs)(k:κ)(ry:RelV y u) :
  KV (kvs.map λkv=>if kv.1=k then(kv.1,y)else kv) (vs.map λkv=>if kv.1=k then(kv.1,u)else kv):=by
 induction r with
 |nil=>exact .nil
 |@cons p q ps qs h t ih=>
  rw[fj,fj];refine .cons ?_ ih;obtain⟨h1,h2⟩:=h;by_cases e:p.1=k
  .rw[if_pos e,if_pos (h1.symm.trans e)];exact⟨h1,ry⟩
  .rw[if_neg e,if_neg (λz=>e (h1.trans z))];exact⟨h1,h2⟩
def KV.put(r:KV kvs vs)(k:κ)(ry:RelV y u):KV (putK kvs k y) (stored vs k u):=by
 unfold putK stored;rw[r.any k];by_cases e:(vs.any λkv=>decide (kv.1=k))=true
 .rw[if_pos e,if_pos e];exact r.repl k ry
 .rw[if_neg e,if_neg e];exact Paired.snoc r ⟨rfl,ry⟩
theorem KV.length(r:KV kvs vs):kvs.length=vs.length:=Paired.length r
end
def xn(r:RelV (kV k) u):(lX P w).is k u=true:=by
 cases k with
 |inl i=>obtain⟨t,e⟩:=(r);subst e;exact zmS P w i t
 |inr x=>obtain⟨t,e⟩:=(r);subst e;exact zmE P w x t
theorem zmm :∀{ks:List Key}{us:List Value},Vals (ks.map kV) us->ItemsAre (lX P w) ks us
 |[],_,r=>by cases r;exact .nil
 |k::ks,_,r=>by
  cases r with
  |cons h t=>exact .cons (xn h) (zmm t)
abbrev KT(H:Hp):List (List Key×V)->List (List Key×Addr×Value)->Prop:=Paired λp q=>p.1=q.1/\H q.2.1=some (.tup (p.1.map kV))/\RelV p.2 q.2.2
def KT.val{H:Hp}{kvs:List (List Key×V)}{xs:List (List Key×Addr×Value)}(r:KT H kvs xs)(k:List Key):gH (dR kvs k) ((atKey xs k).map (·.2)):=by
 induction r with
 |nil=>exact True.intro
 |@cons p q ps qs h t ih=>
  obtain⟨h1,_,h2⟩:=h;by_cases e:p.1=k
  .have e':=h1.symm.trans e;have b:atKey (q::qs) k=some q.2:=by simp[atKey,e']
   rw[Kd e,b];exact h2
  .have e':¬ q.1=k:=λz=>e (h1.trans z);have b:atKey (q::qs) k=atKey qs k:=by simp[atKey,List.find?_cons,e']
   rw[Jw e,b];exact ih
def KT.repl(r:KT H kvs xs)(k:List Key)(ry:RelV y u) :
  KT H (kvs.map λkv=>if kv.1=k then(kv.1,y)else kv) (xs.map (putAt k u)):=by
 induction r with
 |nil=>exact .nil
 |@cons p q ps qs h t ih=>
  rw[fj];refine .cons ?_ ih;obtain⟨h1,h2,h3⟩:=h;unfold putAt;by_cases e:p.1=k
  .rw[if_pos e,if_pos (h1.symm.trans e)];exact⟨h1,h2,ry⟩
  .rw[if_neg e,if_neg (λz=>e (h1.trans z))];exact⟨h1,h2,h3⟩
def KT.put(r:KT H kvs xs)(k:List Key)(hb:H b=some (.tup (k.map kV)))(ry:RelV y u) :
  KT H (putK kvs k y) (storedH xs k b u):=by
 have e:(kvs.any λkv=>decide (kv.1=k))=(atKey xs k).isSome:=by
  rw[zh6,(r.val k).isSome_eq,YCq]
 unfold putK storedH;rw[e];by_cases q:(atKey xs k).isSome=true
 .rw[if_pos q,if_pos q];exact r.repl k ry
 .rw[if_neg q,if_neg q];exact Paired.snoc r ⟨rfl,hb,ry⟩
def KT.keeps(r:KT H kvs xs)(ht:∀b ys,H b=some (.tup ys)->H' b=some (.tup ys)):KT H' kvs xs:=
 Paired.mapP r λ_ _ z=>⟨z.1,ht _ _ z.2.1,z.2.2⟩
section
variable{P:Program}{w:World}{H:Hp}{h:Heap}{a:Addr}
def zxu(ok:jj P w H h)(e:Rd H a u):cJ P w H h a u:=e.ok ok
def Al(ok:jj P w H h)(e:Rd H a (.dK kvs)):kvs.length<=sizeLine/\(a==sysModules)=false/\∃vs,KV kvs vs/\h.DictOf (lX P w) a vs:=
 show cJ P w H h a _ from zxu ok e
def zvB(ok:jj P w H h)(e:H a=some (.dK kvs)):kvs.length<=sizeLine/\(a==sysModules)=false/\∃vs,KV kvs vs/\h.DictOf (lX P w) a vs:=Al ok (.inl e)
def Mi(ok:jj P w H h)(e:H a=some (.tup (ks.map kV))):(tupleKind (lX P w)).is h ks a:=by
 obtain⟨_,its,r,o,h1,h2,n,h3⟩:=(ok a _ e);exact⟨o,its.toArray,n,h1,h2,h3,by simpa using zmm r⟩
def J9(ok:jj P w H h)(e:Rd H a (.dT kvs)):kvs.length<=sizeLine/\(a==sysModules)=false /\
  ∃xs,KT H kvs xs/\h.DictOfH (tupleKind (lX P w)) a xs:=by
 obtain⟨z,y,xs,r,o,es,ep,h1,h2,h3,h4,h5⟩:=(zxu ok e);refine⟨z,y,xs,r,o,es,ep,h1,h2,h3,h4,λx hx=>?_,h5⟩;have all:∀{l:List _}{m:List _},KT H l m->∀x∈m,(tupleKind (lX P w)).is h x.1 x.2.1:=by
  intro l m q
  induction q with
  |nil=>intro x hx;exact nomatch hx
  |@cons p q ps qs hq t ih=>
   intro x hx;rcases eX.mp hx with e|hx
   .subst e;exact Mi ok (by rw[<-hq.1];exact hq.2.1)
   .exact ih x hx
 exact all r x hx
def zym(ok:jj P w H h)(e:H a=some (.dT kvs)):kvs.length<=sizeLine/\(a==sysModules)=false /\
  ∃xs,KT H kvs xs/\h.DictOfH (tupleKind (lX P w)) a xs:=J9 ok (.inl e)
end
def kO(H:Hp)(a:Addr)(y:V)(r:Option V):Prop:=
 (∃kvs k,Rd H a (.dK kvs)/\y=kV k/\r=dR kvs k)\/∃kvs k b,Rd H a (.dT kvs)/\y=.ref b/\H b=some (.tup (k.map kV))/\r=dR kvs k
def sZ(H:Hp)(a:Addr)(y v:V)(H':Hp):Prop:=
 (∃kvs k,H a=some (.dK kvs)/\y=kV k/\kvs.length<sizeLine/\H'=upd H a (.dK (putK kvs k v))) \/
 ∃kvs k b,H a=some (.dT kvs)/\y=.ref b/\H b=some (.tup (k.map kV))/\kvs.length<sizeLine/\H'=upd H a (.dT (putK kvs k v))
theorem kO.k{H:Hp}{a:Addr}{kvs:List (Key×V)}{k:Key}(e:H a=some (.dK kvs)):kO H a (kV k) (dR kvs k):=.inl ⟨kvs,k,.inl e,rfl,rfl⟩
theorem sZ.k{H:Hp}{a:Addr}{kvs:List (Key×V)}{k:Key}{v:V}(e:H a=some (.dK kvs))(hl:kvs.length<sizeLine):sZ H a (kV k) v (upd H a (.dK (putK kvs k v))):=.inl ⟨kvs,k,e,rfl,hl,rfl⟩
section
variable{X:Cx}{aa:List (Addr×Obj)}{U:St}{H:Hp}{s:Shared}{a:Addr}{y v:V}{u r:Value}{o:Option V}{A:Around}{E:Value->Shared->Prop}
def Inv.big(I:Inv X aa U H s):sysModules<s.heap.objs.size:=by
 have h:=(I.mod.glob.keeps I.bk).lt;exact Nat.lt_trans (by decide) h
def zpy(hu:A.units+1<cLine)(I:Inv X aa U H s)(g:kO H a y (some v))(ry:RelV y u)(h:∀w' s',Inv X aa U H s'->RelV v w'->Q w' s') :
  wpAny (model X.prog X.w) A (getItem (.ref a) u) Q E s:=by
 rcases g with⟨kvs,k,e,ey,l⟩|⟨kvs,k,b,e,ey,eb,l⟩
 .subst ey;obtain⟨z,hd,vs,rel,dd⟩:=Al I.hok e;obtain⟨w',hw,rw'⟩:=gH.some_of (by rw[l];exact rel.val k);exact wpAny_getItem_of (xn ry) dd.mapOf hw (h w' _ (I.tok _) rw')
 .subst ey;cases (ry);obtain⟨z,hd,xs,rel,dd⟩:=J9 I.hok e;obtain⟨w',hw,rw'⟩:=gH.some_of (v:=v) (by rw[l];exact rel.val k);obtain⟨p,hp,hp2⟩:=Option.map_eq_some_iff.mp hw;refine wpAny_getItem_heap (YBU hu) (Mi I.hok eb) dd hp ?_;rw[hp2];exact h w' _ (I.tok _) rw'
def d_in(hu:A.units+1<cLine)(I:Inv X aa U H s)(g:kO H a y o)(ry:RelV y u)(h:∀s',Inv X aa U H s'->Q (.bool o.isSome) s') :
  wpAny (model X.prog X.w) A (compareOp .In u (.ref a)) Q E s:=by
 rcases g with⟨kvs,k,e,ey,l⟩|⟨kvs,k,b,e,ey,eb,l⟩
 .subst ey;obtain⟨z,hd,vs,rel,dd⟩:=Al I.hok e;refine wpAny_in_of (xn ry) hd dd.mapOf ?_;rw[<-(rel.val k).isSome_eq,<-l];exact h _ (I.tok _)
 .subst ey;cases (ry);obtain⟨z,hd,xs,rel,dd⟩:=J9 I.hok e;refine wpAny_in_heap (YBU hu) (Mi I.hok eb) hd dd ?_;have q:=(rel.val k).isSome_eq;rw[YCq]at q;rw[<-q,<-l];exact h _ (I.tok _)
def ztY(hu:A.units+1<cLine)(I:Inv X aa U H s)(g:kO H a y o)(ry:RelV y u)(h:∀s',Inv X aa U H s'->Q (.bool (!o.isSome)) s') :
  wpAny (model X.prog X.w) A (compareOp .NotIn u (.ref a)) Q E s:=by
 rcases g with⟨kvs,k,e,ey,l⟩|⟨kvs,k,b,e,ey,eb,l⟩
 .subst ey;obtain⟨z,hd,vs,rel,dd⟩:=Al I.hok e;refine wpAny_notIn_of (xn ry) hd dd.mapOf ?_;rw[<-(rel.val k).isSome_eq,<-l];exact h _ (I.tok _)
 .subst ey;cases (ry);obtain⟨z,hd,xs,rel,dd⟩:=J9 I.hok e;refine wpAny_notIn_heap (YBU hu) (Mi I.hok eb) hd dd ?_;have q:=(rel.val k).isSome_eq;rw[YCq]at q;rw[<-q,<-l];exact h _ (I.tok _)
def zmR(I:Inv X aa U H s)(mu:JN (H a))(hs:Heap.SameBut a s.heap h')(he:∃q,h'.get? a=some q)(new:cJ X.prog X.w (upd H a ob) h' a ob) :
  Inv X aa U (upd H a ob) {s with heap:=h',toks:=t'}:=
 I.write mu (.inl rfl) (λb q hb z=>(hs.2 b hb).trans z) he new
def zpv(z:kvs.length<=sizeLine)(hd:(a==sysModules)=false)(rel:KV kvs vs)(dd:h'.DictOf (lX P w) a vs) :
  cJ P w H' h' a (.dK kvs):=⟨z,hd,vs,rel,dd⟩
def zq8(hu:A.units+1<cLine)(I:Inv X aa U H s)(g:sZ H a y v H')(ry:RelV y u)(rv:RelV v r)(h:∀s',Inv X aa U H' s'->Q () s') :
  wpAny (model X.prog X.w) A (setItem (.ref a) u r) Q E s:=by
 rcases g with⟨kvs,k,e,ey,l,eH⟩|⟨kvs,k,b,e,ey,eb,l,eH⟩
 .subst ey eH;obtain⟨z,hd,vs,rel,dd⟩:=zvB I.hok e;have hz:vs.length<=sizeLine:=rel.length▸z;have hl:(putK kvs k v).length<=sizeLine:=by have:=zgi kvs k v;omega
  refine wpAny_setItem_pairs (xn ry) dd λh' dd' hs=>h _ ?_;have he:∃q,h'.get? a=some q:=let⟨q,_,_,hq,_⟩:=dd';⟨q,hq⟩
  exact zmR I (by rw[e];exact True.intro) hs he (zpv hl hd (rel.put k rv) dd')
 .subst ey eH;cases (ry);obtain⟨z,hd,xs,rel,dd⟩:=zym I.hok e;have hz:xs.length<=sizeLine:=by exact(Paired.length rel)▸z
  have hl:(putK kvs k v).length<=sizeLine:=by have:=zgi kvs k v;omega
  refine wpAny_setItem_heap (YBU hu) (Mi I.hok eb) dd λh' dd' hs=>h _ ?_;obtain⟨q,es,ep,hq,h2,h3,h4,_,h5⟩:=dd';refine zmR I (by rw[e];exact True.intro) hs ⟨q,hq⟩ ⟨hl,hd,_,(rel.put k eb rv).keeps λc ys ec=>?_,q,es,ep,hq,h2,h3,h4,h5⟩;rw[ao (zxX ec e (λz=>nomatch z))];exact ec
end
def sV(i:Expr):Prop:=∀ov iv,subscripted i false ov iv=operate [ov,iv] (getItem ov iv)
def zro{prog:Program}{w:World}{A:Around}{E:Value->Shared->Prop}{s:Shared}{env:Env}{value slice:Expr}{pos:Pos}{T id:String}{Q:Value->Shared->Prop}
  (hl:typeLookup (.type T) "__getitem__"=pure (some (.builtin id))) (hs:sV slice)
  (h:wpAny (model prog w) A (eval value env) (λo s₁=>wpAny (model prog w) A (eval slice env) (λi s₂=>s₂.TypeIs o T/\wpAny (model prog w) A (getItem o i) Q E s₂) E s₁) E s) :
  wpAny (model prog w) A (eval (.Subscript value slice pos) env) Q E s:=by
 refine Subscript_ (YAQ h (λo s₁ h₁=>YAQ h₁ (λi s₂ h₂=>?_) λ_ _ x=>x) λ_ _ x=>x);obtain⟨hT,h₂⟩:=h₂;refine aP (aP (YCA hT hl ?_));have fin:wpAny (model prog w) A (subscripted slice false o i) (λr s₃=>wpAny (model prog w) A (letTemporaryGo value o r >>=λ_=>pure r) Q E s₃) E s₂:=by
  rw[hs o i];exact wpAny_operating (YAQ h₂ (λr s₃ h₃=>aP (wpAny_letTemporaryGo (dO h₃))) λ_ _ x=>x)
 first
  |exact dO (aP fin)
  |exact aP _
  |exact aP fin
def zmz(I:Inv X aa U H s)(g:kO H a y o):s.TypeIs (.ref a) "dict":=by
 rcases g with⟨kvs,k,e,_,_⟩|⟨kvs,k,b,e,_,_,_⟩
 .obtain⟨_,_,vs,_,dd⟩:=Al I.hok e;exact dd.typeIs
 .obtain⟨_,_,xs,_,dd⟩:=J9 I.hok e;exact dd.typeIs
def zx4(td ty:TE):TE:=λU H Q=>td U H λx H1=>ty U H1 λy H2=>∃a v,x=.ref a/\kO H2 a y (some v)/\Q v H2
def tDIn(ty td:TE):TE:=λU H Q=>ty U H λy H1=>td U H1 λx H2=>∃a o,x=.ref a/\kO H2 a y o/\Q (.bl o.isSome) H2
def zvr(ty td:TE):TE:=λU H Q=>ty U H λy H1=>td U H1 λx H2=>∃a o,x=.ref a/\kO H2 a y o/\Q (.bl (!o.isSome)) H2
def zyb(td ty tv:TE):TS:=λD U H=>tv U H λv H1=>td U H1 λx H2=>ty U H2 λy H3=>∃a H4,x=.ref a/\sZ H3 a y v H4/\D.nx U H4
section
variable{X:Cx}{o i e value:Expr}{pos pos' tpos:Pos}{td ty tv:TE}
def zqo(hu:X.A.units+1<cLine)(ho:PE X o td)(hi:PE X i ty)(hs:sV i):PE X (.Subscript o i pos) (zx4 td ty):=by
 intro aa s U H Q I h;refine zro PySem.F.slot_dict_getitem.lookup hs (bK (ho aa s U H _ I h) λu s1 ⟨x,H1,I1,rx,q1⟩=>bK (hi aa s1 U H1 _ I1 q1) λiv s2 ⟨y,H2,I2,ry,a,v,ex,g,q2⟩=>?_);subst ex;obtain rfl:u=Value.ref a:=rx;exact⟨zmz I2 g,zpy hu I2 g ry λw' s3 I3 rw'=>⟨v,H2,I3,rw',q2⟩⟩
def zwd(hu:X.A.units+1<cLine)(hi:PE X i ty)(ho:PE X o td):PC X .In i o (tDIn ty td):=by
 intro aa s U H Q I h;refine bK (hi aa s U H _ I h) λiv s1 ⟨y,H1,I1,ry,q1⟩=>bK (ho aa s1 U H1 _ I1 q1) λu s2 ⟨x,H2,I2,rx,a,ov,ex,g,q2⟩=>?_;subst ex;obtain rfl:u=Value.ref a:=rx;exact d_in hu I2 g ry λs3 I3=>⟨.bl ov.isSome,H2,I3,rfl,q2⟩
def zpK(hu:X.A.units+1<cLine)(hi:PE X i ty)(ho:PE X o td):PC X .NotIn i o (zvr ty td):=by
 intro aa s U H Q I h;refine bK (hi aa s U H _ I h) λiv s1 ⟨y,H1,I1,ry,q1⟩=>bK (ho aa s1 U H1 _ I1 q1) λu s2 ⟨x,H2,I2,rx,a,ov,ex,g,q2⟩=>?_;subst ex;obtain rfl:u=Value.ref a:=rx;exact ztY hu I2 g ry λs3 I3=>⟨.bl (!ov.isSome),H2,I3,rfl,q2⟩
def zq6(hu:X.A.units+1<cLine)(ho:PE X o td)(hi:PE X i ty)(hv:PE X value tv)(hs:swapsWith value (some (.Subscript o i pos')) pos.line X.env=pure false) :
  PS X (.Assign [.Subscript o i pos'] value pos) (zyb td ty tv):=by
 intro aa s U H D I h;refine wpAny_Assign_Subscript (bK (hv aa s U H _ I h) λr s1 ⟨v,H1,I1,rv,q1⟩=>bK (ho aa s1 U H1 _ I1 q1) λu s2 ⟨x,H2,I2,rx,q2⟩=>bK (hi aa s2 U H2 _ I2 q2) λiv s3 ⟨y,H3,I3,ry,a,H4,ex,g,q3⟩=>?_) hs;subst ex;obtain rfl:u=Value.ref a:=rx;exact zq8 hu I3 g ry rv λs4 I4=>⟨U,H4,I4,q3⟩
end
def znH(h:Heap)(hb:sysModules<h.objs.size):cJ P w H (h.push {cls:=.type "dict",data:=.dict #[]}) h.objs.size (.dK []):=
 ⟨wy _,YAE.mpr (YAD (iU hb)),[],.nil,Heap.DictOf.new h⟩
def zv8:TE:=λ_ H Q=>∀p,H p=none->Q (.ref p) (upd H p (.dK []))
section
variable{X:Cx}{pos:Pos}
def zsW:PE X (.Dict [] [] pos) zv8:=λaa s U H Q I h=>
 wpAny_Dict_empty ⟨.ref s.heap.objs.size,_,I.laid (a:=s.heap.objs.size) (o:=.dK []) (t':=s.toks) (λ_ _ q=>fG _ q) (d8 _) (znH s.heap I.big),rfl,h _ (I.hok.fresh (d8 _))⟩
end
def zn7:List (TE×TE)->St->Hp->(List (V×V)->Hp->Prop)->Prop
 |[],_,H,Q=>Q [] H
 | (tk,tv)::r,U,H,Q=>tk U H λx H1=>tv U H1 λy H2=>zn7 r U H2 λps H3=>Q ((x,y)::ps) H3
abbrev VV:List (V×V)->List (Value×Value)->Prop:=Paired λp q=>RelV p.1 q.1/\RelV p.2 q.2
def Ik(X:Cx)(pos:Pos)(keys:List (Option Expr))(values:List Expr)(trs:List (TE×TE)):Prop:=
 ∀(aa:List (Addr×Obj))(s:Shared)(U:St)(H:Hp)(Q:List (V×V)->Hp->Prop),Inv X aa U H s->zn7 trs U H Q ->
  wpAny (model X.prog X.w) X.A (evalPairs (pairTrees keys values X.env pos)) (λvs s'=>∃ps H',Inv X aa U H' s'/\VV ps vs/\Q ps H') X.xe s
def ztK:Ik X pos [] [] []:=λaa s U H Q I h=>pairTrees_nil_walk ⟨[],H,I,.nil,h⟩
def zsB(hk:PE X k tk)(hv:PE X v tv)(hr:Ik X pos ks vs trs) :
  Ik X pos (some k::ks) (v::vs) ((tk,tv)::trs):=λaa s U H Q I h=>
 pairTrees_cons_walk (bK (hk aa s U H _ I h) λu s1 ⟨x,H1,I1,rx,q1⟩=>bK (hv aa s1 U H1 _ I1 q1) λw2 s2 ⟨y,H2,I2,ry,q2⟩=>
  bK (hr aa s2 U H2 _ I2 q2) λws s3 ⟨ps,H3,I3,rel,q3⟩=>⟨(x,y)::ps,H3,I3,.cons ⟨rx,ry⟩ rel,q3⟩)
def yI(kvs more:List (Key×V)):List (Key×V):=more.foldl (λacc kv=>putK acc kv.1 kv.2) kvs
def KV.merge:∀{more:List (Key×V)}{rs:List (Key×Value)}{kvs:List (Key×V)}{vs:List (Key×Value)},KV more rs->KV kvs vs->KV (yI kvs more) (merged vs rs):=by
 intro more rs kvs vs r;unfold KV at r
 induction r generalizing kvs vs with
 |nil=>intro q;exact q
 |@cons p q ps qs h t ih=>
  intro r0;have e:KV (putK kvs p.1 p.2) (stored vs q.1 q.2):=by
   have:=r0.put p.1 h.2
   rw[<-h.1];exact this
  exact ih e
theorem zgP:∀(more kvs:List (Key×V)),(yI kvs more).length<=kvs.length+more.length
 |[],kvs=>by show kvs.length<=kvs.length+0;omega
 |p::r,kvs=>by
  have h1:=zgP r (putK kvs p.1 p.2);have h2:=zgi kvs p.1 p.2;show(yI (putK kvs p.1 p.2) r).length<=_;rw[YAA];omega
theorem zjQ :∀{kvs:List (Key×V)}{ws:List (Value×Value)},VV (kvs.map λkv=>(kV kv.1,kv.2)) ws->∃rs,Carries (lX P w) ws rs/\KV kvs rs
 |[],_,r=>by rw[ue]at r;cases r;exact⟨[],True.intro,.nil⟩
 |p::kvs,_,r=>by
  rw[fj]at r;cases r with
  |@cons a b as bs h t=>
   obtain⟨rs,c,q⟩:=zjQ (P:=P) (w:=w) t;obtain⟨b1,b2⟩:=b;exact⟨(p.1,b2)::rs,⟨xn h.1,rfl,c⟩,.cons ⟨rfl,h.2⟩ q⟩
def zyg(trs:List (TE×TE)):TE:=λU H Q=>∀p,H p=none->zn7 trs U (upd H p (.dK [])) λps H2=>H2 p=some (.dK [])/\∃kvs:List (Key×V),ps=kvs.map (λkv=>(kV kv.1,kv.2))/\kvs.length<=15/\Q (.ref p) (upd H2 p (.dK (yI [] kvs)))
def zuB(h:Ik X pos keys values trs)(hall:keys.all (·.isSome)=true)(hl:keys.length=values.length)(h0:keys≠[])
  (h15:keys.length<=15):PE X (.Dict keys values pos) (zyg trs):=by
 intro aa s U H Q I q;have hn:=I.hok.fresh (d8 s.heap.objs.size);have I1:=I.laid (a:=s.heap.objs.size) (o:=.dK []) (h':=s.heap.push {cls:=.type "dict",data:=.dict #[]}) (t':=s.toks) (λ_ _ q=>fG _ q) (d8 _) (znH s.heap I.big);refine wpAny_Dict_walk (knd:=lX X.prog X.w) hall hl h0 h15 (bK (h aa _ U _ _ I1 (q _ hn)) λws s2 ⟨ps,H2,I2,rel,e,kvs,ep,lk,q2⟩=>?_);subst ep;obtain⟨rs,c,rk⟩:=zjQ (P:=X.prog) (w:=X.w) rel;obtain⟨z,hd,vs0,r0,dd⟩:=zvB I2.hok e;cases r0;refine⟨rs,c,dd,λh' dd' hs=>⟨.ref s.heap.objs.size,_,?_,rfl,q2⟩⟩;have hz:(yI [] kvs).length<=sizeLine:=by
  have h1:=zgP kvs [];rw[List.length_nil]at h1;rw[YAS];omega
 have he:∃q,h'.get? s.heap.objs.size=some q:=let⟨q,_,_,hq,_⟩:=dd';⟨q,hq⟩
 exact zmR I2 (by rw[e];exact True.intro) hs he (zpv hz hd (rk.merge .nil) dd')
structure M1(X:Cx)(o:Expr)(m:Str)(apos:Pos)(e:Expr)(cpos:Pos):Prop where
 base:ZB o m X
 few:ZF cpos e X
 line:(apos.endLine==cpos.line)=true
 trees:backTo cpos (starEach [e] X.env)=[(false,eval e X.env)]
section
variable{X:Cx}{aa:List (Addr×Obj)}{U:St}{H:Hp}{s:Shared}{a:Addr}{kvs:List (Key×V)}{A:Around}{E:Value->Shared->Prop}
def zsj(I:Inv X aa U H s)(e:Rd H a (.dK kvs))(h:∀p s',H p=none->Inv X aa U (upd H p (.dK kvs)) s'->Q (.ref p) s'):wpAny (model X.prog X.w) A (call (.type "dict") [.ref a]) Q E s:=by
 obtain⟨z,hd,vs,rel,dd⟩:=Al I.hok e;refine kt_call_dict hd dd (by rw[<-rel.length];exact z) λh' dd' hs=>?_;refine h _ _ (I.hok.fresh (d8 _)) (I.laid (a:=s.heap.objs.size) (o:=.dK kvs) (t':=s.toks) (λb q hq=>?_) (d8 _) (zpv z (YAE.mpr (YAD (iU I.big))) rel dd'));exact(hs.2 b (iU (dG hq))).trans (fG _ hq)
end
section
variable{κ:Type}[DecidableEq κ]
def zuW{kvs:List (κ×V)}{k:κ}{v:V}(h:dR kvs k=some v):k∈kvs.map (·.1):=by
 have q:(kvs.any λkv=>decide (kv.1=k))=true:=by
  rw[zh6,h]
  all_goals rfl
 obtain⟨p,hp,e⟩:=List.any_eq_true.mp q;exact rD.mpr ⟨p,hp,YAJ e⟩
end
def zyr(U:St):Option Nat->Option V
 |none=>none
 |some j=>(U[j]?).join
def qz(sub:List (Option Nat))(U:St):St:=sub.map (zyr U)
def zmd(sub:List (Option Nat))(U:St):(qz sub U).length=sub.length:=by unfold qz;simp
def zmr{sub:List (Option Nat)}{U:St}{i:Nat}{v:V}(h:(qz sub U)[i]?=some (some v)):∃j,sub[i]?=some (some j)/\U[j]?=some (some v):=by
 unfold qz at h;rw[YAG]at h;cases e:sub[i]? with
 |none=>rw[e]at h;cases h
 |some o=>
  rw[e]at h;have h':=Option.some.inj h;cases o with
  |none=>cases h'
  |some j=>
   refine⟨j,rfl,?_⟩;have h2:(U[j]?).join=some v:=h';cases e2:U[j]? with
   |none=>rw[e2]at h2;cases h2
   |some w=>rw[e2]at h2;exact congrArg some h2
def Ao(N:List Str)(osc sc:Scope)(Nc:List Str)(sub:List (Option Nat)):Bool:=
 decide (sc.kind=.function)&&sc.names.all (λy=>decide (y.2≠.cell))&&sc.names.all (λy=>!decide (y.2=.local) || decide (sc.names.lookup y.1=some .local))&&decide (sub.length=Nc.length) &&
 (Nc.zip sub).all (λp=>match p.2 with|none=>true|some j=>decide (N[j]?=some p.1)&&decide (sc.names.lookup p.1=some .free)) &&
 sc.names.all (λy=>!decide (y.2=.free) || (decide (osc.names.lookup y.1=some .cell) || decide (osc.names.lookup y.1=some .free)))
structure bG(N:List Str)(osc sc:Scope)(Nc:List Str)(sub:List (Option Nat)):Prop where
 kind:sc.kind=.function
 nocell:∀y∈sc.names,y.2≠.cell
 names:∀y∈sc.names,y.2=.local->sc.names.lookup y.1=some .local
 len:sub.length=Nc.length
 vis:∀(i j:Nat)(x:Str),Nc[i]?=some x->sub[i]?=some (some j)->N[j]?=some x/\sc.names.lookup x=some .free
 frees:∀y∈sc.names,y.2=.free->osc.names.lookup y.1=some .cell\/osc.names.lookup y.1=some .free
def bG.of{N:List Str}{osc sc:Scope}{Nc:List Str}{sub:List (Option Nat)}(h:Ao N osc sc Nc sub=true):bG N osc sc Nc sub:=by
 unfold Ao at h;simp only[jT,YAH,YAK,YCB,YCr,YBs]at h;obtain⟨⟨⟨⟨⟨h1,h2⟩,h3⟩,h4⟩,h5⟩,h6⟩:=h;refine⟨h1,h2,λy hy e=>(h3 y hy).elim (λz=>absurd e z) id,h4,λi j x e1 e2=>?_,λy hy e=>(h6 y hy).elim (λz=>absurd e z) id⟩;have hz:(Nc.zip sub)[i]?=some (x,some j):=by
  rw[List.getElem?_zip_eq_some];exact⟨e1,e2⟩
 have q:=h5 _ (YBH hz);simp only[jT,YAK]at q;exact q
def pA(cells:List (Str×Addr)):List (Str×NameKind)->List (Str×Addr)->List (Str×Addr)
 |[],acc=>acc
 | (n,k)::r,acc=>pA cells r (if k=.free then(n,(cells.lookup n).getD 0)::acc else acc)
def zkz:∀(names:List (Str×NameKind))(acc:List (Str×Addr)),(∀y∈names,y.2=.free->∃c,env.cells.lookup y.1=some c) ->
  (forIn names acc λx r=>match x with|(name,kind)=>if (kind==NameKind.free)=true then do let a <-cellOf env name;pure (ForInStep.yield ((name,a)::r))else pure (ForInStep.yield r):Sem (List (Str×Addr)))=pure (pA env.cells names acc):=by
 intro names
 induction names with
 |nil=>intro acc _;rfl
 |cons y r ih=>
  intro acc h;obtain⟨n,k⟩:=y;have ih':=ih (if k=.free then(n,(env.cells.lookup n).getD 0)::acc else acc) λy hy=>h y (fL _ hy);rw[YCh];by_cases hk:k=.free
  .subst hk;obtain⟨c,hc⟩:=h _ lF rfl;have e1:cellOf env n=pure c:=by unfold cellOf;rw[hc]
   simp only[e1];unfold pA;rw[hc]at ih' ⊢
   simpa using ih'
  .have hb:(k==NameKind.free)=false:=by simpa using hk
   simp only[hb];unfold pA;rw[if_neg hk]at ih' ⊢;exact ih'
def zsb:∀(names:List (Str×NameKind))(acc:List (Str×Addr)),(∀y∈names,y.2=.free->∃c,cells.lookup y.1=some c)->(∀p∈acc,cells.lookup p.1=some p.2) ->
  ∀p∈pA cells names acc,cells.lookup p.1=some p.2:=by
 intro names
 induction names with
 |nil=>intro acc _ h;exact h
 |cons y r ih=>
  intro acc h ha;obtain⟨n,k⟩:=y;refine ih _ (λy hy=>h y (fL _ hy)) ?_;by_cases hk:k=.free
  .rw[if_pos hk];intro p hp;rcases eX.mp hp with e|e
   .subst e;obtain⟨c,hc⟩:=h _ lF hk;have hc':=hc;rw[hc'];rfl
   .exact ha p e
  .rw[if_neg hk];exact ha
def zp0 :∀(names:List (Str×NameKind))(acc:List (Str×Addr)),p∈acc->p∈pA cells names acc:=by
 intro names
 induction names with
 |nil=>intro acc h;exact h
 |cons y r ih=>
  intro acc h;obtain⟨n,k⟩:=y;refine ih _ ?_;by_cases hk:k=.free
  .rw[if_pos hk];exact fL _ h
  .rw[if_neg hk];exact h
def zrW :∀(names:List (Str×NameKind))(acc:List (Str×Addr)),(x,NameKind.free)∈names->∃c,(x,c)∈pA cells names acc:=by
 intro names
 induction names with
 |nil=>intro acc h;cases h
 |cons y r ih=>
  intro acc h;obtain⟨n,k⟩:=y;rcases eX.mp h with e|e
  .cases e;refine⟨(cells.lookup x).getD 0,?_⟩;unfold pA;exact zp0 _ _ (lF)
  .exact ih _ e
theorem zgK{α:Type}{x:Str}{c:α}:∀{l:List (Str×α)},(x,c)∈l->∃d,l.lookup x=some d
 |[],h=>by cases h
 | (y,d)::r,h=>by
  by_cases e:x=y
  .subst e;exact⟨d,by simp[List.lookup]⟩
  .have hb:=YAE.mpr e;rcases eX.mp h with q|q
   .cases q;exact absurd rfl e
   .obtain⟨d',q'⟩:=zgK q;exact⟨d',by simp only[List.lookup,hb];exact q'⟩
def zfo(h:∀y∈scope.names,y.2=.free->∃c,env.cells.lookup y.1=some c) :
  ∃cl,closureFor scope env=pure cl/\(∀x c,cl.lookup x=some c->env.cells.lookup x=some c)/\∀x,scope.names.lookup x=some .free->∃c,cl.lookup x=some c:=by
 refine⟨pA env.cells scope.names [],?_,λx c e=>?_,λx e=>?_⟩
 .unfold closureFor;show(forIn scope.names _ (λx r=>match x with|(name,kind)=>if (kind==NameKind.free)=true then do let a <-cellOf env name;pure (ForInStep.yield ((name,a)::r))else pure (ForInStep.yield r)) >>=λcs=>pure cs:Sem _)=_;rw[zkz scope.names [] h,pure_bind]
 .exact zsb scope.names [] h (λp hp=>nomatch hp) _ (YAZ e)
 .obtain⟨c,hc⟩:=zrW scope.names [] (YAZ e);exact zgK hc
theorem zdQ{env:Env}:∀{names:List (Str×NameKind)}{x:Str},names.lookup x=some .free ->
  (names.map λ(n,k)=>if (k==NameKind.free&&env.scope.kind==.function&&env.kindOf n==some .cell)then(n,NameKind.cell)else(n,k)).lookup x=some .cell \/
  (names.map λ(n,k)=>if (k==NameKind.free&&env.scope.kind==.function&&env.kindOf n==some .cell)then(n,NameKind.cell)else(n,k)).lookup x=some .free
 |[],_,h=>by simp at h
 | (n,k)::r,x,h=>by
  have ih:=@zdQ env r x;show List.lookup x ((if _=true then _ else _)::_)=_\/List.lookup x ((if (k==NameKind.free&&env.scope.kind==.function&&env.kindOf n==some .cell)=true then(n,NameKind.cell)else(n,k))::_)=_;cases hx:x==n with
  |true=>
   simp only[pM,hx]at h;cases h;by_cases hc:(NameKind.free==NameKind.free&&env.scope.kind==.function&&env.kindOf n==some .cell)=true
   .rw[if_pos hc];left;simp only[pM,hx]
   .rw[if_neg hc];right;simp only[pM,hx]
  |false=>
   simp only[pM,hx]at h;by_cases hc:(k==NameKind.free&&env.scope.kind==.function&&env.kindOf n==some .cell)=true
   .rw[if_pos hc];simp only[pM,hx];exact ih h
   .rw[if_neg hc];simp only[pM,hx];exact ih h
theorem zfH{env:Env}:∀{names:List (Str×NameKind)}{x:Str},(∀y∈names,y.2≠.cell) ->
  ((names.map λ(n,k)=>if (k==NameKind.free&&env.scope.kind==.function&&env.kindOf n==some .cell)then(n,NameKind.cell)else(n,k)).lookup x=some .cell \/
  (names.map λ(n,k)=>if (k==NameKind.free&&env.scope.kind==.function&&env.kindOf n==some .cell)then(n,NameKind.cell)else(n,k)).lookup x=some .free)->names.lookup x=some .free
 |[],_,_,h=>by simp at h
 | (n,k)::r,x,nc,h=>by
  have ih:=@zfH env r x λy hy=>nc y (fL _ hy);have nk:=nc _ lF;have h':List.lookup x ((if _=true then _ else(n,k))::_)=some .cell\/List.lookup x ((if (k==NameKind.free&&env.scope.kind==.function&&env.kindOf n==some .cell)=true then(n,NameKind.cell)else(n,k))::(r.map λ(n,k)=>if (k==NameKind.free&&env.scope.kind==.function&&env.kindOf n==some .cell)then(n,NameKind.cell)else(n,k)))=some .free:=h;by_cases hc:(k==NameKind.free&&env.scope.kind==.function&&env.kindOf n==some .cell)=true
  .rw[if_pos hc]at h';have kf:k=.free:=by
    rw[jT,jT]at hc;exact Ad.mp hc.1.1
   cases hx:x==n with
   |true=>simp only[pM,hx];rw[kf]
   |false=>simp only[pM,hx]at h' ⊢;exact ih h'
  .rw[if_neg hc]at h';cases hx:x==n with
   |true=>
    simp only[pM,hx]at h' ⊢;rcases h' with e|e
    .exact absurd (Option.some.inj e) nk
    .exact e
   |false=>simp only[pM,hx]at h' ⊢;exact ih h'
def iy(X:Cx)(Nc:List Str)(scope:Scope)(cl:List (Str×Addr))(L:Addr)(s₀:Shared)(H₀:Hp)(ex:List Addr):Cx:=
 {X with N:=Nc,s₀:=s₀,H₀:=H₀,env:=compEnvC scope cl L X.env,outer:=X.stack,ex:=ex,fn:=λ_=>false,pn:=[],xe:=λ_ _=>False}
def yR(sub:List (Option Nat))(g:TG):Prop:=∀v U H (Q:St->Hp->Prop),g v U H Q->g v U H λU2 H2=>Q U2 H2/\∀(i j:Nat),sub[i]?=some (some j)->U2[i]?=U[i]?
def Hy(sub:List (Option Nat))(g:uc):Prop:=∀v U H (Q:St->Hp->Prop),g v U H Q->g v U H λU2 H2=>Q U2 H2/\∀(i j:Nat),sub[i]?=some (some j)->U2[i]?=U[i]?
def zu9(h:sub[i]?=some none):yR sub (yh i):=λv U H Q q=>by
 refine⟨q,λk j e=>?_⟩;have ne:i≠k:=λz=>by subst z;rw[h]at e;cases e
 rw[mY ne]
def zu0:Hy sub xU:=λ_ _ _ _ ⟨e,q⟩=>⟨e,q,λ_ _ _=>rfl⟩
def wF(g:TG):Prop:=∀v U H (Q Q':St->Hp->Prop),(∀ U2 H2,Q U2 H2->Q' U2 H2)->g v U H Q->g v U H Q'
def Dz(g:uc):Prop:=∀v U H (Q Q':St->Hp->Prop),(∀ U2 H2,Q U2 H2->Q' U2 H2)->g v U H Q->g v U H Q'
def ztV:wF (yh i):=λ_ _ _ _ _ f q=>f _ _ q
def zt6:Dz xU:=λ_ _ _ _ _ f ⟨e,q⟩=>⟨e,f _ _ q⟩
def zr8(h1:wF t)(h2:Dz u):Dz (zsy t u):=λv U H Q Q' f ⟨x,r,e,q⟩=>⟨x,r,e,h1 _ _ _ _ _ (λU2 H2 z=>h2 _ _ _ _ _ f z) q⟩
def zsD(h1:yR sub t)(m1:wF t)(h2:Hy sub u)(m2:Dz u):Hy sub (zsy t u):=λv U H Q ⟨x,r,e,q⟩=>by
 refine⟨x,r,e,?_⟩;refine m1 _ _ _ _ _ (λU2 H2 z=>?_) (h1 _ _ _ _ q);obtain⟨z,k⟩:=z;refine m2 _ _ _ _ _ (λU3 H3 y=>?_) (h2 _ _ _ _ z);exact⟨y.1,λi j e=>(y.2 i j e).trans (k i j e)⟩
def qK(X:Cx)(ifs:List Expr)(t:TT):Prop:=
 ∀(aa:List (Addr×Obj))(s:Shared)(U:St)(H:Hp)(Q:Bool->Hp->Prop),Inv X aa U H s->t U H Q ->
  wpAny (model X.prog X.w) X.A (forIn ifs true λc r=>if r=true then do let ok <-isTrue c X.env (eval c X.env);pure (ForInStep.yield ok)else pure (ForInStep.yield r)) (TP X aa U Q) X.xe s
def zxk:TT:=λ_ H Q=>Q true H
def BX:qK X [] zxk:=λ_ _ _ H _ I h=>wpAny_tests_nil ⟨H,I,h⟩
def pif1(h:PT X c t):qK X [c] t:=λaa s U H Q I q=>wpAny_tests_one (h aa s U H Q I q)
def zs7(g:TG)(tc:TT)(te:TE)(Uc:St)(l:Addr)(J:It)(H1:Hp)(Q:VK):Prop:=
 ∃W:Nat->Nat->List V->Hp->Prop,(∃m,W 0 m [] (upd H1 l (.lst [])))/\∀i m xs H2,W i m xs H2->H2 l=some (.lst xs) /\
  ((J.stop i H2/\Q (.ref l) H2)\/(J.go i H2/\∃N:List V->Hp->Prop,(∀xs' H',N xs' H'->∃m',m'<m/\W (i+1) m' xs' H') /\
   ∀x H',J.yld i H2 x H'->g x Uc H' λU2 H3=>tc U2 H3 λb H4=>if b=true then te U2 H4 λy H5=>H5 l=some (.lst xs)/\xs.length<sizeLine/\N (xs++[y]) (upd H5 l (.lst (xs++[y])))else N xs H4))
def Gg(sub:List (Option Nat))(wi:TI)(g:TG)(tc:TT)(te:TE):TE:=λU H Q=>wi U H λJ H1=>∀l,H1 l=none->zs7 g tc te (qz sub U) l J H1 Q
section
variable{X:Cx}{aa:List (Addr×Obj)}{U:St}{H:Hp}{s:Shared}{scope:Scope}{Nc:List Str}{sub:List (Option Nat)}{elt tg iter:Expr}{ifs:List Expr}{pos:Pos}{g:TG}{tc:TT}{te:TE}
def zpI{cl:List (Str×Addr)}{fp:List Addr}{it:Addr}{J:It}{tn:Nat->Heap->Prop}(I:Inv X aa U H s)(hS:bG X.N X.env.scope scope Nc sub)
  (hcl:∀x c,cl.lookup x=some c->X.env.cells.lookup x=some c) (hcl2:∀x,scope.names.lookup x=some .free->∃c,cl.lookup x=some c)
  (hf:∀b∈fp,iV X aa H b) (hlt:∀b∈fp,b<s.heap.objs.size):(iy X Nc scope cl s.heap.objs.size s H fp).Ok where
 mod:=I.ok.mod
 kind:=hS.kind
 glob:=I.ok.glob
 blt:=I.ok.blt
 above:=d8 _
 inj:=λx y c e1 e2=>I.ok.inj x y c (hcl x c e1) (hcl y c e2)
 has:=λx h=>hcl2 x (zfH hS.nocell h)
 cab:=λx c h=>by cases h
 hd:=I.ok.hd
 frames:=I.ok.frames
 stk:=.inl rfl
 exf:=λb hb=>⟨iU (hlt b hb),λx c e=>(hf b hb).2.2.2.2.1 x c (hcl x c e)⟩
 bs:=I.bs
 bsz:=gJ I.ok.bsz I.sz
 noex:=λb o e hb=>by
  rcases(hf b hb).2.2.2.1 with z|z
  .exact I.ok.noex b o e z
  .exact absurd (lg (dG e) (gJ I.ok.bsz z)) (YAR _)
 exfs:=λb hb hq=>by
  rcases eX.mp (I.stkSub b hq)with z|z
  .exact(hf b hb).2.1 z
  .exact(hf b hb).2.2.1 z
 funs:=I.stack
 frf:=I.stkFree
def zmq{cl:List (Str×Addr)}{fp:List Addr}{h1:Heap}{t':Nat}{m:Str->Option Value}(I:Inv X aa U H s)(hS:bG X.N X.env.scope scope Nc sub)
  (hcl:∀x c,cl.lookup x=some c->X.env.cells.lookup x=some c) (hcl2:∀x,scope.names.lookup x=some .free->∃c,cl.lookup x=some c)
  (ok:(iy X Nc scope cl s.heap.objs.size s H fp).Ok) (hn:h1.Ns s.heap.objs.size m) (hk:∀b o,s.heap.get? b=some o->h1.get? b=some o) :
  Inv (iy X Nc scope cl s.heap.objs.size s H fp) [] (qz sub U) H {s with heap:=h1,toks:=t'}where
 ok:=ok
 os:=rfl
 bare:=I.bare
 base:=Un.kept hk
 loc:=by
  refine⟨m,hn,λi x v e1 e2 _=>?_⟩;obtain⟨j,e3,e4⟩:=zmr e2;obtain⟨e5,e6⟩:=hS.vis i j x e1 e3;obtain⟨m',_,hl⟩:=I.loc;have hfr:X.env.kindOf x=some .cell\/X.env.kindOf x=some .free:=hS.frees _ (YAZ e6) rfl;obtain⟨u,r,l⟩:=hl j x v e5 e4 (.inr hfr);refine⟨u,r,?_⟩;rcases l with⟨k,_⟩|⟨_,c,e,z⟩
  .rcases hfr with q|q
   .rw[k]at q;cases q
   .rw[k]at q;cases q
  .obtain⟨c',e'⟩:=hcl2 x e6
   have:=hcl x c' e'
   rw[e]at this;cases this;exact .inr ⟨zdQ e6,c,e',z.keeps hk⟩
 cell:=λx c e=>by
  obtain⟨v,z⟩:=I.cell x c (hcl x c e);exact⟨v,z.keeps hk⟩
 free:=I.hok.fresh (d8 _)
 freeC:=λx c e=>I.freeC x c (hcl x c e)
 pin:=λp hp=>absurd (show p∈([]:List (Addr×Obj))from hp) (by simp)
 hok:=I.hok.kept hk
 len:=(zmd sub U).trans hS.len
def zoC{cl:List (Str×Addr)}{fp:List Addr}{pinsC:List (Addr×Obj)}{Uc:St}{H':Hp}{s':Shared}(I:Inv X aa U H s)(hf:∀b∈fp,iV X aa H b)
  (J:Inv (iy X Nc scope cl s.heap.objs.size s H fp) pinsC Uc H' s'):Inv X aa U H' s':=
 I.call' J.os J.base J.hok J.bare λb hb=>⟨(hf b hb).2.2.2.1,(hf b hb).2.1,(hf b hb).2.2.2.2.1,(hf b hb).2.2.2.2.2⟩
noncomputable def zp6(X:Cx)(tg:Expr)(J:It)(fp:List Addr)(it:Addr)(tn:Nat->Heap->Prop):Prop:=∀(i:Nat)(s:Shared)(U:St)(H:Hp),Inv X [] U H s->(∀b∈fp,iV X [] H b)->tn i s.heap ->
 (J.go i H->∀E,wpAny (model X.prog X.w) X.A (pyNext (.ref it)) (λr s1=>∃u,r=some u/\wpAny (model X.prog X.w) X.A (letOwnedTupleGo tg (.ref it) u) (λ_ s2=>∃x H',Inv X [] U H' s2/\RelV x u/\J.yld i H x H'/\tn (i+1) s2.heap/\∀b∈fp,H' b=none) E s1) E s) /\
 (J.stop i H->∀E,wpAny (model X.prog X.w) X.A (pyNext (.ref it)) (λr s1=>r=none/\Inv X [] U H s1) E s)
def Turn.at{P:Program}{w:World}{K:qd}{J:It}{fp:List Addr}{it:Addr}{tn:Nat->Heap->Prop}(T:Turn P w K tg J fp it tn)(h1:X.prog=P)(h2:X.w=w)(h3:X.K=K)(hc:X.calm=true):zp6 X tg J fp it tn:=by
 subst h1 h2 h3;exact λi s U H I hf st=>⟨λg E=>T.item X rfl rfl rfl hc i [] s U H E I hf st g,λg E=>T.done X rfl rfl rfl hc i [] s U H E I hf st g⟩
def zox{cl:List (Str×Addr)}{fp:List Addr}{it:Addr}{J:It}{tn:Nat->Heap->Prop}{E:Value->Shared->Prop}{Q:VK}{RR:Value->Addr->Result->Shared->Prop}
  (I:Inv X aa U H s) (hS:bG X.N X.env.scope scope Nc sub)
  (hcl:∀x c,cl.lookup x=some c->X.env.cells.lookup x=some c) (hcl2:∀x,scope.names.lookup x=some .free->∃c,cl.lookup x=some c)
  (hT:∀s0:Shared,(∀b o,s.heap.get? b=some o->s0.heap.get? b=some o)->zp6 (iy X Nc scope cl s0.heap.objs.size s0 (upd H s.heap.objs.size (.lst [])) fp) tg J fp it tn) (T:Turn X.prog X.w X.K tg J fp it tn) (st:tn 0 s.heap) (hf:∀b∈fp,iV X aa H b)
  (hg:∀cl L s0 H0 ex,PG (iy X Nc scope cl L s0 H0 ex) tg g) (gk:yR sub g)
  (hi:∀cl L s0 H0 ex,qK (iy X Nc scope cl L s0 H0 ex) ifs tc) (he:∀cl L s0 H0 ex,PE (iy X Nc scope cl L s0 H0 ex) elt te)
  (gm:wF g) (q:∀l,H l=none->zs7 g tc te (qz sub U) l J H Q)
  (hRR:∀l C H' s' m,Inv X aa U H' s'->Q (.ref l) H'->s'.heap.Ns C m->s.heap.objs.size<=C->H' C=none->RR (.ref l) C (.ok .next) s') :
  wpAny (model X.prog X.w) X.A (newList []) (λacc s₃=>wpAny (model X.prog X.w) X.A (newFunctionEnv scope X.env.globals cl [] X.env.qual none .none (some X.env)) (λcenv s₄=>
   codeAny (model X.prog X.w) X.A (.compStart (.ListComp elt [⟨tg,iter,ifs,0⟩] scope pos) 0 (.ref it) acc {cenv with scope:=relabel scope X.env}) (RR acc cenv.locals) s₄) E s₃) E s:=by
 have hlt:∀b∈fp,b<s.heap.objs.size:=λb hb=>let⟨o,e,_⟩:=T.obj _ _ st b hb;dG e
 have hl0:=I.hok.fresh (d8 _);obtain⟨W,⟨m0,w0⟩,turn⟩:=q s.heap.objs.size hl0;refine Cw ?_
 -- the list is laid
 have I3:Inv X aa U _ {s with heap:=s.heap.push {cls:=.type "list",data:=.seq ([]:List Value).toArray},toks:=s.toks}:=I.lnew (its:=[]) .nil (wy _);generalize hs3:({s with heap:=s.heap.push {cls:=.type "list",data:=.seq ([]:List Value).toArray},toks:=s.toks}:Shared)=s3 at I3;have k3:∀b o,s.heap.get? b=some o->s3.heap.get? b=some o:=λb o e=>by rw[<-hs3];exact fG _ e
 have z3:s.heap.objs.size<=s3.heap.objs.size:=by rw[<-hs3];show _<=(s.heap.push _).objs.size;rw[Bb];exact Nat.le_succ _
 have f3:∀b∈fp,iV X aa (upd H s.heap.objs.size (.lst [])) b:=λb hb=>⟨by rw[ao (iU (hlt b hb))];exact(hf b hb).1,(hf b hb).2⟩;have lt3:∀b∈fp,b<s3.heap.objs.size:=λb hb=>lg (hlt b hb) z3;have st3:tn 0 s3.heap:=T.keep _ _ _ st λb _ o e=>k3 b o e;refine wpAny_newFunctionEnv hS.nocell (by intro y hy;simp at hy) (λh₁ hns₁ hsb₁=>?_) hS.kind;have k4:∀b o,s3.heap.get? b=some o->h₁.get? b=some o:=λb o e=>hsb₁.extBut b o (iU (dG e)) (fG _ e);have ok4:=zpI (J:=J) (it:=it) (tn:=tn) I3 hS hcl hcl2 f3 lt3;have I4:=zmq (t':=s3.toks+([]:List (Str×Value)).length) I3 hS hcl hcl2 ok4 hns₁ k4;have st4:tn 0 h₁:=T.keep _ _ _ st3 λb _ o e=>k4 b o e
 -- what stays true of the iterator's objects
 have stat:∀{H':Hp},(∀b∈fp,H' b=none)->∀b∈fp,iV (iy X Nc scope cl s3.heap.objs.size s3 _ fp) [] H' b:=λhn b hb=>
  ⟨hn b hb,(ok4.exf b hb).1,ok4.exfs b hb,.inl hb,(ok4.exf b hb).2,λp hp=>absurd (show p∈([]:List (Addr×Obj))from hp) (by simp)⟩
 have loop:∀s₄:Shared,s₄={s3 with heap:=h₁,toks:=s3.toks+([]:List (Str×Value)).length} ->
   codeAny (model X.prog X.w) X.A (.compLoop (.ListComp elt [⟨tg,iter,ifs,0⟩] scope pos) 0 (.ref it) (.ref s.heap.objs.size) (compEnvC scope cl s3.heap.objs.size X.env)) (RR (.ref s.heap.objs.size) s3.heap.objs.size) s₄:=by
  rintro s₄ rfl;refine codeAny_loop rfl (λn s'=>∃i xs H',Inv (iy X Nc scope cl s3.heap.objs.size s3 (upd H s.heap.objs.size (.lst [])) fp) [] (qz sub U) H' s'/\tn i s'.heap/\(∀b∈fp,H' b=none)/\W i n xs H') ?_ m0
   ⟨0,[],_,I4,st4,λb hb=>(f3 b hb).1,w0⟩
  rintro n s5 ⟨i,xs,H5,I5,st5,fr5,w5⟩;refine wpAny_noted ?_;rw[compTurn_list];refine aP (Ed (aP ?_));obtain⟨hl5,w5⟩:=turn i n xs H5 w5;rcases w5 with⟨stop,qn⟩|⟨go,N,hN,step⟩
  .refine bK ((hT s3 k3 i s5 (qz sub U) H5 I5 (stat fr5) st5).2 stop _) λr s6 ⟨hr,I6⟩=>?_;subst hr;obtain⟨m6,hn6,_⟩:=I6.loc;exact dO (hRR _ _ H5 s6 m6 (zoC I3 f3 I6) qn hn6 z3 I6.free)
  .refine bK ((hT s3 k3 i s5 (qz sub U) H5 I5 (stat fr5) st5).1 go _) λr s6 ⟨u,hr,h6⟩=>?_;subst hr;refine aP (bK h6 λ_ s7 ⟨x,H7,I7,r7,y7,st7,fr7⟩=>?_);have I7':=I7.pinned (stat fr7) (T.obj _ _ st7);have again:∀{U8:St}{H8:Hp}{ys:List V}{s8:Shared},Inv _ ([]++zn8 fp s7.heap) U8 H8 s8->(∀(i j:Nat),sub[i]?=some (some j)->U8[i]?=(qz sub U)[i]?)->N ys H8 ->
     ∃m,m<n/\∃i xs H',Inv (iy X Nc scope cl s3.heap.objs.size s3 (upd H s.heap.objs.size (.lst [])) fp) [] (qz sub U) H' s8/\tn i s8.heap/\(∀b∈fp,H' b=none)/\W i m xs H':=λ{U8 H8 ys s8} I8 k8 n8=>by
    obtain⟨m',hm,w8⟩:=hN ys H8 n8;refine⟨m',hm,i+1,ys,H8,?_,T.keep _ _ _ st7 λb hb o e=>(I8.pin (b,o) (sY _ (sY _ (zfR hb e)))).1,λb hb=>?_,w8⟩
    .refine I8.unpinned.weak ?_ λk v e=>?_
     .rw[I8.len];exact(zmd sub U).trans hS.len
     .obtain⟨j,e1,_⟩:=zmr e;rw[k8 k j e1];exact e
    .obtain⟨o,e,d⟩:=T.obj _ _ st7 b hb;exact(I8.pin (b,o) (sY _ (sY _ (zfR hb e)))).2.1
   refine aP (YAQ (hg cl _ s3 _ fp _ s7 (qz sub U) H7 x u _ I7' r7 (gk _ _ _ _ (step x H7 y7))) (λ_ s8 ⟨U8,H8,I8,q8,k8⟩=>?_) λ_ _ z=>False.elim z);refine aP (YAQ (hi cl _ s3 _ fp _ s8 U8 H8 _ I8 q8) (λok s9 ⟨H9,I9,q9⟩=>?_) λ_ _ z=>False.elim z);cases ok with
   |false=>exact dO ⟨rfl,again I9 k8 q9⟩
   |true=>
    refine aP (aP (YAQ (he cl _ s3 _ fp _ s9 U8 H9 _ I9 q9) (λxv s10 ⟨y,H10,I10,r10,sX,hz,q10⟩=>?_) λ_ _ z=>False.elim z));refine aP (YAQ (zg8 (X:=(iy X Nc scope cl s3.heap.objs.size s3 (upd H s.heap.objs.size (.lst [])) fp)) _ s10 U8 H10 (.ref s.heap.objs.size) [y] (.ref s.heap.objs.size) [xv] (λ_ H11=>N (xs++[y]) H11) I10 rfl (.cons r10 .nil) ⟨_,xs,y,rfl,rfl,sX,hz,q10⟩) (λ_ s11 ⟨_,H11,I11,_,q11⟩=>?_) λ_ _ z=>False.elim z);exact dO (dO ⟨rfl,again I11 k8 q11⟩)
 exact codeAny_compStart_list (loop _ rfl) (T.self _ 0 _ _ _ st4 (loop _ rfl))
def zjP(I:Inv X aa U H s)(hS:bG X.N X.env.scope scope Nc sub):∀y∈scope.names,y.2=.free->∃c,X.env.cells.lookup y.1=some c:=λy hy e=>
 I.ok.has y.1 (hS.frees y hy e)
def PIT(X:Cx)(Nc:List Str)(scope:Scope)(tg iter:Expr)(wi:TI):Prop:=
 ∀(aa:List (Addr×Obj))(s:Shared)(U:St)(H:Hp)(R:It->Hp->Prop),Inv X aa U H s->wi U H R->wpAny (model X.prog X.w) X.A (eval iter X.env) (λv s1=>wpAny (model X.prog X.w) X.A (pyIter v) (λitv s2=>
  ∃(it:Addr)(fp:List Addr)(tn:Nat->Heap->Prop)(J:It)(H':Hp),itv=.ref it/\Inv X aa U H' s2/\Turn X.prog X.w X.K tg J fp it tn/\tn 0 s2.heap/\(∀b∈fp,iV X aa H' b)/\R J H' /\
   ∀cl s0,(∀b o,s2.heap.get? b=some o->s0.heap.get? b=some o)->zp6 (iy X Nc scope cl s0.heap.objs.size s0 (upd H' s2.heap.objs.size (.lst [])) fp) tg J fp it tn) X.xe s1) X.xe s
def PI.t{wi:TI}(hc:X.calm=true)(h:PI X tg iter wi):PIT X Nc scope tg iter wi:=λaa s U H R I q=>bK (h aa s U H R I q) λv s1 h1=>bK h1 λitv s2 ⟨it,fp,tn,J,H',e,I2,T,st,f,r⟩=>⟨it,fp,tn,J,H',e,I2,T,st,f,r,λ_ _ _=>T.at rfl rfl rfl hc⟩
def zqk{wi:TI}(hS:bG X.N X.env.scope scope Nc sub)(hI:PIT X Nc scope tg iter wi)
  (hg:∀cl L s0 H0 ex,PG (iy X Nc scope cl L s0 H0 ex) tg g) (gk:yR sub g) (gm:wF g)
  (hi:∀cl L s0 H0 ex,qK (iy X Nc scope cl L s0 H0 ex) ifs tc) (he:∀cl L s0 H0 ex,PE (iy X Nc scope cl L s0 H0 ex) elt te)
  (hs:∀x,foldedSetIterable iter X.env x=pure x:=by intro _;rfl):PE X (.ListComp elt [⟨tg,iter,ifs,0⟩] scope pos) (Gg sub wi g tc te):=by
 intro aa s U H Q I h;obtain⟨cl,hcl0,hcl,hcl2⟩:=zfo (zjP I hS);rw[eval_ListComp];refine wpAny_comprehension_free (use:=none) rfl hs hcl0 hS.kind hS.names ?_;refine bK (hI aa s U H _ I h) λxv s1 h1=>bK h1 λitv s2 h2=>?_;obtain⟨it,fp,tn,J,H2,e,I2,T,st2,f2,q,hT⟩:=h2;subst e;refine zox I2 hS hcl hcl2 (hT cl) T st2 f2 hg gk hi he gm q λl C H' s' m I' q' hn hC hfr=>?_;refine⟨m,hn,λh' sb=>?_⟩;have nL:C≠X.env.locals:=Dk (lg I2.lt hC);refine⟨.ref l,H',?_,rfl,q'⟩;exact I'.turned (it:=C) (t':=s'.toks) (λb o hb e=>(sb.2 b hb).trans e) hfr nL (.inr (gJ I2.sz hC)) (λx c e z=>by
  obtain⟨v,w⟩:=I2.cell x c e;exact absurd (lg w.lt (by rw[z];exact hC)) (YAR _)) λp hp z=>
  absurd (lg (dG (I2.pin p hp).1) (by rw[z];exact hC)) (YAR _)
def znI(hc:X.calm=true)(hS:bG X.N X.env.scope scope Nc sub)(hI:PI X tg iter wi)
  (hg:∀cl L s0 H0 ex,PG (iy X Nc scope cl L s0 H0 ex) tg g) (gk:yR sub g) (gm:wF g)
  (hi:∀cl L s0 H0 ex,qK (iy X Nc scope cl L s0 H0 ex) ifs tc) (he:∀cl L s0 H0 ex,PE (iy X Nc scope cl L s0 H0 ex) elt te)
  (hs:∀x,foldedSetIterable iter X.env x=pure x:=by intro _;rfl):PE X (.ListComp elt [⟨tg,iter,ifs,0⟩] scope pos) (Gg sub wi g tc te):=zqk hS (hI.t hc) hg gk gm hi he hs
def znr(hc:X.calm=true)(hN:X.N.Nodup)(hiN:X.N[i]?=some y)(hy:X.env.scope.names.lookup y=some .local)(hS:bG X.N X.env.scope scope Nc sub)(hI:PI X tg iter wi)
  (hg:∀cl L s0 H0 ex,PG (iy X Nc scope cl L s0 H0 ex) tg g) (gk:yR sub g) (gm:wF g)
  (hi:∀cl L s0 H0 ex,qK (iy X Nc scope cl L s0 H0 ex) ifs tc) (he:∀cl L s0 H0 ex,PE (iy X Nc scope cl L s0 H0 ex) elt te)
  (hsw:swapsWith (.ListComp elt [⟨tg,iter,ifs,0⟩] scope pos) (some (.Name y py)) spos.line X.env=pure true:=by rfl)
  (hs:∀x,foldedSetIterable iter X.env x=pure x:=by intro _;rfl):PS X (.Assign [.Name y py] (.ListComp elt [⟨tg,iter,ifs,0⟩] scope pos) spos) (tR (Gg sub wi g tc te) (yh i)):=by
 intro aa s U H D I h;obtain⟨cl,hcl0,hcl,hcl2⟩:=zfo (zjP I hS);rw[exec_Assign_Name_used _ _ _ _ hsw];refine aP (Ed (aP ?_));show wpAny _ X.A (do let _ <-comprehension (.ListComp elt [⟨tg,iter,ifs,0⟩] scope pos) scope X.env _ (newList []) false (eval iter X.env) (some (assign (.Name y py) X.env))) _ _ s;refine aP (YAQ (wpAny_comprehension_free (use:=some (assign (.Name y py) X.env)) (Q:=λ_ s'=>SP X aa D .next s') rfl hs hcl0 hS.kind hS.names
  (bK (hI aa s U H _ I h) λxv s1 h1=>bK h1 λitv s2 h2=>?_)) (λ_ s' hq=>dO (dO hq)) λ_ _ e=>e)
 obtain⟨it,fp,tn,J,H2,e,I2,T,st2,f2,q⟩:=h2;subst e;refine zox I2 hS hcl hcl2 (λ_ _=>T.at rfl rfl rfl hc) T st2 f2 hg gk hi he gm q λl C H' s' m I' q' hn hC hfr=>?_;have nL:C≠X.env.locals:=Dk (lg I2.lt hC);show wpAny _ X.A (assign (.Name y py) X.env (.ref l)) _ _ _;refine wpAny_assign_Name (zlz I' hN hiN (.inl hy) (v:=.ref l) rfl (λs6 I6 ⟨a,sb6,ha⟩=>?_) (.inr hy));have nA:C≠a:=λz=>by
  rcases ha with e|e
  .exact nL (z.trans e)
  .obtain⟨v,w⟩:=I2.cell y a e;exact absurd (lg w.lt (by rw[<-z];exact hC)) (YAR _)
 refine⟨m,hn.sameBut sb6 nA,λh' sb=>?_⟩;refine⟨_,H',I6.turned (it:=C) (t':=s6.toks) (λb o hb e=>(sb.2 b hb).trans e) hfr nL (.inr (gJ I2.sz hC)) (λx c e z=>by
  obtain⟨v,w⟩:=I2.cell x c e;exact absurd (lg w.lt (by rw[z];exact hC)) (YAR _)) (λp hp z=>
  absurd (lg (dG (I2.pin p hp).1) (by rw[z];exact hC)) (YAR _)),q'⟩
end
section
variable{X:Cx}
inductive jk(K:qd)(H:Hp):V->String->Bool->Prop
 |bl_bool (b):jk K H (.bl b) "bool" true
 |bl_int (b):jk K H (.bl b) "int" true
 |bl_list (b):jk K H (.bl b) "list" false
 |bl_tuple (b):jk K H (.bl b) "tuple" false
 |bl_str (b):jk K H (.bl b) "str" false
 |int_bool (i):jk K H (.int i) "bool" false
 |int_int (i):jk K H (.int i) "int" true
 |int_list (i):jk K H (.int i) "list" false
 |int_tuple (i):jk K H (.int i) "tuple" false
 |int_str (i):jk K H (.int i) "str" false
 |non_bool:jk K H .non "bool" false
 |non_int:jk K H .non "int" false
 |non_list:jk K H .non "list" false
 |non_tuple:jk K H .non "tuple" false
 |non_str:jk K H .non "str" false
 |str_bool (i):jk K H (.str i) "bool" false
 |str_int (i):jk K H (.str i) "int" false
 |str_list (i):jk K H (.str i) "list" false
 |str_tuple (i):jk K H (.str i) "tuple" false
 |str_str (i):jk K H (.str i) "str" true
 |list_bool (p xs):cg K H p xs->jk K H (.ref p) "bool" false
 |list_int (p xs):cg K H p xs->jk K H (.ref p) "int" false
 |list_list (p xs):cg K H p xs->jk K H (.ref p) "list" true
 |list_tuple (p xs):cg K H p xs->jk K H (.ref p) "tuple" false
 |list_str (p xs):cg K H p xs->jk K H (.ref p) "str" false
 |tuple_bool (p xs):fM K H p xs->jk K H (.ref p) "bool" false
 |tuple_int (p xs):fM K H p xs->jk K H (.ref p) "int" false
 |tuple_list (p xs):fM K H p xs->jk K H (.ref p) "list" false
 |tuple_tuple (p xs):fM K H p xs->jk K H (.ref p) "tuple" true
 |tuple_str (p xs):fM K H p xs->jk K H (.ref p) "str" false
def zsC:cL X (.builtin "isinstance") (λvs H Q=>∃x T b,vs=[x,.ty T]/\jk X.K H x T b/\Q (.bl b) H):=by
 intro aa s U H vs us Q I r h;obtain⟨x,T,b,rfl,hi,q⟩:=h;obtain⟨u,w',rfl,rx,ry⟩:=zuD r;cases ry;have f0:EP X aa U Q _ s:=⟨.bl b,H,I,rfl,q⟩;have f1:EP X aa U Q (.bool b) {s with toks:=s.toks+1}:=⟨.bl b,H,I.tok _,rfl,q⟩;cases hi with
 |bl_bool=>cases rx;exact IsiPair.bool_bool f0
 |bl_int=>cases rx;exact IsiPair.bool_int f0
 |bl_list=>cases rx;exact IsiPair.bool_list f1
 |bl_tuple=>cases rx;exact IsiPair.bool_tuple f1
 |bl_str=>cases rx;exact IsiPair.bool_str f1
 |int_bool=>obtain⟨t,rfl⟩:=rx;exact IsiPair.int_bool f1
 |int_int=>obtain⟨t,rfl⟩:=rx;exact IsiPair.int_int f0
 |int_list=>obtain⟨t,rfl⟩:=rx;exact IsiPair.int_list f1
 |int_tuple=>obtain⟨t,rfl⟩:=rx;exact IsiPair.int_tuple f1
 |int_str=>obtain⟨t,rfl⟩:=rx;exact IsiPair.int_str f1
 |non_bool=>cases rx;exact IsiPair.NoneType_bool f1
 |non_int=>cases rx;exact IsiPair.NoneType_int f1
 |non_list=>cases rx;exact IsiPair.NoneType_list f1
 |non_tuple=>cases rx;exact IsiPair.NoneType_tuple f1
 |non_str=>cases rx;exact IsiPair.NoneType_str f1
 |str_bool=>obtain⟨t,rfl⟩:=rx;exact IsiPair.str_bool f1
 |str_int=>obtain⟨t,rfl⟩:=rx;exact IsiPair.str_int f1
 |str_list=>obtain⟨t,rfl⟩:=rx;exact IsiPair.str_list f1
 |str_tuple=>obtain⟨t,rfl⟩:=rx;exact IsiPair.str_tuple f1
 |str_str=>obtain⟨t,rfl⟩:=rx;exact IsiPair.str_str f0
 |list_bool p xs h=>cases rx;obtain⟨_,_,⟨o,n,e,c,_⟩,_⟩:=I.list h;exact IsiPair.list_bool e c f1
 |list_int p xs h=>cases rx;obtain⟨_,_,⟨o,n,e,c,_⟩,_⟩:=I.list h;exact IsiPair.list_int e c f1
 |list_list p xs h=>cases rx;obtain⟨_,_,⟨o,n,e,c,_⟩,_⟩:=I.list h;exact IsiPair.list_list e c f0
 |list_tuple p xs h=>cases rx;obtain⟨_,_,⟨o,n,e,c,_⟩,_⟩:=I.list h;exact IsiPair.list_tuple e c f1
 |list_str p xs h=>cases rx;obtain⟨_,_,⟨o,n,e,c,_⟩,_⟩:=I.list h;exact IsiPair.list_str e c f1
 |tuple_bool p xs h=>cases rx;obtain⟨_,_,⟨o,e,c,_⟩,_⟩:=I.tuple h;exact IsiPair.tuple_bool e c f1
 |tuple_int p xs h=>cases rx;obtain⟨_,_,⟨o,e,c,_⟩,_⟩:=I.tuple h;exact IsiPair.tuple_int e c f1
 |tuple_list p xs h=>cases rx;obtain⟨_,_,⟨o,e,c,_⟩,_⟩:=I.tuple h;exact IsiPair.tuple_list e c f1
 |tuple_tuple p xs h=>cases rx;obtain⟨_,_,⟨o,e,c,_⟩,_⟩:=I.tuple h;exact IsiPair.tuple_tuple e c f0
 |tuple_str p xs h=>cases rx;obtain⟨_,_,⟨o,e,c,_⟩,_⟩:=I.tuple h;exact IsiPair.tuple_str e c f1
def zrV{bs:List Bool}:∀{us:List Value},Vals (bs.map V.bl) us->∀(i:Nat) v,us[i]?=some v->v=.bool (bs.getD i false):=by
 induction bs with
 |nil=>intro us r i v h;cases r;simp at h
 |cons b bs ih=>
  intro us r i v h;cases r with
  |cons r1 r2=>
   cases i with
   |zero=>simp at h;subst h;exact r1
   |succ i=>simpa using ih r2 i v (by simpa using h)
def zrf(bs:List Bool):((List.range bs.length).all λi=>bs.getD i false)=bs.all id:=by
 induction bs with
 |nil=>rfl
 |cons b bs ih=>
  rw[YAA,List.range_succ_eq_map,List.all_cons,List.all_map,List.all_cons,<-ih];rfl
def zrt(hc:X.calm=true):cL X (.builtin "all") (λvs H Q=>∃(p:Addr)(bs:List Bool),vs=[.ref p]/\cg X.K H p (bs.map V.bl)/\Q (.bl (bs.all id)) H):=by
 intro aa s U H vs us Q I r h;obtain⟨p,bs,rfl,hq,q⟩:=h;obtain⟨u,rfl,rx⟩:=qx r;cases rx;obtain⟨its,r',pl,hz⟩:=I.list hq;have hlen:=r'.length;rw[cY]at hlen;have hp:p<s.heap.objs.size:=let⟨o,n,e,_⟩:=pl;dG e
 refine call_all_walk (Kg pl.isList ?_);refine⟨s.heap.objs.size,_,[s.heap.objs.size],_,_,_,λi=>bs.getD i false,rfl,Walks.list (A:=X.A.in1) (I.ok.hd hc) _ p (iU hp) its.toArray,⟨⟨_,lV _ rfl,rfl,rfl⟩,pl.isList.push _⟩,λi v s' Q' E' hP hQ=>?_,λh' tk hk=>?_⟩
 .rw[zrV r' i v (by simpa using hP)];exact zG hQ
 .rw[jx,<-hlen,zrf];exact⟨.bl _,H,I.kept λb o e=>hk b o (by simpa using iU (dG e)) (fG _ e),rfl,q⟩
def zx9(i j:Int):Prop:=0<j/\j<2^64
def zn9:gP X (binaryOp .FloorDiv) (rI zx9 λi j=>.int (i / j)):=Lb λi j _ _ _ _ _ hc q=>by
 have hp:(0:Int)<j:=hc.1;have hl:j.natAbs.log2<9000:=by
  have h2:j<2^64:=hc.2;have h3:j.natAbs<2^64:=by omega
  have h4:j.natAbs.log2<64:=(Nat.log2_lt (by omega)).mpr h3;omega
 exact floordiv_int (by omega) (by rw[Int.fdiv_eq_ediv_of_nonneg i (by omega)];exact q) (.inl (PyProof.noPylong_of_log2 hl))
def zyT(K:qd):V->V->Hp->VK->Prop:=λx y H Q=>∃(p:Addr)(xs:List V)(j:Nat)(v:V),x=.ref p/\y=.int j/\cg K H p xs/\xs[j]?=some v/\Q v H
def zsg:Jz X (zyT X.K):=by
 intro aa s U H o i ov iv Q I r1 r2 h;obtain⟨p,xs,j,v,rfl,rfl,hq,he,q⟩:=h;cases r1;obtain⟨t,rfl⟩:=r2;obtain⟨its,r,pl,hz⟩:=I.list hq;obtain⟨u,eu,ru⟩:=r.get he;have hj:j<xs.length:=(nW.mp he).1;have hn:=Be;exact wpAny_getItem_list pl.isList (by omega) (by omega) (by simpa using eu) ⟨v,H,I,ru,q⟩
end
section
variable{P:Program}{w:World}{A:Around}{E:Value->Shared->Prop}{s:Shared}
def zlL(ht:s.heap.IsTupleIter it t i)(hl:s.heap.IsTuple t xs)(hx:xs[i]?=some x)
  (q:∀h',h'.IsTupleIter it t (i+1)->Heap.SameBut it s.heap h'->Q x {s with heap:=h'}):wpAny (model P w) A (Builtin.SmallTypes.nextOf (.ref it)) Q E s:=by
 obtain⟨o,e,c,d⟩:=id ht;obtain⟨ol,el,_,n,dl⟩:=hl;refine aP (YAV ht.typeIs YBk (Ca YBk ht.typeIs F.entry_tuple_iterator_next ?_ (F.args_tuple_iterator_next_1 _)));show wpAny _ _ (field _ 0 >>= _) _ _ s;refine aP (YAI e d rfl ?_);show wpAny _ _ _ _ _ s;refine aP (YAI e d rfl ?_);show wpAny _ _ _ _ _ s;refine aP (wO el dl ?_);simp only[hx,Int.toNat_natCast];refine aP (Ly e d (by simp) (dO ⟨x,rfl,dO (q _ ⟨_,YBA _ e (YB2 (YBV d _)),(Obj.cls_mapFields ..).trans c,by rw[YBV d];simp[rawInt]⟩ (Heap.SameBut.update ..))⟩))
def zlx(hh:A.handled=none)(ht:s.heap.IsTupleIter it t i)(hl:s.heap.IsTuple t xs)(hx:xs[i]?=none)
  (q:∀h' e,Heap.ExtBut it s.heap h'->(∃o,h'.get? e=some o/\o.cls=.type "StopIteration")->E (.ref e) {s with heap:=h'}):wpAny (model P w) A (Builtin.SmallTypes.nextOf (.ref it)) Q E s:=by
 obtain⟨o,e,c,d⟩:=id ht;obtain⟨ol,el,_,n,dl⟩:=hl;refine aP (YAV ht.typeIs YBk (Ca YBk ht.typeIs F.entry_tuple_iterator_next ?_ (F.args_tuple_iterator_next_1 _)));show wpAny _ _ (field (.ref it) 0 >>= _) _ _ s;refine aP (YAI e d rfl ?_);show wpAny _ _ _ _ _ s;refine aP (YAI e d rfl ?_);show wpAny _ _ _ _ _ s;refine aP (wO el dl ?_);simp only[hx,Int.toNat_natCast];refine aP (Ep (aP (Ly e d (by simp) ?_)));show wpAny _ _ _ _ _ _;refine aP ?_;refine aP (Cw (aP (wpAny_of_eq (by first|rfl|(simp only[firstArgMember];rfl)) (Cw ?_ (by size_fits)))) (by size_fits));refine aP (wpAny_handled ?_);first|rw[show A.in1.handled=none from hh]|rw[hh]
 exact aP (dO (wpAny_throw (q _ _ (((Heap.SameBut.update ..).extBut.push _).push _) ⟨_,lV _ rfl,rfl⟩)))
end
def zmH(hh:A.handled=none)(it t:Addr)(hne:t≠it)(xs:Array Value) :
  Draws P w A it [it,t] xs.size (λi v=>xs[i]?=some v) (λi h=>h.IsTupleIter it t i/\h.IsTuple t xs)where
 live:=λ_ _ st=>let⟨o,e,_⟩:=st.1;⟨o,e⟩
 frame:=λ_ _ _ st k=>⟨let⟨o,e,r⟩:=st.1;⟨o,k it (by simp) o e,r⟩,let⟨o,e,r⟩:=st.2;⟨o,k t (by simp) o e,r⟩⟩
 item:=λi s Q E hi st q=>zlL st.1 st.2 (x:=xs[i]) (by simp[hi]) λh' a sb=>q _ h' s.toks (by simp[hi]) ⟨a,st.2.extBut sb.extBut hne⟩ sb
 done:=λs Q E st q=>zlx hh st.1 st.2 (by simp) q
structure yJ(z a b i j:Addr)(f g:List Addr):Prop where
 az:a≠z
 bz:b≠z
 iz:i≠z
 jz:j≠z
 ab:a≠b
 ai:a≠i
 aj:a≠j
 bi:b≠i
 bj:b≠j
 ij:i≠j
 zf:z∉f
 bf:b∉f
 jf:j∉f
 zg:z∉g
 bg:b∉g
 ig:i∉g
section
variable{P:Program}{w:World}{A:Around}{E:Value->Shared->Prop}{s:Shared}{z a b i j:Addr}{f g:List Addr}{n m k:Nat}{F1 F2:Nat->Value->Prop}{S1 S2:Nat->Heap->Prop}
def tW{h h':Heap}{c:Addr}{l:List Addr}(sb:Heap.SameBut c h h')(hc:c∉l):∀b∈l,∀o,h.get? b=some o->h'.get? b=some o:=λb hb o e=>sb.extBut b o (λz=>hc (z▸hb)) e
def zlX{u v:Value}{Q:Value->Shared->Prop}(qc:yJ z a b i j f g)(D1:Draws P w A i f n F1 S1)(D2:Draws P w A j g m F2 S2)(hz:IsZip s.heap z a b .none)(ha:IsPair s.heap a (.ref i) (.ref j))(hb:IsPair s.heap b u v)
  (s1:S1 k s.heap) (s2:S2 k s.heap) (k1:k<n) (k2:k<m)
  (q:∀x y h' tk t,F1 k x->F2 k y->t=s.heap.objs.size->IsZip h' z a b (rawInt t)->IsPair h' b x y->S1 (k+1) h'->S2 (k+1) h'->IsPair h' t x y ->
   (∀c o,c≠z->c≠b->c≠i->c≠j->s.heap.get? c=some o->h'.get? c=some o)->Q (.ref t) {s with heap:=h',toks:=tk}) :
  wpAny (model P w) A (Builtin.«zip.__next__» ⟨[.ref z],[]⟩) (λfin s'=>∃v,fin=.done (.ret v)/\Q v s') E s:=by
 show wpAny _ _ (field (.ref z) 2 >>= _) _ _ _;refine aP (YAI hz rfl (x:=.bool false) rfl ?_);show wpAny _ _ _ _ _ _;refine aP (YAI hz rfl (x:=.ref a) rfl (aP (wO ha rfl ?_)));show wpAny _ _ _ _ _ _;refine aP ?_;refine aP (YAI hz rfl (x:=.none) rfl (dO ?_));simp only[uU];refine aP (Ep (aP (YAI hz rfl (x:=.ref b) rfl (aP (Bu hz (by simp) λh1 z1 e1=>?_)))))
 replace z1:IsZip h1 z a b .ellipsis:=z1
 refine aP ?_;simp only[YCw,List.zipIdx_nil,YCh,List.forIn_nil];refine aP (aP (K1 ?_));show wpAny _ _ _ _ _ _;have t1:S1 k h1:=D1.frame _ _ _ s1 (tW e1 qc.zf);have t2:S2 k h1:=D2.frame _ _ _ s2 (tW e1 qc.zg);refine aP (D1.item k _ _ _ k1 t1 λx h2 tk2 px u1 e2=>dO ?_);have b2:IsPair h2 b u v:=e2.extBut _ _ qc.bi (e1.extBut _ _ qc.bz hb);refine aP (wO b2 rfl (aP (YB8 b2 λh3 b3 e3=>?_)))
 replace b3:IsPair h3 b x v:=b3
 refine aP (wpAny_letGo (dO ?_));refine aP (aP (K1 ?_));show wpAny _ _ _ _ _ _;have t3:S2 k h3:=D2.frame _ _ _ (D2.frame _ _ _ t2 (tW e2 qc.ig)) (tW e3 qc.bg);refine aP (D2.item k _ _ _ k2 t3 λy h4 tk4 py u2 e4=>dO ?_);have b4:IsPair h4 b x v:=e4.extBut _ _ qc.bj b3;refine aP (wO b4 rfl (aP (YB8 b4 λh5 b5 e5=>?_)))
 replace b5:IsPair h5 b x y:=b5
 refine aP (wpAny_letGo (dO (dO (aP (wO b5 rfl (aP (wpAny_newTuple ?_)))))));have sz:h5.objs.size=s.heap.objs.size:=by rw[e5.1,e4.1,e3.1,e2.1,e1.1]
 have z5:=e5.extBut _ _ qc.bz.symm (e4.extBut _ _ qc.jz.symm (e3.extBut _ _ qc.bz.symm (e2.extBut _ _ qc.iz.symm z1)));have k5:∀c o,c≠z->c≠b->c≠i->c≠j->s.heap.get? c=some o->h5.get? c=some o:=λc o c1 c2 c3 c4 e=>e5.extBut _ _ c2 (e4.extBut _ _ c4 (e3.extBut _ _ c2 (e2.extBut _ _ c3 (e1.extBut _ _ c1 e))));have v1:S1 (k+1) h5:=D1.frame _ _ _ (D1.frame _ _ _ (D1.frame _ _ _ u1 (tW e3 qc.bf)) (tW e4 qc.jf)) (tW e5 qc.bf);have v2:S2 (k+1) h5:=D2.frame _ _ _ u2 (tW e5 qc.bg);have zl:z<h5.objs.size:=dG z5;show wpAny _ _ _ _ _ _;refine aP ?_;have z6:IsZip (h5.push {cls:=.type "tuple",data:=.seq #[x,y]}) z a b .ellipsis:=fG _ z5;refine aP (Bu z6 (by simp) λh7 z7 e7=>?_)
 replace z7:IsZip h7 z a b _:=z7
 refine Bu z7 (by simp) λh8 z8 e8=>?_
 replace z8:IsZip h8 z a b _:=z8
 have up:∀c o,c≠z->h5.get? c=some o->h8.get? c=some o:=λc o c1 e=>e8.extBut _ _ c1 (e7.extBut _ _ c1 (fG _ e));refine dO ⟨_,rfl,?_⟩;exact q x y h8 _ h5.objs.size px py sz z8 (up _ _ qc.bz b5) (D1.frame _ _ _ v1 λc hc o e=>up c o (λzz=>qc.zf (zz▸hc)) e) (D2.frame _ _ _ v2 λc hc o e=>up c o (λzz=>qc.zg (zz▸hc)) e)
  (e8.extBut _ _ (Dk zl) (e7.extBut _ _ (Dk zl) (lV _ rfl))) λc o c1 c2 c3 c4 e=>up c o c1 (k5 c o c1 c2 c3 c4 e)
def zme{Q:Fin->Shared->Prop}(qc:yJ z a b i j f g)(D1:Draws P w A i f n F1 S1)(hz:IsZip s.heap z a b .none)(ha:IsPair s.heap a (.ref i) (.ref j))(s1:S1 n s.heap)
  (q:∀h' e,(∀c o,c≠z->c≠b->c≠i->c≠j->s.heap.get? c=some o->h'.get? c=some o)->(∃o,h'.get? e=some o/\o.cls=.type "StopIteration")->E (.ref e) {s with heap:=h'}) :
  wpAny (model P w) A (Builtin.«zip.__next__» ⟨[.ref z],[]⟩) Q E s:=by
 show wpAny _ _ (field (.ref z) 2 >>= _) _ _ _;refine aP (YAI hz rfl (x:=.bool false) rfl ?_);show wpAny _ _ (field (.ref z) 3 >>= _) _ _ _;refine aP (YAI hz rfl (x:=.ref a) rfl (aP (wO ha rfl ?_)));show wpAny _ _ (Builtin.SmallTypes.ownedTupleIsFree (.ref z) >>= _) _ _ _;refine aP ?_;unfold Builtin.SmallTypes.ownedTupleIsFree;refine aP (YAI hz rfl (x:=.none) rfl (dO ?_));simp only[uU];refine aP (Ep (aP (YAI hz rfl (x:=.ref b) rfl (aP (Bu hz (by simp) λh1 z1 e1=>?_)))))
 replace z1:IsZip h1 z a b .ellipsis:=z1
 refine aP ?_;simp only[YCw,List.zipIdx_nil,YCh,List.forIn_nil];refine aP (aP (K1 ?_));show wpAny _ _ (Builtin.SmallTypes.nextOf (.ref i) >>= _) _ _ _;refine aP (D1.done _ _ _ (D1.frame _ _ _ s1 (tW e1 qc.zf)) λh2 e e2 he=>?_);obtain⟨oe,ho,hc⟩:=he;have z2:IsZip h2 z a b .ellipsis:=e2 _ _ qc.iz.symm z1;have ez:e≠z:=λx=>by subst x;rw[z2]at ho;cases ho;simp at hc
 refine Bu z2 (by simp) λh3 _ e3=>q h3 e (λc o c1 _ c3 _ x=>e3.extBut _ _ c1 (e2 _ _ c3 (e1.extBut _ _ c1 x))) ⟨oe,e3.extBut _ _ ez ho,hc⟩
def ziz{u v:Value}{Q:Option Value->Shared->Prop}(qc:yJ z a b i j f g)(D1:Draws P w A.in1 i f n F1 S1)(D2:Draws P w A.in1 j g m F2 S2)(hz:IsZip s.heap z a b .none)(ha:IsPair s.heap a (.ref i) (.ref j))(hb:IsPair s.heap b u v)
  (s1:S1 k s.heap) (s2:S2 k s.heap) (k1:k<n) (k2:k<m)
  (q:∀x y h' tk t,F1 k x->F2 k y->t=s.heap.objs.size->IsZip h' z a b (rawInt t)->IsPair h' b x y->S1 (k+1) h'->S2 (k+1) h'->IsPair h' t x y ->
   (∀c o,c≠z->c≠b->c≠i->c≠j->s.heap.get? c=some o->h'.get? c=some o)->Q (some (.ref t)) {s with heap:=h',toks:=tk}):wpAny (model P w) A (pyNext (.ref z)) Q E s:=by
 have hT:s.TypeIs (.ref z) "zip":=⟨_,hz,rfl⟩;unfold pyNext;exact aP (wpAny_attempt (YAV (name:=Str.ofString "__next__") hT Cu (Ca Cu hT YCx
  (zlX qc D1 D2 hz ha hb s1 s2 k1 k2 λx y h' tk t a1 a2 a3 a4 a5 a6 a7 a8 a9=>dO (q x y h' tk t a1 a2 a3 a4 a5 a6 a7 a8 a9)) (YCs _))))
def ziY(qc:yJ z a b i j f g)(D1:Draws P w A.in1 i f n F1 S1)(hz:IsZip s.heap z a b .none)(ha:IsPair s.heap a (.ref i) (.ref j))(s1:S1 n s.heap)
  (q:∀h',(∀c o,c≠z->c≠b->c≠i->c≠j->s.heap.get? c=some o->h'.get? c=some o)->Q none {s with heap:=h'}):wpAny (model P w) A (pyNext (.ref z)) Q E s:=by
 have hT:s.TypeIs (.ref z) "zip":=⟨_,hz,rfl⟩;refine aP (wpAny_attempt (YAV hT Cu (Ca Cu hT YCx (zme qc D1 hz ha s1 λh' e hk he=>?_) (YCs _))));obtain⟨o,ho,hc⟩:=he;exact aP (wpAny_isInstance ⟨o,ho,hc⟩ isSubtype_stop (dO (q _ hk)))
end
section
variable{X:Cx}{aa:List (Addr×Obj)}{U:St}{H:Hp}{s:Shared}{h':Heap}{ch:List Addr}{t':Nat}
def Inv.turnedLaid(I:Inv X aa U H s)(k:∀b u,b∉ch->s.heap.get? b=some u->h'.get? b=some u)(hf:∀b∈ch,iV X aa H b)(hp:s.heap.objs.size<=a)(new:cJ X.prog X.w (upd H a o) h' a o) :
  Inv X aa U (upd H a o) {s with heap:=h',toks:=t'}:=by
 have hn:=I.hok.fresh hp;have nch:∀b u,H b=some u->b∉ch:=λb u e z=>by rw[(hf b z).1]at e;cases e
 refine I.step (g':=s.gens) (d':=s.drawn) (λb hb=>⟨(hf b hb).2.2.2.1,(hf b hb).2.1,(hf b hb).2.2.2.2.1,(hf b hb).2.2.2.2.2⟩) (λb u _ _ hc e _=>k b u hc e) (λb u _ _ hc e _=>⟨u.slots,k b u hc e⟩)
  (λb u _ e n=>by rw[ao (iU (lg (dG e) hp))];exact n) (λb u hc e=>⟨u,k b u hc e⟩) (λb xs e=>by rw[ao (mW e hn)];exact e) (λb u xs e=>by rw[ao (mW e hn)];exact e)
  (λb ps e=>⟨#[],by rw[ao (mW e hn),e];simp⟩) (λm hm=>?_) (λb u e=>?_) I.bare
 .obtain⟨o,es,ep,ho,r⟩:=hm;exact⟨o,es,ep,k _ o (λz=>(hf _ z).2.1 rfl) ho,r⟩
 .by_cases hb:b=a
  .subst hb;rw[cG]at e;cases e;exact new
  .rw[ao hb]at e;refine(I.hok b u e).stay (λc v hc q=>k c v ?_ q) (λc q=>by rw[ao (mW q hn)];exact q) λc xs q=>by rw[ao (mW q hn)];exact q
   rcases hc with z|z
   .rw[z];exact nch b u e
   .exact nch c _ z
def Inv.turnedAll(I:Inv X aa U H s)(k:∀b u,b∉ch->s.heap.get? b=some u->h'.get? b=some u)(hf:∀b∈ch,iV X aa H b):Inv X aa U H {s with heap:=h',toks:=t'}:=by
 have nch:∀b u,H b=some u->b∉ch:=λb u e z=>by rw[(hf b z).1]at e;cases e
 refine I.step (g':=s.gens) (d':=s.drawn) (λb hb=>⟨(hf b hb).2.2.2.1,(hf b hb).2.1,(hf b hb).2.2.2.2.1,(hf b hb).2.2.2.2.2⟩) (λb u _ _ hc e _=>k b u hc e) (λb u _ _ hc e _=>⟨u.slots,k b u hc e⟩)
  (λ_ _ _ _ n=>n) (λb u hc e=>⟨u,k b u hc e⟩) (λ_ _ e=>e) (λ_ _ _ e=>e) (λb ps e=>⟨#[],by rw[e];simp⟩) (λm hm=>?_) (λb u e=>?_) I.bare
 .obtain⟨o,es,ep,ho,r⟩:=hm;exact⟨o,es,ep,k _ o (λz=>(hf _ z).2.1 rfl) ho,r⟩
 .refine(I.hok b u e).stay (λc v hc q=>k c v ?_ q) (λ_ q=>q) λ_ _ q=>q;rcases hc with z|z
  .rw[z];exact nch b u e
  .exact nch c _ z
end
def yg(tp:Bool)(h:Heap)(it l:Addr)(k:Nat):Prop:=match tp with|true=>h.IsTupleIter it l k|false=>h.IsListIter it l k
def rY(tp:Bool)(h:Heap)(l:Addr)(xs:Array Value):Prop:=match tp with|true=>h.IsTuple l xs|false=>h.IsList l xs
def SQ(tp:Bool)(K:qd)(H:Hp)(a:Addr)(xs:List V):Prop:=match tp with|true=>fM K H a xs|false=>cg K H a xs
def yg.obj(x:yg tp h it l k):∃o,h.get? it=some o/\∀v,o.data≠.cell v:=by
 cases tp<;>(obtain⟨o,e,c,d⟩:=x;exact⟨o,e,λv z=>by rw[d]at z;cases z⟩)
def yg.keep(x:yg tp h it l k)(q:∀o,h.get? it=some o->h'.get? it=some o):yg tp h' it l k:=by
 cases tp<;>(obtain⟨o,e,r⟩:=x;exact⟨o,q o e,r⟩)
def rY.lt(x:rY tp h l xs):l<h.objs.size:=by
 cases tp<;>(obtain⟨o,e,_⟩:=x;exact dG e)
def Gj(tp:Bool)(hh:A.handled=none)(it l:Addr)(hne:l≠it)(xs:Array Value) :
  Draws P w A it [it,l] xs.size (λi v=>xs[i]?=some v) (λi h=>yg tp h it l i/\rY tp h l xs):=by
 cases tp
 .exact Draws.list hh it l hne xs
 .exact zmH hh it l hne xs
section
variable{X:Cx}{aa:List (Addr×Obj)}{U:St}{H:Hp}{s:Shared}{tp:Bool}{a:Addr}{xs ys:List V}
def Inv.sq(I:Inv X aa U H s)(h:SQ tp X.K H a xs):∃its:List Value,Vals xs its/\rY tp s.heap a its.toArray/\xs.length<=sizeLine:=by
 cases tp
 .obtain⟨its,r,p,z⟩:=I.list h;exact⟨its,r,p.isList,z⟩
 .exact I.tuple h
def Inv.sq_inj(I:Inv X aa U H s)(h:SQ tp X.K H a xs)(h':SQ tp X.K H a ys):xs=ys:=by
 cases tp
 .exact I.list_inj h h'
 .exact I.tuple_inj h h'
end
def zvJ(n l m:Nat)(h1:l<n)(h2:m<n):yJ (n+4) (n+2) (n+3) n (n+1) [n,l] [n+1,m]:=by
 have e:∀{p q:Nat},p≠q->∀{r:Nat},p≠r->p∉[q,r]:=λ{p q} h {r} h' z=>by
  rcases eX.mp z with z|z
  .exact h z
  .exact h' (pI.mp z)
 have r:∀{p q:Nat},p<q\/q<p->(p:Addr)≠q:=λh=>h.elim iU λh=>(iU h).symm;exact⟨r (by omega),r (by omega),r (by omega),r (by omega),r (by omega),r (by omega),r (by omega),r (by omega),r (by omega),r (by omega),e (r (by omega)) (r (by omega)),e (r (by omega)) (r (by omega)),e (r (by omega)) (r (by omega)),e (r (by omega)) (r (by omega)),e (r (by omega)) (r (by omega)),e (r (by omega)) (r (by omega))⟩
theorem zgU:∀(more:List (Key×V))(kvs:List (Key×V)),(∀k∈more.map (·.1),k∉kvs.map (·.1))->(more.map (·.1)).Nodup->yI kvs more=kvs++more
 |[],kvs,_,_=>by unfold yI;simp
 |x::more,kvs,h,hn=>by
  rw[fj,yE]at hn;have hx:dR kvs x.1=none:=by
   cases e:dR kvs x.1 with
   |none=>rfl
   |some v=>exact absurd (zuW e) (h x.1 (by simp))
  show yI (putK kvs x.1 x.2) more=_;rw[zr9 _ hx,zgU more _ (λk hk q=>?_) hn.2,Fx]
  .rfl
  .rw[lY]at q;rcases rJ.mp q with q|q
   .exact h k (by exact fL _ hk) q
   .have:k=x.1:=by simpa using q
    exact hn.1 (this▸hk)
def zyh(h:An k u=true):RelV (kV k) u:=by
 rcases wk h with⟨i,t,rfl,rfl⟩|⟨x,t,rfl,rfl⟩
 .exact⟨t,rfl⟩
 .exact⟨t,rfl⟩
end L2
namespace HT
open PySem PySem.Spec PyProof.Rows
section
variable{prog:Program}{w:World}{A:Around}{E:Value->Shared->Prop}{s:Shared}
def jb{t sl:Addr}{items:Array Value}{vl vu:Value}{lo hi:Option Int}{Q:Value->Shared->Prop}(ht:IsTup s.heap t items)(hs:s.heap.IsSliceOf sl vl vu .none)(pl:IsPart vl lo)(pu:IsPart vu hi)
  (hw:cM items.size 0 lo=0/\cM items.size items.size hi=items.size)
  (h:Q (.ref t) s):wpAny (model prog w) A (getItem (.ref t) (.ref sl)) Q E s:=by
 obtain⟨os,hos,hcs,hds⟩:=id hs;have hTs:s.TypeIs (.ref sl) "slice":=⟨os,hos,hcs⟩;unfold getItem
 try with_reducible refine YAU ?_
 first|refine aP _|skip
 refine aP (wpAny_sequenceKey ht.typeIs (by decide) ?_);refine aP (YAV ht.typeIs YAP
  (Ca YAP ht.typeIs entry_tuple_getitem ?_ (args_tuple_getitem _ _)))
 show wpAny _ _ (Builtin.Tuple.tupleItemsOf _ >>= _) _ _ s;refine aP (tupleItemsOf_ ht ?_);refine aP (wpAny_typeOf hTs ?_);refine aP (zeZ hs pl pu ?_);have hyes:((((cM items.size 0 lo:Nat):Int)==0&&(1:Int)==1&&(cM items.size items.size hi-cM items.size 0 lo)==items.size)=true):=by
  rw[hw.1,hw.2];simp
 show wpAny _ _ (if _=true then _ else _) _ _ s;rw[if_pos hyes];refine aP (aP (wpAny_typeOf ht.typeIs (dO ?_)));refine aP (Ep ?_);exact dO ⟨_,rfl,dO h⟩
end
end HT
namespace L2
open PySem PySem.Spec PyProof.Rows
section
variable{prog:Program}{w:World}{A:Around}{E:Value->Shared->Prop}{s:Shared}
theorem ziH(hne:t≠it):∀(n i:Nat)(s:Shared)(Q:List Value->Shared->Prop),s.heap.IsListIter it t i->s.heap.IsList t items->i+n<=items.size ->
  (∀h',h'.IsListIter it t (i+n)->Heap.SameBut it s.heap h'->Q ((items.toList.drop i).take n) {s with heap:=h'})->wpAny (model prog w) A (draw (.ref it) n) Q E s
 |0,i,s,Q,hit,_,_,hQ=>by
  exact dO (by simpa using hQ s.heap hit (Heap.SameBut.refl ..))
 |n+1,i,s,Q,hit,ht,hle,hQ=>by
  have hlt:i<items.size:=by omega
  refine aP (wpAny_pyNext_list_item hit ht (x:=items[i]) (by simp[hlt]) λh₁ hit₁ hs₁=>?_);refine aP (YAU (ziH hne n _ _ _ hit₁ (ht.extBut hs₁.extBut hne) (by omega) λh₂ hit₂ hs₂=>dO ?_));have hd:items.toList.drop i=items[i]::items.toList.drop (i+1):=by simp[K5,hlt]
  have:=hQ h₂ (by rw[show i+_=i+1+n by omega];exact hit₂) (hs₁.trans hs₂)
  rw[hd]at this;exact this
def zhV(hh:A.handled=none)(ht:s.heap.IsList t items)
  (hQ:∀h',Heap.ExtBut s.heap.objs.size s.heap h'->Q items.toList {s with heap:=h'}):wpAny (model prog w) A (unpackItems (.ref t) items.size none) Q E s:=by
 have hlt:t≠s.heap.objs.size:=by obtain⟨o,ho,_⟩:=ht;exact iU (dG ho)
 refine aP ?_
 .unfold notIterableAtAll;refine aP (YCA ht.typeIs slot_list_iter.lookup ?_);refine dO (aP (YAU (Kg ht ?_)));have ht0:=ht.push {cls:=.type "list_iterator",data:=.fields #[.ref t,.int 0 0]};refine aP (YAU (ziH hlt items.size 0 _ _ ⟨_,lV _ rfl,rfl,rfl⟩ ht0 (by omega) λh₁ hit₁ hs₁=>?_));have hall:List.take items.size (List.drop 0 items.toList)=items.toList:=by
   rw[YCJ];exact Hc (by simp)
  rw[hall];rw[if_neg (by simp)];have ht₁:=ht0.extBut hs₁.extBut hlt;refine aP (YAU (wpAny_pyNext_list_end hh hit₁ ht₁ (by simp) λh₂ he₂=>?_));refine dO (hQ h₂ λb o hb e=>he₂ b o hb (hs₁.extBut b o hb (fG _ e)))
def zhc{x1}(hh:A.handled=none)(ht:s.heap.IsList t items)
  (hn:(assignEach elts env).length=items.size) (hstar:(assignEach elts env).findIdx? (·.1)=none)
  (h:∀h',Heap.ExtBut s.heap.objs.size s.heap h'->wpAny (model prog w) A (assignInOrder ((assignEach elts env).map (·.2)) items.toList) Q E {s with heap:=h'}) :
  wpAny (model prog w) A (assign (.Tuple elts x1 pos) env (.ref t)) Q E s:=by
 refine aP (Ed ?_);unfold unpack;rw[hn,hstar];exact aP (YAU (zhV hh ht h))
end
def xV(K:qd)(n:Nat)(t:uc):TG:=λv U H Q=>∃a xs,v=.ref a/\(fM K H a xs\/cg K H a xs)/\xs.length=n/\t xs U H Q
def mO(hc:X.calm=true)(h:JR X es t)
  (hn:(assignEach es X.env).length=n:=by rfl) (hst:(assignEach es X.env).findIdx? (·.1)=none:=by rfl):PG X (.Tuple es k pos) (xV X.K n t):=by
 intro aa s U H v u Q I r hw;obtain⟨a,xs,e1,hq,hl,hw⟩:=hw;rcases hq with hq|hq
 .exact zvM hc h hn hst aa s U H v u Q I r ⟨a,xs,e1,hq,hl,hw⟩
 .subst e1;cases r;obtain⟨its,rv,ht,hz⟩:=I.list hq;refine zhc (I.ok.hd hc) ht.isList (by simp[hn,<-hl,rv.length]) hst λh' hx=>?_;have I1:=I.kept (t':=s.toks) λb o e=>hx b o (iU (dG e)) e;exact h aa _ U H xs _ Q I1 (by simpa using rv) hw
def zxF{K:qd}{n:Nat}{t:uc}(h:Dz t):wF (xV K n t):=λv U H Q Q' f ⟨a,xs,e,s,l,q⟩=>⟨a,xs,e,s,l,h _ _ _ _ _ f q⟩
def zv1{K:qd}{sub:List (Option Nat)}{n:Nat}{t:uc}(h:Hy sub t):yR sub (xV K n t):=λv U H Q ⟨a,xs,e,s,l,q⟩=>⟨a,xs,e,s,l,h _ _ _ _ q⟩
section
variable{P:Program}{w:World}{A:Around}{E:Value->Shared->Prop}{s:Shared}{z a b i j:Addr}{f g:List Addr}{n m k:Nat}{F1 F2:Nat->Value->Prop}{S1 S2:Nat->Heap->Prop}
def zkw(qc:yJ z a b i j f g)(D1:Draws P w A i f n F1 S1)(D2:Draws P w A j g m F2 S2)(hz:IsZip s.heap z a b .none)(ha:IsPair s.heap a (.ref i) (.ref j))(hb:IsPair s.heap b u v)
  (s1:S1 m s.heap) (s2:S2 m s.heap) (k1:m<n)
  (q:∀h' tk e,(∀c o,c≠z->c≠b->c≠i->c≠j->s.heap.get? c=some o->h'.get? c=some o)->(∃o,h'.get? e=some o/\o.cls=.type "StopIteration")->E (.ref e) {s with heap:=h',toks:=tk}) :
  wpAny (model P w) A (Builtin.«zip.__next__» ⟨[.ref z],[]⟩) Q E s:=by
 show wpAny _ _ (field _ 2 >>= _) _ _ _;refine aP (YAI hz rfl rfl ?_);show wpAny _ _ _ _ _ _;refine aP (YAI hz rfl rfl (aP (wO ha rfl ?_)));show wpAny _ _ _ _ _ _;refine aP ?_;refine aP (YAI hz rfl rfl (dO ?_));simp only[uU];refine aP (Ep (aP (YAI hz rfl rfl (aP (Bu hz (by simp) λh1 z1 e1=>?_)))))
 replace z1:IsZip h1 z a b .ellipsis:=z1
 refine aP ?_;simp only[YCw];refine aP (aP (K1 ?_));show wpAny _ _ _ _ _ _;have t1:=D1.frame _ _ _ s1 (tW e1 qc.zf);have t2:=D2.frame _ _ _ s2 (tW e1 qc.zg);refine aP (D1.item m _ _ _ k1 t1 λx h2 tk2 px u1 e2=>dO ?_);have b2:=e2.extBut _ _ qc.bi (e1.extBut _ _ qc.bz hb);refine aP (wO b2 rfl (aP (YB8 b2 λh3 b3 e3=>?_)))
 replace b3:IsPair h3 b x v:=b3
 refine aP (wpAny_letGo (dO ?_));refine aP (aP (K1 ?_));show wpAny _ _ _ _ _ _;have t3:=D2.frame _ _ _ (D2.frame _ _ _ t2 (tW e2 qc.ig)) (tW e3 qc.bg);refine aP (D2.done _ _ _ t3 λh4 e e4 he=>?_);obtain⟨oe,ho,hc⟩:=he;have z3:=e3.extBut _ _ qc.bz.symm (e2.extBut _ _ qc.iz.symm z1);have z4:=e4 _ _ qc.jz.symm z3;have ez:e≠z:=λx=>by subst x;rw[z4]at ho;cases ho;simp at hc
 refine Bu z4 (by simp) λh5 _ e5=>q h5 tk2 e (λc o c1 c2 c3 c4 x=>e5.extBut _ _ c1 (e4 _ _ c4 (e3.extBut _ _ c2 (e2.extBut _ _ c3 (e1.extBut _ _ c1 x))))) ⟨oe,e5.extBut _ _ ez ho,hc⟩
def zhW(qc:yJ z a b i j f g)(D1:Draws P w A.in1 i f n F1 S1)(D2:Draws P w A.in1 j g m F2 S2)(hz:IsZip s.heap z a b .none)(ha:IsPair s.heap a (.ref i) (.ref j))(hb:IsPair s.heap b u v)(s1:S1 m s.heap)(s2:S2 m s.heap)(k1:m<n)
  (q:∀h' tk,(∀c o,c≠z->c≠b->c≠i->c≠j->s.heap.get? c=some o->h'.get? c=some o)->Q none {s with heap:=h',toks:=tk}):wpAny (model P w) A (pyNext (.ref z)) Q E s:=by
 have hT:s.TypeIs (.ref z) "zip":=⟨_,hz,rfl⟩;unfold pyNext;refine aP (wpAny_attempt (YAV (name:=Str.ofString "__next__") hT Cu (Ca Cu hT YCx (zkw qc D1 D2 hz ha hb s1 s2 k1 λh' tk e hk he=>?_) (YCs _))));obtain⟨o,ho,hc⟩:=he;exact aP (wpAny_isInstance (T:="StopIteration") (b:=true) ⟨o,ho,hc⟩ isSubtype_stop (dO (q _ _ hk)))
end
section
variable{X:Cx}
def zxK(K:qd):R2:=λx y H Q=>∃a b xs ys,x=.ref a/\y=.ref b/\fM K H a xs/\fM K H b ys/\xs.length+ys.length<=sizeLine /\
 (xs=[]->Q (.ref b) H)/\(xs≠[]->ys=[]->Q (.ref a) H)/\(∀p,H p=none->Q (.ref p) (upd H p (.tup (xs++ys))))
def zvj:gP X (binaryOp .Add) (zxK X.K):=by
 intro aa s U H x y v u Q I rx ry h;obtain⟨a,b,xs,ys,rfl,rfl,ha,hb,hz,q1,q2,q3⟩:=h;by_cases hx:xs=[]
 .subst hx;cases rx;cases ry;obtain⟨its,r1,p1,_⟩:=I.tuple ha;obtain⟨its2,r2,p2,_⟩:=I.tuple hb;obtain⟨⟨cls,dd,data,sl⟩,ho,hc,n,hd⟩:=id p1;obtain⟨⟨cls2,dd2,data2,sl2⟩,ho2,hc2,n2,hd2⟩:=id p2;subst hc hd hc2 hd2;have hi:=r1.nil_iff.mpr rfl;exact concat_meets ⟨_,ho,rfl⟩ ⟨_,ho2,rfl⟩ YCv seq_tuple_add YBY YBT (YBM _ _)
   (tuple_addW0 a b its.toArray its2.toArray n n2 dd dd2 sl sl2 (by simp[hi])) ⟨ho,ho2,⟨.ref b,H,I,rfl,q1 rfl⟩⟩
 .exact zuv aa s U H _ _ v u Q I rx ry ⟨a,b,xs,ys,rfl,rfl,ha,hb,hx,hz,q2 hx,λ_ p hp=>q3 p hp⟩
def rSl3(K:qd):V->Option Int->Option Int->Hp->VK->Prop:=λx lo hi H Q=>∃a xs,x=.ref a/\fM K H a xs/\(lJ xs lo hi=xs->Q (.ref a) H)/\∀p,H p=none->Q (.ref p) (upd H p (.tup (lJ xs lo hi)))
def zvg:xK X (rSl3 X.K):=by
 intro aa s U H x v vl vu lo hi sl Q I rx hs pl pu h;obtain⟨a,xs,rfl,hx,q1,q2⟩:=h;by_cases hw:HT.cM xs.length 0 lo=0/\HT.cM xs.length xs.length hi=xs.length
 .cases rx;obtain⟨its,r,ht,hz⟩:=I.tuple hx;have hlen:its.toArray.size=xs.length:=r.length.symm;refine⟨"tuple",_,YAP.lookup,ht.typeIs,?_⟩;refine HT.jb ht hs pl pu (by rw[hlen];exact hw) (⟨.ref a,H,I,rfl,q1 ?_⟩);unfold lJ;rw[hw.1,hw.2];simp
 .exact zvy aa s U H _ v vl vu lo hi sl Q I rx hs pl pu ⟨a,xs,rfl,hx,hw,q2⟩
end
end L2
namespace Fd
open PySem L2
inductive D where
 |non|bl (b:Bool)|int (i:Int)|str (x:Str)|tup (xs:List D)|lst (n:Bool) (xs:List D)|box|dct (n:Bool) (ks:List Str) (xs:List D)|obj (a:Addr)|fdc (ks:List Str) (xs:List D)
def jG(ks:List Str)(vs:List V):List (Key×V):=(ks.zip vs).map λp=>(Sum.inr p.1,p.2)
structure Bk where
 K:qd
 β:Addr
 H0:Hp
 G0:Hp
 P:Prop
mutual
def Rep(c:Bk)(G:Hp):D->V->Prop
 |.non,v=>v=.non
 |.bl b,v=>v=.bl b
 |.int i,v=>v=.int i
 |.str x,v=>v=.str x
 |.tup xs,v=>∃a vs,v=.ref a/\fM c.K G a vs/\aC c G xs vs
 |.lst n xs,v=>∃a vs,v=.ref a/\G a=some (.lst vs)/\(n=true->c.H0 a=none)/\aC c G xs vs
 |.box,v=>v=.ref c.β
 |.dct n ks xs,v=>∃a vs,v=.ref a/\G a=some (.dK (jG ks vs))/\(n=true->c.H0 a=none)/\ks.length=vs.length/\aC c G xs vs
 |.fdc ks xs,v=>∃a vs o,v=.ref a/\G a=some (.pG o (.dK (jG ks vs)))/\ks.length=vs.length/\aC c G xs vs
 |.obj a,v=>v=.ref a
def aC(c:Bk)(G:Hp):List D->List V->Prop
 |[],vs=>vs=[]
 |x::xs,vs=>∃v ws,vs=v::ws/\Rep c G x v/\aC c G xs ws
end
def qI(e:Same H H')(h:fM K H a xs):fM K H' a xs:=by
 rcases h with h|h
 .rcases h with h|⟨o,h⟩
  .exact .inl (.inl (e _ _ h))
  .exact .inl (.inr ⟨o,e _ _ h⟩)
 .exact .inr h
mutual
theorem Rep.mono(e:Same G G'):∀{d:D}{v:V},Rep c G d v->Rep c G' d v
 |.non,_,h=>h
 |.bl _,_,h=>h
 |.int _,_,h=>h
 |.str _,_,h=>h
 |.box,_,h=>h
 |.obj _,_,h=>h
 |.dct n ks xs,_,⟨a,vs,h1,h2,h4,h5,h3⟩=>⟨a,vs,h1,e _ _ h2,h4,h5,aC.mono e h3⟩
 |.fdc ks xs,_,⟨a,vs,o,h1,h2,h5,h3⟩=>⟨a,vs,o,h1,e _ _ h2,h5,aC.mono e h3⟩
 |.tup xs,_,⟨a,vs,h1,h2,h3⟩=>⟨a,vs,h1,qI e h2,aC.mono e h3⟩
 |.lst n xs,_,⟨a,vs,h1,h2,h4,h3⟩=>⟨a,vs,h1,e _ _ h2,h4,aC.mono e h3⟩
theorem aC.mono(e:Same G G'):∀{ds:List D}{vs:List V},aC c G ds vs->aC c G' ds vs
 |[],_,h=>h
 |_::_,_,⟨v,ws,h1,h2,h3⟩=>⟨v,ws,h1,Rep.mono e h2,aC.mono e h3⟩
end
def D.old:D->D
 |.non=>.non
 |.bl b=>.bl b
 |.int i=>.int i
 |.str x=>.str x
 |.box=>.box
 |.obj a=>.obj a
 |.dct _ ks xs=>.dct false ks (xs.map D.old)
 |.fdc ks xs=>.fdc ks (xs.map D.old)
 |.tup xs=>.tup (xs.map D.old)
 |.lst _ xs=>.lst false (xs.map D.old)
mutual
/-- handed on to another call -/
theorem Rep.hand(hk:c.K=c'.K)(hb:c.β=c'.β):∀{d:D}{v:V},Rep c G d v->Rep c' G d.old v
 |.non,_,h=>by unfold D.old;exact h
 |.bl _,_,h=>by unfold D.old;exact h
 |.int _,_,h=>by unfold D.old;exact h
 |.str _,_,h=>by unfold D.old;exact h
 |.box,_,h=>by unfold D.old;show _=V.ref c'.β;rw[<-hb];exact h
 |.obj _,_,h=>by unfold D.old;exact h
 |.dct n ks xs,_,⟨a,vs,h1,h2,h4,h5,h3⟩=>by unfold D.old;exact⟨a,vs,h1,h2,(λz=>by cases z),h5,aC.hand hk hb h3⟩
 |.fdc ks xs,_,⟨a,vs,o,h1,h2,h5,h3⟩=>by unfold D.old;exact⟨a,vs,o,h1,h2,h5,aC.hand hk hb h3⟩
 |.tup xs,_,⟨a,vs,h1,h2,h3⟩=>by unfold D.old;exact⟨a,vs,h1,hk▸h2,aC.hand hk hb h3⟩
 |.lst n xs,_,⟨a,vs,h1,h2,h4,h3⟩=>by unfold D.old;exact⟨a,vs,h1,h2,(λz=>by cases z),aC.hand hk hb h3⟩
theorem aC.hand(hk:c.K=c'.K)(hb:c.β=c'.β):∀{ds:List D}{vs:List V},aC c G ds vs->aC c' G (ds.map D.old) vs
 |[],_,h=>h
 |_::_,_,⟨v,ws,h1,h2,h3⟩=>⟨v,ws,h1,Rep.hand hk hb h2,aC.hand hk hb h3⟩
end
mutual
/-- and back: what is newer than the inner call is newer than the outer one -/
theorem Rep.back(hk:c'.K=c.K)(hb:c'.β=c.β)(hn:∀a,c'.H0 a=none->c.H0 a=none):∀{d:D}{v:V},Rep c' G d v->Rep c G d v
 |.non,_,h=>h
 |.bl _,_,h=>h
 |.int _,_,h=>h
 |.str _,_,h=>h
 |.box,_,h=>by show _=V.ref c.β;rw[<-hb];exact h
 |.obj _,_,h=>h
 |.dct n ks xs,_,⟨a,vs,h1,h2,h4,h5,h3⟩=>⟨a,vs,h1,h2,λz=>hn a (h4 z),h5,aC.back hk hb hn h3⟩
 |.fdc ks xs,_,⟨a,vs,o,h1,h2,h5,h3⟩=>⟨a,vs,o,h1,h2,h5,aC.back hk hb hn h3⟩
 |.tup xs,_,⟨a,vs,h1,h2,h3⟩=>⟨a,vs,h1,hk▸h2,aC.back hk hb hn h3⟩
 |.lst n xs,_,⟨a,vs,h1,h2,h4,h3⟩=>⟨a,vs,h1,h2,λz=>hn a (h4 z),aC.back hk hb hn h3⟩
theorem aC.back(hk:c'.K=c.K)(hb:c'.β=c.β)(hn:∀a,c'.H0 a=none->c.H0 a=none):∀{ds:List D}{vs:List V},aC c' G ds vs->aC c G ds vs
 |[],_,h=>h
 |_::_,_,⟨v,ws,h1,h2,h3⟩=>⟨v,ws,h1,Rep.back hk hb hn h2,aC.back hk hb hn h3⟩
end
theorem aC.length :∀{ds:List D}{vs:List V},aC c G ds vs->ds.length=vs.length
 |[],_,h=>by cases h;rfl
 |_::_,_,⟨v,ws,h1,_,h3⟩=>by subst h1;simp[aC.length h3]
theorem aC.get :∀{ds:List D}{vs:List V}{i:Nat}{d:D},aC c G ds vs->ds[i]?=some d->∃v,vs[i]?=some v/\Rep c G d v
 |[],_,_,_,_,e=>by simp at e
 |_::_,_,0,_,⟨v,ws,h1,h2,_⟩,e=>by subst h1;simp at e;subst e;exact⟨v,rfl,h2⟩
 |_::_,_,i+1,d,⟨v,ws,h1,_,h3⟩,e=>by subst h1;exact aC.get (i:=i) h3 (by simpa using e)
theorem aC.append :∀{ds es:List D}{vs ws:List V},aC c G ds vs->aC c G es ws->aC c G (ds++es) (vs++ws)
 |[],_,_,_,h,k=>by cases h;exact k
 |_::_,_,_,_,⟨v,us,h1,h2,h3⟩,k=>by subst h1;exact⟨v,us++_,rfl,h2,aC.append h3 k⟩
def aC.one(h:Rep c G d v):aC c G [d] [v]:=⟨v,[],rfl,h,rfl⟩
theorem aC.take :∀{ds:List D}{vs:List V}(i:Nat),aC c G ds vs->aC c G (ds.take i) (vs.take i)
 |[],_,_,k=>by cases k;simp[aC]
 |_::_,_,0,_=>by simp[aC]
 |_::_,_,i+1,⟨u,us,h1,h2,h3⟩=>by subst h1;exact⟨u,us.take i,rfl,h2,aC.take i h3⟩
theorem aC.drop :∀{ds:List D}{vs:List V}(i:Nat),aC c G ds vs->aC c G (ds.drop i) (vs.drop i)
 |[],_,_,k=>by cases k;simp[aC]
 |_::_,_,0,k=>k
 |_::_,_,i+1,⟨u,us,h1,h2,h3⟩=>by subst h1;exact aC.drop i h3
theorem jo :∀{ns:List Bool}{vs:List V},aC c G (ns.map D.bl) vs↔vs=ns.map V.bl
 |[],_=>Iff.rfl
 |n::ns,vs=>by
  constructor
  .rintro⟨v,ws,h1,h2,h3⟩;rw[h1,jo.mp h3]
   have:v=V.bl n:=h2
   rw[this];rfl
  .rintro rfl;exact⟨V.bl n,ns.map V.bl,rfl,rfl,jo.mpr rfl⟩
def uX(cc:Addr)(p r d:Int):HO:=.lst [.ref cc,.int p,.int r,.int d]
structure fU(β:Addr)(H G:Hp):Prop where
 ex:∃cc p r d,∃ns:List Int,H β=some (uX cc p r d)/\0<=p/\0<=r/\0<=d/\d<2147483629/\G cc=some (.lst (ns.map V.int))/\ns.length<=63
 still:G β=none
def fU.at(b:fU β H G):∃o,H β=some o:=by
 obtain⟨cc,p,r,d,ns,h,_⟩:=b.ex;exact⟨_,h⟩
def wH:HO->Prop
 |.tup _=>True
 |.pG _ _=>True
 |_=>False
structure aY(β:Addr)(H G H' G':Hp):Prop where
 gg:Same G G'
 gh:Same G' H'
 fr:∀a o,a≠β->H a=some o->H' a=some o
 nw:∀a,G' a≠none->G a≠none\/H a=none\/∃o,H a=some o/\wH o
 bx:fU β H' G'
 b0:H β≠none
 bc:∀cc p r d,H β=some (uX cc p r d)->∃p r d,H' β=some (uX cc p r d)
theorem aY.refl(gh:Same G H)(b:fU β H G):aY β H G H G:=
 ⟨Same.refl _,gh,λ_ _ _ e=>e,λ_ e=>.inl e,b,λz=>by(obtain⟨o,h⟩:=b.at;rw[z]at h;cases h),λ_ p r d h=>⟨p,r,d,h⟩⟩
def aY.free(s:aY β H G H' G')(h:H' a=none):H a=none:=by
 cases e:H a with
 |none=>rfl
 |some o=>
  by_cases z:a=β
  .obtain⟨o',h'⟩:=s.bx.at;rw[z,h']at h;cases h
  .rw[s.fr a o z e]at h;cases h
theorem aY.trans(s:aY β H G H1 G1)(t:aY β H1 G1 H2 G2):aY β H G H2 G2:=
 ⟨s.gg.trans t.gg,t.gh,λa o n e=>t.fr a o n (s.fr a o n e),λa e=>(t.nw a e).elim (s.nw a) λz=>z.elim (λz=>.inr (.inl (s.free z))) λ⟨o,ho,st⟩=>by
  cases e:H a with
  |none=>exact .inr (.inl rfl)
  |some o'=>
   have nb:a≠β:=λz=>by
    obtain⟨cc,p,r,d,ns,h,_⟩:=s.bx.ex;rw[z,h]at ho;cases ho;exact st
   have:=s.fr a o' nb e
   rw[ho]at this;cases this;exact .inr (.inr ⟨o,rfl,st⟩),t.bx,s.b0,λcc p r d h=>by
  obtain⟨p1,r1,d1,h1⟩:=s.bc cc p r d h;exact t.bc cc p1 r1 d1 h1⟩
def fU.new(b:fU β H G)(hl:H l=none):fU β (upd H l o) G:=by
 obtain⟨cc,p,r,d,ns,h,q⟩:=b.ex;exact⟨⟨cc,p,r,d,ns,by rw[ao (mW h hl)];exact h,q⟩,b.still⟩
def zr4(gh:Same G H)(hl:H l=none):Same G (upd H l o):=λa u e=>by
 rw[ao (mW (gh a u e) hl)];exact gh a u e
def aY.own(gh:Same G H)(b:fU β H G)(hl:H l=none):aY β H G (upd H l o) G:=
 ⟨Same.refl _,zr4 gh hl,λa u _ e=>by rw[ao (mW e hl)];exact e,λ_ e=>.inl e,b.new hl,λz=>by(obtain⟨o,h⟩:=b.at;rw[z]at h;cases h),λcc p r d h=>⟨p,r,d,by rw[ao (mW h hl)];exact h⟩⟩
def lU(gh:Same G H)(hl:H l=none):G l=none:=gh.free hl
theorem aY.still(s:aY β H G H' G')(h':H' l=some o)(h0:H l=none)(hb:l≠β)(hg:G' l=none):aY β H G H' (upd G' l o):=
 ⟨s.gg.trans λa u e=>by rw[ao (mW e hg)];exact e,
 λa u e=>by
  by_cases z:a=l
  .subst z;rw[cG]at e;rw[h'];exact e
  .rw[ao z]at e;exact s.gh a u e,
 s.fr,λa e=>by
  by_cases z:a=l
  .subst z;exact .inr (.inl h0)
  .rw[ao z]at e;exact s.nw a e,
 ⟨by
   obtain⟨cc,p,r,d,ns,h,p1,p2,p3,p4,hc,q⟩:=s.bx.ex;exact⟨cc,p,r,d,ns,h,p1,p2,p3,p4,by rw[ao (mW hc hg)];exact hc,q⟩,by rw[ao (YAD hb)];exact s.bx.still⟩,s.b0,s.bc⟩
def aY.new(gh:Same G H)(b:fU β H G)(hl:H l=none):aY β H G (upd H l o) (upd G l o):=by
 have hb:l≠β:=λz=>by obtain⟨o,h⟩:=b.at;rw[<-z,hl]at h;cases h
 exact(aY.own gh b hl).still cG hl hb (lU gh hl)
def lD(hg:G l=none):Same G (upd G l o):=λa u e=>by rw[ao (mW e hg)];exact e
inductive Sl where
 |un|val (d:D)|own (xs:List D)|dic (ks:List Str) (xs:List D)
abbrev Env:=List Sl
def xP(c:Bk)(H G:Hp):Sl->Option (Option V)->Prop
 |.un,_=>True
 |.val d,o=>∃v,o=some (some v)/\Rep c G d v
 |.own xs,o=>∃a vs,o=some (some (.ref a))/\H a=some (.lst vs)/\G a=none/\c.H0 a=none/\a≠c.β/\aC c G xs vs
 |.dic ks xs,o=>∃a vs,o=some (some (.ref a))/\H a=some (.dK (jG ks vs))/\G a=none/\c.H0 a=none/\a≠c.β/\aC c G xs vs/\ks.length=vs.length
structure Rel(c:Bk)(Z:Env)(U:St)(H G:Hp):Prop where
 len:Z.length=U.length
 stp:aY c.β c.H0 c.G0 H G
 slot:∀(i:Nat) s,Z[i]?=some s->xP c H G s U[i]?
 dis:∀(i j:Nat) a xs ys,Z[i]?=some (.own xs)->Z[j]?=some (.own ys)->U[i]?=some (some (.ref a))->U[j]?=some (some (.ref a))->i=j
 kn:c.P
theorem Rel.gh(r:Rel c Z U H G):Same G H:=r.stp.gh
theorem Rel.bx(r:Rel c Z U H G):fU c.β H G:=r.stp.bx
theorem Rel.refl(r:Rel c Z U H G):aY c.β H G H G:=aY.refl r.gh r.bx
def xP.step(t:aY c.β H G H' G'):∀{s:Sl}{o:Option (Option V)},xP c H G s o->xP c H' G' s o
 |.un,_,_=>trivial
 |.val d,_,⟨v,h1,h2⟩=>⟨v,h1,h2.mono t.gg⟩
 |.own xs,_,⟨a,vs,h1,h2,h3,h4,h5,h6⟩=>⟨a,vs,h1,t.fr a _ h5 h2,(by
   cases e:G' a with
   |none=>rfl
   |some o=>
    rcases t.nw a (by rw[e];simp)with z|z|⟨o',z,st⟩
    .exact absurd h3 z
    .rw[h2]at z;cases z
    .rw[h2]at z;cases z;exact st.elim),h4,h5,h6.mono t.gg⟩
 |.dic ks xs,_,⟨a,vs,h1,h2,h3,h4,h5,h6,h7⟩=>⟨a,vs,h1,t.fr a _ h5 h2,(by
   cases e:G' a with
   |none=>rfl
   |some o=>
    rcases t.nw a (by rw[e];simp)with z|z|⟨o',z,st⟩
    .exact absurd h3 z
    .rw[h2]at z;cases z
    .rw[h2]at z;cases z;exact st.elim),h4,h5,h6.mono t.gg,h7⟩
theorem Rel.step(r:Rel c Z U H G)(t:aY c.β H G H' G'):Rel c Z U H' G':=
 ⟨r.len,r.stp.trans t,λi s e=>(r.slot i s e).step t,r.dis,r.kn⟩
def Rel.put(r:Rel c Z U H G)(h:Rep c G d v):Rel c (Z.set i (.val d)) (U.set i (some v)) H G:=by
 refine⟨by simp[r.len],r.stp,λj s e=>?_,λj k a xs ys e1 e2 e3 e4=>?_,r.kn⟩
 .by_cases z:i=j
  .subst z;have hi:i<Z.length:=by have:=(nW.mp e).1;simpa using this
   rw[pZ hi]at e;cases e;exact⟨v,by rw[pZ (by rw[<-r.len];exact hi)],h⟩
  .rw[mY z]at e ⊢;exact r.slot j s e
 .have nj:i≠j:=λz=>by
   subst z;have hi:i<Z.length:=by have:=(nW.mp e1).1;simpa using this
   rw[pZ hi]at e1;cases e1
  have nk:i≠k:=λz=>by
   subst z;have hi:i<Z.length:=by have:=(nW.mp e2).1;simpa using this
   rw[pZ hi]at e2;cases e2
  rw[mY nj]at e1 e3;rw[mY nk]at e2 e4;exact r.dis j k a xs ys e1 e2 e3 e4
def Rel.putOwn(r:Rel c Z U H G)(hl:H l=some (.lst vs))(hg:G l=none)(h0:c.H0 l=none)(hb:l≠c.β)(h:aC c G xs vs)
  (hn:∀(j:Nat) ys,Z[j]?=some (.own ys)->U[j]?≠some (some (.ref l))):Rel c (Z.set i (.own xs)) (U.set i (some (.ref l))) H G:=by
 refine⟨by simp[r.len],r.stp,λj s e=>?_,λj k a xs' ys e1 e2 e3 e4=>?_,r.kn⟩
 .by_cases z:i=j
  .subst z;have hi:i<Z.length:=by have:=(nW.mp e).1;simpa using this
   rw[pZ hi]at e;cases e;exact⟨l,vs,by rw[pZ (by rw[<-r.len];exact hi)],hl,hg,h0,hb,h⟩
  .rw[mY z]at e ⊢;exact r.slot j s e
 .by_cases zj:i=j
  .by_cases zk:i=k
   .exact zj.symm.trans zk
   .subst zj;have hi:i<Z.length:=by have:=(nW.mp e1).1;simpa using this
    rw[pZ (by rw[<-r.len];exact hi)]at e3;cases e3;rw[mY zk]at e2 e4;exact absurd e4 (hn k ys e2)
  .by_cases zk:i=k
   .subst zk;have hi:i<Z.length:=by have:=(nW.mp e2).1;simpa using this
    rw[pZ (by rw[<-r.len];exact hi)]at e4;cases e4;rw[mY zj]at e1 e3;exact absurd e3 (hn j xs' e1)
   .rw[mY zj]at e1 e3;rw[mY zk]at e2 e4;exact r.dis j k a xs' ys e1 e2 e3 e4
def Rel.write(r:Rel c Z U H G)(hi:Z[i]?=some (.own xs))(hs:U[i]?=some (some (.ref l)))(h:aC c G ys ws) :
  Rel c (Z.set i (.own ys)) U (upd H l (.lst ws)) G:=by
 obtain⟨a,vs,h1,h2,h3,h4,h5,h6⟩:=r.slot i _ hi;rw[hs]at h1;cases h1;have hil:i<Z.length:=(nW.mp hi).1;refine⟨by simp[r.len],⟨r.stp.gg,λb u e=>?_,λb u n e=>?_,r.stp.nw,?_,r.stp.b0,λcc p q d e=>by
  obtain⟨p',q',d',e'⟩:=r.stp.bc cc p q d e;exact⟨p',q',d',by rw[ao (YAD h5)];exact e'⟩⟩,λj s e=>?_,λj k b xs' ys' e1 e2 e3 e4=>?_,r.kn⟩
 .rw[ao (λz=>by rw[z,h3]at e;cases e)];exact r.gh b u e
 .rw[ao (λz=>by rw[z,h4]at e;cases e)];exact r.stp.fr b u n e
 .obtain⟨cc,p,q,d,ns,e,z⟩:=r.bx.ex;exact⟨⟨cc,p,q,d,ns,by rw[ao (YAD h5)];exact e,z⟩,r.bx.still⟩
 .by_cases z:i=j
  .subst z;rw[pZ hil]at e;cases e;exact⟨l,ws,hs,cG,h3,h4,h5,h⟩
  .rw[mY z]at e;have q:=r.slot j s e;cases s with
   |un=>trivial
   |val d=>exact q
   |own zs=>
    obtain⟨b,us,g1,g2,g3⟩:=q;have nb:b≠l:=λy=>z (r.dis i j l xs zs hi e hs (by rw[g1,y]));exact⟨b,us,g1,by rw[ao nb];exact g2,g3⟩
   |dic ks zs=>
    obtain⟨b,us,g1,g2,g3⟩:=q;have nb:b≠l:=λy=>by rw[y,h2]at g2;cases g2
    exact⟨b,us,g1,by rw[ao nb];exact g2,g3⟩
 .have f:∀(m:Nat) zs,(Z.set i (.own ys))[m]?=some (.own zs)->∃zs',Z[m]?=some (.own zs'):=λm zs e=>by
   by_cases z:i=m
   .exact⟨xs,z▸hi⟩
   .rw[mY z]at e;exact⟨zs,e⟩
  obtain⟨_,f1⟩:=f j _ e1;obtain⟨_,f2⟩:=f k _ e2;exact r.dis j k b _ _ f1 f2 e3 e4
def Rel.freeze(r:Rel c Z U H G)(hi:Z[i]?=some (.own xs)):∃G',Same G G'/\Rel c (Z.set i (.val (.lst true xs))) U H G':=by
 obtain⟨a,vs,h1,h2,h3,h4,h5,h6⟩:=r.slot i _ hi;have hil:i<Z.length:=(nW.mp hi).1;have sg:Same G (upd G a (.lst vs)):=lD h3;refine⟨upd G a (.lst vs),sg,by simp[r.len],r.stp.still h2 h4 h5 h3,λj s e=>?_,λj k b xs' ys' e1 e2 e3 e4=>?_,r.kn⟩
 .by_cases z:i=j
  .subst z;rw[pZ hil]at e;cases e;exact⟨.ref a,h1,a,vs,rfl,cG,λ_=>h4,h6.mono sg⟩
  .rw[mY z]at e;have q:=r.slot j s e;cases s with
   |un=>trivial
   |val d=>obtain⟨v,g1,g2⟩:=q;exact⟨v,g1,g2.mono sg⟩
   |own zs=>
    obtain⟨b,us,g1,g2,g3,g4,g5,g6⟩:=q;have nb:b≠a:=λy=>z (r.dis i j a xs zs hi e h1 (by rw[g1,y]));exact⟨b,us,g1,g2,by rw[ao nb];exact g3,g4,g5,g6.mono sg⟩
   |dic ks zs=>
    obtain⟨b,us,g1,g2,g3,g4,g5,g6,g7⟩:=q;have nb:b≠a:=λy=>by rw[y,h2]at g2;cases g2
    exact⟨b,us,g1,g2,by rw[ao nb];exact g3,g4,g5,g6.mono sg,g7⟩
 .have f:∀(m:Nat) zs,(Z.set i (.val (.lst true xs)))[m]?=some (.own zs)->Z[m]?=some (.own zs):=λm zs e=>by
   by_cases z:i=m
   .subst z;rw[pZ hil]at e;cases e
   .rw[mY z]at e;exact e
  exact r.dis j k b _ _ (f j _ e1) (f k _ e2) e3 e4
structure Nk(X:Cx)(i:Nat)(x:Str):Prop where
 N:X.N[i]?=some x
 v:Et X.env.scope x
 d:(x==("__debug__":Str))=false
 c:(x==("__classdict__":Str))=false
abbrev Sk(X:Cx)(e:Expr)(es:List Expr)(pos:Pos):Prop:=starEach (e::es) X.env=(false,eval e X.env)::starEach es X.env/\(backTo pos (starEach es X.env)).any (·.1)=false
abbrev WE:=Env->(D->Prop)->Prop
abbrev WL:=Env->(List D->Prop)->Prop
abbrev WT:=Env->(Bool->Prop)->Prop
def km(W:WE):Prop:=∀ Z Q Q',(∀d,Q d->Q' d)->W Z Q->W Z Q'
def sU(W:WL):Prop:=∀ Z Q Q',(∀d,Q d->Q' d)->W Z Q->W Z Q'
def yO(W:WT):Prop:=∀ Z Q Q',(∀d,Q d->Q' d)->W Z Q->W Z Q'
def tD(c:Bk)(W:WE):TE:=λU H Q=>∃ Z G,Rel c Z U H G/\W Z λd=>∀v H' G',aY c.β H G H' G'->Rep c G' d v->Q v H'
def tDs(c:Bk)(W:WL):TA:=λU H Q=>∃ Z G,Rel c Z U H G/\W Z λds=>∀vs H' G',aY c.β H G H' G'->aC c G' ds vs->Q vs H'
def tDf(c:Bk)(W:WL):TE:=λU H Q=>∃ Z G,Rel c Z U H G/\W Z λds=>∀l vs H' G',aY c.β H G H' G'->H' l=some (.lst vs)->G' l=none->H l=none->aC c G' ds vs->Q (.ref l) H'
def Jm(c:Bk)(W:WT):TT:=λU H Q=>∃ Z G,Rel c Z U H G/\W Z λb=>∀H' G',aY c.β H G H' G'->Q b H'
structure DE(X:Cx)(c:Bk)(e:Expr)(W:WE):Prop where
 mono:km W
 pe:PE X e (tD c W)
structure DF(X:Cx)(c:Bk)(e:Expr)(W:WL):Prop where
 mono:sU W
 pe:PE X e (tDf c W)
structure DA(X:Cx)(c:Bk)(es:List Expr)(W:WL):Prop where
 mono:sU W
 pa:PA X es (tDs c W)
structure DT(X:Cx)(c:Bk)(e:Expr)(W:WT):Prop where
 mono:yO W
 pt:PT X e (Jm c W)
section
variable{X:Cx}
def dw(h:PE X e t)(k:∀ U H Q,t' U H Q->t U H Q):PE X e t':=λaa s U H Q I q=>h aa s U H Q I (k U H Q q)
def zE(h:PT X e t)(k:∀ U H Q,t' U H Q->t U H Q):PT X e t':=λaa s U H Q I q=>h aa s U H Q I (k U H Q q)
def ztt(h:PA X e t)(k:∀ U H Q,t' U H Q->t U H Q):PA X e t':=λpos aa s U H Q I q=>h pos aa s U H Q I (k U H Q q)
def Rel.new0(r:Rel c Z U H G)(h:H l=none):c.H0 l=none:=r.stp.free h
def Rel.neβ(r:Rel c Z U H G)(h:H l=none):l≠c.β:=λz=>by
 obtain⟨o,e⟩:=r.bx.at;rw[<-z,h]at e;cases e
abbrev bO(W:WL):WE:=λZ Q=>W Z λxs=>Q (.lst true xs)
def DF.de(h:DF X c e W):DE X c e (bO W)where
 mono:=λZ Q Q' k q=>h.mono Z _ _ (λxs z=>k _ z) q
 pe:=dw h.pe λU H Q ⟨Z,G,r,q⟩=>⟨Z,G,r,h.mono Z _ _ (λxs z l vs H' G' t hl hg h0 hv=>
  z _ H' _ (t.still hl h0 (r.neβ h0) hg) ⟨l,vs,rfl,cG,λ_=>r.new0 h0,hv.mono (lD hg)⟩) q⟩
def vW(i:Nat):WE:=λZ Q=>match Z[i]? with|some (.val d)=>Q d|_=>False
abbrev kW(d:D):WE:=λ_ Q=>Q d
def dv(i:Nat)(nk:Nk X i x:=by decreasing_trivial):DE X c (.Name x pos) (vW i)where
 mono:=λZ Q Q' k q=>by
  unfold vW at q ⊢;split at q
  .exact k _ q
  .exact q.elim
 pe:=dw (kY nk.N nk.v nk.d nk.c) λU H Q ⟨Z,G,r,q⟩=>by
  unfold vW at q;split at q
  .rename_i d e
   obtain⟨v,h1,h2⟩:=r.slot i _ e;exact⟨v,h1,q v H G r.refl h2⟩
  .exact q.elim
def Dr(d:D):km (kW d):=λ_ _ _ k q=>k _ q
def dJ:DE X c (.Constant (.int i) j pos) (kW (.int i)):=⟨Dr _,dw jM λU H Q ⟨Z,G,r,q⟩=>q _ H G r.refl rfl⟩
def yp:DE X c (.Constant (.bool i) j pos) (kW (.bl i)):=⟨Dr _,dw zyK λU H Q ⟨Z,G,r,q⟩=>q _ H G r.refl rfl⟩
def zvX:DE X c (.Constant .none j pos) (kW .non):=⟨Dr _,dw zxr λU H Q ⟨Z,G,r,q⟩=>q _ H G r.refl rfl⟩
def aL:DE X c (.Constant (.str i) j pos) (kW (.str i)):=⟨Dr _,dw zp2 λU H Q ⟨Z,G,r,q⟩=>q _ H G r.refl rfl⟩
abbrev F2:=D->D->(D->Prop)->Prop
def ph(f:F2):Prop:=∀x y Q Q',(∀d,Q d->Q' d)->f x y Q->f x y Q'
abbrev ak(f:F2)(A B:WE):WE:=λZ Q=>A Z λx=>B Z λy=>f x y Q
def rA(c:Bk)(f:F2)(r:R2):Prop:=∀(H G:Hp)(x y:D)(u v:V)(Q:VK),Same G H->fU c.β H G->(∀a,H a=none->c.H0 a=none)->Rep c G x u->Rep c G y v ->
 f x y (λd=>∀v H' G',aY c.β H G H' G'->Rep c G' d v->Q v H')->r u v H Q
def zh4(fm:ph f)(mA:km A)(mB:km B)(hr:rA c f r)(U:St)(H:Hp)(Q:VK)(h:tD c (ak f A B) U H Q):HN r (tD c A) (tD c B) U H Q:=by
 obtain⟨Z,G,R,q⟩:=h;refine⟨Z,G,R,mA Z _ _ (λx q1 u H1 G1 t1 e1=>⟨Z,G1,R.step t1,mB Z _ _ (λy q2 v H2 G2 t2 e2=>?_) q1⟩) q⟩;refine hr H2 G2 x y u v Q t2.gh t2.bx (λa z=>R.new0 (t1.free (t2.free z))) (e1.mono t2.gg) e2 (fm x y _ _ (λd z w H3 G3 t3 e3=>z w H3 G3 ((t1.trans t2).trans t3) e3) q2)
def Ek(fm:ph f)(mA:km A)(mB:km B):km (ak f A B):=λZ Q Q' k q=>mA Z _ _ (λx q1=>mB Z _ _ (λy q2=>fm x y _ _ k q2) q1) q
def zvz(fm:ph f)(ho:gP X (binaryOp op) r)(hr:rA c f r)(hA:DE X c a A)(hB:DE X c b B):DE X c (.BinOp a op b pos) (ak f A B):=
 ⟨Ek fm hA.mono hB.mono,dw (qG ho hA.pe hB.pe) λU H Q h=>zh4 fm hA.mono hB.mono hr U H Q h⟩
def zsN(fm:ph f)(ho:gP X (compareOp op) r)(hr:rA c f r)(hA:DE X c a A)(hB:DE X c b B)(hm:behindInMarks op b=false):DE X c (.Compare a [op] [b] pos) (ak f A B):=
 ⟨Ek fm hA.mono hB.mono,dw (zuj ho hA.pe hB.pe hm) λU H Q h=>zh4 fm hA.mono hB.mono hr U H Q h⟩
def b8(A:WE):WT:=λZ Q=>A Z λd=>match d with|.bl b=>Q b|_=>False
def zmI(m:km A):yO (b8 A):=λZ Q Q' k q=>m Z _ _ (λd z=>by
 cases d<;>first|exact k _ z|exact z) q
def zva(m:km A)(U:St)(H:Hp)(Q:Bool->Hp->Prop)(h:Jm c (b8 A) U H Q):zwK (tD c A) U H Q:=by
 obtain⟨Z,G,R,q⟩:=h;refine⟨Z,G,R,m Z _ _ (λd z v H1 G1 t e=>?_) q⟩;cases d with
 |bl b=>exact⟨b,e,z H1 G1 t⟩
 |_=>exact z.elim
def z9(fm:ph f)(ho:gP X (compareOp op) r)(hr:rA c f r)(hA:DE X c a A)(hB:DE X c b B)(hm:behindInMarks op b=false):DT X c (.Compare a [op] [b] pos) (b8 (ak f A B)):=
 ⟨zmI (Ek fm hA.mono hB.mono),zE (zks ho hA.pe hB.pe hm) λU H Q h=>by
  obtain⟨Z,G,R,q⟩:=zva (Ek fm hA.mono hB.mono) U H Q h;exact zh4 fm hA.mono hB.mono hr U H _ ⟨Z,G,R,q⟩⟩
def bM:F2
 |.int i,.int j,Q=>Q (.int (i+j))
 |.str a,.str b,Q=>a.length+b.length<=100000/\Q (.str (a++b))
 |.lst _ xs,.lst _ ys,Q=>xs.length+ys.length<=100000/\Q (.lst true (xs++ys))
 |.tup xs,.tup ys,Q=>xs.length+ys.length<=100000/\Q (.tup (xs++ys))
 |_,_,_=>False
def uT:F2
 |.int i,.int j,Q=>0<j/\Q (.int (i % j))
 |_,_,_=>False
def dW(h:n<=100000):n<=sizeLine:=gJ h (by decide)
def zyo:ph bM:=λx y Q Q' k q=>by
 cases x<;>cases y<;>first|exact k _ q|exact⟨q.1,k _ q.2⟩|exact q
def zyW:ph uT:=λx y Q Q' k q=>by
 cases x<;>cases y<;>first|exact⟨q.1,k _ q.2⟩|exact q
def zvD(K:qd):R2:=λx y H Q=>(xu (λi j=>.int (i+j)) x y H Q\/(∃i j,x=.str i/\y=.str j/\i.length+j.length<=sizeLine/\Q (.str (i++j)) H))\/(KZ x y H Q\/zxK K x y H Q)
def zt2{c:Bk}(hK:c.K=X.K):gP X (binaryOp .Add) (zvD c.K):=by rw[hK];exact(nM.or zpp).or (zW.or zvj)
def zxm:rA c bM (zvD c.K):=by
 intro H G x y u v Q gh bx h0 rx ry q;cases x with
 |int i=>cases y with
  |int j=>cases rx;cases ry;exact .inl (.inl ⟨i,j,rfl,rfl,q _ H G (aY.refl gh bx) rfl⟩)
  |_=>exact q.elim
 |str i=>cases y with
  |str j=>cases rx;cases ry;exact .inl (.inr ⟨i,j,rfl,rfl,dW q.1,q.2 _ H G (aY.refl gh bx) rfl⟩)
  |_=>exact q.elim
 |lst n xs=>cases y with
  |lst m ys=>
   obtain⟨a,vs,rfl,ha,_,rv⟩:=rx;obtain⟨b,ws,rfl,hb,_,rw'⟩:=ry;refine .inr (.inl ⟨a,b,vs,ws,rfl,rfl,gh _ _ ha,gh _ _ hb,?_,λp hp=>?_⟩)
   .rw[<-rv.length,<-rw'.length];exact dW q.1
   .have hg:=lU gh hp;exact q.2 _ _ _ (aY.new gh bx hp) ⟨p,vs++ws,rfl,cG,λ_=>h0 p hp,(rv.append rw').mono (lD hg)⟩
  |_=>exact q.elim
 |tup xs=>cases y with
  |tup ys=>
   obtain⟨a,vs,rfl,ha,rv⟩:=rx;obtain⟨b,ws,rfl,hb,rw'⟩:=ry;refine .inr (.inr ⟨a,b,vs,ws,rfl,rfl,qI gh ha,qI gh hb,?_,λe=>?_,λ_ e=>?_,λp hp=>?_⟩)
   .rw[<-rv.length,<-rw'.length];exact dW q.1
   .subst e
    have:xs=[]:=by have:=rv.length;simpa using this
    subst this;exact q.2 _ H G (aY.refl gh bx) ⟨b,ws,rfl,hb,rw'⟩
   .subst e
    have:ys=[]:=by have:=rw'.length;simpa using this
    subst this;exact q.2 _ H G (aY.refl gh bx) ⟨a,vs,rfl,ha,by simpa using rv⟩
   .have hg:=lU gh hp;exact q.2 (.ref p) _ _ (aY.new gh bx hp) ⟨p,vs++ws,rfl,fM.of cG,(rv.append rw').mono (lD hg)⟩
  |_=>exact q.elim
 |_=>exact q.elim
def iu(hA:DE X c a A)(hB:DE X c b B)(hK:c.K=X.K:=by rfl):DE X c (.BinOp a .Add b pos) (ak bM A B):=zvz zyo (zt2 hK) zxm hA hB
def zwr:rA c uT (rI (λ_ j=>0<j) λi j=>.int (i % j)):=by
 intro H G x y u v Q gh bx h0 rx ry q;cases x with
 |int i=>cases y with
  |int j=>cases rx;cases ry;exact⟨i,j,rfl,rfl,q.1,q.2 _ H G (aY.refl gh bx) rfl⟩
  |_=>exact q.elim
 |_=>exact q.elim
def zyI(hA:DE X c a A)(hB:DE X c b B):DE X c (.BinOp a .Mod b pos) (ak uT A B):=zvz zyW Dn zwr hA hB
def JW:D->(D->Prop)->Prop
 |.int i,Q=>Q (.int (-i))
 |_,_=>False
abbrev unW(f:D->(D->Prop)->Prop)(A:WE):WE:=λZ Q=>A Z λx=>f x Q
def zyA(hA:DE X c a A):DE X c (.UnaryOp .USub a pos) (unW JW A)where
 mono:=λZ Q Q' k q=>hA.mono Z _ _ (λx z=>by cases x<;>first|exact k _ z|exact z) q
 pe:=dw (zyG zvL hA.pe) λU H Q ⟨Z,G,r,q⟩=>⟨Z,G,r,hA.mono Z _ _ (λx z v H' G' t e=>by
  cases x with
  |int i=>exact⟨i,e,z _ H' G' t rfl⟩
  |_=>exact z.elim) q⟩
def tL(p:Int->Int->Bool):F2
 |.int i,.int j,Q=>Q (.bl (p i j))
 |_,_,_=>False
def zJ(p:Int->Int->Bool):ph (tL p):=λx y Q Q' k q=>by
 cases x<;>cases y<;>first|exact k _ q|exact q
def Ef(p:Int->Int->Bool):rA c (tL p) (xu λi j=>.bl (p i j)):=by
 intro H G x y u v Q gh bx h0 rx ry q;cases x with
 |int i=>cases y with
  |int j=>cases rx;cases ry;exact⟨i,j,rfl,rfl,q _ H G (aY.refl gh bx) rfl⟩
  |_=>exact q.elim
 |_=>exact q.elim
abbrev ltD:F2:=tL λi j=>decide (i<j)
abbrev Ji:F2:=tL λi j=>decide (i<=j)
abbrev wM:F2:=tL λi j=>decide (j<i)
abbrev Mf:F2:=tL λi j=>decide (j<=i)
def d_gt(hA:DE X c a A)(hB:DE X c b B):DE X c (.Compare a [.Gt] [b] pos) (ak wM A B):=zsN (zJ _) zub (Ef _) hA hB (uR _)
def t_lt(hA:DE X c a A)(hB:DE X c b B):DT X c (.Compare a [.Lt] [b] pos) (b8 (ak ltD A B)):=z9 (zJ _) zwE (Ef _) hA hB (uR _)
def wN(hA:DE X c a A)(hB:DE X c b B):DT X c (.Compare a [.Gt] [b] pos) (b8 (ak wM A B)):=z9 (zJ _) zub (Ef _) hA hB (uR _)
def zP(hA:DE X c a A)(hB:DE X c b B):DT X c (.Compare a [.GtE] [b] pos) (b8 (ak Mf A B)):=z9 (zJ _) zvP (Ef _) hA hB (uR _)
def isN:D->Bool
 |.non=>true
 |_=>false
abbrev qw(A:WE):WE:=λZ Q=>A Z λx=>Q (.bl (isN x))
def zrc(h:Rep c G d v):decide (v=V.non)=isN d:=by
 cases d with
 |non=>have:v=V.non:=h;subst this;rfl
 |bl b=>have:v=V.bl b:=h;subst this;rfl
 |int b=>have:v=V.int b:=h;subst this;rfl
 |str b=>have:v=V.str b:=h;subst this;rfl
 |box=>have:v=V.ref c.β:=h;subst this;rfl
 |obj b=>have:v=V.ref b:=h;subst this;rfl
 |dct n ks xs=>obtain⟨a,vs,rfl,_⟩:=h;rfl
 |fdc ks xs=>obtain⟨a,vs,o,rfl,_⟩:=h;rfl
 |tup xs=>obtain⟨a,vs,rfl,_⟩:=h;rfl
 |lst n xs=>obtain⟨a,vs,rfl,_⟩:=h;rfl
def zn0(m:km A):km (qw A):=λZ Q Q' k q=>m Z _ _ (λx z=>k _ z) q
def zwi(hA:DE X c a A):DE X c (.Compare a [.Is] [.Constant .none j pos'] pos) (qw A):=
 ⟨zn0 hA.mono,dw (zxw (ztv hA.pe)) λU H Q ⟨Z,G,r,q⟩=>⟨Z,G,r,hA.mono Z _ _ (λx z v H' G' t e=>by show Q (V.bl (decide (v=V.non))) H';rw[zrc e];exact z _ H' G' t rfl) q⟩⟩
def zuP(hA:DE X c a A):DT X c (.Compare a [.Is] [.Constant .none j pos'] pos) (b8 (qw A)):=
 ⟨zmI (zn0 hA.mono),zE (znT (ztv hA.pe)) λU H Q ⟨Z,G,r,q⟩=>⟨Z,G,r,hA.mono Z _ _ (λx z v H' G' t e=>⟨_,rfl,by rw[zrc e];exact z H' G' t⟩) q⟩⟩
end
mutual
def toPy:D->PyData
 |.non=>.none
 |.bl b=>.bool b
 |.int i=>.int i
 |.str x=>.str x
 |.box=>.none
 |.obj _=>.none
 |.dct _ _ _=>.none
 |.fdc _ _=>.none
 |.tup xs=>.tuple (qp xs)
 |.lst _ xs=>.list (qp xs)
def qp:List D->List PyData
 |[]=>[]
 |x::xs=>toPy x::qp xs
end
mutual
def jV:D->Bool
 |.non=>true
 |.bl _=>true
 |.int _=>true
 |.str x=>PyData.canLay0 (.str x)
 |.box=>false
 |.obj _=>false
 |.dct _ _ _=>false
 |.fdc _ _=>false
 |.tup xs=>qZ xs
 |.lst _ xs=>qZ xs
def qZ:List D->Bool
 |[]=>true
 |x::xs=>jV x&&qZ xs
end
mutual
theorem vP:∀d:D,jV d=true->(toPy d).canLay0=true
 |.non,_=>by unfold toPy PyData.canLay0;rfl
 |.bl _,_=>by unfold toPy PyData.canLay0;rfl
 |.int _,_=>by unfold toPy PyData.canLay0;rfl
 |.str _,h=>by unfold toPy;unfold jV at h;exact h
 |.tup xs,h=>by unfold toPy PyData.canLay0;unfold jV at h;exact zB xs h
 |.lst _ xs,h=>by unfold toPy PyData.canLay0;unfold jV at h;exact zB xs h
theorem zB:∀ds:List D,qZ ds=true->PyData.canLayAll0 (qp ds)=true
 |[],_=>by unfold qp PyData.canLayAll0;rfl
 |x::xs,h=>by
  unfold qp PyData.canLayAll0;unfold qZ at h
  have:=(jT _ _▸h:jV x=true/\qZ xs=true)
  rw[vP x this.1,zB xs this.2];rfl
end
theorem zlm:∀xs:List D,qp xs=xs.map toPy
 |[]=>rfl
 |x::xs=>by unfold qp;rw[zlm xs];rfl
section
variable{X:Cx}
mutual
theorem Rep.reads(hK:c.K=X.K)(I:Inv X aa U H s)(gh:Same G H):∀(d:D){v:V}{u:Value},Rep c G d v->RelV v u->jV d=true->∃as,Reads s.heap u (toPy d) as
 |.non,v,u,h,r,_=>by have:v=V.non:=h;subst this;cases r;exact⟨_,.none⟩
 |.bl b,v,u,h,r,_=>by have:v=V.bl b:=h;subst this;cases r;exact⟨_,.bool b⟩
 |.int i,v,u,h,r,_=>by have:v=V.int i:=h;subst this;obtain⟨t,rfl⟩:=r;exact⟨_,.int i t⟩
 |.str i,v,u,h,r,_=>by have:v=V.str i:=h;subst this;obtain⟨t,rfl⟩:=r;exact⟨_,.str i t⟩
 |.box,v,u,h,r,l=>by cases l
 |.obj _,v,u,h,r,l=>by cases l
 |.dct _ _ _,v,u,h,r,l=>by cases l
 |.fdc _ _,v,u,h,r,l=>by cases l
 |.tup xs,v,u,⟨a,vs,h1,h2,h3⟩,r,l=>by
  subst h1;cases r;obtain⟨its,rv,p,_⟩:=I.tuple (hK▸qI gh h2);obtain⟨as,q⟩:=aC.reads hK I gh xs h3 rv l;obtain⟨o,ho,hc,n,hd⟩:=p;unfold toPy;exact⟨_,.tuple ho hc hd (by simpa using q)⟩
 |.lst _ xs,v,u,⟨a,vs,h1,h2,_,h3⟩,r,l=>by
  subst h1;cases r;obtain⟨_,its,n,rv,ho⟩:=I.hok a _ (gh _ _ h2);obtain⟨as,q⟩:=aC.reads hK I gh xs h3 rv l;unfold toPy;exact⟨_,.list ho rfl rfl (by simpa using q)⟩
theorem aC.reads(hK:c.K=X.K)(I:Inv X aa U H s)(gh:Same G H):∀(ds:List D){vs:List V}{us:List Value},aC c G ds vs->Vals vs us->qZ ds=true->∃as,ReadsAll s.heap us (qp ds) as
 |[],vs,us,h,r,_=>by have:vs=[]:=h;subst this;cases r;exact⟨_,.nil⟩
 |x::xs,vs,us,⟨v,ws,h1,h2,h3⟩,r,l=>by
  subst h1;cases r with
  |cons r1 r2=>
   unfold qZ at l;have l':=(jT _ _▸l:jV x=true/\qZ xs=true);obtain⟨as,q1⟩:=Rep.reads hK I gh x h2 r1 l'.1;obtain⟨bs,q2⟩:=aC.reads hK I gh xs h3 r2 l'.2;exact⟨_,.cons q1 q2⟩
end
def eqB(x y:D):Bool:=PyData.eqv (toPy x) (toPy y)
def qP(x y:D):Prop:=jV x=true/\jV y=true/\min (toPy x).depth (toPy y).depth<=50
abbrev gV:F2:=λx y Q=>qP x y/\Q (.bl (eqB x y))
abbrev nu:F2:=λx y Q=>qP x y/\Q (.bl (!eqB x y))
def xY(c:Bk)(neg:Bool):R2:=λu v H Q=>∃G x y,Same G H/\Rep c G x u/\Rep c G y v/\qP x y/\Q (.bl (if neg then !eqB x y else eqB x y)) H
def zth(hK:c.K=X.K)(hu:X.A.units+64<cLine):gP X (compareOp .Eq) (xY c false):=by
 intro aa s U H u v a b Q I ra rb ⟨G,x,y,gh,hx,hy,⟨lx,ly,ld⟩,q⟩;obtain⟨as,qa⟩:=hx.reads hK I gh x ra lx;obtain⟨bs,qb⟩:=hy.reads hK I gh y rb ly;exact SeqAt.compareEq_reads qa qb (vP x lx) (vP y ly) (by omega) ⟨.bl _,H,I,rfl,q⟩
def zs3(hK:c.K=X.K)(hu:X.A.units+64<cLine):gP X (compareOp .NotEq) (xY c true):=by
 intro aa s U H u v a b Q I ra rb ⟨G,x,y,gh,hx,hy,⟨lx,ly,ld⟩,q⟩;obtain⟨as,qa⟩:=hx.reads hK I gh x ra lx;obtain⟨bs,qb⟩:=hy.reads hK I gh y rb ly;exact SeqAt.compareNe_reads qa qb (vP x lx) (vP y ly) (by omega) ⟨.bl _,H,I,rfl,q⟩
def Ia:ph gV:=λx y Q Q' k q=>⟨q.1,k _ q.2⟩
def Lk:ph nu:=λx y Q Q' k q=>⟨q.1,k _ q.2⟩
def zxC:rA c gV (xY c false):=λH G x y u v Q gh bx h0 rx ry q=>⟨G,x,y,gh,rx,ry,q.1,q.2 _ H G (aY.refl gh bx) rfl⟩
def zvt:rA c nu (xY c true):=λH G x y u v Q gh bx h0 rx ry q=>⟨G,x,y,gh,rx,ry,q.1,q.2 _ H G (aY.refl gh bx) rfl⟩
def nY(x:D)(ys:List D):Prop:=jV x=true/\qZ ys=true/\min (PyData.depthAll (qp ys)) (toPy x).depth<=50
def inB(x:D)(ys:List D):Bool:=(qp ys).any λy=>PyData.eqv y (toPy x)
def inD(neg:Bool):F2
 |x,.lst _ ys,Q=>nY x ys/\Q (.bl (if neg then !inB x ys else inB x ys))
 |x,.tup ys,Q=>nY x ys/\Q (.bl (if neg then !inB x ys else inB x ys))
 |_,_,_=>False
def xW(c:Bk)(neg:Bool):R2:=λu v H Q=>∃G x y,Same G H/\Rep c G x u/\Rep c G y v/\inD neg x y λd=>∃b,d=.bl b/\Q (.bl b) H
def zwF(hK:c.K=X.K)(hu:X.A.units+64<cLine):gP X (compareOp .In) (xW c false):=by
 intro aa s U H u v a b Q I ra rb ⟨G,x,y,gh,hx,hy,q⟩;cases y with
 |lst n ys=>
  obtain⟨⟨lx,ly,ld⟩,_,e,q⟩:=q;cases e;obtain⟨as,qa⟩:=hx.reads hK I gh x ra lx;obtain⟨bs,qb⟩:=hy.reads hK I gh _ rb (ly);exact SeqAt.in_list_reads qb qa (zB ys ly) (vP x lx) (by omega) ⟨.bl _,H,I,rfl,q⟩
 |tup ys=>
  obtain⟨⟨lx,ly,ld⟩,_,e,q⟩:=q;cases e;obtain⟨as,qa⟩:=hx.reads hK I gh x ra lx;obtain⟨bs,qb⟩:=hy.reads hK I gh _ rb (by exact ly);unfold toPy at qb;exact SeqAt.in_tuple_reads qb qa (zB ys ly) (vP x lx) (by omega) ⟨.bl _,H,I,rfl,q⟩
 |_=>exact q.elim
def zqv(hK:c.K=X.K)(hu:X.A.units+64<cLine):gP X (compareOp .NotIn) (xW c true):=by
 intro aa s U H u v a b Q I ra rb ⟨G,x,y,gh,hx,hy,q⟩;cases y with
 |lst n ys=>
  obtain⟨⟨lx,ly,ld⟩,_,e,q⟩:=q;cases e;obtain⟨as,qa⟩:=hx.reads hK I gh x ra lx;obtain⟨bs,qb⟩:=hy.reads hK I gh _ rb (ly);exact SeqAt.notIn_list_reads qb qa (zB ys ly) (vP x lx) (by omega) ⟨.bl _,H,I,rfl,q⟩
 |tup ys=>
  obtain⟨⟨lx,ly,ld⟩,_,e,q⟩:=q;cases e;obtain⟨as,qa⟩:=hx.reads hK I gh x ra lx;obtain⟨bs,qb⟩:=hy.reads hK I gh _ rb (by exact ly);unfold toPy at qb;exact SeqAt.notIn_tuple_reads qb qa (zB ys ly) (vP x lx) (by omega) ⟨.bl _,H,I,rfl,q⟩
 |_=>exact q.elim
def m_in(neg:Bool):ph (inD neg):=λx y Q Q' k q=>by
 cases y<;>first|exact⟨q.1,k _ q.2⟩|exact q
def zyx(neg:Bool):rA c (inD neg) (xW c neg):=λH G x y u v Q gh bx h0 rx ry q=>⟨G,x,y,gh,rx,ry,by
 cases y with
 |lst n ys=>exact⟨q.1,_,rfl,q.2 _ H G (aY.refl gh bx) rfl⟩
 |tup ys=>exact⟨q.1,_,rfl,q.2 _ H G (aY.refl gh bx) rfl⟩
 |_=>exact q.elim⟩
section
variable{c:Bk}{a b:Expr}{A B:WE}{pos:Pos}
def uF(hA:DE X c a A)(hB:DE X c b B)(hK:c.K=X.K:=by rfl)(hu:X.A.units+64<cLine:=by decreasing_trivial):DE X c (.Compare a [.Eq] [b] pos) (ak gV A B):=zsN Ia (zth hK hu) zxC hA hB (uR _)
def d_ne(hA:DE X c a A)(hB:DE X c b B)(hK:c.K=X.K:=by rfl)(hu:X.A.units+64<cLine:=by decreasing_trivial):DE X c (.Compare a [.NotEq] [b] pos) (ak nu A B):=zsN Lk (zs3 hK hu) zvt hA hB (uR _)
def kJ(hA:DE X c a A)(hB:DE X c b B)(hK:c.K=X.K:=by rfl)(hu:X.A.units+64<cLine:=by decreasing_trivial):DT X c (.Compare a [.Eq] [b] pos) (b8 (ak gV A B)):=z9 Ia (zth hK hu) zxC hA hB (uR _)
def rC(hA:DE X c a A)(hB:DE X c b B)(hK:c.K=X.K:=by rfl)(hu:X.A.units+64<cLine:=by decreasing_trivial):DT X c (.Compare a [.NotEq] [b] pos) (b8 (ak nu A B)):=z9 Lk (zs3 hK hu) zvt hA hB (uR _)
def JQ:D->Option Bool
 |.non=>some false
 |.bl b=>some b
 |.int i=>some (i != 0)
 |.lst _ xs=>some (!xs.isEmpty)
 |.tup xs=>some (!xs.isEmpty)
 |_=>none
def lH(d:D)(Q:Bool->Prop):Prop:=match JQ d with|some b=>Q b|none=>False
abbrev gU(A:WE):WT:=λZ Q=>A Z λd=>lH d Q
def zp9(gh:Same G H)(h:Rep c G d v)(e:JQ d=some k):BL c.K v H k:=by
 cases d with
 |non=>cases h;cases e;rfl
 |bl b=>cases h;cases e;rfl
 |int i=>cases h;cases e;rfl
 |lst n xs=>
  obtain⟨a,vs,rfl,h1,_,h2⟩:=h;cases e;refine .inl ⟨vs,.inl (.inl (gh _ _ h1)),?_⟩
  have:=h2.length
  cases xs<;>cases vs<;>first|rfl|simp at this
 |tup xs=>
  obtain⟨a,vs,rfl,h1,h2⟩:=h;cases e;refine .inr (.inl ⟨vs,qI gh h1,?_⟩)
  have:=h2.length
  cases xs<;>cases vs<;>first|rfl|simp at this
 |str x=>cases e
 |box=>cases e
 |obj a=>cases e
 |dct n ks xs=>cases e
 |fdc ks xs=>cases e
def zmh(d:D)(k:∀b,Q b->Q' b)(q:lH d Q):lH d Q':=by
 unfold lH at q ⊢;split at q
 .exact k _ q
 .exact q.elim
def wU(hA:DE X c a A)(he:∀whole,isTrue a X.env whole=(do let v <-whole;standAt a.pos;holding [v] (truthy v)):=by intro _;rfl)(hK:c.K=X.K:=by rfl):DT X c a (gU A)where
 mono:=λZ Q Q' k q=>hA.mono Z _ _ (λd z=>zmh d k z) q
 pt:=zE (zkx hA.pe he) λU H Q ⟨Z,G,r,q⟩=>⟨Z,G,r,hA.mono Z _ _ (λd z v H' G' t e=>by
  unfold lH at z;split at z
  .rename_i k hk
   exact⟨k,hK▸zp9 t.gh e hk,z H' G' t⟩
  .exact z.elim) q⟩
abbrev lr(A:WT):WT:=λZ Q=>A Z λb=>Q (!b)
def Fe{A:WT}(hA:DT X c a A):DT X c (.UnaryOp .Not a pos) (lr A)where
 mono:=λZ Q Q' k q=>hA.mono Z _ _ (λd z=>k _ z) q
 pt:=zE (ztc hA.pt) λU H Q ⟨Z,G,r,q⟩=>⟨Z,G,r,q⟩
abbrev um(A B:WT):WT:=λZ Q=>A Z λb=>if b=true then Q true else B Z Q
structure DW(X:Cx)(c:Bk)(e:Expr)(W:WT):Prop where
 mono:yO W
 pw:PW X e (Jm c W)
def DW.dt(h:DW X c a W):DT X c a W:=⟨h.mono,h.pw.pt⟩
def zxR(h:PW X e t)(k:∀ U H Q,t' U H Q->t U H Q):PW X e t':=λwh aa s U H Q I q=>h wh aa s U H Q I (k U H Q q)
def Ba{A:WT}(hA:DT X c a A):DW X c (.BoolOp .Or [a] pos) A:=⟨hA.mono,zxt hA.pt⟩
def w_or{A B:WT}{rest:List Expr}(hA:DT X c a A)(hB:DW X c (.BoolOp .Or (b::rest) pos) B):DW X c (.BoolOp .Or (a::b::rest) pos) (um A B)where
 mono:=λZ Q Q' k q=>hA.mono Z _ _ (λd z=>by
  cases d
  .exact hB.mono Z _ _ k z
  .exact k _ z) q
 pw:=zxR (zyB hA.pt hB.pw) λU H Q ⟨Z,G,r,q⟩=>⟨Z,G,r,hA.mono Z _ _ (λd z H' G' t=>by
  cases d
  .exact⟨Z,G',r.step t,hB.mono Z _ _ (λb' z' H2 G2 t2=>z' H2 G2 (t.trans t2)) z⟩
  .exact z H' G' t) q⟩
def v6(d:D)(Q:Bool->Prop):Prop:=match d with|.bl b=>Q b|_=>False
def zig(d:D)(k:∀b,Q b->Q' b)(q:v6 d Q):v6 d Q':=by
 cases d<;>first|exact k _ q|exact q
abbrev rB(A B:WE):WE:=λZ Q=>A Z λx=>v6 x λk=>if k=true then B Z Q else Q (.bl false)
abbrev orW(A B:WE):WE:=λZ Q=>A Z λx=>v6 x λk=>if k=true then Q (.bl true)else B Z Q
abbrev Gz(A:WE):WE:=λZ Q=>A Z λx=>v6 x λk=>Q (.bl (!k))
def BV(hA:DE X c a A):DE X c (.BoolOp op [a] pos) A:=⟨hA.mono,zws hA.pe⟩
def Dp{rest:List Expr}(hA:DE X c a A)(hB:DE X c (.BoolOp .And (b::rest) pos) B):DE X c (.BoolOp .And (a::b::rest) pos) (rB A B)where
 mono:=λZ Q Q' k q=>hA.mono Z _ _ (λd z=>zig d (λb z=>by
  cases b
  .exact k _ z
  .exact hB.mono Z _ _ k z) z) q
 pe:=dw (zwg hA.pe hB.pe) λU H Q ⟨Z,G,r,q⟩=>⟨Z,G,r,hA.mono Z _ _ (λd z v H' G' t e=>by
  cases d with
  |bl k=>
   refine⟨k,e,?_⟩;cases k
   .exact z _ H' G' t rfl
   .exact⟨Z,G',r.step t,hB.mono Z _ _ (λb' z' v2 H2 G2 t2=>z' v2 H2 G2 (t.trans t2)) z⟩
  |_=>exact z.elim) q⟩
def d_or{rest:List Expr}(hA:DE X c a A)(hB:DE X c (.BoolOp .Or (b::rest) pos) B):DE X c (.BoolOp .Or (a::b::rest) pos) (orW A B)where
 mono:=λZ Q Q' k q=>hA.mono Z _ _ (λd z=>zig d (λb z=>by
  cases b
  .exact hB.mono Z _ _ k z
  .exact k _ z) z) q
 pe:=dw (zyV hA.pe hB.pe) λU H Q ⟨Z,G,r,q⟩=>⟨Z,G,r,hA.mono Z _ _ (λd z v H' G' t e=>by
  cases d with
  |bl k=>
   refine⟨k,e,?_⟩;cases k
   .exact⟨Z,G',r.step t,hB.mono Z _ _ (λb' z' v2 H2 G2 t2=>z' v2 H2 G2 (t.trans t2)) z⟩
   .exact z _ H' G' t rfl
  |_=>exact z.elim) q⟩
def zyJ(hA:DE X c a A):DE X c (.UnaryOp .Not a pos) (Gz A)where
 mono:=λZ Q Q' k q=>hA.mono Z _ _ (λd z=>zig d (λb z=>k _ z) z) q
 pe:=dw (zxN hA.pe) λU H Q ⟨Z,G,r,q⟩=>⟨Z,G,r,hA.mono Z _ _ (λd z v H' G' t e=>by
  cases d with
  |bl k=>exact⟨k,e,z _ H' G' t rfl⟩
  |_=>exact z.elim) q⟩
abbrev Kq(C:WT)(A B:WE):WE:=λZ Q=>C Z λk=>if k=true then A Z Q else B Z Q
def Gn(hC:DT X c ce C)(hA:DE X c a A)(hB:DE X c b B):DE X c (.IfExp ce a b pos) (Kq C A B)where
 mono:=λZ Q Q' k q=>hC.mono Z _ _ (λd z=>by
  cases d
  .exact hB.mono Z _ _ k z
  .exact hA.mono Z _ _ k z) q
 pe:=dw (zrT hC.pt hA.pe hB.pe) λU H Q ⟨Z,G,r,q⟩=>⟨Z,G,r,hC.mono Z _ _ (λd z H' G' t=>by
  cases d
  .exact⟨Z,G',r.step t,hB.mono Z _ _ (λb' z' v2 H2 G2 t2=>z' v2 H2 G2 (t.trans t2)) z⟩
  .exact⟨Z,G',r.step t,hA.mono Z _ _ (λb' z' v2 H2 G2 t2=>z' v2 H2 G2 (t.trans t2)) z⟩) q⟩
abbrev zoc(f g:F2)(A B C:WE):WE:=λZ Q=>A Z λx=>B Z λy=>f x y λz=>v6 z λk=>if k=true then C Z λw=>g y w Q else Q (.bl false)
end
end
section
variable{X:Cx}{c:Bk}{a b e:Expr}{A B:WE}{pos p:Pos}{es:List Expr}
abbrev aq:WL:=λ_ Q=>Q []
abbrev aA(A:WE)(R:WL):WL:=λZ Q=>A Z λd=>R Z λds=>Q (d::ds)
def aK:DA X c [] aq:=⟨λ_ _ _ k q=>k _ q,ztt nF λU H Q ⟨Z,G,r,q⟩=>q [] H G r.refl rfl⟩
def aB(hA:DE X c e A)(hR:DA X c es R)(hs:starEach (e::es) X.env=(false,eval e X.env)::starEach es X.env:=by rfl):DA X c (e::es) (aA A R)where
 mono:=λZ Q Q' k q=>hA.mono Z _ _ (λd z=>hR.mono Z _ _ (λds y=>k _ y) z) q
 pa:=ztt (kj hA.pe hR.pa hs) λU H Q ⟨Z,G,r,q⟩=>⟨Z,G,r,hA.mono Z _ _ (λd z v H1 G1 t1 e1=>⟨Z,G1,r.step t1,hR.mono Z _ _ (λds y vs H2 G2 t2 e2=>
  y _ H2 G2 (t1.trans t2) ⟨v,vs,rfl,e1.mono t2.gg,e2⟩) z⟩) q⟩
abbrev aW(R:WL):WE:=λZ Q=>R Z λds=>ds.length<=100000/\Q (.tup ds)
def dq(hR:DA X c es R):DE X c (.Tuple es x1 pos) (aW R)where
 mono:=λZ Q Q' k q=>hR.mono Z _ _ (λds z=>⟨z.1,k _ z.2⟩) q
 pe:=dw (ztd hR.pa) λU H Q ⟨Z,G,r,q⟩=>⟨Z,G,r,hR.mono Z _ _ (λds z vs H' G' t e=>⟨by rw[<-e.length];exact dW z.1,λp hp=>
  z.2 _ _ _ (t.trans (aY.new t.gh t.bx hp)) ⟨p,vs,rfl,fM.of cG,e.mono (lD (lU t.gh hp))⟩⟩) q⟩
abbrev dg(R:WL):WL:=λZ Q=>R Z λds=>ds.length<=100000/\Q ds
def lA(hR:DA X c es R):DF X c (.List es pos) (dg R)where
 mono:=λZ Q Q' k q=>hR.mono Z _ _ (λds z=>⟨z.1,k _ z.2⟩) q
 pe:=dw (zre hR.pa) λU H Q ⟨Z,G,r,q⟩=>⟨Z,G,r,hR.mono Z _ _ (λds z vs H' G' t e=>⟨by rw[<-e.length];exact dW z.1,λp hp=>
  z.2 p vs _ _ (t.trans (aY.own t.gh t.bx hp)) cG (lU t.gh hp) (t.free hp) e⟩) q⟩
def zmA(h:aC c G ds vs)(e:lE ds i=some d):∃v,lE vs i=some v/\Rep c G d v:=by
 unfold lE at e ⊢;rw[h.length]at e;cases z:xM vs.length i with
 |none=>rw[z]at e;cases e
 |some j=>rw[z]at e;exact h.get e
def CJ(xs:List D)(y:D)(Q:D->Prop):Prop:=match y with|.int i=>(match lE xs i with|some d=>Q d|none=>False)|_=>False
def ixD:F2
 |.lst _ xs,y,Q=>CJ xs y Q
 |.tup xs,y,Q=>CJ xs y Q
 |_,_,_=>False
def zoo(k:∀d,Q d->Q' d)(q:CJ xs y Q):CJ xs y Q':=by
 cases y with
 |int i=>
  unfold CJ at q ⊢;simp only at q ⊢;split at q
  .exact k _ q
  .exact q.elim
 |_=>exact q
def m_ix:ph ixD:=λx y Q Q' k q=>by
 cases x<;>first|exact zoo k q|exact q
def zyl:rA c ixD (rIx c.K):=by
 intro H G x y u v Q gh bx h0 rx ry q;cases x with
 |lst n xs=>
  obtain⟨a,vs,rfl,ha,_,rv⟩:=rx;cases y with
  |int i=>
   cases ry;have q:(match lE xs i with|some d=>_|none=>False):=q;split at q
   .rename_i d e
    obtain⟨w,e',rw'⟩:=zmA rv e;exact .inl ⟨a,vs,i,w,rfl,rfl,cg.of (gh _ _ ha),e',q w H G (aY.refl gh bx) rw'⟩
   .exact q.elim
  |_=>exact q.elim
 |tup xs=>
  obtain⟨a,vs,rfl,ha,rv⟩:=rx;cases y with
  |int i=>
   cases ry;have q:(match lE xs i with|some d=>_|none=>False):=q;split at q
   .rename_i d e
    obtain⟨w,e',rw'⟩:=zmA rv e;exact .inr (.inl ⟨a,vs,i,w,rfl,rfl,qI gh ha,e',q w H G (aY.refl gh bx) rw'⟩)
   .exact q.elim
  |_=>exact q.elim
 |_=>exact q.elim
def cutD{α:Type}(xs:List α)(lo hi:Option Int):List α:=(xs.drop (HT.cM xs.length 0 lo)).take (HT.cM xs.length xs.length hi-HT.cM xs.length 0 lo)
def aC.cut(h:aC c G ds vs)(lo hi:Option Int):aC c G (cutD ds lo hi) (lJ vs lo hi):=by
 unfold cutD lJ;rw[h.length];exact(h.drop _).take _
abbrev WO:=Env->(Option Int->Prop)->Prop
structure DO(X:Cx)(c:Bk)(e:Option Expr)(W:WO):Prop where
 mono:∀ Z Q Q',(∀d,Q d->Q' d)->W Z Q->W Z Q'
 po:PO X e λU H Q=>∃ Z G,Rel c Z U H G/\W Z λo=>∀H' G',aY c.β H G H' G'->Q o H'
abbrev yL:WO:=λ_ Q=>Q none
def yH(A:WE):WO:=λZ Q=>A Z λd=>match d with|.int i=>Q (some i)|_=>False
def znU:DO X c none yL:=⟨λ_ _ _ k q=>k _ q,λaa s U H Q I ⟨Z,G,r,q⟩=>zqj aa s U H Q I (q H G r.refl)⟩
def zn5(hA:DE X c a A):DO X c (some a) (yH A)where
 mono:=λZ Q Q' k q=>hA.mono Z _ _ (λd z=>by cases d<;>first|exact k _ z|exact z) q
 po:=λaa s U H Q I ⟨Z,G,r,q⟩=>zp8 hA.pe aa s U H Q I ⟨Z,G,r,hA.mono Z _ _ (λd z v H' G' t e=>by
  cases d with
  |int i=>exact⟨i,e,z H' G' t⟩
  |_=>exact z.elim) q⟩
def slD(x:D)(lo hi:Option Int)(Q:D->Prop):Prop:=match x with
 |.lst _ xs=>Q (.lst true (cutD xs lo hi))
 |.tup xs=>Q (.tup (cutD xs lo hi))
 |_=>False
def zph(fm:ph f)(gm:ph g)(mA:km A)(mB:km B)(mC:km C):km (zoc f g A B C):=λZ Q Q' k q=>mA Z _ _ (λx q1=>mB Z _ _ (λy q2=>fm x y _ _ (λz q3=>zig z (λb q4=>by
 cases b
 .exact k _ q4
 .exact mC Z _ _ (λw q5=>gm y w _ _ k q5) q4) q3) q2) q1) q
def zoz(fm:ph f)(gm:ph g)(mA:km A)(mB:km B)(mC:km C)(hr:rA c f r)(hr':rA c g r')(U:St)(H:Hp)(Q:VK)(h:tD c (zoc f g A B C) U H Q):ztB r r' (tD c A) (tD c B) (tD c C) U H Q:=by
 obtain⟨Z,G,R,q⟩:=h;refine⟨Z,G,R,mA Z _ _ (λx q1 u H1 G1 t1 e1=>⟨Z,G1,R.step t1,mB Z _ _ (λy q2 v H2 G2 t2 e2=>?_) q1⟩) q⟩;refine hr H2 G2 x y u v _ t2.gh t2.bx (λa z=>R.new0 (t1.free (t2.free z))) (e1.mono t2.gg) e2 (fm x y _ _ (λz q3 w H3 G3 t3 e3=>?_) q2);cases z with
 |bl k=>
  refine⟨k,e3,?_⟩;cases k
  .exact q3 _ H3 G3 ((t1.trans t2).trans t3) rfl
  .refine⟨Z,G3,((R.step t1).step t2).step t3,mC Z _ _ (λw' q5 v' H4 G4 t4 e4=>?_) q3⟩;exact hr' H4 G4 y w' v v' Q t4.gh t4.bx (λa z=>R.new0 (t1.free (t2.free (t3.free (t4.free z))))) ((e2.mono t3.gg).mono t4.gg) e4 (gm y w' _ _ (λd z w2 H5 G5 t5 e5=>z w2 H5 G5 ((((t1.trans t2).trans t3).trans t4).trans t5) e5) q5)
 |_=>exact q3.elim
end
section
variable{X:Cx}{c:Bk}{a b e:Expr}{A B:WE}{pos p p':Pos}{es:List Expr}
abbrev FL:=List D->(D->Prop)->Prop
def uw(f:FL):Prop:=∀ds Q Q',(∀d,Q d->Q' d)->f ds Q->f ds Q'
abbrev cbW(f:FL)(R:WL):WE:=λZ Q=>R Z λds=>f ds Q
def uv(c:Bk)(f:FL)(r:List V->Hp->VK->Prop):Prop:=∀(H G:Hp)(ds:List D)(vs:List V)(Q:VK),Same G H->fU c.β H G->(∀a,H a=none->c.H0 a=none)->aC c G ds vs ->
 f ds (λd=>∀v H' G',aY c.β H G H' G'->Rep c G' d v->Q v H')->r vs H Q
def zpQ(fm:uw f)(mR:sU R)(hr:uv c f r)(U:St)(H:Hp)(Q:VK)(h:tD c (cbW f R) U H Q):tCB r (tDs c R) U H Q:=by
 obtain⟨Z,G,r',q⟩:=h;exact⟨Z,G,r',mR Z _ _ (λds z vs H' G' t e=>hr H' G' ds vs Q t.gh t.bx (λa z=>r'.new0 (t.free z)) e (fm ds _ _ (λd y v H2 G2 t2 e2=>y v H2 G2 (t.trans t2) e2) z)) q⟩
def zkT{f:FL}{R:WL}{r:List V->Hp->VK->Prop}{id:String}{x:Str}(fm:uw f)(hc:cL X (.builtin id) r)(hr:uv c f r)(hm:X.mg x=none)(hv:bootBuiltins x=some (.builtin id))(hR:DA X c (e::es) R)(hg:Gl X x:=by rfl)(hn:x≠"__name__":=by decide)(hdb:ZD x:=by decide)
  (he:starEach (e::es) X.env=(false,eval e X.env)::starEach es X.env:=by rfl) (hpl:(backTo pos (starEach es X.env)).any (·.1)=false:=by rfl):DE X c (.Call (.Name x p) (e::es) [] pos) (cbW f R):=
 ⟨λZ Q Q' k q=>hR.mono Z _ _ (λds z=>fm ds _ _ k z) q,dw (zlb hc hg hm hv hR.pa hn hdb he hpl) (zpQ fm hR.mono hr)⟩
def zk3(fm:uw f)(hc:cL X (.type T) r)(hr:uv c f r)(hm:X.mg x=none)(hv:bootBuiltins x=some (.type T))(hR:DA X c (e::es) R)(hg:Gl X x:=by rfl)(hn:x≠"__name__":=by decide)(hdb:ZD x:=by decide)
  (he:starEach (e::es) X.env=(false,eval e X.env)::starEach es X.env:=by rfl) (hpl:(backTo pos (starEach es X.env)).any (·.1)=false:=by rfl):DE X c (.Call (.Name x p) (e::es) [] pos) (cbW f R):=
 ⟨λZ Q Q' k q=>hR.mono Z _ _ (λds z=>fm ds _ _ k z) q,dw (Es hc hg hm hv hR.pa hn hdb he hpl) (zpQ fm hR.mono hr)⟩
def uh(h:aC c G [d] vs):∃v,vs=[v]/\Rep c G d v:=by
 obtain⟨v,ws,rfl,h1,h2⟩:=h;cases h2;exact⟨v,rfl,h1⟩
def zyu(h:aC c G [d,f] vs):∃v w,vs=[v,w]/\Rep c G d v/\Rep c G f w:=by
 obtain⟨v,ws,rfl,h1,w,ws',rfl,h2,h3⟩:=h;cases h3;exact⟨v,w,rfl,h1,h2⟩
def vI:FL
 |[.lst _ xs],Q=>Q (.int xs.length)
 |[.tup xs],Q=>Q (.int xs.length)
 |_,_=>False
def zyP:uw vI:=λds Q Q' k q=>by
 unfold vI at q ⊢;split at q<;>first|exact k _ q|exact q.elim
def zxM:uv c vI (λxs H Q=>∃p ys,xs=[.ref p]/\(cg c.K H p ys\/fM c.K H p ys)/\Q (.int ys.length) H):=by
 intro H G ds vs Q gh bx h0 rv q;unfold vI at q;split at q
 .obtain⟨v,rfl,a,ws,rfl,ha,_,hw⟩:=uh rv;exact⟨a,ws,rfl,.inl (cg.of (gh _ _ ha)),by rw[<-hw.length];exact q _ H G (aY.refl gh bx) rfl⟩
 .obtain⟨v,rfl,a,ws,rfl,ha,hw⟩:=uh rv;exact⟨a,ws,rfl,.inr (qI gh ha),by rw[<-hw.length];exact q _ H G (aY.refl gh bx) rfl⟩
 .exact q.elim
def qM(d:D)(Q:List D->Prop):Prop:=match d with|.lst _ xs=>Q xs|.tup xs=>Q xs|_=>False
def zi8(k:∀xs,Q xs->Q' xs)(q:qM d Q):qM d Q':=by
 cases d<;>first|exact k _ q|exact q
abbrev J8(A:WE):WL:=λZ Q=>A Z λd=>qM d Q
def zru(hA:DE X c e A)(hg:Gl X "list":=by rfl)(he:ZE e X:=by rfl)(hK:c.K=X.K:=by rfl)(hm:X.mg "list"=none:=by decreasing_trivial):DF X c (.Call (.Name "list" p) [e] [] pos) (J8 A)where
 mono:=λZ Q Q' k q=>hA.mono Z _ _ (λd z=>zi8 k z) q
 pe:=dw (Es zff hg hm Ma (kj hA.pe nF he) (by decide) (by decide) he rfl) λU H Q ⟨Z,G,r,q⟩=>⟨Z,G,r,hA.mono Z _ _ (λd z v H' G' t e=>by
  cases d with
  |lst n xs=>
   obtain⟨a,vs,rfl,ha,_,rv⟩:=e;exact⟨a,vs,rfl,.inl (cg.of (t.gh _ _ ha)),λl hl=>z l vs _ _ (t.trans (aY.own t.gh t.bx hl)) cG (lU t.gh hl) (t.free hl) rv⟩
  |tup xs=>
   obtain⟨a,vs,rfl,ha,rv⟩:=e;exact⟨a,vs,rfl,.inr (hK▸qI t.gh ha),λl hl=>z l vs _ _ (t.trans (aY.own t.gh t.bx hl)) cG (lU t.gh hl) (t.free hl) rv⟩
  |_=>exact z.elim) q⟩
def uH:FL
 |[.lst _ xs],Q=>Q (.tup xs)
 |[.tup xs],Q=>Q (.tup xs)
 |_,_=>False
def zuZ:uw uH:=λds Q Q' k q=>by
 unfold uH at q ⊢;split at q<;>first|exact k _ q|exact q.elim
def zsO:uv c uH (λxs H Q=>∃p ys,xs=[.ref p]/\((cg c.K H p ys/\∀l,H l=none->Q (.ref l) (upd H l (.tup ys)))\/(fM c.K H p ys/\Q (.ref p) H))):=by
 intro H G ds vs Q gh bx h0 rv q;unfold uH at q;split at q
 .obtain⟨v,rfl,a,ws,rfl,ha,_,hw⟩:=uh rv;exact⟨a,ws,rfl,.inl ⟨cg.of (gh _ _ ha),λl hl=>q _ _ _ (aY.new gh bx hl) ⟨l,ws,rfl,fM.of cG,hw.mono (lD (lU gh hl))⟩⟩⟩
 .obtain⟨v,rfl,a,ws,rfl,ha,hw⟩:=uh rv;exact⟨a,ws,rfl,.inr ⟨qI gh ha,q _ H G (aY.refl gh bx) ⟨a,ws,rfl,ha,hw⟩⟩⟩
 .exact q.elim
def zkQ(hR:DA X c [e] R)(hg:Gl X "tuple":=by rfl)(he:ZE e X:=by rfl)(hK:c.K=X.K:=by rfl)(hm:X.mg "tuple"=none:=by decreasing_trivial):DE X c (.Call (.Name "tuple" p) [e] [] pos) (cbW uH R):=
 zk3 zuZ zk4 (hK▸zsO) hm PyProof.Rows.boot_tuple hR hg (by decide) (by decide) he rfl
def vM:FL
 |[.int i],Q=>Q (.int i)
 |[.bl k],Q=>Q (.int (if k then 1 else 0))
 |_,_=>False
def zyS:uw vM:=λds Q Q' k q=>by
 unfold vM at q ⊢;split at q<;>first|exact k _ q|exact q.elim
def zw6:uv c vM (λxs H Q=>(∃i,xs=[.int i]/\Q (.int i) H)\/∃k,xs=[.bl k]/\Q (.int (if k then 1 else 0)) H):=by
 intro H G ds vs Q gh bx h0 rv q;unfold vM at q;split at q
 .obtain⟨v,rfl,h⟩:=uh rv;cases h;exact .inl ⟨_,rfl,q _ H G (aY.refl gh bx) rfl⟩
 .obtain⟨v,rfl,h⟩:=uh rv;cases h;exact .inr ⟨_,rfl,q _ H G (aY.refl gh bx) rfl⟩
 .exact q.elim
def nR:FL
 |[.lst _ xs],Q=>∃bs:List Bool,xs=bs.map D.bl/\Q (.bl (bs.all id))
 |_,_=>False
def zyO:uw nR:=λds Q Q' k q=>by
 unfold nR at q ⊢;split at q
 .obtain⟨bs,e,q⟩:=q;exact⟨bs,e,k _ q⟩
 .exact q.elim
def zxI:uv c nR (λvs H Q=>∃(p:Addr)(bs:List Bool),vs=[.ref p]/\cg c.K H p (bs.map V.bl)/\Q (.bl (bs.all id)) H):=by
 intro H G ds vs Q gh bx h0 rv q;unfold nR at q;split at q
 .obtain⟨bs,rfl,q⟩:=q;obtain⟨v,rfl,a,ws,rfl,ha,_,hw⟩:=uh rv;rw[jo.mp hw]at ha;exact⟨a,bs,rfl,cg.of (gh _ _ ha),q _ H G (aY.refl gh bx) rfl⟩
 .exact q.elim
def zvh(hR:DA X c [e] R)(hg:Gl X "all":=by rfl)(he:ZE e X:=by rfl)(hK:c.K=X.K:=by rfl)(hcalm:X.calm=true:=by rfl)(hm:X.mg "all"=none:=by decreasing_trivial):DE X c (.Call (.Name "all" p) [e] [] pos) (cbW nR R):=
 zkT zyO (zrt hcalm) (hK▸zxI) hm PyProof.Rows.boot_all hR hg (by decide) (by decide) he rfl
def wX(T:String):D->Option Bool
 |.non=>some false
 |.bl _=>some (T=="bool" || T=="int")
 |.int _=>some (T=="int")
 |.str _=>some (T=="str")
 |.tup _=>some (T=="tuple")
 |.lst _ _=>some (T=="list")
 |.box=>none
 |.obj _=>none
 |.dct _ _ _=>none
 |.fdc _ _=>none
def jX(T:String)(A:WE):WE:=λZ Q=>A Z λd=>match wX T d with|some b=>Q (.bl b)|none=>False
def zu6(hT:T="list" \/ T="tuple" \/ T="int" \/ T="bool" \/ T="str")(gh:Same G H)(h:Rep c G d v)(e:wX T d=some k):jk c.K H v T k:=by
 cases d with
 |non=>cases h;rcases hT with rfl|rfl|rfl|rfl|rfl<;>cases e<;>constructor
 |bl b=>cases h;rcases hT with rfl|rfl|rfl|rfl|rfl<;>cases e<;>constructor
 |int b=>cases h;rcases hT with rfl|rfl|rfl|rfl|rfl<;>cases e<;>constructor
 |str b=>cases h;rcases hT with rfl|rfl|rfl|rfl|rfl<;>cases e<;>constructor
 |tup xs=>
  obtain⟨a,vs,rfl,h1,_⟩:=h;have q:=qI gh h1;rcases hT with rfl|rfl|rfl|rfl|rfl<;>cases e
  .exact .tuple_list _ _ q
  .exact .tuple_tuple _ _ q
  .exact .tuple_int _ _ q
  .exact .tuple_bool _ _ q
  .exact .tuple_str _ _ q
 |lst n xs=>
  obtain⟨a,vs,rfl,h1,_⟩:=h;have q:cg c.K H a vs:=cg.of (gh _ _ h1);rcases hT with rfl|rfl|rfl|rfl|rfl<;>cases e
  .exact .list_list _ _ q
  .exact .list_tuple _ _ q
  .exact .list_int _ _ q
  .exact .list_bool _ _ q
  .exact .list_str _ _ q
 |box=>cases e
 |obj a=>cases e
 |dct n ks xs=>cases e
 |fdc ks xs=>cases e
def uq(hA:DE X c e A)(hg:Gl X "isinstance":=by rfl)(hg2:Gl X x:=by rfl)(hn:x≠"__name__":=by decide)(hd:ZD x:=by decide)(he:starEach [e,.Name x p'] X.env=(false,eval e X.env)::starEach [.Name x p'] X.env:=by rfl)(hK:c.K=X.K:=by rfl)(hT:T="list" \/ T="tuple" \/ T="int" \/ T="bool" \/ T="str":=by decreasing_trivial)(hm:X.mg "isinstance"=none:=by decreasing_trivial)(hm2:X.mg x=none:=by decreasing_trivial)(hbt:bootBuiltins x=some (.type T):=by decreasing_trivial) :
  DE X c (.Call (.Name "isinstance" p) [e,.Name x p'] [] pos) (jX T A)where
 mono:=λZ Q Q' k q=>hA.mono Z _ _ (λd z=>by
  revert z;cases wX T d with
  |none=>exact id
  |some b=>exact k _) q
 pe:=dw (zlb zsC hg hm PyProof.Rows.boot_isinstance (kj hA.pe (kj (zuY (v:=.ty T) hg2 hm2 hbt rfl hn hd) nF) he) (by decide) (by decide) he rfl) λU H Q ⟨Z,G,r,q⟩=>⟨Z,G,r,hA.mono Z _ _ (λd z v H' G' t e=>by
  revert z;cases hk:wX T d with
  |none=>exact False.elim
  |some b=>exact λz=>⟨v,T,b,rfl,hK▸zu6 hT t.gh e hk,z _ H' G' t rfl⟩) q⟩
abbrev Fn:=List D->(D->Prop)->Prop
def up(F:Fn):Fn:=λds Q=>∃P:D->Prop,F ds P/\∀d,P d->Q d
def qU(F:Fn):uw (up F):=λds Q Q' k ⟨P,h1,h2⟩=>⟨P,h1,λd z=>k d (h2 d z)⟩
def eV(K:qd)(n:Nat)(F:Fn):Sp:=λvs H Q _=>∃ β G ds,Same G H/\fU β H G/\aC ⟨K,β,λ_=>none,G,True⟩ G ds vs/\vs.length=n/\up F ds λd=>∀v H' G',aY β H G H' G'->Rep ⟨K,β,H,G,True⟩ G' d v->Q v H'
structure gG(P:Program)(w:World)(K:qd)(mg:Str->Option Value)(base:Heap)(x:Str)(k:Nat)(ps:List Str)(sp:Sp):Prop where
 ex:∃f fd,aG P w K mg base dh k f fd ps sp/\mg x=some (.ref f)/\PySem.W.keepIn K (.ref f)=true/\Binds K fd ps []
def gG.of(F:bD K x qual st f fd)(G:aG P w K mg base dh k f fd ps sp)(hm:mg x=some (.ref f))(hb:Binds K fd ps []):gG P w K mg base x k ps sp:=
 ⟨f,fd,G,hm,F.kp,hb⟩
abbrev dZ(n:Nat)(F:Fn)(R:WL):WE:=λZ Q=>R Z λds=>ds.length=n/\up F ds Q
def iT(C:gG X.prog X.w X.K X.mg X.base x k ps (eV X.K n F))(hR:DA X c (e::es) R)(hg:Gl X x:=by rfl)
  (hdb:ZD x:=by decide) (sk:Sk X e es pos:=by exact⟨rfl,rfl⟩) (hK:c.K=X.K:=by rfl) (hr:bA k X.A:=by decreasing_trivial) :
  DE X c (.Call (.Name x p) (e::es) [] pos) (dZ n F R)where
 mono:=λZ Q Q' k q=>hR.mono Z _ _ (λds z=>⟨z.1,qU F ds _ _ k z.2⟩) q
 pe:=by
  obtain⟨f,fd,FO,hm,hk,hb⟩:=C.ex;refine dw (zq FO hr hg hm hk hb .nil zc hR.pa hdb sk.1 sk.2) λU H Q ⟨Z,G,r,q⟩=>⟨Z,G,r,hR.mono Z _ _ (λds z vs H' G' t e=>?_) q⟩;show eV X.K n F _ H' Q E0;rw[YAF];exact⟨c.β,G',ds,t.gh,t.bx,aC.back (c':=c) (c:=⟨X.K,c.β,λ_=>none,G',True⟩) hK rfl (λ_ _=>rfl) e,by rw[<-e.length];exact z.1,
   qU F ds _ _ (λd z v H2 G2 t2 e2=>z v H2 G2 (t.trans t2) (Rep.back (c':=⟨X.K,c.β,H',G',True⟩) hK.symm rfl (λa h=>r.new0 (t.free h)) e2)) z.2⟩
end
mutual
inductive Tg where
 |nm (i:Nat)
 |tp (n:Nat) (ts:xg)
inductive xg where
 |nil
 |cons (t:Tg) (ts:xg)
end
mutual
def lC(K:qd):Tg->TG
 |.nm i=>yh i
 |.tp n ts=>xV K n (lM K ts)
def lM(K:qd):xg->uc
 |.nil=>xU
 |.cons t ts=>zsy (lC K t) (lM K ts)
end
mutual
def gD:Tg->D->Env->(Env->Prop)->Prop
 |.nm i,d,Z,Q=>Q (Z.set i (.val d))
 |.tp n ts,.tup ds,Z,Q=>ds.length=n/\j9 ts ds Z Q
 |.tp n ts,.lst _ ds,Z,Q=>ds.length=n/\j9 ts ds Z Q
 |.tp _ _,_,_,_=>False
def j9:xg->List D->Env->(Env->Prop)->Prop
 |.nil,[],Z,Q=>Q Z
 |.cons t ts,d::ds,Z,Q=>gD t d Z λZ'=>j9 ts ds Z' Q
 |_,_,_,_=>False
end
mutual
theorem tM:∀(t:Tg)(d:D)(Z:Env){Q Q':Env->Prop},(∀ Z,Q Z->Q' Z)->gD t d Z Q->gD t d Z Q'
 |.nm i,d,Z,Q,Q',k,q=>by unfold gD at q ⊢;exact k _ q
 |.tp n ts,.tup ds,Z,Q,Q',k,q=>by unfold gD at q ⊢;exact⟨q.1,zk9 ts ds Z k q.2⟩
 |.tp _ _,.non,_,_,_,_,q=>by unfold gD at q;exact q.elim
 |.tp _ _,.bl _,_,_,_,_,q=>by unfold gD at q;exact q.elim
 |.tp _ _,.int _,_,_,_,_,q=>by unfold gD at q;exact q.elim
 |.tp _ _,.str _,_,_,_,_,q=>by unfold gD at q;exact q.elim
 |.tp n ts,.lst _ ds,Z,Q,Q',k,q=>by unfold gD at q ⊢;exact⟨q.1,zk9 ts ds Z k q.2⟩
 |.tp _ _,.box,_,_,_,_,q=>by unfold gD at q;exact q.elim
 |.tp _ _,.obj _,_,_,_,_,q=>by unfold gD at q;exact q.elim
 |.tp _ _,.dct _ _ _,_,_,_,_,q=>by unfold gD at q;exact q.elim
 |.tp _ _,.fdc _ _,_,_,_,_,q=>by unfold gD at q;exact q.elim
theorem zk9:∀(ts:xg)(ds:List D)(Z:Env){Q Q':Env->Prop},(∀ Z,Q Z->Q' Z)->j9 ts ds Z Q->j9 ts ds Z Q'
 |.nil,[],Z,Q,Q',k,q=>by unfold j9 at q ⊢;exact k _ q
 |.cons t ts,d::ds,Z,Q,Q',k,q=>by unfold j9 at q ⊢;exact tM t d Z (λZ' z=>zk9 ts ds Z' k z) q
 |.nil,_::_,_,_,_,_,q=>by unfold j9 at q;exact q.elim
 |.cons _ _,[],_,_,_,_,q=>by unfold j9 at q;exact q.elim
end
mutual
theorem yw :∀(t:Tg)(d:D)(v:V)(Z:Env)(U:St){Q:St->Hp->Prop},Rel c Z U H G->Rep c G d v->gD t d Z (λZ'=>∀ U',Rel c Z' U' H G->Q U' H)->lC c.K t v U H Q
 |.nm i,d,v,Z,U,Q,r,e,q=>by unfold gD at q;unfold lC;exact q _ (r.put e)
 |.tp n ts,.tup ds,v,Z,U,Q,r,e,q=>by
  unfold gD at q;unfold lC;obtain⟨a,vs,rfl,ha,hv⟩:=e;exact⟨a,vs,rfl,.inl (qI r.gh ha),by rw[<-hv.length];exact q.1,zke ts ds vs Z U r hv q.2⟩
 |.tp _ _,.non,_,_,_,_,_,_,q=>by unfold gD at q;exact q.elim
 |.tp _ _,.bl _,_,_,_,_,_,_,q=>by unfold gD at q;exact q.elim
 |.tp _ _,.int _,_,_,_,_,_,_,q=>by unfold gD at q;exact q.elim
 |.tp _ _,.str _,_,_,_,_,_,_,q=>by unfold gD at q;exact q.elim
 |.tp n ts,.lst m ds,v,Z,U,Q,r,e,q=>by
  unfold gD at q;unfold lC;obtain⟨a,vs,rfl,ha,_,hv⟩:=e;exact⟨a,vs,rfl,.inr (cg.of (r.gh _ _ ha)),by rw[<-hv.length];exact q.1,zke ts ds vs Z U r hv q.2⟩
 |.tp _ _,.box,_,_,_,_,_,_,q=>by unfold gD at q;exact q.elim
 |.tp _ _,.obj _,_,_,_,_,_,_,q=>by unfold gD at q;exact q.elim
 |.tp _ _,.dct _ _ _,_,_,_,_,_,_,q=>by unfold gD at q;exact q.elim
 |.tp _ _,.fdc _ _,_,_,_,_,_,_,q=>by unfold gD at q;exact q.elim
theorem zke :∀(ts:xg)(ds:List D)(vs:List V)(Z:Env)(U:St){Q:St->Hp->Prop},Rel c Z U H G->aC c G ds vs->j9 ts ds Z (λZ'=>∀ U',Rel c Z' U' H G->Q U' H)->lM c.K ts vs U H Q
 |.nil,[],vs,Z,U,Q,r,e,q=>by unfold j9 at q;unfold lM;exact⟨e,q _ r⟩
 |.cons t ts,d::ds,vs,Z,U,Q,r,e,q=>by
  unfold j9 at q;unfold lM;obtain⟨v,ws,rfl,e1,e2⟩:=e;exact⟨v,ws,rfl,yw t d v Z U r e1 (tM t d Z (λZ' z U' r'=>zke ts ds ws Z' U' r' e2 z) q)⟩
 |.nil,_::_,_,_,_,_,_,_,q=>by unfold j9 at q;exact q.elim
 |.cons _ _,[],_,_,_,_,_,_,q=>by unfold j9 at q;exact q.elim
end
structure En where
 nx:Env->Prop
 rt:D->Prop
 bk:Env->Prop
 ct:Env->Prop
abbrev WS:=En->Env->Prop
structure En.Le(E E':En):Prop where
 nx:∀ Z,E.nx Z->E'.nx Z
 rt:∀d,E.rt d->E'.rt d
 bk:∀ Z,E.bk Z->E'.bk Z
 ct:∀ Z,E.ct Z->E'.ct Z
def J5(W:WS):Prop:=∀E E' Z,En.Le E E'->W E Z->W E' Z
def ends(c:Bk)(G:Hp)(Ds:Ends):En where
 nx:=λZ=>∀ U H' G',Rel c Z U H' G'->Same G G'->Ds.nx U H'
 rt:=λd=>∀v H' G',aY c.β c.H0 c.G0 H' G'->Rep c G' d v->Ds.rt v H'
 bk:=λZ=>∀ U H' G',Rel c Z U H' G'->Same G G'->Ds.bk U H'
 ct:=λZ=>∀ U H' G',Rel c Z U H' G'->Same G G'->Ds.ct U H'
def zkU(s:Same G G1):En.Le (ends c G Ds) (ends c G1 Ds):=
 ⟨λZ h U H' G' r s'=>h U H' G' r (s.trans s'),λd h=>h,λZ h U H' G' r s'=>h U H' G' r (s.trans s'),λZ h U H' G' r s'=>h U H' G' r (s.trans s')⟩
def tDS(c:Bk)(W:WS):TS:=λDs U H=>∃ Z G,Rel c Z U H G/\W (ends c G Ds) Z
structure DS(X:Cx)(c:Bk)(st:Stmt)(W:WS):Prop where
 mono:J5 W
 ps:PS X st (tDS c W)
structure vG(X:Cx)(c:Bk)(sts:List Stmt)(W:WS):Prop where
 mono:J5 W
 pss:mq X sts (tDS c W)
section
variable{X:Cx}{c:Bk}{st:Stmt}{rest:List Stmt}{pos p p':Pos}{e:Expr}
def lZ(h:PS X st t)(k:∀D U H,t' D U H->t D U H):PS X st t':=λaa s U H D I q=>h aa s U H D I (k D U H q)
def yo(h:mq X rest t)(k:∀D U H,t' D U H->t D U H):mq X rest t':=λaa s U H D I q=>h aa s U H D I (k D U H q)
abbrev cX:WS:=λE Z=>E.nx Z
abbrev aM(A B:WS):WS:=λE Z=>A {E with nx:=B E} Z
def jQ:vG X c [] cX:=⟨λE E' Z l q=>l.nx _ q,yo LQ λD U H ⟨Z,G,r,q⟩=>q U H G r (Same.refl _)⟩
def cu(h1:DS X c st A)(h2:vG X c rest B):vG X c (st::rest) (aM A B)where
 mono:=λE E' Z l q=>h1.mono {E with nx:=B E} _ Z ⟨λZ' z=>h2.mono _ _ Z' l z,l.rt,l.bk,l.ct⟩ q
 pss:=yo (pD h1.ps h2.pss) λD U H ⟨Z,G,r,q⟩=>⟨Z,G,r,h1.mono {ends c G D with nx:=B _} _ Z ⟨λZ' z U' H' G' r' s'=>⟨Z',G',r',h2.mono _ _ Z' (zkU s') z⟩,λd z=>z,λZ' z=>z,λZ' z=>z⟩ q⟩
def cz(h1:DS X c st A):vG X c [st] A:=⟨h1.mono,vO h1.ps⟩
def pG(i:Nat)(Z:Env):Env:=match Z[i]? with|some (.own xs)=>Z.set i (.val (.lst true xs))|_=>Z
abbrev Ls(i:Nat)(A:WS):WS:=λE Z=>A E (pG i Z)
def ztH(r:Rel c Z U H G)(i:Nat):∃G',Same G G'/\Rel c (pG i Z) U H G':=by
 unfold pG;split
 .rename_i xs e;exact r.freeze e
 .exact⟨G,Same.refl _,r⟩
def zyN(i:Nat)(h:DS X c st A):DS X c st (Ls i A)where
 mono:=λE E' Z l q=>h.mono E E' _ l q
 ps:=lZ h.ps λD U H ⟨Z,G,r,q⟩=>by
  obtain⟨G',s',r'⟩:=ztH r i;exact⟨pG i Z,G',r',h.mono _ _ _ (zkU s') q⟩
abbrev iI(C:WT)(A B:WS):WS:=λE Z=>C Z λb=>if b=true then A E Z else B E Z
def du(hC:DT X c e C)(hA:vG X c a A)(hB:vG X c b B):DS X c (.If e a b pos) (iI C A B)where
 mono:=λE E' Z l q=>hC.mono Z _ _ (λb z=>by
  cases b
  .exact hB.mono _ _ Z l z
  .exact hA.mono _ _ Z l z) q
 ps:=lZ (Dj hC.pt hA.pss hB.pss) λD U H ⟨Z,G,r,q⟩=>⟨Z,G,r,hC.mono Z _ _ (λb z H' G' t=>by
  cases b
  .exact⟨Z,G',r.step t,hB.mono _ _ Z (zkU t.gg) z⟩
  .exact⟨Z,G',r.step t,hA.mono _ _ Z (zkU t.gg) z⟩) q⟩
abbrev aU(A:WE):WS:=λE Z=>A Z E.rt
def cI(hA:DE X c e A):DS X c (.Return (some e) pos) (aU A)where
 mono:=λE E' Z l q=>hA.mono Z _ _ l.rt q
 ps:=lZ (yq hA.pe) λD U H ⟨Z,G,r,q⟩=>⟨Z,G,r,hA.mono Z _ _ (λd z v H' G' t e=>z v H' G' (r.stp.trans t) e) q⟩
abbrev xx(A:WE):WS:=λE Z=>A Z λ_=>E.nx Z
def By(hA:DE X c e A)(hs:swapsWith e none pos.line X.env=pure false:=by rfl):DS X c (.Expr e pos) (xx A)where
 mono:=λE E' Z l q=>hA.mono Z _ _ (λd z=>l.nx _ z) q
 ps:=lZ (Ex hA.pe hs) λD U H ⟨Z,G,r,q⟩=>⟨Z,G,r,hA.mono Z _ _ (λd z v H' G' t e=>z U H' G' (r.step t) t.gg) q⟩
abbrev bh(t:Tg)(A:WE):WS:=λE Z=>A Z λd=>gD t d Z E.nx
def znR(mA:km A)(D:Ends)(U:St)(H:Hp)(h:tDS c (bh t A) D U H):tR (tD c A) (lC c.K t) D U H:=by
 obtain⟨Z,G,r,q⟩:=h;exact⟨Z,G,r,mA Z _ _ (λd z v H' G' t1 e1=>yw t d v Z U (r.step t1) e1 (tM t d Z (λZ' y U' r'=>y U' H' G' r' t1.gg) z)) q⟩
def zkF(mA:km A):J5 (bh t A):=λE E' Z l q=>mA Z _ _ (λd z=>tM t d Z l.nx z) q
def gn(i:Nat)(hi:X.N[i]?=some x:=by rfl)(hx:Loc X.env.scope x:=by first|exact Or.inl rfl|exact Or.inr rfl)(hf:X.fn x=true\/X.env.scope.names.lookup x=some .local:=by first|exact .inl rfl|exact .inr rfl|assumption)(hN:X.N.Nodup:=by decreasing_trivial):PG X (.Name x p) (yh i):=zm8 hN hi hx hf
def ndB:List Str->Bool
 |[]=>true
 |x::l=>!l.elem x&&ndB l
theorem uQ:∀{l:List Str},ndB l=true->l.Nodup
 |[],_=>List.nodup_nil
 |x::l,h=>by
  have:=KH.mp h
  refine yE.mpr ⟨λm=>?_,uQ this.2⟩;rw[List.elem_iff.mpr m]at this;exact absurd this.1 (by decide)
def jc(i:Nat)(hA:DE X c e A)(hi:X.N[i]?=some x:=by rfl)(hx:Loc X.env.scope x:=by first|exact Or.inl rfl|exact Or.inr rfl)(hs:swapsWith e (some (.Name x p)) pos.line X.env=pure false:=by rfl)(hf:X.fn x=true\/X.env.scope.names.lookup x=some .local:=by first|exact .inl rfl|exact .inr rfl|assumption)(hN:X.N.Nodup:=by decreasing_trivial):DS X c (.Assign [.Name x p] e pos) (bh (.nm i) A):=
 ⟨zkF hA.mono,lZ (xJ hN hi hx hA.pe hs hf) λD U H h=>znR hA.mono D U H h⟩
def tX(t:Tg)(hA:DE X c e A)(hg:PG X tg (lC c.K t))(hs:swapsWithSole [tg] e pos.line X.env=pure false:=by rfl)(hw:swappedStores [tg] e X.env=pure none:=by rfl)
  (h1:(assignEach [tg] X.env).map (·.2)=[assign tg X.env]:=by rfl):DS X c (.Assign [tg] e pos) (bh t A):=
 ⟨zkF hA.mono,lZ (CG hA.pe hg hs hw h1) λD U H h=>znR hA.mono D U H h⟩
abbrev vH(i:Nat)(F:WL):WS:=λE Z=>F Z λxs=>E.nx (Z.set i (.own xs))
def zr7(mF:sU F):J5 (vH i F):=λE E' Z l q=>mF Z _ _ (λd z=>l.nx _ z) q
def zsc(mF:sU F)(D:Ends)(U:St)(H:Hp)(h:tDS c (vH i F) D U H):tR (tDf c F) (yh i) D U H:=by
 obtain⟨Z,G,r,q⟩:=h;refine⟨Z,G,r,mF Z _ _ (λxs z l vs H' G' t hl hg h0 hv=>?_) q⟩;refine z _ H' G' ((r.step t).putOwn hl hg (r.new0 h0) (r.neβ h0) hv λj ys e1 e2=>?_) t.gg;obtain⟨a,vs',f1,f2,_⟩:=r.slot j _ e1;rw[e2]at f1;cases f1;rw[h0]at f2;cases f2
def qu(i:Nat)(A:WE):WS:=λE Z=>match Z[i]? with
 |some (.own xs)=>A Z λd=>xs.length<100000/\E.nx (Z.set i (.own (xs++[d])))
 |_=>False
def zwG(i:Nat)(hA:DE X c e A)(nk:Nk X i x:=by decreasing_trivial)
  (hbase:ZB (.Name x p) "append" X:=by rfl)
  (hfew:ZF cpos e X:=by rfl)
  (hline:(apos.endLine==cpos.line)=true:=by rfl) (hs:ZE e X:=by rfl)
  (hsw:swapsWith (.Call (.Attribute (.Name x p) "append" apos) [e] [] cpos) none pos.line X.env=pure false:=by rfl):DS X c (.Expr (.Call (.Attribute (.Name x p) "append" apos) [e] [] cpos) pos) (qu i A)where
 mono:=λE E' Z l q=>by
  unfold qu at q ⊢;split at q
  .exact hA.mono Z _ _ (λd z=>⟨z.1,l.nx _ z.2⟩) q
  .exact q.elim
 ps:=lZ (Ex (HB YAW YBN YBO zg8 (kY nk.N nk.v nk.d nk.c) (kj hA.pe nF hs) hbase hfew hline hs rfl) hsw) λD U H ⟨Z,G,r,q⟩=>by
  unfold qu at q;split at q
  .rename_i xs ek
   obtain⟨a,vs,h1,h2,h3,h4,h5,h6⟩:=r.slot i _ ek;refine⟨.ref a,h1,.inl ⟨rfl,vs,cg.of h2⟩,Z,G,r,hA.mono Z _ _ (λd z w H' G' t e=>?_) q⟩;refine⟨a,vs,w,rfl,rfl,t.fr a _ h5 h2,?_,?_⟩
   .exact h6.length▸(lg z.1 (dW (d8 _)))
   .exact z.2 _ _ G' ((r.step t).write ek h1 ((h6.mono t.gg).append (.one e))) t.gg
  .exact q.elim
end
def sW(c:Bk)(J:It)(xs:List D)(G:Hp):Prop:=∀(i:Nat)(H2 G2:Hp),Same G G2->Same G2 H2->fU c.β H2 G2->(∀a,H2 a=none->c.H0 a=none) ->
 (i=xs.length->J.stop i H2)/\∀d,xs[i]?=some d->J.go i H2/\∀x H3,J.yld i H2 x H3->∃G3,aY c.β H2 G2 H3 G3/\Rep c G3 d x
def tDI(c:Bk)(I:WL):TI:=λU H R=>∃ Z G,Rel c Z U H G/\I Z λxs=>∀J H' G',aY c.β H G H' G'->sW c J xs G'->R J H'
structure DI(X:Cx)(c:Bk)(tg iter:Expr)(I:WL):Prop where
 mono:sU I
 pi:PI X tg iter (tDI c I)
section
variable{X:Cx}{c:Bk}{tg e a b:Expr}{A B:WE}{pos p:Pos}
def zqU(h:PI X tg e wi)(k:∀ U H R,wi' U H R->wi U H R):PI X tg e wi':=λaa s U H R I q=>h aa s U H R I (k U H R q)
def zuq(hl:G l=some (.lst vs))(h:aC c G xs vs):sW c (Itl c.K l) xs G:=by
 intro i H2 G2 s1 s2 bx h0;have q:cg c.K H2 l vs:=cg.of (s2 _ _ (s1 _ _ hl));refine⟨λe=>⟨vs,q,by rw[e,h.length];exact d8 _⟩,λd e=>?_⟩;obtain⟨v,e1,e2⟩:=h.get e;refine⟨⟨vs,v,q,e1⟩,λx H3 y=>?_⟩;obtain⟨rfl,y⟩:=y
 have:=y vs q
 rw[e1]at this;cases this;exact⟨G2,aY.refl s2 bx,e2.mono s1⟩
def zwM(hl:fM c.K G l vs)(h:aC c G xs vs):sW c (Itt c.K l) xs G:=by
 intro i H2 G2 s1 s2 bx h0;have q:=qI (s1.trans s2) hl;refine⟨λe=>⟨vs,q,by rw[e,h.length];exact d8 _⟩,λd e=>?_⟩;obtain⟨v,e1,e2⟩:=h.get e;refine⟨⟨vs,v,q,e1⟩,λx H3 y=>?_⟩;obtain⟨rfl,y⟩:=y
 have:=y vs q
 rw[e1]at this;cases this;exact⟨G2,aY.refl s2 bx,e2.mono s1⟩
def qL(m:Int)(n:Nat):List D:=(List.range n).map λ(k:Nat)=>D.int (m+(k:Int))
def Bw(m:Int)(n:Nat):sW c (Itr m n) (qL m n) G:=by
 intro i H2 G2 s1 s2 bx h0;refine⟨λe=>by show n<=i;unfold qL at e;simp at e;omega,λd e=>?_⟩;unfold qL at e;rw[YAG]at e;have hi:i<n:=by
  by_cases h:i<n
  .exact h
  .rw[List.getElem?_eq_none (by simp;omega)]at e;cases e
 rw[List.getElem?_range hi]at e;cases e;exact⟨hi,λx H3 ⟨y1,y2⟩=>⟨G2,by rw[y1];exact aY.refl s2 bx,y2⟩⟩
def zwY(A:WE):WL:=λZ Q=>A Z λd=>match d with|.int n=>(-(2^62)<=n/\n<2^62)/\Q (qL 0 n.toNat)|_=>False
def zwp(hA:DE X c a A)(hg:Gl X "range":=by rfl)(hs:starEach [a] X.env=[(false,eval a X.env)]:=by rfl)(hm:X.mg "range"=none:=by decreasing_trivial):DI X c tg (.Call (.Name "range" p) [a] [] pos) (zwY A)where
 mono:=λZ Q Q' k q=>hA.mono Z _ _ (λd z=>by cases d<;>first|exact⟨z.1,k _ z.2⟩|exact z) q
 pi:=zqU (zqG hg hm (kj hA.pe nF hs) hs) λU H R ⟨Z,G,r,q⟩=>⟨Z,G,r,hA.mono Z _ _ (λd z v H' G' t e=>by
  cases d with
  |int n=>exact⟨n,by cases e;rfl,z.1.1,z.1.2,z.2 _ H' G' t (Bw 0 _)⟩
  |_=>exact z.elim) q⟩
def iH:List D->List D->List D
 |x::xs,y::ys=>.tup [x,y]::iH xs ys
 |_,_=>[]
theorem znx:∀{xs ys:List D}{i:Nat}{d:D},(iH xs ys)[i]?=some d->∃x y,xs[i]?=some x/\ys[i]?=some y/\d=.tup [x,y]
 |x::xs,y::ys,0,d,e=>by simp[iH]at e;exact⟨x,y,rfl,rfl,e.symm⟩
 |x::xs,y::ys,i+1,d,e=>by simp[iH]at e;simpa using znx e
 |[],_,_,_,e=>by simp[iH]at e
 |_::_,[],_,_,e=>by simp[iH]at e
theorem zoe:∀(xs ys:List D),(iH xs ys).length=min xs.length ys.length
 |[],_=>by simp[iH]
 |_::_,[]=>by simp[iH]
 |x::xs,y::ys=>by simp[iH,zoe xs ys]
end
def rT(t:Tg)(B:WS)(E:En):List D->Env->Prop
 |[],Z=>E.nx Z
 |x::xs,Z=>gD t x Z λZ'=>B {nx:=rT t B E xs,ct:=rT t B E xs,bk:=E.nx,rt:=E.rt} Z'
abbrev Cr(I:WL)(t:Tg)(B:WS):WS:=λE Z=>I Z λxs=>rT t B E xs Z
theorem ziC(mB:J5 B)(l:En.Le E E'):∀(xs:List D)(Z:Env),rT t B E xs Z->rT t B E' xs Z
 |[],Z,q=>l.nx Z q
 |x::xs,Z,q=>tM t x Z (λZ' z=>mB {nx:=rT t B E xs,ct:=rT t B E xs,bk:=E.nx,rt:=E.rt} _ Z' ⟨ziC mB l xs,l.rt,l.nx,ziC mB l xs⟩ z) q
section
variable{X:Cx}{c:Bk}{tg iter e:Expr}{body:List Stmt}{pos p:Pos}
def zx3(t:Tg)(hI:DI X c tg iter I)(hg:PG X tg (lC c.K t))(hB:vG X c body B)(hp:PassesOwn (model X.prog X.w) X.A X.env X.xe:=by exact PassesOwn.never)(hc:X.calm=true:=by rfl)(hs:∀x,foldedSetIterable iter X.env x=pure x:=by intro _;rfl) :
  DS X c (.For tg iter body [] pos) (Cr I t B)where
 mono:=λE E' Z l q=>hI.mono Z _ _ (λxs z=>ziC hB.mono l xs Z z) q
 ps:=lZ (ztA hp hc hI.pi hg hB.pss hs) λD U H ⟨Z,G,r,q⟩=>⟨Z,G,r,hI.mono Z _ _ (λxs z J H1 G1 t1 it=>by
  refine⟨λi m U H=>m=xs.length-i/\i<=xs.length/\∃ Z' G',Rel c Z' U H G'/\Same G1 G'/\rT t B (ends c G D) (xs.drop i) Z',⟨xs.length,rfl,wy _,Z,G1,r.step t1,Same.refl _,z⟩,?_⟩;rintro i m U' H' ⟨rfl,hi,Z',G',r',s',q'⟩;have ok:=it i H' G' s' r'.gh r'.bx (λa z=>r'.new0 z);by_cases hlt:i<xs.length
  .refine .inr ?_;have ed:xs.drop i=xs[i]::xs.drop (i+1):=K5 hlt;rw[ed]at q';obtain⟨go,yl⟩:=ok.2 xs[i] (YAB hlt);refine⟨go,λU H=>∃ Z' G',Rel c Z' U H G'/\Same G1 G'/\rT t B (ends c G D) (xs.drop (i+1)) Z',λU2 H2 h=>⟨xs.length-(i+1),by omega,rfl,by omega,h⟩,λx H3 y=>?_⟩;obtain⟨G3,t3,e3⟩:=yl x H3 y;refine yw t xs[i] x Z' U' (r'.step t3) e3 (tM t xs[i] Z' (λZ2 z2 U2 r2=>?_) q');refine⟨Z2,G3,r2,hB.mono {nx:=rT t B (ends c G D) (xs.drop (i+1)),ct:=rT t B (ends c G D) (xs.drop (i+1)),bk:=(ends c G D).nx,rt:=(ends c G D).rt} _ Z2 ⟨λZ3 z3 U3 H4 G4 r4 s4=>⟨Z3,G4,r4,(s'.trans t3.gg).trans s4,z3⟩,λd z=>z,λZ3 z3 U3 H4 G4 r4 s4=>z3 U3 H4 G4 r4 (((t1.gg.trans s').trans t3.gg).trans s4),λZ3 z3 U3 H4 G4 r4 s4=>⟨Z3,G4,r4,(s'.trans t3.gg).trans s4,z3⟩⟩ z2⟩
  .have e:i=xs.length:=by omega
   subst e;rw[YB6]at q';exact .inl ⟨ok.1 rfl,q' U' H' G' r' (t1.gg.trans s')⟩) q⟩
def eU(n:Nat)(ds:List D):Env:=ds.map (λd=>Sl.val d.old)++List.replicate (n-ds.length) .un
def gC(n:Nat)(B:WS):Fn:=λds Q=>B {nx:=λ_=>Q .non,rt:=Q,bk:=λ_=>False,ct:=λ_=>False} (eU n ds)
def JD(gh:Same G H)(bx:fU β H G)(h:aC ⟨K,β,λ_=>none,G,True⟩ G ds vs):Rel ⟨K,β,H,G,True⟩ (eU N.length ds) (L2.uC N vs) H G:=by
 have noOwn:∀(i:Nat) xs,(eU N.length ds)[i]?≠some (.own xs):=λi xs e=>by
  unfold eU at e;by_cases hi:i<ds.length
  .rw[Li (by simpa using hi),YAG,YAB hi]at e;cases e
  .rw[YBF (by simpa using hi),CP]at e;split at e<;>cases e
 refine⟨by unfold eU L2.uC;simp[h.length],aY.refl gh bx,λi s e=>?_,λi j a xs ys e1=>absurd e1 (noOwn i xs),trivial⟩;unfold eU at e;by_cases hi:i<ds.length
 .rw[Li (by simpa using hi),YAG]at e;obtain⟨v,e1,e2⟩:=h.get (YAB hi);rw[YAB hi]at e;cases e;refine⟨v,?_,Rep.hand (c:=⟨K,β,λ_=>none,G,True⟩) (c':=⟨K,β,H,G,True⟩) rfl rfl e2⟩;unfold L2.uC;rw[Li (by rw[cY,<-h.length];exact hi),YAG,e1];rfl
 .rw[YBF (by simpa using hi),CP]at e;split at e<;>cases e
  trivial
def rW(F:bD K x qual st f fd)
  (hB:∀{cdv:Value}{A:Around}{outer:List PySem.Env}{s:Shared}{H:Hp}{E:XK}{β:Addr}{G:Hp},N.Nodup->bA k (A.deeper (PyProof.Rows.envOfC qual (gB st) s.heap.objs.size f cdv)) ->
   vG (dI dh P w K mg base N qual (gB st) f cdv A outer s H E).nox ⟨K,β,H,G,True⟩ (nD st) B) (S:dj N ps (gB st):=by exact⟨rfl,rfl,rfl,by decide,rfl,by decide,by decide⟩):aG P w K mg base dh (k+1) f fd ps (eV K ps.length (gC N.length B)):=by
 refine F.ok S (λvs H Q E ⟨β,G,ds,_,_,_,h,_⟩=>h) (λcdv A outer s H vs Q E hr ⟨β,G,ds,gh,bx,hv,hl,P',q,hP⟩=>?_);have h:=@hB cdv A outer s H E β G S.nd hr;refine⟨_,h.pss,eU N.length ds,G,JD gh bx hv,h.mono {nx:=λ_=>P' .non,rt:=P',bk:=λ_=>False,ct:=λ_=>False} _ _ ⟨λZ z U H' G' r s'=>hP _ z .non H' G' r.stp rfl,λd z v H' G' t e=>hP _ z v H' G' t e,λZ z=>z.elim,λZ z=>z.elim⟩ q⟩
end
def fY(sub:List (Option Nat))(Z:Env):Env:=sub.map λo=>match o with
 |some j=>(match Z[j]? with|some (.val d)=>.val d|_=>.un)
 |none=>.un
def zog(sub:List (Option Nat))(r:Rel c Z U H G):Rel c (fY sub Z) (qz sub U) H G:=by
 have noOwn:∀(i:Nat) xs,(fY sub Z)[i]?≠some (.own xs):=λi xs e=>by
  unfold fY at e;rw[YAG]at e;cases h:sub[i]? with
  |none=>rw[h]at e;cases e
  |some o=>
   rw[h]at e;cases o with
   |none=>cases e
   |some j=>
    simp only[YCC]at e;split at e<;>cases e
 refine⟨by unfold fY qz;simp,r.stp,λi s e=>?_,λi j a xs ys e1=>absurd e1 (noOwn i xs),r.kn⟩;unfold fY at e;rw[YAG]at e;cases h:sub[i]? with
 |none=>rw[h]at e;cases e
 |some o=>
  rw[h]at e;cases o with
  |none=>cases e;trivial
  |some j=>
   simp only[YCC,Option.some.injEq]at e;split at e
   .rename_i d hd
    subst e;obtain⟨v,h1,h2⟩:=r.slot j _ hd;refine⟨v,?_,h2⟩;unfold qz;rw[YAG,h];show some ((U[j]?).join)=_;rw[h1];rfl
   .subst e;trivial
mutual
def vY(sub:List (Option Nat)):Tg->Bool
 |.nm i=>decide (sub[i]?=some none)
 |.tp _ ts=>uP sub ts
def uP(sub:List (Option Nat)):xg->Bool
 |.nil=>true
 |.cons t ts=>vY sub t&&uP sub ts
end
mutual
theorem Ax(K:qd):∀t:Tg,wF (lC K t)
 |.nm i=>by unfold lC;exact ztV
 |.tp n ts=>by unfold lC;exact zxF (zrw K ts)
theorem zrw(K:qd):∀t:xg,Dz (lM K t)
 |.nil=>by unfold lM;exact zt6
 |.cons t ts=>by unfold lM;exact zr8 (Ax K t) (zrw K ts)
end
mutual
theorem Eh(K:qd)(sub:List (Option Nat)):∀t:Tg,vY sub t=true->yR sub (lC K t)
 |.nm i,h=>by unfold lC;unfold vY at h;exact zu9 (YAJ h)
 |.tp n ts,h=>by unfold lC;unfold vY at h;exact zv1 (ztx K sub ts h)
theorem ztx(K:qd)(sub:List (Option Nat)):∀t:xg,uP sub t=true->Hy sub (lM K t)
 |.nil,_=>by unfold lM;exact zu0
 |.cons t ts,h=>by
  unfold lM;unfold uP at h;have h':=(jT _ _▸h:vY sub t=true/\uP sub ts=true);exact zsD (Eh K sub t h'.1) (Ax K t) (ztx K sub ts h'.2) (zrw K ts)
end
def sE(t:Tg)(C:WT)(E:WE)(Zc:Env)(Q:List D->Prop):List D->List D->Prop
 |[],acc=>Q acc
 |x::xs,acc=>gD t x Zc λZ2=>C Z2 λb=>if b=true then E Z2 λd=>sE t C E Zc Q xs (acc++[d])else sE t C E Zc Q xs acc
theorem zhu(mC:yO C)(mE:km E)(k:∀xs,Q xs->Q' xs):∀xs acc,sE t C E Zc Q xs acc->sE t C E Zc Q' xs acc
 |[],acc,q=>k _ q
 |x::xs,acc,q=>tM t x Zc (λZ2 z=>mC Z2 _ _ (λb z=>by
  cases b
  .exact zhu mC mE k xs acc z
  .exact mE Z2 _ _ (λd z=>zhu mC mE k xs _ z) z) z) q
abbrev jD(sub:List (Option Nat))(I:WL)(t:Tg)(C:WT)(E:WE):WL:=λZ Q=>I Z λxs=>xs.length<=100000/\sE t C E (fY sub Z) Q xs []
def zhG(mI:sU I)(mC:yO C)(mE:km E):sU (jD sub I t C E):=λZ Q Q' k q=>mI Z _ _ (λxs z=>⟨z.1,zhu mC mE k xs [] z.2⟩) q
def aY.wr(s:aY β H G H' G')(h0:H l=none)(hg:G' l=none)(hb:l≠β):aY β H G (upd H' l o) G':=
 ⟨s.gg,λa u e=>by rw[ao (λz=>by rw[z,hg]at e;cases e)];exact s.gh a u e,λa u n e=>by rw[ao (λz=>by rw[z,h0]at e;cases e)];exact s.fr a u n e,s.nw,
 ⟨by obtain⟨cc,p,r,d,ns,h,q⟩:=s.bx.ex;exact⟨cc,p,r,d,ns,by rw[ao (YAD hb)];exact h,q⟩,s.bx.still⟩,s.b0,λcc p r d h=>by
  obtain⟨p',r',d',e⟩:=s.bc cc p r d h;exact⟨p',r',d',by rw[ao (YAD hb)];exact e⟩⟩
def aY.still_none(s:aY β H G H' G')(h:H l=some o)(hg:G l=none)(hs:¬ wH o:=by exact id):G' l=none:=by
 cases e:G' l with
 |none=>rfl
 |some u=>
  rcases s.nw l (by rw[e];simp)with z|z|⟨o',z,st⟩
  .exact absurd hg z
  .rw[h]at z;cases z
  .rw[h]at z;cases z;exact absurd st hs
def ziU(mI:sU I)(mC:yO C)(mE:km E)(U:St)(H:Hp)(Q:VK)(h:tDf c (jD sub I t C E) U H Q) :
  Gg sub (tDI c I) (lC c.K t) (Jm c C) (tD c E) U H Q:=by
 obtain⟨Z,G,r,q⟩:=h;refine⟨Z,G,r,mI Z _ _ (λxs ⟨hz,z⟩ J H1 G1 t1 it l hl=>?_) q⟩;have hb:=(r.step t1).neβ hl;have hg1:=lU t1.gh hl;refine⟨λi m ys H2=>m=xs.length-i/\i<=xs.length/\ys.length<=i/\H2 l=some (.lst ys)/\∃G2 acc,aY c.β H1 G1 H2 G2/\G2 l=none/\aC c G2 acc ys /\
  sE t C E _ (λds=>∀l vs H' G',aY c.β H G H' G'->H' l=some (.lst vs)->G' l=none->H l=none->aC c G' ds vs->Q (.ref l) H') (xs.drop i) acc,
  ⟨xs.length,rfl,wy _,d8 _,cG,G1,[],aY.own t1.gh t1.bx hl,hg1,rfl,z⟩,?_⟩
 rintro i m ys H2 ⟨rfl,hi,hyl,h2,G2,acc,t2,hg2,hv,q2⟩;refine⟨h2,?_⟩;have r2:=(r.step t1).step t2;have ok:=it i H2 G2 t2.gg t2.gh t2.bx (λa z=>r2.new0 z);by_cases hlt:i<xs.length
 .refine .inr ?_;rw[K5 hlt]at q2;obtain⟨go,yl⟩:=ok.2 xs[i] (YAB hlt);refine⟨go,λys' H3=>ys'.length<=i+1/\H3 l=some _/\∃G3 acc',aY c.β H1 G1 H3 G3/\G3 l=none/\aC c G3 acc' ys'/\sE t C E (fY sub Z) (λds=>∀l vs H' G',aY c.β H G H' G'->H' l=some (.lst vs)->G' l=none->H l=none->aC c G' ds vs->Q (.ref l) H') _ acc',
   λys' H3 ⟨a1,a2,a3⟩=>⟨xs.length-_,by omega,rfl,by omega,a1,a2,a3⟩,λx H3 y=>?_⟩
  obtain⟨G3,t3,e3⟩:=yl x H3 y;have h3:=t3.fr l _ hb h2;have hg3:=t3.still_none h2 hg2;have t13:=t2.trans t3;refine yw t xs[i] x _ _ (zog sub ((r.step t1).step t13)) e3 (tM t xs[i] _ (λZ2 z2 U2 rr=>?_) q2);refine⟨Z2,G3,rr,mC Z2 _ _ (λb z3 H4 G4 t4=>?_) z2⟩;have h4:=t4.fr l _ hb h3;have hg4:=t4.still_none h3 hg3;have t14:=t13.trans t4;cases b
  .exact⟨Nat.le_succ_of_le hyl,h4,G4,acc,t14,hg4,(hv.mono t3.gg).mono t4.gg,z3⟩
  .refine⟨Z2,G4,rr.step t4,mE Z2 _ _ (λd z4 y H5 G5 t5 e5=>?_) z3⟩;have h5:=t5.fr l _ hb h4;have hg5:=t5.still_none h4 hg4;refine⟨h5,?_,by rw[iB];exact Nat.add_le_add_right hyl 1,cG,G5,acc++[d],(t14.trans t5).wr hl hg5 hb,hg5,(((hv.mono t3.gg).mono t4.gg).mono t5.gg).append (.one e5),z4⟩
   have:=dW (d8 100000)
   omega
 .have e:i=xs.length:=by omega
  subst e;rw[YB6]at q2;exact .inl ⟨ok.1 rfl,q2 l ys H2 G2 (t1.trans t2) h2 hg2 (t1.free hl) hv⟩
structure Fy(X:Cx)(c:Bk)(ifs:List Expr)(C:WT):Prop where
 mono:yO C
 pf:qK X ifs (Jm c C)
abbrev jF:WT:=λ_ Q=>Q true
section
variable{X:Cx}{c:Bk}{tg iter elt e:Expr}{ifs:List Expr}{scope:Scope}{pos p spos:Pos}{Nc:List Str}{sub:List (Option Nat)}{I:WL}{C:WT}{E:WE}
def xf:Fy X c [] jF:=⟨λZ Q Q' k q=>k _ q,λaa s U H Q I ⟨Z,G,r,q⟩=>BX aa s U H Q I (q H G r.refl)⟩
def yW(h:DT X c e C):Fy X c [e] C:=⟨h.mono,pif1 h.pt⟩
def rN(t:Tg)(hI:DI X c tg iter I)(hg:∀{cl L s0 H0 ex},PG (iy X Nc scope cl L s0 H0 ex) tg (lC c.K t))(hC:∀{cl L s0 H0 ex},Fy (iy X Nc scope cl L s0 H0 ex) c ifs C)(hE:∀{cl L s0 H0 ex},DE (iy X Nc scope cl L s0 H0 ex) c elt E)
  (hS:Ao X.N X.env.scope scope Nc sub=true:=by left) (hok:vY sub t=true:=by decide) (hc:X.calm=true:=by rfl) (hs:∀x,foldedSetIterable iter X.env x=pure x:=by intro _;rfl) :
  DF X c (.ListComp elt [⟨tg,iter,ifs,0⟩] scope pos) (jD sub I t C E):=
 have mC:=(@hC [] 0 X.s₀ (λ_=>none) []).mono;have mE:=(@hE [] 0 X.s₀ (λ_=>none) []).mono
 ⟨zhG hI.mono mC mE,dw (znI hc (bG.of hS) hI.pi (λcl L s0 H0 ex=>@hg cl L s0 H0 ex) (Eh c.K sub t hok) (Ax c.K t) (λcl L s0 H0 ex=>(@hC cl L s0 H0 ex).pf) (λcl L s0 H0 ex=>(@hE cl L s0 H0 ex).pe) hs) (ziU hI.mono mC mE)⟩
def ztb(i:Nat)(t:Tg)(hI:DI X c tg iter I)(hg:∀{cl L s0 H0 ex},PG (iy X Nc scope cl L s0 H0 ex) tg (lC c.K t))(hC:∀{cl L s0 H0 ex},Fy (iy X Nc scope cl L s0 H0 ex) c ifs C)(hE:∀{cl L s0 H0 ex},DE (iy X Nc scope cl L s0 H0 ex) c elt E)(hi:X.N[i]?=some x:=by rfl)(hy:X.env.scope.names.lookup x=some .local:=by rfl)(hS:Ao X.N X.env.scope scope Nc sub=true:=by left)(hok:vY sub t=true:=by decide)(hc:X.calm=true:=by rfl)(hsw:swapsWith (.ListComp elt [⟨tg,iter,ifs,0⟩] scope pos) (some (.Name x p)) spos.line X.env=pure true:=by rfl)(hs:∀x,foldedSetIterable iter X.env x=pure x:=by intro _;rfl)(hN:X.N.Nodup:=by decreasing_trivial) :
  DS X c (.Assign [.Name x p] (.ListComp elt [⟨tg,iter,ifs,0⟩] scope pos) spos) (bh (.nm i) (bO (jD sub I t C E))):=by
 have mC:=(@hC [] 0 X.s₀ (λ_=>none) []).mono;have mE:=(@hE [] 0 X.s₀ (λ_=>none) []).mono;have mL:=zhG (sub:=sub) (t:=t) hI.mono mC mE;have mV:km (bO (jD sub I t C E)):=λZ Q Q' k q=>mL Z _ _ (λxs z=>k _ z) q;refine⟨zkF mV,lZ (znr hc hN hi hy (bG.of hS) hI.pi (λcl L s0 H0 ex=>@hg cl L s0 H0 ex) (Eh c.K sub t hok) (Ax c.K t) (λcl L s0 H0 ex=>(@hC cl L s0 H0 ex).pf) (λcl L s0 H0 ex=>(@hE cl L s0 H0 ex).pe) hsw hs) λD U H ⟨Z,G,r,q⟩=>?_⟩;refine ziU hI.mono mC mE U H _ ⟨Z,G,r,mL Z _ _ (λxs z l vs H' G' t hl hg h0 hv=>?_) q⟩;have hb:=r.neβ h0;exact z (U.set i (some (.ref l))) H' (upd G' l (.lst vs)) ((r.step (t.still hl h0 hb hg)).put ⟨l,vs,rfl,cG,λ_=>r.new0 h0,hv.mono (lD hg)⟩) (t.gg.trans (lD hg))
def zwu(i:Nat)(t:Tg)(hI:DI X c tg iter I)(hg:∀{cl L s0 H0 ex},PG (iy X Nc scope cl L s0 H0 ex) tg (lC c.K t))(hC:∀{cl L s0 H0 ex},Fy (iy X Nc scope cl L s0 H0 ex) c ifs C)(hE:∀{cl L s0 H0 ex},DE (iy X Nc scope cl L s0 H0 ex) c elt E)(hi:X.N[i]?=some x:=by rfl)(hy:X.env.scope.names.lookup x=some .local:=by rfl)(hS:Ao X.N X.env.scope scope Nc sub=true:=by left)(hok:vY sub t=true:=by decide)(hc:X.calm=true:=by rfl)(hsw:swapsWith (.ListComp elt [⟨tg,iter,ifs,0⟩] scope pos) (some (.Name x p)) spos.line X.env=pure true:=by rfl)(hs:∀x,foldedSetIterable iter X.env x=pure x:=by intro _;rfl)(hN:X.N.Nodup:=by decreasing_trivial) :
  DS X c (.Assign [.Name x p] (.ListComp elt [⟨tg,iter,ifs,0⟩] scope pos) spos) (vH i (jD sub I t C E)):=by
 have mC:=(@hC [] 0 X.s₀ (λ_=>none) []).mono;have mE:=(@hE [] 0 X.s₀ (λ_=>none) []).mono;have mL:=zhG (sub:=sub) (t:=t) hI.mono mC mE;refine⟨zr7 mL,lZ (znr hc hN hi hy (bG.of hS) hI.pi (λcl L s0 H0 ex=>@hg cl L s0 H0 ex) (Eh c.K sub t hok) (Ax c.K t) (λcl L s0 H0 ex=>(@hC cl L s0 H0 ex).pf) (λcl L s0 H0 ex=>(@hE cl L s0 H0 ex).pe) hsw hs) λD U H h=>?_⟩;exact ziU hI.mono mC mE U H _ (zsc mL D U H h)
end
structure Bt(mg:Str->Option Value):Prop where
 list:mg "list"=none
 len:mg "len"=none
 range:mg "range"=none
 all:mg "all"=none
 any:mg "any"=none
 isinstance:mg "isinstance"=none
 tuple:mg "tuple"=none
 bool:mg "bool"=none
 int:mg "int"=none
 str:mg "str"=none
 sorted:mg "sorted"=none
 set:mg "set"=none
 zip:mg "zip"=none
 enumerate:mg "enumerate"=none
 min:mg "min"=none
 max:mg "max"=none
def Av:Fn
 |[.box,.int m],Q=>(0<m/\m<2^64)/\∀x:Int,0<=x->x<m->Q (.int x)
 |_,_=>False
end Fd
namespace Fen
open PySem L2
def dM(b:Addr)(H H':Hp):Prop:=∀a o,a≠b->H a=some o->H' a=some o
def dM.refl(b:Addr)(H:Hp):dM b H H:=λ_ _ _ h=>h
def dM.trans(x:dM b H H1)(y:dM b H1 H2):dM b H H2:=λa o n h=>y a o n (x a o n h)
theorem dM.upd:dM b H (upd H b o):=λa _ n h=>by rw[ao n];exact h
def uE(c:Addr)(p r d:Int):HO:=.lst [.ref c,.int p,.int r,.int d]
structure zF(H:Hp)(b c:Addr)(ns:List Int):Prop where
 ex:∃p r d:Int,H b=some (uE c p r d)/\0<=p/\0<=r/\0<=d/\d<2147483629
 cells:H c=some (.lst (ns.map V.int))
 few:ns.length<=63
def zF.ne(x:zF H b c ns):b≠c:=λz=>by
 obtain⟨p,r,d,e,_⟩:=x.ex;have q:=x.cells;rw[<-z,e]at q;have q':([V.ref c,.int p,.int r,.int d]:List V)=ns.map V.int:=by injection q with q;injection q
 cases ns with
 |nil=>cases q'
 |cons n r=>simp at q'
def zF.put(x:zF H b c ns)(hp:0<=p)(hr:0<=r)(h0:0<=d)(h1:d<2147483629):zF (upd H b (uE c p r d)) b c ns:=
 ⟨⟨p,r,d,cG,hp,hr,h0,h1⟩,by rw[ao x.ne.symm];exact x.cells,x.few⟩
def zuX(K:qd):Sp:=λvs H Q _=>∃(a:Addr)(ns:List Int),vs=[.ref a]/\cg K H a (ns.map V.int)/\ns.length<=63/\∀b c H',H b=none->zF H' b c ns->Same H H'->Q (.ref b) H'
def zwD:Sp:=λvs H Q _=>∃(b c:Addr)(ns:List Int)(m:Int),vs=[.ref b,.int m]/\zF H b c ns/\0<m/\m<2^64/\∀(x:Int) H',0<=x->x<m->zF H' b c ns->dM b H H'->Q (.int x) H'
structure Txt(K:qd)(mg:Str->Option Value):Prop where
 list:mg "list"=none
 len:mg "len"=none
 range:mg "range"=none
def zyM{ns:List Int}(h:ns.length<=63):lJ (ns.map V.int) none (some 63)=ns.map V.int:=by
 unfold lJ;have e:HT.cM (ns.map V.int).length (ns.map V.int).length (some 63)=ns.length:=by
  rw[show(63:Int)=((63:Nat):Int)from rfl,HT.jH,cY];omega
 rw[e,HT.vC,YCJ,Nat.sub_zero];exact Hc (by simp)
end Fen
namespace L2
open PySem PySem.Spec PyProof.Rows
section
variable{X:Cx}
def rSw:V->List V->Hp->VK->Prop:=λx xs H Q=>∃a b,x=.str a/\xs=[.str b]/\Q (.bl (Txt.startswith a b)) H
def zkA:yU X "str.startswith" rSw:=by
 intro aa s U H x xs v us Q I rx rv h;obtain⟨a,b,rfl,rfl,q⟩:=h;obtain⟨t,rfl⟩:=rx;obtain⟨u,rfl,t2,rfl⟩:=qx rv;exact SC.startswith ⟨.bl _,H,I,rfl,q⟩
theorem ziu:∀l:List (Str×Tok),Vals ((l.map (·.1)).map V.str) (strValues l)
 |[]=>.nil
 |p::l=>.cons ⟨p.2,rfl⟩ (ziu l)
theorem zmj:∀{ts:List Str}{us:List Value},Vals (ts.map V.str) us->∃l:List (Str×Tok),l.map (·.1)=ts/\us=strValues l
 |[],_,.nil=>⟨[],rfl,rfl⟩
 |t::ts,_,.cons ⟨k,e⟩ r=>by
  subst e;obtain⟨l,h1,h2⟩:=zmj r;exact⟨(t,k)::l,by simp[h1],by subst h2;rfl⟩
def ztC:V->List V->Hp->VK->Prop:=λx xs H Q=>∃a b,x=.str a/\xs=[.str b]/\b.length≠0/\a.length<=100000/\∀p,H p=none->Q (.ref p) (upd H p (.lst ((Txt.split a b).map V.str)))
def zsA:yU X "str.split" ztC:=by
 intro aa s U H x xs v us Q I rx rv h;obtain⟨a,b,rfl,rfl,hb,ha,q⟩:=h;obtain⟨t,rfl⟩:=rx;obtain⟨u,rfl,t2,rfl⟩:=qx rv;have hz:(Txt.split a b).length<=sizeLine:=by
  have:=split_le a b
  rw[YAS];omega
 have ha':a.length<=sizeLine:=by rw[YAS];omega
 have hy:(b.length==0)=false:=by simp[hb]
 have fin:∀(l:List _)(k:Nat),l.map (·.1)=Txt.split a b->EP X aa U Q _ {s with heap:=s.heap.push {cls:=.type "list",data:=.seq (strValues l).toArray},toks:=k}:=λl k e=>
  ⟨.ref _,_,I.lnew (t':=k) (ziu l) (by rw[e,cY];exact hz),rfl,by rw[e];exact q _ I.fresh⟩
 cases h1:(decide (a.length<b.length) || decide (Builtin.Str.strKind a<Builtin.Str.strKind b))
 .cases hf:(Builtin.Str.occurrences a b 0 a.length _).isEmpty
  .have e:Txt.split a b=Builtin.Str.partsBetween a _ b.length:=(if_neg (YCi h1)).trans (if_neg (YCi hf));refine BJ YCy (Ej _ _ _) YCt (YCk _ _) (meets_str_split_sep a b t t2 h1 hy hf ha' (by rw[<-e];exact hz)) ?_;rw[strsFrom_eq];exact fin _ _ ((numbered_texts _ _).trans e.symm)
  .exact BJ YCy (Ej _ _ _) YCt (YCk _ _) (meets_str_split_not_found a b t t2 h1 hy hf)
    (fin [(a,t)] s.toks ((if_neg (YCi h1)).trans (if_pos hf)).symm)
 .exact BJ YCy (Ej _ _ _) YCt (YCk _ _) (meets_str_split_cannot_occur a b t t2 h1)
   (fin [(a,t)] s.toks (if_pos h1).symm)
def zxG(K:qd):V->List V->Hp->VK->Prop:=λx xs H Q=>∃a p ts,x=.str a/\xs=[.ref p]/\cg K H p (ts.map V.str)/\(∀t∈ts,t.length<=2000)/\ts.length<=2000/\a.length<=1000/\Q (.str (Str.join a ts)) H
def zuk:yU X "str.join" (zxG X.K):=by
 intro aa s U H x xs v us Q I rx rv h;obtain⟨a,p,ts,rfl,rfl,hl,h1,h2,h3,q⟩:=h;obtain⟨t,rfl⟩:=rx;obtain⟨u,rfl,ru⟩:=qx rv;cases ru;obtain⟨its,rv,pl,_⟩:=I.list hl;obtain⟨l,e1,e2⟩:=zmj rv;subst e2;refine SC.join pl.isList e1 ?_ λt' k=>?_
 .have:=Nat.mul_le_mul h2 (d8 2000)
  have:=Nat.mul_le_mul h2 h3
  unfold JoinOk;rw[StrLaws.joinFits (B:=2000) h1 (by omega)];rfl
 .rw[show Txt.join a ts=Str.join a ts from StrLaws.glued_eq_join a ts];exact⟨.str _,H,I.tok k,⟨t',rfl⟩,q⟩
def zlK:cL X (.type "int") (λxs H Q=>∃x n,xs=[.str x]/\x.length<=640/\PySem.intText? x=some n/\Q (.int n) H):=by
 intro aa s U H xs us Q I r h;obtain⟨x,n,rfl,hz,hn,q⟩:=h;obtain⟨u,rfl,t,rfl⟩:=qx r;exact PySem.W.KIN.call_text hn hz ⟨.int n,H,I.tok _,⟨_,rfl⟩,q⟩
def zlq:cL X (.type "str") (λxs H Q=>∃x,xs=[.str x]/\Q (.str x) H):=by
 intro aa s U H xs us Q I r h;obtain⟨x,rfl,q⟩:=h;obtain⟨u,rfl,t,rfl⟩:=qx r;exact PySem.P.str_of_str ⟨.str x,H,I,⟨_,rfl⟩,q⟩
def Its(x:Str):It:=⟨λi _=>i<x.length,λi H v H'=>H'=H/\∃c,x.cps[i]?=some c/\v=.str ⟨#[c]⟩,λi _=>x.length<=i⟩
def zso{P:Program}{w:World}{K:qd}{tg:Expr}(x:Str)(t:Tok)(ty:String)(hty:ty="str_ascii_iterator" \/ ty="str_iterator")(it:Addr):Turn P w K tg (Its x) [it] it (λi h=>h.IsStrIter it ty x t i)where
 mem:=by simp
 obj:=λi h st b hb=>by
  have e:b=it:=by simpa using hb
  subst e;obtain⟨o,e,c,d⟩:=st;exact⟨o,e,λv z=>by rw[d]at z;cases z⟩
 keep:=λi h h' ⟨o,e,r⟩ k=>⟨o,k it (by simp) o e,r⟩
 item:=by
  intro X hP hw hK hc i aa s U H E I hf st hg;subst hP hw hK;have hg:i<x.length:=hg;obtain⟨f0,f1,f2,f3,f4,f5⟩:=hf it (by simp);have hx:x.cps[i]?=some x.cps[i]:=YBJ hg;have fin:∀h',h'.IsStrIter it ty x t (i+1)->Heap.SameBut it s.heap h'->∃u,some (Value.str ⟨#[x.cps[i]]⟩ s.toks)=some u /\
   wpAny (model X.prog X.w) X.A (letOwnedTupleGo tg (.ref it) u) (λ_ s2=>∃x' H',Inv X aa U H' s2/\RelV x' u/\(Its x).yld i H x' H'/\s2.heap.IsStrIter it ty x t (i+1)/\∀b∈[it],H' b=none) E {s with heap:=h',toks:=s.toks+1}:=λh' st' sb=>by
   have I1:Inv X aa U H {s with heap:=h',toks:=s.toks+1}:=I.turned (t':=s.toks+1) (λb o hb e=>(sb.2 b hb).trans e) f0 f1 f3 f4 f5;obtain⟨o,e,c,d⟩:=id st';exact⟨_,rfl,zrA (s:={s with heap:=h',toks:=s.toks+1}) e c d (by rcases hty with rfl|rfl<;>decide) ⟨.str _,H,I1,⟨_,rfl⟩,⟨rfl,_,hx,rfl⟩,st',λb hb=>(hf b hb).1⟩⟩
  rcases hty with rfl|rfl
  .exact wpAny_pyNext_ascii_item st hx fin
  .exact wpAny_pyNext_wide_item st hx fin
 done:=by
  intro X hP hw hK hc i aa s U H E I hf st hg;subst hP hw hK;have hg:x.length<=i:=hg;obtain⟨f0,f1,f2,f3,f4,f5⟩:=hf it (by simp);have hx:x.cps[i]?=none:=Array.getElem?_eq_none hg;rcases hty with rfl|rfl
  .exact wpAny_pyNext_ascii_end (I.ok.hd hc) st hx λh' eb=>⟨rfl,I.turned (t':=s.toks) (λb o hb e=>eb b o hb e) f0 f1 f3 f4 f5⟩
  .exact wpAny_pyNext_wide_end (I.ok.hd hc) st hx λh' eb=>⟨rfl,I.turned (t':=s.toks) (λb o hb e=>eb b o hb e) f0 f1 f3 f4 f5⟩
 self:=λ_ _ _ _ _ st h=>by
  rcases hty with rfl|rfl
  .exact wpAny_pyIter_striter_ascii st h
  .exact wpAny_pyIter_striter_wide st h
def j4(z:Str)(lo hi:Option Int):Str:=⟨((z.cps.toList.drop (HT.cM z.length 0 lo)).take (HT.cM z.length z.length hi-HT.cM z.length 0 lo)).toArray⟩
def ztl(n:Nat):∀(o:Option Int)(d:Nat),d<=n->(∀v,o=some v->v<=n\/0<=v)->HT.cM n d o<=n
 |none,_,h,_=>h
 |some v,_,_,_=>by
  show(if v<0 then(v+(n:Int)).toNat else min v.toNat n)<=n;split<;>omega
def zpW(n d:Nat)(o:Option Int)(hd:d<=n):(match o with|none=>(d:Int)|some i=>max 0 (min (if i<0 then i+(n:Int)else i) (n:Int)))=(HT.cM n d o:Int):=by
 cases o with
 |none=>rfl
 |some v=>
  show max 0 (min (if v<0 then v+(n:Int)else v) (n:Int))=((if v<0 then(v+(n:Int)).toNat else min v.toNat n:Nat):Int);split<;>omega
def zqM(n:Nat)(lo hi:Option Int):Builtin.Str.strSliceIndices lo hi 1 n=sliceRange (HT.cM n 0 lo:Int) (HT.cM n n hi:Int) 1:=by
 have a:=zpW n 0 lo (wy _);have b:=zpW n n hi (d8 _);unfold Builtin.Str.strSliceIndices;simp only[show(1:Int)>0 from by decide,uU];rw[<-a,<-b];rfl
def zpJ(z:Str)(lo hi:Option Int):Txt.slice z lo hi=j4 z lo hi:=by
 have ha:HT.cM z.length 0 lo<=z.length:=ztl _ _ _ (wy _) λv _=>by omega
 have hb:HT.cM z.length z.length hi<=z.length:=ztl _ _ _ (d8 _) λv _=>by omega
 unfold j4;by_cases h:HT.cM z.length 0 lo<=HT.cM z.length z.length hi
 .have q:=StrLaws.sliceText_nat z h hb;rw[<-q];have e:Builtin.Str.strSliceIndices lo hi 1 z.length=Builtin.Str.strSliceIndices (some (HT.cM z.length 0 lo:Int)) (some (HT.cM z.length z.length hi:Int)) 1 z.length:=by
   rw[zqM,zqM,HT.jH,HT.jH,YCD ha,YCD hb]
  show StrLaws.sliceText z lo hi=_;unfold StrLaws.sliceText;rw[e]
 .have e:Builtin.Str.strSliceIndices lo hi 1 z.length=[]:=by
   rw[zqM];unfold sliceRange;simp only[show(1:Int)>0 from by decide,uU];rw[if_neg (by omega)];rfl
  have t:(HT.cM z.length z.length hi-HT.cM z.length 0 lo)=0:=by omega
  rw[t];show StrLaws.sliceText z lo hi=_;unfold StrLaws.sliceText;rw[e];have nz:z.length≠0:=by omega
  simp[YAD nz]
def rSlS:V->Option Int->Option Int->Hp->VK->Prop:=λx lo hi H Q=>∃z,x=.str z/\z.length<=100000/\Q (.str (j4 z lo hi)) H
def zq4(h:IsPart v o):∃l:Option (Int×Tok),v=partValue l/\l.map (·.1)=o:=by
 cases h with
 |none=>exact⟨none,rfl,rfl⟩
 |int i t=>exact⟨some (i,t),rfl,rfl⟩
def zxs:xK X rSlS:=by
 intro aa s U H x v vl vu lo hi sl Q I rx hs pl pu h;obtain⟨z,rfl,hz,q⟩:=h;obtain⟨t,rfl⟩:=rx;obtain⟨l,rfl,rfl⟩:=zq4 pl;obtain⟨u,rfl,rfl⟩:=zq4 pu;exact⟨"str",_,F.slot_str_getitem.lookup,Ej _ _ _,wpAny_getItem_str_slice (l:=l) (u:=u) (st:=none) hs rfl (post_val_or_str ⟨(gJ (Txt.slice_le z _ _) (by rw[YAS];omega)),λt' k=>(⟨.str _,H,I.tok k,⟨t',rfl⟩,by rw[<-zpJ]at q;exact q⟩)⟩)⟩
end
def Itx(tp tq:Bool)(K:qd)(a b:Addr):It:=
 ⟨λi H=>∃xs ys x y,SQ tp K H a xs/\SQ tq K H b ys/\xs[i]?=some x/\ys[i]?=some y,
 λi H v H'=>∃t x y,H t=none/\v=.ref t/\H'=upd H t (.tup [x,y])/\(∀xs,SQ tp K H a xs->xs[i]?=some x)/\∀ys,SQ tq K H b ys->ys[i]?=some y,
 λi H=>∃xs ys,SQ tp K H a xs/\SQ tq K H b ys/\i=min xs.length ys.length⟩
def ZTx(tp tq:Bool)(z c d i j a b:Addr)(k:Nat)(h:Heap):Prop:=IsZip h z c d .none/\IsPair h c (.ref i) (.ref j)/\(∃u v,IsPair h d u v)/\yg tp h i a k/\yg tq h j b k
def zqm{P:Program}{w:World}{K:qd}{es:List Expr}{x1:_}{pos:Pos}{tp tq:Bool}{z c d i j a b:Addr}(qc:yJ z c d i j [i,a] [j,b])(na:a≠i)(nb:b≠j) :
  Turn P w K (.Tuple es x1 pos) (Itx tp tq K a b) [z,c,d,i,j] z (ZTx tp tq z c d i j a b)where
 mem:=by simp
 obj:=λk h st e he=>by
  obtain⟨h1,h2,⟨u,v,h3⟩,h4,h5⟩:=st;simp only[eX,jL,kZ]at he;rcases he with rfl|rfl|rfl|rfl|rfl
  .exact⟨_,h1,λv q=>by cases q⟩
  .exact⟨_,h2,λv q=>by cases q⟩
  .exact⟨_,h3,λv q=>by cases q⟩
  .exact h4.obj
  .exact h5.obj
 keep:=λk h h' st q=>by
  obtain⟨h1,h2,⟨u,v,h3⟩,h4,h5⟩:=st;exact⟨q z (by simp) _ h1,q c (by simp) _ h2,⟨u,v,q d (by simp) _ h3⟩,h4.keep λo e=>q i (by simp) o e,h5.keep λo e=>q j (by simp) o e⟩
 item:=by
  intro X hP hw hK hc k aa s U H E I hf st hg;subst hP hw hK;obtain⟨xs,ys,x,y,qa,qb,ex,ey⟩:=hg;obtain⟨ia,ra,ca,za⟩:=I.sq qa;obtain⟨ib,rb,cb,zb⟩:=I.sq qb;obtain⟨h1,h2,⟨u,v,h3⟩,h4,h5⟩:=st;have hh:X.A.in1.handled=none:=I.ok.hd hc;obtain⟨ux,eux,rux⟩:=ra.get ex;obtain⟨uy,euy,ruy⟩:=rb.get ey;have k1:k<ia.toArray.size:=by simpa using(nW.mp eux).1
  have k2:k<ib.toArray.size:=by simpa using(nW.mp euy).1
  refine ziz qc (Gj tp hh i a na ia.toArray) (Gj tq hh j b nb ib.toArray) h1 h2 h3 ⟨h4,ca⟩ ⟨h5,cb⟩ k1 k2 λvx vy h' tk t px py ht g1 g2 g3 g4 g5 kk=>⟨_,rfl,?_⟩;have ev:vx=ux:=by rw[List.getElem?_toArray,eux]at px;exact(Option.some.inj px).symm
  have ew:vy=uy:=by rw[List.getElem?_toArray,euy]at py;exact(Option.some.inj py).symm
  subst ev ew;refine wpAny_letOwnedTupleGo_zip g1 λh'' z' sb=>?_;have tz:t≠z:=λq=>by rw[q]at ht;exact absurd (dG h1) (by rw[ht];exact YAR _)
  have hn:H t=none:=I.hok.fresh (by rw[ht];exact d8 _);have kp:∀b u,b∉[z,c,d,i,j]->s.heap.get? b=some u->h''.get? b=some u:=λb u hb e=>by
   simp only[eX,jL,kZ,not_or]at hb;exact sb.extBut b u hb.1 (kk b u hb.1 hb.2.2.1 hb.2.2.2.1 hb.2.2.2.2 e)
  have I1:Inv X aa U (upd H t (.tup [x,y])) {s with heap:=h'',toks:=tk}:=I.turnedLaid kp hf (by rw[ht];exact d8 _)
   ⟨⟨by show 2<=sizeLine;decide,_,sb.extBut _ _ tz g5,rfl⟩,[vx,vy],.cons rux (.cons ruy .nil),⟨_,sb.extBut _ _ tz g5,rfl,_,rfl⟩⟩
  refine⟨.ref t,_,I1,rfl,⟨t,x,y,hn,rfl,rfl,λxs' q=>by rw[I.sq_inj q qa];exact ex,λys' q=>by rw[I.sq_inj q qb];exact ey⟩,?_,λe he=>?_⟩
  .exact⟨z',sb.extBut _ _ qc.az (kk _ _ qc.az qc.ab qc.ai qc.aj h2),⟨_,_,sb.extBut _ _ qc.bz g2⟩,g3.1.keep λo e=>sb.extBut _ _ qc.iz e,g4.1.keep λo e=>sb.extBut _ _ qc.jz e⟩
  .have hlt:e<s.heap.objs.size:=by
    simp only[eX,jL,kZ]at he;rcases he with rfl|rfl|rfl|rfl|rfl
    .exact dG h1
    .exact dG h2
    .exact dG h3
    .obtain⟨o,q,_⟩:=h4.obj;exact dG q
    .obtain⟨o,q,_⟩:=h5.obj;exact dG q
   rw[ao (iU (by rw[ht];exact hlt))];exact(hf e he).1
 done:=by
  intro X hP hw hK hc k aa s U H E I hf st hg;obtain⟨xs,ys,qa,qb,hx⟩:=hg;subst hP hw hK;obtain⟨ia,ra,ca,za⟩:=I.sq qa;obtain⟨ib,rb,cb,zb⟩:=I.sq qb;obtain⟨h1,h2,⟨u,v,h3⟩,h4,h5⟩:=st;have hh:X.A.in1.handled=none:=I.ok.hd hc;have l1:=ra.length;have l2:=rb.length;by_cases hle:xs.length<=ys.length
  .have hk:k=ia.toArray.size:=by simp;omega
   subst hk;refine ziY qc (Gj tp hh i a na ia.toArray) h1 h2 ⟨h4,ca⟩ λh' kk=>⟨rfl,?_⟩;exact I.turnedAll (t':=s.toks) (λb u hb e=>by
    simp only[eX,jL,kZ,not_or]at hb;exact kk b u hb.1 hb.2.2.1 hb.2.2.2.1 hb.2.2.2.2 e) hf
  .have hk:k=ib.toArray.size:=by simp;omega
   subst hk;refine zhW qc (Gj tp hh i a na ia.toArray) (Gj tq hh j b nb ib.toArray) h1 h2 h3 ⟨h4,ca⟩ ⟨h5,cb⟩ (by simp;omega) λh' tk kk=>⟨rfl,?_⟩;exact I.turnedAll (t':=tk) (λb u hb e=>by
    simp only[eX,jL,kZ,not_or]at hb;exact kk b u hb.1 hb.2.2.1 hb.2.2.2.1 hb.2.2.2.2 e) hf
 self:=λ_ _ _ _ _ st h=>wpAny_pyIter_zip st.1 h
def itN(tp:Bool):String:=match tp with|true => "tuple_iterator"|false => "list_iterator"
abbrev Ar(tp:Bool)(h:Heap)(l:Addr):Heap:=h.push {cls:=.type (itN tp),data:=.fields #[.ref l,.int 0 0]}
abbrev xzb(tp tq:Bool)(h:Heap)(l m:Addr):Heap:=Ar tq (Ar tp h l) m
abbrev xzc(tp tq:Bool)(h:Heap)(l m:Addr):Heap:=(xzb tp tq h l m).push {cls:=.type "tuple",data:=.seq #[.ref h.objs.size,.ref (Ar tp h l).objs.size]}
abbrev xzd(tp tq:Bool)(h:Heap)(l m:Addr):Heap:=(xzc tp tq h l m).push {cls:=.type "tuple",data:=.seq #[.none,.none]}
abbrev Dy(tp tq:Bool)(h:Heap)(l m:Addr):Heap:=(xzd tp tq h l m).push {cls:=.type "zip",data:=.fields #[.none,.bool false,.bool false,.ref (xzb tp tq h l m).objs.size,.ref (xzc tp tq h l m).objs.size]}
def zvw(h:rY tp s.heap l xs)(q:Q (.ref s.heap.objs.size) {s with heap:=Ar tp s.heap l}):wpAny (model P w) A (pyIter (.ref l)) Q E s:=by
 cases tp
 .exact Kg h q
 .exact wpAny_pyIter_tuple h q
theorem rY.push(x:rY tp h l xs)(o:Obj):rY tp (h.push o) l xs:=by
 cases tp
 .exact Heap.IsList.push x o
 .exact Heap.IsTuple.push x o
def zo7(tp tq:Bool)(l m:Addr)(xs ys:Array Value) :
  Meets (Builtin.«zip.__new__» ⟨[.type "zip",.ref l,.ref m],[]⟩) (λ_ R s=>rY tp s.heap l xs/\rY tq s.heap m ys/\R (.ok (.ret (.ref (xzd tp tq s.heap l m).objs.size))) {s with heap:=Dy tp tq s.heap l m}):=
 .of_wp λprog w A R s h=>by
  obtain⟨hp,g,d,tk,os⟩:=s;obtain⟨hl,hm,h⟩:=h;have hsub:=sub_zip;have h1:=hl;have h2:rY tq (Shared.heap ⟨Ar tp hp l,g,d,tk,os⟩) m ys:=rY.push hm _
  wp_walk using zvw h1,zvw h2
  exact⟨_,rfl,h⟩
def zqw(hl:rY tp s.heap l xs)(hm:rY tq s.heap m ys)
  (q:∀h',ZTx tp tq (s.heap.objs.size+4) (s.heap.objs.size+2) (s.heap.objs.size+3) s.heap.objs.size (s.heap.objs.size+1) l m 0 h'->(∀c o,s.heap.get? c=some o->h'.get? c=some o)->Q (.ref (s.heap.objs.size+4)) {s with heap:=h'}) :
  wpAny (model P w) A (call (.type "zip") [.ref l,.ref m]) Q E s:=by
 refine callType_new F.called_zip (by decide) (F.typeCall_zip_2 _ _) (F.newCall_zip_2 _ _) (λobj=>F.args_object_init_3 obj _ _) F.entry_zip_new (zo7 tp tq l m xs ys) ⟨hl,hm,?_⟩;have y1:(Ar tp s.heap l).objs.size=s.heap.objs.size+1:=Bb ..;have y2:(xzb tp tq s.heap l m).objs.size=s.heap.objs.size+2:=by rw[Bb,y1]
 have y3:(xzc tp tq s.heap l m).objs.size=s.heap.objs.size+3:=by rw[Bb,y2]
 have y4:(xzd tp tq s.heap l m).objs.size=s.heap.objs.size+4:=by rw[Bb,y3]
 have g5:(Dy tp tq s.heap l m).get? (xzd tp tq s.heap l m).objs.size=some _:=lV _ rfl;have g4:(Dy tp tq s.heap l m).get? (xzc tp tq s.heap l m).objs.size=some _:=fG _ (lV _ rfl);have g3:(Dy tp tq s.heap l m).get? (xzb tp tq s.heap l m).objs.size=some _:=fG _ (fG _ (lV _ rfl));have g2:(Dy tp tq s.heap l m).get? (Ar tp s.heap l).objs.size=some _:=fG _ (fG _ (fG _ (lV _ rfl)));have g1:(Dy tp tq s.heap l m).get? s.heap.objs.size=some _:=fG _ (fG _ (fG _ (fG _ (lV _ rfl))));show _/\_;rw[y2,y3,y4]at g5;rw[y1,y2]at g3;rw[y3]at g4;rw[y1]at g2;rw[y4];exact⟨⟨_,g5,rfl⟩,q _ ⟨g5,g3,⟨_,_,g4⟩,(by cases tp<;>exact⟨_,g1,rfl,rfl⟩),(by cases tq<;>exact⟨_,g2,rfl,rfl⟩)⟩ λc o x=>fG _ (fG _ (fG _ (fG _ (fG _ x))))⟩
def zyU(K:qd)(ta:TA):TI:=λU H R=>ta U H λvs H1=>∃(tp tq:Bool)(a b:Addr)(xs ys:List V),vs=[.ref a,.ref b]/\SQ tp K H1 a xs/\SQ tq K H1 b ys/\R (Itx tp tq K a b) H1
def zu5(hg:Gl X "zip")(hm:X.mg "zip"=none)(ha:PA X [a,b] ta)(hs:starEach [a,b] X.env=[(false,eval a X.env),(false,eval b X.env)]:=by rfl)(hs2:starEach [b] X.env=[(false,eval b X.env)]:=by rfl) :
  PI X (.Tuple es x1 tpos) (.Call (.Name "zip" p) [a,b] [] pos) (zyU X.K ta):=by
 intro aa s U H R I h;refine Call_ (JV I hg hm boot_zip (YBz (bK (ha pos aa s U H _ I h) λus s1 ⟨vs,H1,I1,r1,q1⟩=>?_) (by rw[hs,hs2]) (by rw[hs2];rfl)));obtain⟨tp,tq,l,m,xs,ys,e,q1,q2,q⟩:=q1;subst e;obtain⟨u,v,rfl,ru,rv⟩:=zuD r1;cases ru;cases rv;obtain⟨ia,ra,ca,za⟩:=I1.sq q1;obtain⟨ib,rb,cb,zb⟩:=I1.sq q2;have lt1:=ca.lt;have lt2:=cb.lt;refine zqw ca cb λh' zt kk=>?_;refine wpAny_pyIter_zip zt.1 ?_;have I2:Inv X aa U H1 {s1 with heap:=h'}:=I1.kept (t':=s1.toks) kk;refine⟨_,[s1.heap.objs.size+4,s1.heap.objs.size+2,s1.heap.objs.size+3,s1.heap.objs.size,s1.heap.objs.size+1],_,_,H1,rfl,I2,zqm (zvJ _ _ _ lt1 lt2) (iU lt1) (iU (Nat.lt_succ_of_lt lt2)),zt,λc hc=>?_,q⟩;have hle:s1.heap.objs.size<=c:=by
  simp only[eX,jL,kZ]at hc;rcases hc with rfl|rfl|rfl|rfl|rfl
  .exact HJ _ _
  .exact HJ _ _
  .exact HJ _ _
  .exact d8 _
  .exact HJ _ _
 exact I1.fpOk hle (I1.hok.fresh hle)
end L2
namespace Fd
open PySem L2
section
variable{X:Cx}{c:Bk}{a b:Expr}{A B:WE}{pos p tpos:Pos}{es:List Expr}
def zrO(A B:WE):WL:=λZ Q=>A Z λx=>B Z λy=>qM x λxs=>qM y λys=>Q (iH xs ys)
def zlf(e:Same G H2)(h:SQ tp K G l vs):SQ tp K H2 l vs:=by
 cases tp
 .exact e.seq h
 .exact qI e h
def ztN(hl:SQ tp c.K G l vs)(hm:SQ tq c.K G m ws)(hv:aC c G xs vs)(hw:aC c G ys ws):sW c (Itx tp tq c.K l m) (iH xs ys) G:=by
 intro i H2 G2 s1 s2 bx h0;have ql:=zlf (s1.trans s2) hl;have qm:=zlf (s1.trans s2) hm;refine⟨λe=>⟨vs,ws,ql,qm,by rw[e,zoe,hv.length,hw.length]⟩,λd e=>?_⟩;obtain⟨x,y,ex,ey,rfl⟩:=znx e;obtain⟨v,e1,r1⟩:=hv.get ex;obtain⟨w,e2,r2⟩:=hw.get ey;refine⟨⟨vs,ws,v,w,ql,qm,e1,e2⟩,λz H3 yl=>?_⟩;obtain⟨t,x',y',ht,rfl,rfl,f1,f2⟩:=yl;have g1:=f1 vs ql;have g2:=f2 ws qm;rw[e1]at g1;cases g1;rw[e2]at g2;cases g2;have sg:Same G2 (upd G2 t (.tup [v,w])):=lD (lU s2 ht);exact⟨_,aY.new s2 bx ht,t,[v,w],rfl,fM.of cG,⟨v,[w],rfl,(r1.mono s1).mono sg,w,[],rfl,(r2.mono s1).mono sg,rfl⟩⟩
def zoa(h:Rep c G d v)(q:qM d Q):∃tp l vs xs,v=.ref l/\SQ tp c.K G l vs/\aC c G xs vs/\Q xs:=by
 cases d with
 |lst n xs=>obtain⟨l,vs,e,hl,_,hv⟩:=h;exact⟨false,l,vs,xs,e,cg.of hl,hv,q⟩
 |tup xs=>obtain⟨l,vs,e,hl,hv⟩:=h;exact⟨true,l,vs,xs,e,hl,hv,q⟩
 |_=>exact q.elim
def zqS(hA:DE X c a A)(hB:DE X c b B)(hg:Gl X "zip":=by rfl)(hs:starEach [a,b] X.env=[(false,eval a X.env),(false,eval b X.env)]:=by rfl)(hs2:starEach [b] X.env=[(false,eval b X.env)]:=by rfl)(hK:c.K=X.K:=by rfl)(hm:X.mg "zip"=none:=by decreasing_trivial) :
  DI X c (.Tuple es x1 tpos) (.Call (.Name "zip" p) [a,b] [] pos) (zrO A B)where
 mono:=λZ Q Q' k q=>hA.mono Z _ _ (λx z=>hB.mono Z _ _ (λy z'=>zi8 (λxs=>zi8 λys z=>k _ z) z') z) q
 pi:=zqU (zu5 hg hm (kj hA.pe (kj hB.pe nF hs2) (by rw[hs,hs2])) hs hs2) λU H R ⟨Z,G,r,q⟩=>⟨Z,G,r,hA.mono Z _ _ (λx z v H1 G1 t1 e1=>⟨Z,G1,r.step t1,hB.mono Z _ _ (λy z' w H2 G2 t2 e2=>by
  obtain⟨tp,l,vs,xs,rfl,hl,hv,z'⟩:=zoa (e1.mono t2.gg) z';obtain⟨tq,m,ws,ys,rfl,hm,hw,z'⟩:=zoa e2 z';exact⟨tp,tq,l,m,vs,ws,rfl,hK▸zlf t2.gh hl,hK▸zlf t2.gh hm,z' _ H2 G2 (t1.trans t2) (hK▸ztN hl hm hv hw)⟩) z⟩) q⟩
end
end Fd
namespace L2
open PySem PySem.Spec PyProof.Rows
section
variable{prog:Program}{w:World}{A:Around}{E:Value->Shared->Prop}{s:Shared}
def zo8(hh:A.handled=none)(ht:s.heap.IsList t items)(h1:1<=items.size)(hz:items.size<=16384)
  (hQ:∀(h':Heap)(tk:Nat),(∀b o,s.heap.get? b=some o->h'.get? b=some o)->Q (items.toList.take 1++[.ref h'.objs.size]) {s with heap:=h'.push {cls:=.type "list",data:=.seq (items.toList.drop 1).toArray},toks:=tk}) :
  wpAny (model prog w) A (unpackItems (.ref t) 2 (some 1)) Q E s:=by
 have hlt:t≠s.heap.objs.size:=by obtain⟨o,ho,_⟩:=ht;exact iU (dG ho)
 unfold unpackItems;refine aP ?_;unfold notIterableAtAll;refine aP (YCA ht.typeIs slot_list_iter.lookup ?_);refine dO ?_;simp only[Bool.false_eq_true,if_false];refine aP (YAU (Kg ht ?_));refine aP (YAU (ziH hlt 1 0 _ _ ⟨_,lV _ rfl,rfl,rfl⟩ (ht.push _) (by omega) λh₁ hit₁ hs₁=>?_));have hl₁:h₁.IsList t items:=(ht.push _).extBut hs₁.extBut hlt;rw[Nat.zero_add]at hit₁;obtain⟨oi,hoi,_⟩:=id hit₁;obtain⟨ol,hol,_⟩:=id hl₁;rw[YCJ];have hfl:(items.toList.take 1).length=1:=by rw[Fq,Af];omega
 rw[if_neg (show ¬ ((items.toList.take 1).length<1) by rw[hfl];omega)];refine aP (YAU (PySem.W.kun_collect (s:={s with heap:=h₁}) (T:="list_iterator") (.inr (.inr (.inl rfl))) (Walks.list (A:=A.in1) hh s.heap.objs.size t hlt items) (λj u st=>st.1.typeIs) (k:=1) (by omega) ⟨hit₁,hl₁⟩ (dG hoi) (dG hol) (λh₂ tk hk=>?_) (by rw[YAS];omega)));have hrl:(items.toList.drop 1).length=items.size-1:=by rw[YB5,Af]
 show wpAny _ _ (if (items.toList.drop 1).length<2-1-1 then _ else _) _ _ _;rw[if_neg (by omega)];show wpAny _ _ (newList ((items.toList.drop 1).take ((items.toList.drop 1).length-(2-1-1))) >>=λd=>pure (items.toList.take 1++[d]++(items.toList.drop 1).drop ((items.toList.drop 1).length-(2-1-1)))) _ _ _;have e1:(items.toList.drop 1).take ((items.toList.drop 1).length-(2-1-1))=items.toList.drop 1:=Hc (by omega);have e2:(items.toList.drop 1).drop ((items.toList.drop 1).length-(2-1-1))=[]:=List.drop_of_length_le (by omega);rw[e1,e2];refine aP (wpAny_newList (s:={s with heap:=h₂,toks:=tk}) (dO ?_) (by rw[hrl,YAS];omega));rw[YAF];exact hQ h₂ tk λb o e=>hk b o (iU (dG e)) (hs₁.extBut b o (iU (dG e)) (fG _ e))
end
def zyZ(K:qd)(i j:Nat):TG:=λv U H Q=>∃a x xs,v=.ref a/\cg K H a (x::xs)/\xs.length<=10000/\∀p,H p=none->Q ((U.set i (some x)).set j (some (.ref p))) (upd H p (.lst xs))
def zu2(hc:X.calm=true)(hN:X.N.Nodup)(hi:X.N[i]?=some x)(hj:X.N[j]?=some y)(hx:Loc X.env.scope x)(hy:Loc X.env.scope y)
  (hf:X.fn x=true\/X.env.scope.names.lookup x=some .local) (hf':X.fn y=true\/X.env.scope.names.lookup y=some .local)
  (hn:(assignEach [.Name x px,.Starred (.Name y py) ps] X.env).length=2:=by rfl) (hst:(assignEach [.Name x px,.Starred (.Name y py) ps] X.env).findIdx? (·.1)=some 1:=by rfl)
  (he:(assignEach [.Name x px,.Starred (.Name y py) ps] X.env).map (·.2)=[assign (.Name x px) X.env,assign (.Name y py) X.env]:=by rfl) :
  PG X (.Tuple [.Name x px,.Starred (.Name y py) ps] k pos) (zyZ X.K i j):=by
 intro aa s U H v u Q I r hw;obtain⟨a,x1,xs,rfl,hq,hz,q⟩:=hw;cases r;obtain⟨its,rv,ht,_⟩:=I.list hq;cases rv with
 |cons r1 rr=>
  rename_i u1 us
  have hl:=rr.length;rw[assign_Tuple];refine aP (Ed ?_);unfold unpack;rw[hn,hst];refine aP (YAU (zo8 (I.ok.hd hc) ht.isList (by simp) (by simp;omega) λh' tk hk=>?_));have I1:Inv X aa U H {s with heap:=h',toks:=tk}:=I.kept (t':=tk) hk;have I2:Inv X aa U (upd H h'.objs.size (.lst xs)) {s with heap:=h'.push {cls:=.type "list",data:=.seq us.toArray},toks:=tk}:=I1.lnew (t':=tk) rr (by rw[YAS];omega);rw[he];show wpAny _ _ (assignInOrder [assign (.Name x px) X.env,assign (.Name y py) X.env] [u1,.ref h'.objs.size]) _ _ _;refine LK (bK (zm8 hN hi hx hf aa _ U _ x1 u1 (λU' H'=>U'=U.set i (some x1)/\H'=upd H h'.objs.size (.lst xs)) I2 r1 ⟨rfl,rfl⟩) λ_ s1 ⟨U1,H1,I3,e1,e2⟩=>?_);subst e1 e2;refine LK (bK (zm8 hN hj hy hf' aa _ _ _ (.ref h'.objs.size) (.ref h'.objs.size) (λU' H'=>Q U' H') I3 rfl (q _ I1.fresh)) λ_ s2 ⟨U2,H2,I4,q2⟩=>YCn ⟨U2,H2,I4,q2⟩)
end L2
namespace Fd
open PySem L2
section
variable{X:Cx}{c:Bk}{a b e o:Expr}{A B:WE}{es:List Expr}{pos p p2 apos cpos px py ps:Pos}
def zs0(hm:X.mg x=some (.str z t))(hg:Gl X x:=by rfl)(hd:ZD x:=by decide):DE X c (.Name x pos) (kW (.str z)):=⟨Dr _,dw (zra (v:=.str z) hg hm ⟨t,rfl⟩ hd) λU H Q ⟨Z,G,r,q⟩=>q _ H G r.refl rfl⟩
def zT(hm:X.mg x=some (.int z t))(hg:Gl X x:=by rfl)(hd:ZD x:=by decide):DE X c (.Name x pos) (kW (.int z)):=⟨Dr _,dw (zra (v:=.int z) hg hm ⟨t,rfl⟩ hd) λU H Q ⟨Z,G,r,q⟩=>q _ H G r.refl rfl⟩
def mj:FL:=λds Q=>match ds with
 |[.str x]=>x.length<=100000/\Q (.int x.length)
 |ds=>vI ds Q
def zwk:uw mj:=λds Q Q' k q=>by
 unfold mj at q ⊢;split at q
 .exact⟨q.1,k _ q.2⟩
 .exact zyP _ _ _ k q
def ztQ:uv c mj (λxs H Q=>(∃p ys,xs=[.ref p]/\(cg c.K H p ys\/fM c.K H p ys)/\Q (.int ys.length) H)\/∃z,xs=[.str z]/\z.length<=sizeLine/\Q (.int z.length) H):=by
 intro H G ds vs Q gh bx h0 rv q;unfold mj at q;split at q
 .obtain⟨v,rfl,rfl⟩:=uh rv;exact .inr ⟨_,rfl,dW q.1,q.2 _ H G (aY.refl gh bx) rfl⟩
 .exact .inl (zxM H G _ vs Q gh bx h0 rv q)
def rP(hR:DA X c [e] R)(hg:Gl X "len":=by rfl)(he:ZE e X:=by rfl)(hK:c.K=X.K:=by rfl)(hm:X.mg "len"=none:=by decreasing_trivial):DE X c (.Call (.Name "len" p) [e] [] pos) (cbW mj R):=
 zkT zwk (jC.or zl6) (hK▸ztQ) hm PySem.boot_len hR hg (by decide) (by decide) he rfl
def uV(b a:Str):Bool:=!(Builtin.Str.occurrences b a 0 b.length 1).isEmpty
def d7(neg:Bool):F2:=λx y Q=>match x,y with
 |.str a,.str b=>Q (.bl (if neg then !uV b a else uV b a))
 |x,y=>inD neg x y Q
def zuG(neg:Bool):ph (d7 neg):=λx y Q Q' k q=>by
 unfold d7 at q ⊢;split at q
 .exact k _ q
 .exact m_in neg _ _ _ _ k q
def zY(c:Bk)(neg:Bool):R2:=λu v H Q=>xW c neg u v H Q\/∃i j,u=.str i/\v=.str j/\Q (.bl (if neg then !uV j i else uV j i)) H
def zpE(neg:Bool):rA c (d7 neg) (zY c neg):=λH G x y u v Q gh bx h0 rx ry q=>by
 unfold d7 at q;split at q
 .cases rx;cases ry;exact .inr ⟨_,_,rfl,rfl,q _ H G (aY.refl gh bx) rfl⟩
 .exact .inl (zyx neg H G _ _ u v Q gh bx h0 rx ry q)
def ztm(hK:c.K=X.K)(hu:X.A.units+64<cLine):gP X (compareOp .In) (zY c false):=(zwF hK hu).or zrr
def zrg(hK:c.K=X.K)(hu:X.A.units+64<cLine):gP X (compareOp .NotIn) (zY c true):=(zqv hK hu).or zly
def zyv(hA:DE X c a A)(hB:DE X c b B)(hm:behindInMarks .In b=false:=by with_unfolding_all rfl)(hK:c.K=X.K:=by rfl)(hu:X.A.units+64<cLine:=by decreasing_trivial):DE X c (.Compare a [.In] [b] pos) (ak (d7 false) A B):=zsN (zuG _) (ztm hK hu) (zpE _) hA hB hm
def GX(hA:DE X c a A)(hB:DE X c b B)(hm:behindInMarks .In b=false:=by with_unfolding_all rfl)(hK:c.K=X.K:=by rfl)(hu:X.A.units+64<cLine:=by decreasing_trivial):DT X c (.Compare a [.In] [b] pos) (b8 (ak (d7 false) A B)):=z9 (zuG _) (ztm hK hu) (zpE _) hA hB hm
def Ha(hA:DE X c a A)(hB:DE X c b B)(hm:behindInMarks .NotIn b=false:=by with_unfolding_all rfl)(hK:c.K=X.K:=by rfl)(hu:X.A.units+64<cLine:=by decreasing_trivial):DT X c (.Compare a [.NotIn] [b] pos) (b8 (ak (d7 true) A B)):=z9 (zuG _) (zrg hK hu) (zpE _) hA hB hm
def bC:F2:=λx y Q=>match x,y with
 |.str z,.int i=>z.length<=100000/\(match lE z.cps.toList i with|some ch=>Q (.str ⟨#[ch]⟩)|none=>False)
 |x,y=>ixD x y Q
def zwj:ph bC:=λx y Q Q' k q=>by
 unfold bC at q ⊢;split at q
 .refine⟨q.1,?_⟩;have q:=q.2;split at q
  .exact k _ q
  .exact q.elim
 .exact m_ix _ _ _ _ k q
def zwe:rA c bC (rIx c.K):=λH G x y u v Q gh bx h0 rx ry q=>by
 unfold bC at q;split at q
 .cases rx;cases ry;have q2:=q.2;split at q2
  .rename_i ch e
   exact .inr (.inr ⟨_,_,ch,rfl,rfl,dW q.1,e,q2 _ H G (aY.refl gh bx) rfl⟩)
  .exact q2.elim
 .exact zyl H G _ _ u v Q gh bx h0 rx ry q
def jJ(hA:DE X c a A)(hB:DE X c b B)(hs:zm7 b:=by intro _ _;rfl)(hK:c.K=X.K:=by rfl):DE X c (.Subscript a b pos) (ak bC A B):=
 ⟨Ek zwj hA.mono hB.mono,dw (uN (hK▸zty) hA.pe hB.pe hs) λU H Q h=>zh4 zwj hA.mono hB.mono zwe U H Q h⟩
def Bg(x:D)(lo hi:Option Int)(Q:D->Prop):Prop:=match x with
 |.str z=>z.length<=100000/\Q (.str (j4 z lo hi))
 |x=>slD x lo hi Q
def zrv(k:∀d,Q d->Q' d)(q:Bg x lo hi Q):Bg x lo hi Q':=by
 cases x with
 |str z=>exact⟨q.1,k _ q.2⟩
 |lst n xs=>exact k _ q
 |tup xs=>exact k _ q
 |_=>exact q.elim
abbrev nU(A:WE)(L o9:WO):WE:=λZ Q=>A Z λx=>L Z λl=>o9 Z λu=>Bg x l u Q
def zrU(hA:DE X c a A)(hL:DO X c lo L)(hU:DO X c hi o9)(hK:c.K=X.K:=by rfl):DE X c (.Subscript a (.Slice lo hi none p2) pos) (nU A L o9)where
 mono:=λZ Q Q' k q=>hA.mono Z _ _ (λd z=>hL.mono Z _ _ (λl y=>hU.mono Z _ _ (λu x=>zrv k x) y) z) q
 pe:=dw (znX ((rH.or zvg).or zxs) hA.pe hL.po hU.po) λU H Q ⟨Z,G,r,q⟩=>⟨Z,G,r,hA.mono Z _ _ (λd z v H1 G1 t1 e1=>⟨Z,G1,r.step t1,hL.mono Z _ _ (λl y H2 G2 t2=>⟨Z,G2,(r.step t1).step t2,hU.mono Z _ _ (λu x H3 G3 t3=>by
  have t:=(t1.trans t2).trans t3;have e3:=(e1.mono t2.gg).mono t3.gg;cases d with
  |lst n xs=>
   obtain⟨p,vs,rfl,hp,_,rv⟩:=e3;exact .inl (.inl ⟨p,vs,rfl,cg.of (t3.gh _ _ hp),λl hl=>x _ _ _ (t.trans (aY.new t3.gh t3.bx hl)) ⟨l,_,rfl,cG,λ_=>r.new0 (t.free hl),(rv.cut _ _).mono (lD (lU t3.gh hl))⟩⟩)
  |tup xs=>
   obtain⟨p,vs,rfl,hp,rv⟩:=e3;exact .inl (.inr ⟨p,vs,rfl,hK▸qI t3.gh hp,λe=>x _ H3 G3 t ⟨p,vs,rfl,hp,by have:=rv.cut l u;rw[e]at this;exact this⟩,λl hl=>x (.ref l) _ _ (t.trans (aY.new t3.gh t3.bx hl)) ⟨l,_,rfl,fM.of cG,(rv.cut _ _).mono (lD (lU t3.gh hl))⟩⟩)
  |str zz=>cases e3;exact .inr ⟨zz,rfl,x.1,x.2 _ H3 G3 t rfl⟩
  |_=>exact x.elim) y⟩) z⟩) q⟩
def zv0(hA:DE X c a A)(hB:DE X c b B)(hC:DE X c ce C)(hm:lastMarks [.LtE,.LtE] [b,ce]=false:=by with_unfolding_all rfl):DE X c (.Compare a [.LtE,.LtE] [b,ce] pos) (zoc Ji Ji A B C):=
 ⟨zph (zJ _) (zJ _) hA.mono hB.mono hC.mono,dw (zrL zxx zxx hA.pe hB.pe hC.pe hm) λU H Q h=>zoz (zJ _) (zJ _) hA.mono hB.mono hC.mono (Ef _) (Ef _) U H Q h⟩
def zM(d:D)(Q:Str->Prop):Prop:=match d with|.str z=>Q z|_=>False
def zpZ(k:∀z,Q z->Q' z)(q:zM d Q):zM d Q':=by
 cases d<;>first|exact k _ q|exact q
abbrev FS:=Str->D->(D->Prop)->Prop
def zn4(f:FS):Prop:=∀x y Q Q',(∀d,Q d->Q' d)->f x y Q->f x y Q'
abbrev uI(f:FS)(A B:WE):WE:=λZ Q=>A Z λx=>zM x λz=>B Z λy=>f z y Q
def SmD(c:Bk)(f:FS)(r:V->List V->Hp->VK->Prop):Prop:=∀(H G:Hp)(z:Str)(y:D)(v:V)(Q:VK),Same G H->fU c.β H G->(∀a,H a=none->c.H0 a=none)->Rep c G y v->f z y (λd=>∀v H' G',aY c.β H G H' G'->Rep c G' d v->Q v H')->r (.str z) [v] H Q
def Bj{f:FS}{r:V->List V->Hp->VK->Prop}{name:Str}{id:String}(fm:zn4 f)(slot:Slot "str" name id)(hty:typeOf (.builtin id)=pure (.type "method_descriptor"))(hm:yU X id r)(hr:SmD c f r)(hA:DE X c o A)(hB:DE X c e B)
  (hbase:ZB o name X:=by rfl)
  (hfew:ZF cpos e X:=by rfl)
  (hline:(apos.endLine==cpos.line)=true:=by rfl) (hs:ZE e X:=by rfl) :
  DE X c (.Call (.Attribute o name apos) [e] [] cpos) (uI f A B)where
 mono:=λZ Q Q' k q=>hA.mono Z _ _ (λx z=>zpZ (λt y=>hB.mono Z _ _ (λy w=>fm _ _ _ _ k w) y) z) q
 pe:=dw (HB PySem.F.plainAttrs_str slot hty hm hA.pe (kj hB.pe nF hs) hbase hfew hline hs rfl) λU H Q ⟨Z,G,R,q⟩=>⟨Z,G,R,hA.mono Z _ _ (λx z v H1 G1 t1 e1=>by
  cases x with
  |str z'=>
   cases e1;exact⟨rfl,Z,G1,R.step t1,hB.mono Z _ _ (λy w v H2 G2 t2 e2=>hr H2 G2 z' y v Q t2.gh t2.bx (λa z=>R.new0 (t1.free (t2.free z))) e2 (fm _ _ _ _ (λd u v' H3 G3 t3 e3=>u v' H3 G3 ((t1.trans t2).trans t3) e3) w)) z⟩
  |_=>exact z.elim) q⟩
def IW:FS:=λz y Q=>match y with|.str b=>Q (.bl (Txt.startswith z b))|_=>False
def m_sw:zn4 IW:=λx y Q Q' k q=>by cases y<;>first|exact k _ q|exact q
def zy1:SmD c IW rSw:=λH G z y v Q gh bx h0 ry q=>by
 cases y with
 |str b=>cases ry;exact⟨z,b,rfl,rfl,q _ H G (aY.refl gh bx) rfl⟩
 |_=>exact q.elim
def FP:FS:=λz y Q=>match y with|.str b=>(b.length≠0/\z.length<=100000)/\Q (.lst true ((Txt.split z b).map D.str))|_=>False
def m_sp:zn4 FP:=λx y Q Q' k q=>by cases y<;>first|exact⟨q.1,k _ q.2⟩|exact q
theorem eF:∀{ns:List Str}{vs:List V},aC c G (ns.map D.str) vs↔vs=ns.map V.str
 |[],_=>Iff.rfl
 |n::ns,vs=>by
  constructor
  .rintro⟨v,ws,h1,h2,h3⟩;rw[h1,eF.mp h3]
   have:v=V.str n:=h2
   rw[this];rfl
  .rintro rfl;exact⟨V.str n,ns.map V.str,rfl,rfl,eF.mpr rfl⟩
def zx0:SmD c FP ztC:=λH G z y v Q gh bx h0 ry q=>by
 cases y with
 |str b=>cases ry;exact⟨z,b,rfl,rfl,q.1.1,q.1.2,λp hp=>q.2 _ _ _ (aY.new gh bx hp) ⟨p,_,rfl,cG,λ_=>h0 p hp,eF.mpr rfl⟩⟩
 |_=>exact q.elim
def CK:FS:=λz y Q=>match y with|.lst _ xs=>∃ts:List Str,xs=ts.map D.str/\(∀t∈ts,t.length<=2000)/\ts.length<=2000/\z.length<=1000/\Q (.str (Str.join z ts))|_=>False
def m_jo:zn4 CK:=λx y Q Q' k q=>by
 cases y with
 |lst n xs=>obtain⟨ts,h1,h2,h3,h4,q⟩:=q;exact⟨ts,h1,h2,h3,h4,k _ q⟩
 |_=>exact q.elim
def zyz:SmD c CK (zxG c.K):=λH G z y v Q gh bx h0 ry q=>by
 cases y with
 |lst n xs=>
  obtain⟨ts,rfl,h2,h3,h4,q⟩:=q;obtain⟨a,vs,rfl,ha,_,hv⟩:=ry;rw[eF.mp hv]at ha;exact⟨z,a,ts,rfl,rfl,cg.of (gh _ _ ha),h2,h3,h4,q _ H G (aY.refl gh bx) rfl⟩
 |_=>exact q.elim
def Di:FL:=λds Q=>match ds with
 |[.str x]=>x.length<=640/\(match PySem.intText? x with|some n=>Q (.int n)|none=>False)
 |ds=>vM ds Q
def zv7:uw Di:=λds Q Q' k q=>by
 unfold Di at q ⊢;split at q
 .refine⟨q.1,?_⟩;have q:=q.2;split at q
  .exact k _ q
  .exact q.elim
 .exact zyS _ _ _ k q
def zvm:uv c Di (λxs H Q=>((∃i,xs=[.int i]/\Q (.int i) H)\/∃k,xs=[.bl k]/\Q (.int (if k then 1 else 0)) H)\/∃x n,xs=[.str x]/\x.length<=640/\PySem.intText? x=some n/\Q (.int n) H):=by
 intro H G ds vs Q gh bx h0 rv q;unfold Di at q;split at q
 .obtain⟨v,rfl,rfl⟩:=uh rv;have q2:=q.2;split at q2
  .rename_i n e
   exact .inr ⟨_,n,rfl,q.1,e,q2 _ H G (aY.refl gh bx) rfl⟩
  .exact q2.elim
 .exact .inl (zw6 H G _ vs Q gh bx h0 rv q)
def zwf(hR:DA X c [e] R)(hg:Gl X "int":=by rfl)(he:ZE e X:=by rfl)(hm:X.mg "int"=none:=by decreasing_trivial):DE X c (.Call (.Name "int" p) [e] [] pos) (cbW Di R):=
 zk3 zv7 (sO.or zlK) zvm hm PyProof.Rows.boot_int hR hg (by decide) (by decide) he rfl
def mG:FL
 |[.str x],Q=>Q (.str x)
 |[.int i],Q=>i.natAbs.log2<1920/\Q (.str (toString i))
 |_,_=>False
def zx2:uw mG:=λds Q Q' k q=>by
 unfold mG at q ⊢;split at q<;>first|exact k _ q|exact⟨q.1,k _ q.2⟩|exact q.elim
def zvK:uv c mG (λxs H Q=>(∃i,xs=[.int i]/\i.natAbs.log2<1920/\Q (.str (toString i)) H)\/∃x,xs=[.str x]/\Q (.str x) H):=by
 intro H G ds vs Q gh bx h0 rv q;unfold mG at q;split at q
 .obtain⟨v,rfl,rfl⟩:=uh rv;exact .inr ⟨_,rfl,q _ H G (aY.refl gh bx) rfl⟩
 .obtain⟨v,rfl,rfl⟩:=uh rv;exact .inl ⟨_,rfl,q.1,q.2 _ H G (aY.refl gh bx) rfl⟩
 .exact q.elim
def zrK(hR:DA X c [e] R)(hg:Gl X "str":=by rfl)(he:ZE e X:=by rfl)(hm:X.mg "str"=none:=by decreasing_trivial):DE X c (.Call (.Name "str" p) [e] [] pos) (cbW mG R):=
 zk3 zx2 (nO.or zlq) zvK hm PyProof.Rows.boot_str hR hg (by decide) (by decide) he rfl
def Il(hA:DE X c o A)(hB:DE X c e B)(hbase:ZB o "startswith" X:=by rfl)
  (hfew:ZF cpos e X:=by rfl)
  (hline:(apos.endLine==cpos.line)=true:=by rfl) (hs:ZE e X:=by rfl) :
  DE X c (.Call (.Attribute o "startswith" apos) [e] [] cpos) (uI IW A B):=Bj m_sw PySem.F.slot_str_startswith PySem.F.type_str_startswith zkA zy1 hA hB hbase hfew hline hs
def zrs(hA:DE X c o A)(hB:DE X c e B)(hbase:ZB o "split" X:=by rfl)
  (hfew:ZF cpos e X:=by rfl)
  (hline:(apos.endLine==cpos.line)=true:=by rfl) (hs:ZE e X:=by rfl) :
  DE X c (.Call (.Attribute o "split" apos) [e] [] cpos) (uI FP A B):=Bj m_sp PySem.F.slot_str_split PySem.F.type_str_split zsA zx0 hA hB hbase hfew hline hs
def zto(hA:DE X c o A)(hB:DE X c e B)(hbase:ZB o "join" X:=by rfl)
  (hfew:ZF cpos e X:=by rfl)
  (hline:(apos.endLine==cpos.line)=true:=by rfl) (hs:ZE e X:=by rfl) (hK:c.K=X.K:=by rfl) :
  DE X c (.Call (.Attribute o "join" apos) [e] [] cpos) (uI CK A B):=Bj m_jo PySem.F.slot_str_join PySem.F.type_str_join (hK▸zuk) zyz hA hB hbase hfew hline hs
def yM(z:Str):List D:=z.cps.toList.map λch=>D.str ⟨#[ch]⟩
def zuh(d:D)(Q:List D->Prop):Prop:=match d with|.str z=>Q (yM z)|d=>qM d Q
def zo3(k:∀xs,Q xs->Q' xs)(q:zuh d Q):zuh d Q':=by
 cases d<;>first|exact k _ q|exact q.elim
abbrev iM(A:WE):WL:=λZ Q=>A Z λd=>zuh d Q
def Ak(z:Str):sW c (Its z) (yM z) G:=by
 intro i H2 G2 s1 s2 bx h0;refine⟨λe=>?_,λd e=>?_⟩
 .show z.length<=i;subst e;unfold yM Str.length
  simp
 .unfold yM at e;rw[YAG]at e;cases e1:z.cps.toList[i]? with
  |none=>rw[e1]at e;cases e
  |some ch=>
   rw[e1]at e;cases e;have lt:i<z.cps.size:=by simpa using(nW.mp e1).1
   refine⟨lt,λv H3 y=>?_⟩;obtain⟨rfl,c',h1,rfl⟩:=y;rw[<-YBB,e1]at h1;cases h1;exact⟨G2,aY.refl s2 bx,rfl⟩
def iX(K:qd)(tl:TE):TI:=λU H R=>tl U H λx H1=>(∃z,x=.str z/\R (Its z) H1)\/∃a,x=.ref a/\(((∃xs,cg K H1 a xs)/\R (Itl K a) H1)\/((∃xs,fM K H1 a xs)/\R (Itt K a) H1))
def pi_X(hl:PE X l tl):PI X tg l (iX X.K tl):=by
 intro aa s U H R I h;refine bK (hl aa s U H _ I h) λv s1 ⟨x,H1,I1,r1,q1⟩=>?_;have fp:∀b∈[s1.heap.objs.size],iV X aa H1 b:=λb hb=>by
  have e:b=s1.heap.objs.size:=by simpa using hb
  subst e;exact I1.fpOk (d8 _) (I1.hok.fresh (d8 _))
 rcases q1 with⟨z,rfl,q⟩|⟨a,rfl,⟨⟨xs,hq⟩,q⟩|⟨⟨xs,hq⟩,q⟩⟩
 .obtain⟨t,rfl⟩:=r1;have fin:∀ty,_->PIE X aa U tg R _ {s1 with heap:=s1.heap.push {cls:=.type ty,data:=.fields #[.str z t,.int 0 0]}}:=λty hty=>
   ⟨s1.heap.objs.size,[s1.heap.objs.size],_,_,H1,rfl,I1.kept (t':=s1.toks) λb o e=>fG _ e,zso z t ty hty _,⟨_,lV _ rfl,rfl,rfl⟩,fp,q⟩
  cases ha:z.cps.all _
  .exact wpAny_pyIter_wide ha (fin _ (.inr rfl))
  .exact wpAny_pyIter_ascii ha (fin _ (.inl rfl))
 .cases r1;obtain⟨its,rv,p,hz⟩:=I1.list hq;exact Kg p.isList ⟨s1.heap.objs.size,[s1.heap.objs.size],_,_,H1,rfl,I1.kept (t':=s1.toks) λb o e=>fG _ e,zrj a _,⟨_,lV _ rfl,rfl,rfl⟩,fp,q⟩
 .cases r1;obtain⟨its,rv,p,hz⟩:=I1.tuple hq;exact wpAny_pyIter_tuple (p) ⟨s1.heap.objs.size,[s1.heap.objs.size],_,_,H1,rfl,I1.kept (t':=s1.toks) λb o e=>fG _ e,zo1 a _,⟨_,lV _ rfl,rfl,rfl⟩,fp,q⟩
def lL(hA:DE X c e A)(hK:c.K=X.K:=by rfl):DI X c tg e (iM A)where
 mono:=λZ Q Q' k q=>hA.mono Z _ _ (λd z=>zo3 k z) q
 pi:=zqU (pi_X hA.pe) λU H R ⟨Z,G,r,q⟩=>⟨Z,G,r,hA.mono Z _ _ (λd z v H' G' t e=>by
  cases d with
  |str x=>cases e;exact .inl ⟨x,rfl,z _ H' G' t (Ak x)⟩
  |lst n xs=>
   obtain⟨l,vs,rfl,hl,_,hv⟩:=e;exact .inr ⟨l,rfl,.inl ⟨⟨vs,cg.of (t.gh _ _ hl)⟩,z _ H' G' t (hK▸zuq hl hv)⟩⟩
  |tup xs=>
   obtain⟨l,vs,rfl,hl,hv⟩:=e;exact .inr ⟨l,rfl,.inr ⟨⟨vs,hK▸qI t.gh hl⟩,z _ H' G' t (hK▸zwM hl hv)⟩⟩
  |_=>exact z.elim) q⟩
def Lz(d:D)(Q:D->List D->Prop):Prop:=match d with|.lst _ (x::xs)=>xs.length<=10000/\Q x xs|_=>False
def zsV(k:∀x xs,Q x xs->Q' x xs)(q:Lz d Q):Lz d Q':=by
 unfold Lz at q ⊢;split at q
 .exact⟨q.1,k _ _ q.2⟩
 .exact q.elim
abbrev zwN(i j:Nat)(A:WE):WS:=λE Z=>A Z λd=>Lz d λx xs=>E.nx ((Z.set i (.val x)).set j (.val (.lst true xs)))
def zw4(i j:Nat)(hA:DE X c e A)(hi:X.N[i]?=some x:=by rfl)(hj:X.N[j]?=some y:=by rfl)(hx:Loc X.env.scope x:=by first|exact Or.inl rfl|exact Or.inr rfl)(hy:Loc X.env.scope y:=by first|exact Or.inl rfl|exact Or.inr rfl)
  (hf:X.fn x=true\/X.env.scope.names.lookup x=some .local:=by first|exact .inl rfl|exact .inr rfl|assumption) (hf':X.fn y=true\/X.env.scope.names.lookup y=some .local:=by first|exact .inl rfl|exact .inr rfl|assumption)
  (hn:(assignEach [.Name x px,.Starred (.Name y py) ps] X.env).length=2:=by rfl) (hst:(assignEach [.Name x px,.Starred (.Name y py) ps] X.env).findIdx? (·.1)=some 1:=by rfl)
  (he:(assignEach [.Name x px,.Starred (.Name y py) ps] X.env).map (·.2)=[assign (.Name x px) X.env,assign (.Name y py) X.env]:=by rfl)
  (hs:swapsWithSole [.Tuple [.Name x px,.Starred (.Name y py) ps] k pt] e pos.line X.env=pure false:=by rfl) (hw:swappedStores [.Tuple [.Name x px,.Starred (.Name y py) ps] k pt] e X.env=pure none:=by rfl)
  (h1:(assignEach [.Tuple [.Name x px,.Starred (.Name y py) ps] k pt] X.env).map (·.2)=[assign (.Tuple [.Name x px,.Starred (.Name y py) ps] k pt) X.env]:=by rfl)
  (hc:X.calm=true:=by rfl) (hK:c.K=X.K:=by rfl) (hN:X.N.Nodup:=by decreasing_trivial):DS X c (.Assign [.Tuple [.Name x px,.Starred (.Name y py) ps] k pt] e pos) (zwN i j A)where
 mono:=λE E' Z l q=>hA.mono Z _ _ (λd z=>zsV (λ_ _ w=>l.nx _ w) z) q
 ps:=lZ (CG hA.pe (zu2 hc hN hi hj hx hy hf hf' hn hst he) hs hw h1) λD U H ⟨Z,G,r,q⟩=>⟨Z,G,r,hA.mono Z _ _ (λd z v H' G' t1 e1=>by
  unfold Lz at z;split at z
  .rename_i n x1 xs
   obtain⟨a,vs,rfl,ha,_,v1,ws,rfl,r1,rr⟩:=e1;refine⟨a,v1,ws,rfl,cg.of (t1.gh _ _ ha),by rw[<-rr.length];exact z.1,λp hp=>?_⟩;have hg:=lU t1.gh hp;have tn:=aY.new (o:=.lst ws) t1.gh t1.bx hp;have sg:Same G' (upd G' p (.lst ws)):=lD hg;have R2:=(((r.step t1).step tn).put (i:=i) (r1.mono sg)).put (i:=j) (d:=.lst true xs) (v:=.ref p) ⟨p,ws,rfl,cG,λ_=>r.new0 (t1.free hp),rr.mono sg⟩;exact z.2 _ _ _ R2 (t1.gg.trans sg)
  .exact z.elim) q⟩
structure gM(P:Program)(w:PySem.World)(K:qd)(mg:Str->Option Value)(x:Str)(kvs:List (Str×D)):Prop where
 ex:∃(a:Addr)(vvs:List (Key×V)),mg x=some (.ref a)/\(∀h:Heap,K.In h->(a==sysModules)=false/\∃vs,KV vvs vs/\h.DictOf (lX P w) a vs) /\
  ∀z:Str,(dR vvs (.inr z)=none/\kvs.lookup z=none)\/∃v d,dR vvs (.inr z)=some v/\kvs.lookup z=some d/\∀(c:Bk)(G:Hp),c.K=K->Rep c G d v
def yG(kvs:List (Str×D))(d:D)(Q:Option D->Prop):Prop:=match d with|.str z=>Q (kvs.lookup z)|_=>False
def zlh(k:∀z,Q z->Q' z)(q:yG kvs d Q):yG kvs d Q':=by
 cases d<;>first|exact k _ q|exact q
def DQ{kvs:List (Str×D)}{zz:Str}{o:Option D}{Q:Option D->Prop}(q:yG kvs (.str zz) Q)(e:kvs.lookup zz=o):Q o:=e▸q
abbrev xX(neg:Bool)(kvs:List (Str×D))(A:WE):WE:=λZ Q=>A Z λd=>yG kvs d λo=>Q (.bl (if neg then !o.isSome else o.isSome))
def Br(o:Option D)(Q:D->Prop):Prop:=match o with|some d=>Q d|none=>False
def zr2{o:Option D}{Q Q':D->Prop}(k:∀z,Q z->Q' z)(q:Br o Q):Br o Q':=by
 cases o<;>first|exact k _ q|exact q
abbrev nP(kvs:List (Str×D))(A:WE):WE:=λZ Q=>A Z λd=>yG kvs d λo=>Br o Q
def tInG(vvs:List (Key×V))(neg:Bool)(ty:TE):TE:=λU H Q=>ty U H λy H1=>∃z,y=.str z/\Q (.bl (if neg then !(dR vvs (.inr z)).isSome else(dR vvs (.inr z)).isSome)) H1
section
variable{x:Str}{ax:Addr}{vvs:List (Key×V)}{ty:TE}
def zqs(hm:X.mg x=some (.ref ax))(hk:∀h:Heap,X.K.In h->(ax==sysModules)=false/\∃vs,KV vvs vs/\h.DictOf (lX X.prog X.w) ax vs)(hg:Gl X x)(hdb:(x==("__debug__":Str))=false)(hi:PE X a ty):PC X .NotIn a (.Name x p) (tInG vvs true ty):=by
 intro aa s U H Q I h;refine bK (hi aa s U H _ I h) λiv s1 ⟨y,H1,I1,ry,z,ey,q⟩=>vZ I1 hg hm ?_ hdb;subst ey;obtain⟨hd,vs,rel,dd⟩:=hk s1.heap I1.kIn;refine wpAny_notIn_of (xn (k:=.inr z) ry) hd dd.mapOf ?_;rw[<-(rel.val (.inr z)).isSome_eq];exact⟨.bl _,H1,I1.tok _,rfl,q⟩
def tIxG(vvs:List (Key×V))(ty:TE):TE:=λU H Q=>ty U H λy H1=>∃z v,y=.str z/\dR vvs (.inr z)=some v/\Q v H1
def zxi(hm:X.mg x=some (.ref ax))(hk:∀h:Heap,X.K.In h->(ax==sysModules)=false/\∃vs,KV vvs vs/\h.DictOf (lX X.prog X.w) ax vs)(hg:Gl X x)(hdb:(x==("__debug__":Str))=false)(hi:PE X b ty)(hs:sV b):PE X (.Subscript (.Name x p) b pos) (tIxG vvs ty):=by
 intro aa s U H Q I h;refine zro PySem.F.slot_dict_getitem.lookup hs (vZ I hg hm (bK (hi aa s U H _ I h) λiv s2 ⟨y,H2,I2,ry,z,v,ey,l,q2⟩=>?_) hdb);subst ey;obtain⟨hd,vs,rel,dd⟩:=hk s2.heap I2.kIn;obtain⟨w',hw,rw'⟩:=gH.some_of (by rw[<-l];exact rel.val _);exact⟨dd.typeIs,wpAny_getItem_of (xn (k:=.inr z) ry) dd.mapOf hw ⟨v,H2,I2.tok _,rw',q2⟩⟩
end
def zrQ(g:gM X.prog X.w X.K X.mg x kvs)(hA:DE X c a A)(hg:Gl X x:=by rfl)(hdb:ZD x:=by decide)(hb:behindInMarks .NotIn (.Name x p)=false:=by rfl):DT X c (.Compare a [.NotIn] [.Name x p] pos) (b8 (xX true kvs A))where
 mono:=zmI λZ Q Q' k q=>hA.mono Z _ _ (λd z=>zlh (λo y=>k _ y) z) q
 pt:=by
  obtain⟨ax,vvs,hm,hk,hv⟩:=g.ex;exact zE (znT (zqs hm hk hg hdb hA.pe) hb) λU H Q ⟨Z,G,r,q⟩=>⟨Z,G,r,hA.mono Z _ _ (λd z v H' G' t e=>by
   cases d with
   |str zz=>
    cases e;refine⟨zz,rfl,_,rfl,?_⟩;rcases hv zz with⟨e1,e2⟩|⟨v,d,e1,e2,_⟩
    .have z:=DQ z e2;rw[e1];exact z H' G' t
    .have z:=DQ z e2;rw[e1];exact z H' G' t
   |_=>exact z.elim) q⟩
def zsR(g:gM X.prog X.w X.K X.mg x kvs)(hB:DE X c b B)(hK:c.K=X.K:=by rfl)(hg:Gl X x:=by rfl)(hdb:ZD x:=by decide)(hs:sV b:=by intro _ _;rfl):DE X c (.Subscript (.Name x p) b pos) (nP kvs B)where
 mono:=λZ Q Q' k q=>hB.mono Z _ _ (λd z=>zlh (λo y=>zr2 k y) z) q
 pe:=by
  obtain⟨ax,vvs,hm,hk,hv⟩:=g.ex;exact dw (zxi hm hk hg hdb hB.pe hs) λU H Q ⟨Z,G,r,q⟩=>⟨Z,G,r,hB.mono Z _ _ (λd z v H' G' t e=>by
   cases d with
   |str zz=>
    cases e;rcases hv zz with⟨e1,e2⟩|⟨v,d,e1,e2,e3⟩
    .have z:=DQ z e2;exact z.elim
    .have z:=DQ z e2;exact⟨zz,v,rfl,e1,z v H' G' t (e3 c G' hK)⟩
   |_=>exact z.elim) q⟩
end
noncomputable def cR:List (Str×D):=[("mark",.tup [.str "name"]),("hand",.tup [.str "name"]),("run",.tup [.str "name",.str "name",.str "rise",.str "name"]),("strike",.tup [.str "number"]),("mend",.tup [.str "number",.str "rise"]),("settle",.tup [.str "name"]),("aside",.tup [.str "name"]),("heed",.tup [.str "name"]),("allow",.tup [.str "number"])]
def Dw:Fn:=gC 3 ((aU (rB (zoc Ji Ji (kW (.int 1)) (cbW mj (aA (vW 0) aq)) (vW 2)) (cbW nR (aA (bO (jD [none,some 1] (iM (vW 0)) (.nm 0) jF (ak (d7 false) (vW 0) (vW 1)))) aq)))))
def vm:Fn:=gC 1 ((aU (dZ 3 Dw (aA (vW 0) (aA (kW (.str "abcdefghijklmnopqrstuvwxyz")) (aA (kW (.int 8)) aq))))))
def Ai:Fn:=gC 1 ((aU (rB (dZ 3 Dw (aA (vW 0) (aA (kW (.str "0123456789")) (aA (kW (.int 10)) aq)))) (orW (ak gV (vW 0) (kW (.str "0"))) (Gz (uI IW (vW 0) (kW (.str "0"))))))))
def Ke:Fn:=gC 1 ((aM (iI (gU (uI IW (vW 0) (kW (.str "-")))) (aU (rB (ak nu (vW 0) (kW (.str "-0"))) (dZ 1 Ai (aA (nU (vW 0) (yH (kW (.int 1))) yL) aq)))) cX)
  (aU (dZ 1 Ai (aA (vW 0) aq)))))
def HR:Fn:=gC 2 ((aM (iI (b8 (ak gV (vW 0) (kW (.str "name")))) (aU (dZ 1 vm (aA (vW 1) aq))) cX)
  (aM (iI (b8 (ak gV (vW 0) (kW (.str "number")))) (aU (dZ 1 Ai (aA (vW 1) aq))) cX)
  (aU (dZ 1 Ke (aA (vW 1) aq))))))
def rE:Nat->Fn
 |0=>λ_ _=>False
 |n+1=>gC 2 ((aM (iI (um (gU (jX "list" (vW 1))) (gU (jX "tuple" (vW 1)))) (aM (iI (um (b8 (ak nu (jX "list" (vW 0)) (jX "list" (vW 1)))) (b8 (ak nu (jX "tuple" (vW 0)) (jX "tuple" (vW 1))))) (aU (kW (.bl false))) cX)
  (aU (rB (ak gV (cbW mj (aA (vW 0) aq)) (cbW mj (aA (vW 1) aq))) (cbW nR (aA (bO (jD [none,none] (zrO (vW 0) (vW 1)) (.tp 2 (.cons (.nm 0) (.cons (.nm 1) .nil))) jF (dZ 2 (rE n) (aA (vW 0) (aA (vW 1) aq))))) aq))))) cX)
  (aM (iI (um (b8 (qw (vW 0))) (b8 (qw (vW 1)))) (aU (rB (qw (vW 0)) (qw (vW 1)))) cX)
  (aM (iI (um (b8 (ak nu (jX "bool" (vW 0)) (jX "bool" (vW 1)))) (b8 (ak nu (jX "int" (vW 0)) (jX "int" (vW 1))))) (aU (kW (.bl false))) cX)
  (aU (rB (ak gV (jX "str" (vW 0)) (jX "str" (vW 1))) (ak gV (vW 0) (vW 1))))))))
def dEn(P:Params)(p:Str×Tok×Value):DictEntry:=⟨PyData.keyHash P p.1,.str p.1 p.2.1,p.2.2⟩
theorem zn3 :∀ps:List (Str×Tok×Value),Pairs (lX P w) (ps.map (dEn w.params)) (ps.map λp=>((Sum.inr p.1:Key),p.2.2))
 |[]=>.nil
 |p::ps=>.cons (ziD p.1 p.2.1) rfl (zn3 ps)
def zvq{P:Program}{w:PySem.World}{K:qd}{a:Addr}{n:Nat}{ps:List (Str×Tok×Value)}(hl:K.lookup a=some ⟨.type "dict",none,.dict (ps.map (dEn w.params)).toArray n,#[]⟩)(hn:(ps.map λp=>(Sum.inr p.1:Key)).Nodup)(h:Heap)(hk:K.In h) :
  h.DictOf (lX P w) a (ps.map λp=>((Sum.inr p.1:Key),p.2.2)):=by
 refine⟨_,_,_,hk a _ hl,⟨rfl,rfl,rfl⟩,rfl,λe he=>?_,by simpa using zn3 ps,by rw[YAL];exact hn⟩;have he:e∈ps.map (dEn w.params):=by simpa using he
 obtain⟨p,hp,rfl⟩:=rD.mp he;exact⟨.inr p.1,ziD p.1 p.2.1,rfl⟩
structure vK(K:qd)(p:Str×Tok×Value)(q:Str×D):Prop where
 key:p.1=q.1
 val:∃v:V,RelV v p.2.2/\∀(c:Bk)(G:Hp),c.K=K->Rep c G q.2 v
def zqh{K:qd}{x:Str}{t:Tok}{a:Addr}{n:Nat}{its:List (Str×Tok)}{sl:Array (Option Value)}(hl:K.lookup a=some ⟨.type "tuple",none,.seq (its.map λp=>Value.str p.1 p.2).toArray n,sl⟩)(hz:its.length<=1000:=by simp):vK K (x,t,.ref a) (x,.tup ((its.map (·.1)).map D.str)):=
 ⟨rfl,.ref a,rfl,λc G hK=>⟨a,(its.map (·.1)).map V.str,rfl,.inr ⟨_,_,n,⟨hK▸hl,rfl⟩,rfl,rfl,by simp;rw[YAS];omega,by simpa[strValues]using ziu its⟩,eF.mpr rfl⟩⟩
inductive je(K:qd):List (Str×Tok×Value)->List (Str×D)->Prop
 |nil:je K [] []
 |cons {p:Str×Tok×Value} {q:Str×D} {ps:List (Str×Tok×Value)} {qs:List (Str×D)} (h:vK K p q) (r:je K ps qs):je K (p::ps) (q::qs)
theorem zov:∀{ps:List (Str×Tok×Value)}{kvs:List (Str×D)},je K ps kvs->∃vvs:List (Key×V),KV vvs (ps.map λp=>((Sum.inr p.1:Key),p.2.2)) /\
  ∀z:Str,(dR vvs (.inr z)=none/\kvs.lookup z=none)\/∃v d,dR vvs (.inr z)=some v/\kvs.lookup z=some d/\∀(c:Bk)(G:Hp),c.K=K->Rep c G d v
 |_,_,.nil=>⟨[],.nil,λz=>.inl ⟨rfl,rfl⟩⟩
 |_,_,@je.cons _ p q ps kvs h r=>by
  obtain⟨vvs,h1,h2⟩:=zov r;obtain⟨v,rv,hv⟩:=h.val;refine⟨(Sum.inr p.1,v)::vvs,.cons ⟨rfl,rv⟩ h1,λz=>?_⟩;by_cases e:z=p.1
  .subst e;refine .inr ⟨v,q.2,Kd rfl,?_,hv⟩;rw[show q=(q.1,q.2)from rfl,<-h.key,List.lookup_cons_self]
  .have n1:¬ (Sum.inr p.1:Key)=Sum.inr z:=λk=>e (Sum.inr.inj k).symm;have n2:kvs.lookup z=(q::kvs).lookup z:=by
    rw[show q=(q.1,q.2)from rfl,<-h.key,pM,show(z==p.1)=false from by simp[e]]
   rw[Jw n1,<-n2];exact h2 z
def zrM{P:Program}{w:PySem.World}{K:qd}{mg:Str->Option Value}{h:Heap}(X:K.In h)(G:h.Ns mainGlobals mg){x:Str}{a:Addr}{n:Nat}{ps:List (Str×Tok×Value)}{kvs:List (Str×D)}(hn:PySem.W.nsIn K mainGlobals x=some (some (.ref a)))
  (hl:K.lookup a=some ⟨.type "dict",none,.dict (ps.map (dEn w.params)).toArray n,#[]⟩) (hr:je K ps kvs) (ha:(a==sysModules)=false) (hd:(ps.map λp=>(Sum.inr p.1:Key)).Nodup):gM P w K mg x kvs:=by
 obtain⟨vvs,h1,h2⟩:=zov hr;exact⟨a,vvs,YAM X G hn,λh hk=>⟨ha,_,h1,zvq hl hd h hk⟩,h2⟩
end Fd
namespace L2
open PySem PySem.Spec PyProof.Rows PySem.W
def TrC(h base:Heap)(e:Addr)(cls fl:Value):Prop:=∃oe vs T oT ts,h.get? e=some oe/\oe.cls=cls/\oe.data=.fields vs/\vs[1]?=some (.ref T)/\vs[2]?=some .none/\base.get? T=none/\T≠e/\h.get? T=some oT/\oT.data=.fields ts/\ts[3]?=some fl
def jm(base:Heap)(l:List Env)(e:Addr)(cls fl:Value)(h:Heap):Prop:=base.StaysIn h/\base.get? e=none/\h.FunFrames base l/\TrC h base e cls fl
abbrev pO(base:Heap)(l:List Env)(e:Addr)(cls:Value)(h:Heap):Prop:=jm base l e cls .none h
def jm.first(x:jm base l e cls fl h):∃oe vs,h.get? e=some oe/\oe.cls=cls/\oe.data=.fields vs/\vs[2]?=some .none:=
 let⟨_,_,_,oe,vs,_,_,_,he,hc,hd,_,h2,_⟩:=x;⟨oe,vs,he,hc,hd,h2⟩
section
variable{M:Model}{A:Around}{E:Value->Shared->Prop}{s:Shared}{base:Heap}{env:Env}{l outer:List Env}{e L:Addr}{cls fl:Value}{Q:Unit->Shared->Prop}
def zs9(hfr:A.frames=some (env::outer))(hl:s.heap.FunFrames base (env::outer))(hf:env.frame=some L)(he:s.heap.get? e=some oe)(hkb:base.StaysIn s.heap)(hen:base.get? e=none)(hd:oe.data=.fields vs)(hsz:1<vs.size)(h2:vs[2]?=some .none)
  (h:∀h',jm base (env::outer) e oe.cls (rawInt L) h'->s.heap.UpToSlots h'->Q () {s with heap:=h'}):wpAny M A (do let a <-frameOf env;let pl <-entryPlaceOf L had;let b <-EntryCells.newEntry head a .none (rawInt L) .none pl;setField (.ref e) 1 b) Q E s:=by
 have nfr:e∉(env::outer).filterMap _:=λhm=>by
  obtain⟨_,o,ho,hnf⟩:=hl.mem hm;rw[he]at ho;cases ho;exact hnf vs hd
 refine aP (wpAny_frameOf_fun hfr hl hf λh1 s1=>aP (wpAny_entryPlaceOf λpl hpl=>?_));refine aP (Cw ?_ (hpl.sizeOk5 _ _ _ _ _));have e1:=(s1.2.1 e nfr).trans he;have b1:base.StaysIn h1:=λb o q=>(s1.2.1 b λhm=>by rw[(hl.mem hm).1]at q;cases q).trans (hkb b o q);have hT:=Dk (dG e1);generalize hob:({cls:=.type "traceback",dict:=none,data:=.fields ([head,.ref L,.none,rawInt L,.none]++_).toArray}:Obj)=ob;have e2:=fG ob e1;refine Ly e2 hd hsz ?_;have d3:=YBV hd (·.setIfInBounds 1 (Value.ref h1.objs.size));have keep:∀b o,b≠e->h1.get? b=some o->((h1.push ob).update e (Obj.mapFields (·.setIfInBounds 1 (Value.ref h1.objs.size)))).get? b=some o:=λb o n q=>by
  rw[CN _ _ (YAD n)];exact fG _ q
 have rec':∀b o,s.heap.get? b=some o->(∀vs,o.data≠.fields vs)->b≠e:=λb o q n z=>by
  rw[z,he]at q;cases q;exact n vs hd
 have slots:s.heap.UpToSlots _:=λb o q n=>by
  obtain⟨sl,z⟩:=s1.2.2 b o q;exact⟨sl,keep b _ (rec' b o q n) z⟩
 refine h _ ⟨λb o q=>keep b o (λz=>by rw[z,hen]at q;cases q) (b1 b o q),hen,hl.of_keeps λb o q n=>?_,?_⟩ slots
 .obtain⟨sl,z⟩:=slots b o q n;exact⟨_,z,rfl⟩
 .refine⟨_,_,h1.objs.size,ob,_,YBA _ e2 (YB2 d3),Obj.cls_mapFields _ _,d3,by simp[hsz],by rw[Array.getElem?_setIfInBounds_ne (by decide)];exact h2,b1.fresh,hT,?_,by rw[<-hob],?_⟩
  .rw[CN _ _ (YAD hT)];exact lV h1 (by rw[<-hob];rfl)
  .rcases hpl with rfl|⟨_,_,_,_,_,_,_,rfl⟩<;>simp
def zsr(hfr:A.frames=some (env::outer))(hl:s.heap.FunFrames base (env::outer))(hf:env.frame=some L)(he:s.heap.get? e=some oe)(hkb:base.StaysIn s.heap)(hen:base.get? e=none)(hd:oe.data=.fields vs)(h1:vs[1]?=some .none)(h2:vs[2]?=some .none)
  (h:∀h',jm base (env::outer) e oe.cls (rawInt L) h'->s.heap.UpToSlots h'->Q () {s with heap:=h'}):wpAny M A (noteFrame (.ref e) env) Q E s:=by
 unfold noteFrame;simp only[hf];refine aP (YAI he hd h1 ?_);rw[if_neg (by decide)];exact zs9 hfr hl hf he hkb hen hd (YBl.mp h1).1 h2 h
def znn(hfr:A.frames=some (env::outer))(hf:env.frame=some L)(x:pO base (env::outer) e cls s.heap)(h:∀h',jm base (env::outer) e cls (rawInt L) h'->s.heap.UpToSlots h'->Q () {s with heap:=h'}):wpAny M A (noteFrame (.ref e) env) Q E s:=by
 obtain⟨kb,en,fl,oe,vs,T,oT,ts,he,hc,hd,v1,v2,nT,Te,hT,dT,t3⟩:=x;subst hc;unfold noteFrame;simp only[hf];refine aP (YAI he hd v1 ?_);rw[if_pos (show(Value.ref T != Value.none)=true from by simp)];refine aP (YAI hT dT t3 ?_);rw[if_neg (show ¬ ((Value.none==rawInt L)=true)from by simp[rawInt])];refine aP (Ly hT dT (YBl.mp t3).1 ?_);have oth:∀b,b≠T->(s.heap.update T (Obj.mapFields (·.setIfInBounds 3 Value.none))).get? b=s.heap.get? b:=λb n=>CN _ _ (YAD n);have rec':∀b o,s.heap.get? b=some o->(∀vs,o.data≠.fields vs)->b≠T:=λb o q n z=>by
  rw[z,hT]at q;cases q;exact n ts dT
 refine zs9 hfr (fl.of_keeps λb o q n=>⟨o,(oth b (rec' b o q n)).trans q,rfl⟩) hf ((oth e (YAD Te)).trans he) (λb o q=>(oth b λz=>by rw[z,nT]at q;cases q).trans (kb b o q)) en hd (YBl.mp v1).1 v2 λh' z u=>h h' z λb o q n=>u b o ((oth b (rec' b o q n)).trans q) n
def Dl(x:jm base l e cls fl s.heap)(h:∀h',pO base l e cls h'->s.heap.UpToSlots h'->Q () {s with heap:=h'}):wpAny M A (setFlight (.ref e) none) Q E s:=by
 obtain⟨kb,en,ff,oe,vs,T,oT,ts,he,hc,hd,v1,v2,nT,Te,hT,dT,t3⟩:=x;have oth:∀b,b≠T->(s.heap.update T (Obj.mapFields (·.setIfInBounds 3 ((none:Option Addr).elim Value.none λf=>rawInt f)))).get? b=s.heap.get? b:=λb n=>CN _ _ (YAD n);have rec':∀b o,s.heap.get? b=some o->(∀vs,o.data≠.fields vs)->b≠T:=λb o q n z=>by
  rw[z,hT]at q;cases q;exact n ts dT
 have z3:=(YBl.mp t3).1;unfold setFlight;refine aP (YAI he hd v1 ?_);rw[if_pos (show(Value.ref T != Value.none)=true from by simp)];have dT':=YBV dT (·.setIfInBounds 3 ((none:Option Addr).elim Value.none λf=>rawInt f));refine Ly hT dT z3 (h _ ⟨λb o q=>(oth b λz=>by rw[z,nT]at q;cases q).trans (kb b o q),en,ff.of_keeps λb o q n=>⟨o,(oth b (rec' b o q n)).trans q,rfl⟩,oe,vs,T,_,_,(oth e (YAD Te)).trans he,hc,hd,v1,v2,nT,Te,YBA _ hT (YB2 dT'),dT',by simp[z3]⟩ λb o q n=>⟨o.slots,(oth b (rec' b o q n)).trans q⟩)
def jm.out(x:jm base (env::outer) e cls fl h):jm base outer e cls fl h:=⟨x.1,x.2.1,x.2.2.1.2.2,x.2.2.2⟩
def zsn(hfr:A.frames=some (env::outer))(hf:env.frame=some L)(x:pO base (env::outer) e cls s.heap)(h:∀h',pO base outer e cls h'->s.heap.UpToSlots h'->Q () {s with heap:=h'}):wpAny M A (leaving env (.ref e)) Q E s:=by
 exact aP (znn hfr hf x λh1 y u=>Dl y λh2 z v=>h h2 z.out (u.trans v))
def zpM(hfr:A.frames=some (env::outer))(hf:env.frame=some L)(hkb:base.StaysIn h0)(hl:h0.FunFrames base (env::outer))(hx:Heap.MadeExcOf h0 s.heap e cls args)(h:∀h',pO base outer e cls h'->s.heap.UpToSlots h'->Q () {s with heap:=h'}):wpAny M A (leaving env (.ref e)) Q E s:=by
 obtain⟨t,he,_,_⟩:=hx.there;have en:base.get? e=none:=by
  cases q:base.get? e with
  |none=>rfl
  |some o=>have:=hkb e o q;rw[hx.new]at this;cases this
 exact aP (zsr hfr (hl.of_keeps λb o q _=>⟨o,hx.keeps b o q,rfl⟩) hf he (λb o q=>hx.keeps b o (hkb b o q)) en rfl rfl rfl λh1 y u=>Dl y λh2 z v=>h h2 z.out (u.trans v))
end
def cJ.ex(x:cJ P w H h a o):∃u,h.get? a=some u:=by
 cases o with
 |lst xs=>obtain⟨_,_,_,_,e⟩:=x;exact⟨_,e⟩
 |tup xs=>obtain⟨_,_,_,_,e,_⟩:=x;exact⟨_,e⟩
 |dK kvs=>obtain⟨_,_,_,_,o,_,_,e,_⟩:=x;exact⟨_,e⟩
 |dT kvs=>obtain⟨_,_,_,_,o,_,_,e,_⟩:=x;exact⟨_,e⟩
 |set S n=>obtain⟨o,_,_,_,e,_⟩:=x;exact⟨_,e⟩
 |ins C dx fs=>obtain⟨_,_,_,e,_⟩:=x;exact⟨_,e⟩
 |own y=>obtain⟨_,e⟩:=x;exact⟨_,e⟩
 |xd fs=>obtain⟨_,⟨_,_,_,e,_⟩,_⟩:=x;exact⟨_,e⟩
 |rng lo hi=>obtain⟨_,_,_,e⟩:=x;exact⟨_,e⟩
 |pG ob u=>obtain⟨e,_⟩:=x;exact⟨_,e⟩
 |tbl ps=>exact⟨_,show h.get? a=some _ from x⟩
 |met f y=>exact⟨_,show h.get? a=some _ from x⟩
 |ext φ=>obtain⟨_,⟨_,e⟩,_⟩:=x;exact⟨_,e⟩
structure Gk(P:Program)(w:World)(outer:List Env)(H:Hp)(s:Shared)(ea C:Addr)(H':Hp)(s':Shared):Prop where
 os:s'.os=s.os
 bare:AllBare s'.gens
 un:Un (frs outer) [] H H' s.heap s'.heap
 hok:jj P w H' s'.heap
 fly:∃B,pO B outer ea (.ref C) s'.heap/\∀b o,s'.heap.get? b=some o->((∃u,H' b=some u)\/∃u,s.heap.get? b=some u)->b∉frs outer->B.get? b=some o
def aZ(P:Program)(w:World):qC:=λouter H s E e s'=>∃ea C H',e=.ref ea/\Gk P w outer H s ea C H' s'/\E (.ref C) none H'
section
variable{P:Program}{w:World}{K:qd}{mg:Str->Option Value}{base:Heap}{N:List Str}{qual:Str}{scope:Scope}{f:Addr}{cd:Value}{A:Around}{outer:List Env}{s0 s:Shared}{H0 H:Hp}{E:XK}{aa:List (Addr×Obj)}{U:St}{e C:Addr}{args:List Value}{h':Heap}
def lq(I:Inv (dI (aZ P w) P w K mg base N qual scope f cd A outer s0 H0 E) aa U H s)(hx:Heap.MadeExcOf s.heap h' e (.ref C) args)(hE:E (.ref C) none H):(dI (aZ P w) P w K mg base N qual scope f cd A outer s0 H0 E).xe (.ref e) {s with heap:=h'}:=by
 have fr:=I.stack;have nex:∀{b:Addr},b∉([]:List Addr):=λz=>nomatch z;have neL:∀{b o},s0.heap.get? b=some o->b≠s0.heap.objs.size:=λe=>iU (dG e);have hin:∀env∈(dI (aZ P w) P w K mg base N qual scope f cd A outer s0 H0 E).stack,∀b,env.frame=some b->b∈frs (dI (aZ P w) P w K mg base N qual scope f cd A outer s0 H0 E).stack:=λenv he b hb=>Hw.mpr ⟨env,he,hb⟩;refine zpM I.ok.frames rfl (λb o q=>of_hideAll _ q) (funFrames_hide fr hin) hx λh2 x1 x4=>?_;have sub:∀{b},b∉frs outer->b≠s0.heap.objs.size->b∉frs (dI (aZ P w) P w K mg base N qual scope f cd A outer s0 H0 E).stack:=λh1 h2 h3=>(eX.mp (I.stkSub _ h3)).elim h2 h1;have keepB:∀{b o},s.heap.get? b=some o->b∉frs (dI (aZ P w) P w K mg base N qual scope f cd A outer s0 H0 E).stack->h2.get? b=some o:=λq n=>x1.1 _ _ (hideAll_get _ q n);have xq:∀{b u},H b=some u->b∉frs (dI (aZ P w) P w K mg base N qual scope f cd A outer s0 H0 E).stack:=λq z=>by rw[I.stkFree _ z]at q;cases q
 have slt:∀{b o},s.heap.get? b=some o->b∈frs outer->∃sl,h2.get? b=some {o with slots:=sl}:=λ{b o} q z=>by
  obtain⟨_,o',ho,hd⟩:=I.funs.mem z;rw[q]at ho;cases ho;exact x4 b o (hx.keeps b o q) hd
 refine⟨e,C,H,rfl,⟨I.os,I.bare,⟨λb o q n nf _=>keepB (I.base.keep b o q n nf nex) (sub nf (neL q)),λb o q n nf _=>?_,λb o q n _=>I.base.free b o q n nex,λb o q _=>?_,I.base.tups,I.base.frzs,I.base.tbls⟩,λa o q=>(I.hok a o q).stay (λb u hb q2=>keepB q2 ?_) (λ_ z=>z) λ_ _ z=>z,_,x1,λb o q hb nf=>?_⟩,hE⟩
 .obtain⟨sl,e1⟩:=I.base.slot b o q n nf nex;obtain⟨sl',e2⟩:=slt e1 nf;exact⟨sl',e2⟩
 .obtain⟨o',e1⟩:=I.base.there b o q nex;by_cases z:b∈frs outer
  .obtain⟨sl',e2⟩:=slt e1 z;exact⟨_,e2⟩
  .exact⟨_,keepB e1 (sub z (neL q))⟩
 .rcases hb with rfl|hb
  .exact xq q
  .exact xq hb
 .rcases hb with⟨u,hu⟩|⟨u,hu⟩
  .obtain⟨v,hv⟩:=(I.hok b u hu).ex
   have:=keepB hv (xq hu)
   rw[this]at q;cases q;exact hideAll_get _ hv (xq hu)
  .obtain⟨o',e1⟩:=I.base.there b u hu nex
   have:=keepB e1 (sub nf (neL hu))
   rw[this]at q;cases q;exact hideAll_get _ e1 (sub nf (neL hu))
end
abbrev Cx.sup(X:Cx)(ea:Addr)(oe:Obj)(E:Value->Shared->Prop):Cx:={X with A:=X.A.mark (some (.ref ea)),calm:=false,xe:=E,pn:=(ea,oe)::X.pn}
section
variable{X:Cx}{aa:List (Addr×Obj)}{U:St}{H H':Hp}{s s':Shared}{ea C:Addr}{oe:Obj}{E:Value->Shared->Prop}
theorem Cx.Ok.sup(ok:X.Ok):(X.sup ea oe E).Ok:=
 ⟨ok.mod,ok.kind,ok.glob,ok.blt,ok.above,ok.inj,ok.has,ok.cab,(λz=>by cases z),ok.frames,ok.stk,ok.exf,ok.bs,ok.bsz,ok.noex,ok.exfs,ok.funs,ok.frf⟩
theorem Inv.sup(I:Inv X aa U H s)(h1:s.heap.get? ea=some oe)(h2:H ea=none)(h3:ea≠X.env.locals)(h4:ea∉X.fs)(h5:∀v,oe.data≠.cell v):Inv (X.sup ea oe E) aa U H s:=
 ⟨I.ok.sup,I.os,I.bare,I.base,I.loc,I.cell,I.free,I.freeC,λp hp=>by
  rcases eX.mp hp with rfl|hp
  .exact⟨h1,h2,h3,h4,h5⟩
  .exact I.pin p hp,I.hok,I.len⟩
def Inv.unsup(I:Inv (X.sup ea oe E) aa U H s)(ok:X.Ok):Inv X aa U H s:=⟨ok,I.os,I.bare,I.base,I.loc,I.cell,I.free,I.freeC,λp hp=>I.pin p (fL _ hp),I.hok,I.len⟩
def Gk.on(N:Gk P w outer H s ea C H' s')(hB:∀b o,s'.heap.get? b=some o->((∃u,H' b=some u)\/∃u,s.heap.get? b=some u)->b∉frs outer->B.get? b=some o)(ff:s'.heap.FunFrames B outer)(hf:∀b∈frs outer,H b=none)(st:B.StaysIn h')(sm:s'.heap.UpToSlots h')(fr:∀b∈frs outer,∃o,s.heap.get? b=some o) :
  Un (frs outer) [] H H' s.heap h'/\jj P w H' h':=by
 have nex:∀{b:Addr},b∉([]:List Addr):=λz=>nomatch z;have slt:∀{b o},s'.heap.get? b=some o->b∈frs outer->∃sl,h'.get? b=some {o with slots:=sl}:=λ{b o} q z=>by
  obtain⟨_,o',ho,hd⟩:=ff.mem z;rw[q]at ho;cases ho;exact sm b o q hd
 have xq:∀{b u},H' b=some u->b∉frs outer:=λ{b u} q z=>by
  obtain⟨o,ho⟩:=fr b z;rw[N.un.free b o ho (hf b z) nex]at q;cases q
 refine⟨⟨λb o q n nf _=>st _ _ (hB b o (N.un.keep b o q n nf nex) (.inr ⟨_,q⟩) nf),λb o q n nf _=>?_,λb o q n _=>N.un.free b o q n nex,λb o q _=>?_,N.un.tups,N.un.frzs,N.un.tbls⟩,λa o q=>(N.hok a o q).stay (λb u hb q2=>?_) (λ_ z=>z) λ_ _ z=>z⟩
 .obtain⟨sl,e1⟩:=N.un.slot b o q n nf nex;obtain⟨sl',e2⟩:=slt e1 nf;exact⟨sl',e2⟩
 .obtain⟨o',e1⟩:=N.un.there b o q nex;by_cases z:b∈frs outer
  .obtain⟨sl',e2⟩:=slt e1 z;exact⟨_,e2⟩
  .exact⟨_,st _ _ (hB b o' e1 (.inr ⟨_,q⟩) z)⟩
 .have hu:∃v,H' b=some v:=by
   rcases hb with rfl|hb
   .exact⟨_,q⟩
   .exact⟨_,hb⟩
  obtain⟨v,hv⟩:=hu;exact st _ _ (hB b u q2 (.inl ⟨v,hv⟩) (xq hv))
end
abbrev nC:List Value:=[.type "ValueError",.type "Exception",.type "BaseException",.type "object"]
def zxb{K:qd}{h:Heap}{C:Addr}{bmB:List Value}{newId:String}(X:K.In h)(q:excIn K C bmB newId=true):∃bm N nm q bs hdct sn sub ab col dd k0 k1 k2 k3 k5 mN,h.get? C=some (excClassObj nm q C N bs bm hdct sn sub ab col dd k0 k1 k2 k3 k5 newId)/\h.Ns N mN/\mN "__init__"=none/\OwnTail h bmB bm:=by
 unfold excIn at q;split at q
 .rename_i dd cd sl ho
  split at q
  .rename_i C' bm k0 k1 k2 k3 n k5 hm hs
   simp only[jT,Ad,YCr]at q;obtain⟨⟨⟨⟨⟨rfl,rfl⟩,hdel⟩,ht⟩,hok⟩,hni⟩:=q;obtain⟨nm,bs,mro,ns,qn,hd,sn,sub,ab,col,del⟩:=cd;subst hm hdel;have hsl:sl=#[k0,k1,k2,k3,some (.builtin n),k5]:=by
    obtain⟨l⟩:=sl;simp only at hs;rw[hs]
   subst hsl;exact⟨bm,ns,nm,qn,bs,hd,sn,sub,ab,col,dd,k0,k1,k2,k3,k5,_,X _ _ ho,.of_isNs (isNs_of_in X hok),nsMap_none_of_in X hok hni,tail_of_in X ht⟩
  .cases q
 .cases q
section
variable{X:Cx}{aa:List (Addr×Obj)}{U:St}{H:Hp}{s:Shared}
def znO{x:Str}{C:Addr}{e:Expr}{es:List Expr}{t:TA}{np cpos pos:Pos}{Y:Ends->St->Hp->Prop}(hc:X.calm=true)(ho:excIn X.K C nC "ValueError.__new__"=true)(hg:Gl X x)(hm:X.mg x=some (.ref C))(ha:PA X (e::es) t)
  (hx:∀aa s U H h' ea us,Inv X aa U H s->Heap.MadeExcOf s.heap h' ea (.ref C) us->∀D,Y D U H->X.xe (.ref ea) {s with heap:=h'})
  (hd:ZD x:=by decide) (he:starEach (e::es) X.env=(false,eval e X.env)::starEach es X.env:=by rfl) (hpl:(backTo cpos (starEach es X.env)).any (·.1)=false:=by rfl) :
  PS X (.Raise (some (.Call (.Name x np) (e::es) [] cpos)) none pos) (λD U H=>t U H λvs H'=>vs.length<=sizeLine/\Y D U H'):=by
 intro aa s U H D I h;have hh:=I.ok.hd hc;obtain⟨bm,N,nm,q,bs,hdct,sn,sub,ab,col,dd,k0,k1,k2,k3,k5,mN,hC,hN,hni,T⟩:=zxb I.ok.mod.kin ho;refine wpAny_Raise_call_subT (nm:=nm) (q:=q) (N:=N) (bs:=bs) (hdct:=hdct) (sn:=sn) (sub:=sub) (ab:=ab) (col:=col) (dd:=dd) (k0:=k0) (k1:=k1) (k2:=k2) (k3:=k3) (k5:=k5) F.excBase_ValueError (T.hasType F.excBase_ValueError.hasBase) hh (by rw[he];show(false || (backTo cpos _).any (·.1))=false;rw[hpl];rfl) hni (vZ I hg hm ⟨rfl,?_⟩ hd);have ha':=ha cpos aa s U H _ I h;rw[he]at ha' ⊢;refine YBI (YAQ ha' (λus s2 ⟨vs,H2,I2,r2,z,q2⟩=>?_) λ_ _ y=>y);exact⟨rfl,by rw[<-r2.length];exact z,I2.bk _ _ hC,hN.keeps I2.bk,T.keeps I2.bk,λh' e hm'=>hx aa s2 U H2 h' e us I2 hm' D q2⟩
theorem PA.nox(h:PA X.nox es t):PA X es t:=λpos aa s U H Q I hw=>
 YAQ (h pos aa s U H Q (I.wish _) hw) (λ_ _ ⟨v,H',I',r,q⟩=>⟨v,H',I'.unwish,r,q⟩) λ_ _ z=>False.elim z
theorem PS.nox{st:Stmt}{t:TS}(h:PS X.nox st t):PS X st t:=λaa s U H D I hw=>
 YAQ (h aa s U H D (I.wish _) hw) (λ_ _ q=>q.unwish) λ_ _ z=>False.elim z
end
end L2
namespace Fd
open PySem L2
abbrev ik:=List D->(D->Prop)->(Str->Prop)->Prop
def zL(F:ik):ik:=λds Q Y=>∃(P:D->Prop)(qc:Str->Prop),F ds P qc/\(∀d,P d->Q d)/\∀n,qc n->Y n
def DK(F:ik)(k:∀d,Q d->Q' d)(l:∀n,Y n->Y' n):zL F ds Q Y->zL F ds Q' Y':=λ⟨P,qc,h1,h2,h3⟩=>⟨P,qc,h1,λd z=>k d (h2 d z),λn z=>l n (h3 n z)⟩
noncomputable def cj(K:qd)(mg:Str->Option Value)(n:Nat)(F:ik):Sp:=λvs H Q E=>∃ β G ds,Same G H/\fU β H G/\aC ⟨K,β,λ_=>none,G,True⟩ G ds vs/\vs.length=n/\zL F ds (λd=>∀v H' G',aY β H G H' G'->Rep ⟨K,β,H,G,True⟩ G' d v->Q v H') λnm=>∀C H' G',mg nm=some (.ref C)->aY β H G H' G'->E (.ref C) none H'
def eZ(n:Nat)(B:(Str->Prop)->WS):ik:=λds Q Y=>B Y {nx:=λ_=>Q .non,rt:=Q,bk:=λ_=>False,ct:=λ_=>False} (eU n ds)
def pK(F:bD K x qual st f fd)
  (hB:∀{cdv:Value}{A:Around}{outer:List PySem.Env}{s:Shared}{H:Hp}{E:XK}{β:Addr}{G:Hp}(Y:Str->Prop),(∀nm C H' G',Y nm->mg nm=some (.ref C)->aY β H G H' G'->E (.ref C) none H')->N.Nodup->bA k (A.deeper (PyProof.Rows.envOfC qual (gB st) s.heap.objs.size f cdv)) ->
   vG (dI (aZ P w) P w K mg base N qual (gB st) f cdv A outer s H E) ⟨K,β,H,G,True⟩ (nD st) (B Y)) (S:dj N ps (gB st):=by exact⟨rfl,rfl,rfl,by decide,rfl,by decide,by decide⟩):aG P w K mg base (aZ P w) (k+1) f fd ps (cj K mg ps.length (eZ N.length B)):=by
 obtain⟨oc,od,kV,doc,pm,an,cdv,ct,osl,rfl,lk,hcd⟩:=F.ex;refine zrZ lk hcd S (λvs H Q E ⟨β,G,ds,_,_,_,h,_⟩=>h) λA outer s H vs Q E hr ⟨β,G,ds,gh,bx,hv,hl,P',qc,q,hP,hZ⟩=>?_;have h:=@hB cdv A outer s H E β G qc (λnm C H' G' z hm t=>hZ nm z C H' G' hm t) S.nd hr;refine⟨_,h.pss,eU N.length ds,G,JD gh bx hv,h.mono {nx:=λ_=>P' .non,rt:=P',bk:=λ_=>False,ct:=λ_=>False} _ _ ⟨λZ z U H' G' r s'=>hP _ z .non H' G' r.stp rfl,λd z v H' G' t e=>hP _ z v H' G' t e,λZ z=>z.elim,λZ z=>z.elim⟩ q⟩
structure eY(P:Program)(w:World)(K:qd)(mg:Str->Option Value)(base:Heap)(x:Str)(k:Nat)(ps:List Str)(sp:Sp):Prop where
 ex:∃f fd,aG P w K mg base (aZ P w) k f fd ps sp/\mg x=some (.ref f)/\PySem.W.keepIn K (.ref f)=true/\Binds K fd ps []
def eY.of(F:bD K x qual st f fd)(G:aG P w K mg base (aZ P w) k f fd ps sp)(hm:mg x=some (.ref f))(hb:Binds K fd ps []):eY P w K mg base x k ps sp:=
 ⟨f,fd,G,hm,F.kp,hb⟩
section
variable{X:Cx}{c:Bk}{st:Stmt}{e:Expr}{es:List Expr}{pos cpos p np:Pos}
theorem DS.nox(h:DS X.nox c st W):DS X c st W:=⟨h.mono,h.ps.nox⟩
theorem DE.nox(h:DE X.nox c e W):DE X c e W:=⟨h.mono,h.pe.nox⟩
theorem DT.nox(h:DT X.nox c e W):DT X c e W:=⟨h.mono,h.pt.nox⟩
abbrev pF(R:WL)(y:Prop):WS:=λ_ Z=>R Z λds=>ds.length<=1000/\y
def qe(hR:DA X.nox c (e::es) R)(hx:∀aa s U H G h' ea us,Inv X aa U H s->aY c.β c.H0 c.G0 H G->Heap.MadeExcOf s.heap h' ea (.ref C) us->y->X.xe (.ref ea) {s with heap:=h'})(ho:PySem.W.excIn X.K C nC "ValueError.__new__"=true)(hm:X.mg x=some (.ref C))(hc:X.calm=true:=by rfl)(hg:Gl X x:=by rfl)
  (hd:ZD x:=by decide) (sk:Sk X e es cpos:=by exact⟨rfl,rfl⟩):DS X c (.Raise (some (.Call (.Name x np) (e::es) [] cpos)) none pos) (pF R y)where
 mono:=λE E' Z l q=>q
 ps:=lZ (znO (Y:=λ_ U H=>y/\∃G,aY c.β c.H0 c.G0 H G) hc ho hg hm (PA.nox hR.pa) (λaa s U H h' ea us I m _ ⟨z,G,t⟩=>hx aa s U H G h' ea us I t m z) hd sk.1 sk.2) λD U H ⟨Z,G,r,q⟩=>⟨Z,G,r,hR.mono Z _ _ (λds z vs H' G' t v=>⟨by rw[<-v.length,YAS];omega,z.2,G',r.stp.trans t⟩) q⟩
end
def vp:ik:=eZ 5 (λY=>(aM (zwN 1 2 (uI FP (vW 0) (kW (.str " "))))
  (aM (iI (um (b8 (xX true cR (vW 1))) (b8 (ak nu (cbW mj (aA (nP cR (vW 1)) aq)) (cbW mj (aA (vW 2) aq))))) (pF (aA (kW (.str "no deed has this word and so many behind it")) aq) (Y "NoDeed")) cX)
  (aM (bh (.nm 3) (nP cR (vW 1)))
  (aM (iI (lr (gU (cbW nR (aA (bO (jD [none,none] (zrO (vW 3) (vW 2)) (.tp 2 (.cons (.nm 0) (.cons (.nm 1) .nil))) jF (dZ 2 HR (aA (vW 0) (aA (vW 1) aq))))) aq)))) (pF (aA (kW (.str "a name or a number isn't so written")) aq) (Y "NoDeed")) cX)
  (aM (bh (.nm 4) (bO (jD [none,none] (zrO (vW 3) (vW 2)) (.tp 2 (.cons (.nm 0) (.cons (.nm 1) .nil))) jF (Kq (b8 (ak gV (vW 0) (kW (.str "name")))) (vW 1) (cbW Di (aA (vW 1) aq))))))
  (aU (cbW uH (aA (ak bM (bO (dg (aA (vW 1) aq))) (vW 4)) aq)))))))))
inductive At where
 |l (xs:List D)|d (ks:List Str) (xs:List D)
structure Ob where
 C:Addr
 fs:List (Str×At)
def uo(c:Bk)(G:Hp):At->HO->Prop
 |.l xs,u=>∃vs,u=.lst vs/\aC c G xs vs
 |.d ks xs,u=>∃vs,u=.dK (jG ks vs)/\ks.length=vs.length/\aC c G xs vs
def uo.kin{c:Bk}{G:Hp}{u:HO}:∀{x:At},uo c G x u->¬ wH u/\∀C dx fs,u≠.ins C dx fs
 |.l _,⟨_,h,_⟩=>by subst h;exact⟨id,λ_ _ _ z=>by cases z⟩
 |.d _ _,⟨_,h,_⟩=>by subst h;exact⟨id,λ_ _ _ z=>by cases z⟩
abbrev aJ:=Addr->Option Ob
def cW(S:aJ)(p:Addr)(o:Ob):aJ:=λa=>if a=p then some o else S a
def gK:cW S p o p=some o:=by unfold cW;rw[if_pos rfl]
def gQ(h:q≠p):cW S p o q=S q:=by unfold cW;rw[if_neg h]
abbrev il(K:qd)(β:Addr)(G:Hp):Bk:=⟨K,β,λ_=>none,G,True⟩
def jw(fs:List (Str×At))(as:List Addr):List (Str×V):=(fs.zip as).map λp=>(p.1.1,V.ref p.2)
structure Kn(K:qd)(β:Addr)(G:Hp)(S:aJ)(M:Hp)(ad:Addr->List Addr):Prop where
 obj:∀p o,S p=some o->∃dx,M p=some (.ins o.C dx (jw o.fs (ad p)))/\(ad p).length=o.fs.length
 lst:∀p o (i:Nat) a x,S p=some o->(ad p)[i]?=some a->o.fs[i]?=some x->∃u,M a=some u/\uo (il K β G) G x.2 u
 dis:∀p q (i j:Nat) a,S p≠none->S q≠none->(ad p)[i]?=some a->(ad q)[j]?=some a->p=q/\i=j
 kin:∀a o,M a=some o->¬ wH o
 ap:∀a,M a≠none->G a=none/\a≠β
def uo.mv{K:qd}{β:Addr}{G G':Hp}(s:Same G G'){u:HO}:∀{x:At},uo (il K β G) G x u->uo (il K β G') G' x u
 |.l _,⟨vs,h,r⟩=>⟨vs,h,aC.back (c':=il K β G) (c:=il K β G') rfl rfl (λ_ e=>e) (r.mono s)⟩
 |.d _ _,⟨vs,h,l,r⟩=>⟨vs,h,l,aC.back (c':=il K β G) (c:=il K β G') rfl rfl (λ_ e=>e) (r.mono s)⟩
def Kn.mono(k:Kn K β G S M ad)(s:Same G G')(h:∀a,M a≠none->G' a=none):Kn K β G' S M ad:=
 ⟨k.obj,λp o i a x h1 h2 h3=>(k.lst p o i a x h1 h2 h3).imp λu z=>⟨z.1,z.2.mv s⟩,k.dis,k.kin,λa z=>⟨h a z,(k.ap a z).2⟩⟩
def ov(B M:Hp):Hp:=λa=>match M a with|some o=>some o|none=>B a
def qN(h:M a=some o):ov B M a=some o:=by unfold ov;rw[h]
def qj(h:M a=none):ov B M a=B a:=by unfold ov;rw[h]
def aV:ov B M a=none↔M a=none/\B a=none:=by
 unfold ov;cases M a with
 |none=>simp
 |some o=>simp
def Dm(M M':Hp):Prop:=∀a,M a≠none->M' a≠none
def Dm.refl(M:Hp):Dm M M:=λ_ h=>h
def Dm.trans(h:Dm A B)(k:Dm B C):Dm A C:=λa z=>k a (h a z)
structure Bo where
 K:qd
 β:Addr
 H0:Hp
 G0:Hp
 M0:Hp
def bR(b:Bo)(S:aJ)(M G:Hp):Bk:=⟨b.K,b.β,ov b.H0 M,G,∃ad,Kn b.K b.β G S M ad⟩
mutual
theorem Rep.reb(hk:c'.K=c.K)(hb:c'.β=c.β)(hn:∀a,G a≠none->c'.H0 a=none->c.H0 a=none):∀{d:D}{v:V},Rep c' G d v->Rep c G d v
 |.non,_,h=>h
 |.bl _,_,h=>h
 |.int _,_,h=>h
 |.str _,_,h=>h
 |.box,_,h=>by show _=V.ref c.β;rw[<-hb];exact h
 |.obj _,_,h=>h
 |.dct n ks xs,_,⟨a,vs,h1,h2,h4,h5,h3⟩=>⟨a,vs,h1,h2,λz=>hn a (by rw[h2];simp) (h4 z),h5,aC.reb hk hb hn h3⟩
 |.fdc ks xs,_,⟨a,vs,o,h1,h2,h5,h3⟩=>⟨a,vs,o,h1,h2,h5,aC.reb hk hb hn h3⟩
 |.tup xs,_,⟨a,vs,h1,h2,h3⟩=>⟨a,vs,h1,hk▸h2,aC.reb hk hb hn h3⟩
 |.lst n xs,_,⟨a,vs,h1,h2,h4,h3⟩=>⟨a,vs,h1,h2,λz=>hn a (by rw[h2];simp) (h4 z),aC.reb hk hb hn h3⟩
theorem aC.reb(hk:c'.K=c.K)(hb:c'.β=c.β)(hn:∀a,G a≠none->c'.H0 a=none->c.H0 a=none):∀{ds:List D}{vs:List V},aC c' G ds vs->aC c G ds vs
 |[],_,h=>h
 |_::_,_,⟨v,ws,h1,h2,h3⟩=>⟨v,ws,h1,Rep.reb hk hb hn h2,aC.reb hk hb hn h3⟩
end
structure wR(β:Addr)(M M' H G H' G':Hp):Prop where
 gg:Same G G'
 gh:Same G' H'
 fr:∀a o,a≠β->M a=none->H a=some o->H' a=some o
 mh:∀a o,M' a=some o->H' a=some o
 mn:∀a,M' a≠none->M a≠none\/H a=none
 mg:∀a,M' a≠none->G' a=none/\a≠β
 nw:∀a,G' a≠none->G a≠none\/H a=none\/∃o,H a=some o/\wH o
 bx:fU β H' G'
 bc:∀cc p r d,H β=some (uX cc p r d)->∃p r d,H' β=some (uX cc p r d)
 dm:Dm M M'
structure Out(b:Bo)(M G1:Hp):Prop where
 mb:∀a,M a≠none->b.H0 a=none/\b.G0 a=none/\a≠b.β
 gg:Same b.G0 G1
 nw:∀a,G1 a≠none->b.G0 a≠none\/b.H0 a=none\/∃o,b.H0 a=some o/\wH o
 g0:Same b.G0 b.H0
 dm:Dm b.M0 M
def Rel.eff(r:Rel (bR b S M G1) Z U H G)(hM:∀a,M a≠none->b.H0 a=none/\a≠b.β)(e:wR b.β M M' H G H' G')(kn:∃ad,Kn b.K b.β G' S' M' ad):Rel (bR b S' M' G') Z U H' G':=by
 have base:∀a o,b.H0 a=some o->M a=none:=λa o h=>by
  cases z:M a with
  |none=>rfl
  |some u=>have:=(hM a (by rw[z];simp)).1;rw[h]at this;cases this
 have mβ:M' b.β=none:=by
  cases z:M' b.β with
  |none=>rfl
  |some u=>exact absurd rfl (e.mg _ (by rw[z];simp)).2
 have m0:M b.β=none:=by
  cases z:M b.β with
  |none=>rfl
  |some u=>exact absurd rfl (hM _ (by rw[z];simp)).2
 refine⟨r.len,⟨Same.refl _,e.gh,λa o n h=>?_,λa z=>.inl z,e.bx,?_,?_⟩,λi s h=>?_,r.dis,kn⟩
 .cases z:M' a with
  |some u=>rw[show(bR b S' M' G').H0 a=some u from qN z]at h;cases h;exact e.mh a _ z
  |none=>
   rw[show(bR b S' M' G').H0 a=b.H0 a from qj z]at h;have z':=base a o h;exact e.fr a o n z' (r.stp.fr a o n ((qj z').trans h))
 .intro z;exact r.stp.b0 ((qj m0).trans ((qj mβ).symm.trans z))
 .intro cc p q d h;obtain⟨p1,q1,d1,h1⟩:=r.stp.bc cc p q d ((qj m0).trans ((qj mβ).symm.trans h));exact e.bc cc p1 q1 d1 h1
 .have q:=r.slot i s h;cases s with
  |un=>trivial
  |val d=>
   obtain⟨v,h1,h2⟩:=q;refine⟨v,h1,(Rep.reb (c:=bR b S' M' G') (c':=bR b S M G1) rfl rfl (λa ga z=>?_) h2).mono e.gg⟩;obtain⟨z1,z2⟩:=aV.mp z;refine aV.mpr ⟨?_,z2⟩;cases y:M' a with
   |none=>rfl
   |some u=>
    have:=(e.mg a (by rw[y];simp)).1
    cases w:G a with
    |none=>exact absurd w ga
    |some o=>rw[e.gg a o w]at this;cases this
  |own xs=>
   obtain⟨a,vs,h1,h2,h3,h4,h5,h6⟩:=q;obtain⟨z1,z2⟩:=aV.mp h4;have m':M' a=none:=by
    cases y:M' a with
    |none=>rfl
    |some u=>
     rcases e.mn a (by rw[y];simp)with w|w
     .exact absurd z1 w
     .rw[h2]at w;cases w
   have h4':(bR b S' M' G').H0 a=none:=aV.mpr ⟨m',z2⟩;refine⟨a,vs,h1,e.fr a _ h5 z1 h2,?_,h4',h5,(aC.reb (c:=bR b S' M' G') (c':=bR b S M G1) rfl rfl (λa ga z=>?_) h6).mono e.gg⟩
   .cases y:G' a with
    |none=>rfl
    |some o=>
     rcases e.nw a (by rw[y];simp)with w|w|⟨u,w,st⟩
     .exact absurd h3 w
     .rw[h2]at w;cases w
     .rw[h2]at w;cases w;exact st.elim
   .obtain⟨z1,z2⟩:=aV.mp z;refine aV.mpr ⟨?_,z2⟩;cases y:M' a with
    |none=>rfl
    |some u=>
     have:=(e.mg a (by rw[y];simp)).1
     cases w:G a with
     |none=>exact absurd w ga
     |some o=>rw[e.gg a o w]at this;cases this
  |dic ks xs=>
   obtain⟨a,vs,h1,h2,h3,h4,h5,h6,h7⟩:=q;obtain⟨z1,z2⟩:=aV.mp h4;have m':M' a=none:=by
    cases y:M' a with
    |none=>rfl
    |some u=>
     rcases e.mn a (by rw[y];simp)with w|w
     .exact absurd z1 w
     .rw[h2]at w;cases w
   have h4':(bR b S' M' G').H0 a=none:=aV.mpr ⟨m',z2⟩;refine⟨a,vs,h1,e.fr a _ h5 z1 h2,?_,h4',h5,(aC.reb (c:=bR b S' M' G') (c':=bR b S M G1) rfl rfl (λa ga z=>?_) h6).mono e.gg,h7⟩
   .cases y:G' a with
    |none=>rfl
    |some o=>
     rcases e.nw a (by rw[y];simp)with w|w|⟨u,w,st⟩
     .exact absurd h3 w
     .rw[h2]at w;cases w
     .rw[h2]at w;cases w;exact st.elim
   .obtain⟨z1,z2⟩:=aV.mp z;refine aV.mpr ⟨?_,z2⟩;cases y:M' a with
    |none=>rfl
    |some u=>
     have:=(e.mg a (by rw[y];simp)).1
     cases w:G a with
     |none=>exact absurd w ga
     |some o=>rw[e.gg a o w]at this;cases this
def Out.eff(o:Out b M G1)(r:Rel (bR b S M G1) Z U H G)(e:wR b.β M M' H G H' G'):Out b M' G':=by
 have fresh:∀a,H a=none->b.H0 a=none:=λa h=>(aV.mp (r.stp.free h)).2;have keep:∀a u,a≠b.β->b.H0 a=some u->H a=some u:=λa u n h=>r.stp.fr a u n ((qj (by
  cases z:M a with
  |none=>rfl
  |some w=>have:=(o.mb a (by rw[z];simp)).1;rw[h]at this;cases this)).trans h)
 have nwG:∀a,G a≠none->b.G0 a≠none\/b.H0 a=none\/∃u,b.H0 a=some u/\wH u:=λa z=>by
  rcases r.stp.nw a z with w|w|⟨u,w,st⟩
  .exact o.nw a w
  .exact .inr (.inl (aV.mp w).2)
  .cases y:M a with
   |none=>exact .inr (.inr ⟨u,(qj y).symm.trans w,st⟩)
   |some x=>exact .inr (.inl (o.mb a (by rw[y];simp)).1)
 refine⟨λa z=>?_,o.gg.trans (r.stp.gg.trans e.gg),λa z=>?_,o.g0,o.dm.trans e.dm⟩
 .have h0:b.H0 a=none:=by
   rcases e.mn a z with w|w
   .exact(o.mb a w).1
   .exact fresh a w
  exact⟨h0,o.g0.free h0,(e.mg a z).2⟩
 .rcases e.nw a z with w|w|⟨u,w,st⟩
  .exact nwG a w
  .exact .inr (.inl (fresh a w))
  .cases y:b.H0 a with
   |none=>exact .inr (.inl rfl)
   |some x=>
    by_cases n:a=b.β
    .subst n;obtain⟨cc,p,q,d,ns,hb,_⟩:=r.bx.ex;rw[show(bR b S M G1).β=b.β from rfl]at hb;rw[hb]at w;cases w;exact st.elim
    .have:=keep a x n y
     rw[w]at this;cases this;exact .inr (.inr ⟨u,rfl,st⟩)
def Out.stp(o:Out b M G1)(kin:∀a u,M a=some u->¬ wH u)(t:aY b.β (ov b.H0 M) G1 H G):aY b.β b.H0 b.G0 H G:=by
 have out:∀a u,b.H0 a=some u->M a=none:=λa u h=>by
  cases z:M a with
  |none=>rfl
  |some w=>have:=(o.mb a (by rw[z];simp)).1;rw[h]at this;cases this
 have m0:M b.β=none:=by
  cases z:M b.β with
  |none=>rfl
  |some u=>exact absurd rfl (o.mb _ (by rw[z];simp)).2.2
 refine⟨o.gg.trans t.gg,t.gh,λa u n h=>t.fr a u n ((qj (out a u h)).trans h),λa z=>?_,t.bx,λz=>t.b0 ((qj m0).trans z),λcc p q d h=>t.bc cc p q d ((qj m0).trans h)⟩;rcases t.nw a z with w|w|⟨u,w,st⟩
 .exact o.nw a w
 .exact .inr (.inl (aV.mp w).2)
 .cases y:M a with
  |none=>exact .inr (.inr ⟨u,(qj y).symm.trans w,st⟩)
  |some x=>exact .inr (.inl (o.mb a (by rw[y];simp)).1)
def Out.apart{b:Bo}{M G1 H G:Hp}(kin:∀a u,M a=some u->¬ wH u)(h1:∀a,M a≠none->G1 a=none)(t:aY b.β (ov b.H0 M) G1 H G)(a:Addr)(h:M a≠none):G a=none:=by
 cases z:G a with
 |none=>rfl
 |some u=>
  cases y:M a with
  |none=>exact absurd y h
  |some x=>
   rcases t.nw a (by rw[z];simp)with w|w|⟨v,w,st⟩
   .exact absurd (h1 a h) w
   .rw[show ov b.H0 M a=some x from qN y]at w;cases w
   .rw[show ov b.H0 M a=some x from qN y]at w;cases w;exact absurd st (kin a _ y)
structure iY where
 nx:aJ->Env->Prop
 rt:aJ->D->Prop
 bk:aJ->Env->Prop
 ct:aJ->Env->Prop
abbrev WF:=iY->aJ->Env->Prop
structure iY.Le(E E':iY):Prop where
 nx:∀S Z,E.nx S Z->E'.nx S Z
 rt:∀S d,E.rt S d->E'.rt S d
 bk:∀S Z,E.bk S Z->E'.bk S Z
 ct:∀S Z,E.ct S Z->E'.ct S Z
def Gv(W:WF):Prop:=∀E E' S Z,iY.Le E E'->W E S Z->W E' S Z
def bL(b:Bo)(S:aJ)(M:Hp)(Z:Env)(U:St)(H G:Hp):Prop:=∃G1,Out b M G1/\Rel (bR b S M G1) Z U H G
def uL(b:Bo)(G M:Hp)(Ds:Ends):iY where
 nx:=λS Z=>∀ U H' G' M',bL b S M' Z U H' G'->Same G G'->Dm M M'->Ds.nx U H'
 rt:=λS d=>∀v H' G' M' G1,(∃ad,Kn b.K b.β G1 S M' ad)->Out b M' G1->aY b.β (ov b.H0 M') G1 H' G'->Dm M M'->Rep (bR b S M' G1) G' d v->Ds.rt v H'
 bk:=λS Z=>∀ U H' G' M',bL b S M' Z U H' G'->Same G G'->Dm M M'->Ds.bk U H'
 ct:=λS Z=>∀ U H' G' M',bL b S M' Z U H' G'->Same G G'->Dm M M'->Ds.ct U H'
def FQ{b:Bo}{G G1 M M1:Hp}{Ds:Ends}(s:Same G G1)(m:Dm M M1):iY.Le (uL b G M Ds) (uL b G1 M1 Ds):=
 ⟨λS Z h U H' G' M' r s' m'=>h U H' G' M' r (s.trans s') (m.trans m'),λS d h v H' G' M' G2 k o t m' e=>h v H' G' M' G2 k o t (m.trans m') e,λS Z h U H' G' M' r s' m'=>h U H' G' M' r (s.trans s') (m.trans m'),λS Z h U H' G' M' r s' m'=>h U H' G' M' r (s.trans s') (m.trans m')⟩
def tOS(b:Bo)(W:WF):TS:=λDs U H=>∃ Z G S M,bL b S M Z U H G/\W (uL b G M Ds) S Z
structure OS(X:Cx)(b:Bo)(st:Stmt)(W:WF):Prop where
 mono:Gv W
 ps:PS X st (tOS b W)
structure mQ(X:Cx)(b:Bo)(sts:List Stmt)(W:WF):Prop where
 mono:Gv W
 pss:mq X sts (tOS b W)
section
variable{X:Cx}{b:Bo}{st:Stmt}{rest:List Stmt}{pos p p':Pos}{e:Expr}
abbrev atS(E:iY)(S:aJ):En:=⟨E.nx S,E.rt S,E.bk S,E.ct S⟩
abbrev ji(W:aJ->WS):WF:=λE S Z=>W S (atS E S) Z
def zvo{G M G1:Hp}{S:aJ}{D:Ends}(k:∃ad,Kn b.K b.β G1 S M ad)(o:Out b M G1):En.Le (atS (uL b G M D) S) (ends (bR b S M G1) G D):=
 ⟨λZ z U H' G' r s=>z U H' G' M ⟨G1,o,r⟩ s (Dm.refl M),λd z v H' G' t e=>z v H' G' M G1 k o t (Dm.refl M) e,λZ z U H' G' r s=>z U H' G' M ⟨G1,o,r⟩ s (Dm.refl M),λZ z U H' G' r s=>z U H' G' M ⟨G1,o,r⟩ s (Dm.refl M)⟩
def jP(h:∀S M G1,DS X (bR b S M G1) st (W S)):OS X b st (ji W)where
 mono:=λE E' S Z l q=>(h S (λ_=>none) (λ_=>none)).mono _ _ Z ⟨l.nx S,l.rt S,l.bk S,l.ct S⟩ q
 ps:=λaa s U H D I ⟨Z,G,S,M,⟨G1,o,r⟩,q⟩=>(h S M G1).ps aa s U H D I ⟨Z,G,r,(h S M G1).mono _ _ Z (zvo r.kn o) q⟩
abbrev nilF:WF:=λE S Z=>E.nx S Z
abbrev aN(A B:WF):WF:=λE S Z=>A {E with nx:=B E} S Z
def rQ:mQ X b [] nilF:=⟨λE E' S Z l q=>l.nx S Z q,yo LQ λD U H ⟨Z,G,S,M,r,q⟩=>q U H G M r (Same.refl _) (Dm.refl M)⟩
def di(h1:OS X b st A)(h2:mQ X b rest B):mQ X b (st::rest) (aN A B)where
 mono:=λE E' S Z l q=>h1.mono {E with nx:=B E} _ S Z ⟨λS' Z' z=>h2.mono _ _ S' Z' l z,l.rt,l.bk,l.ct⟩ q
 pss:=yo (pD h1.ps h2.pss) λD U H ⟨Z,G,S,M,r,q⟩=>⟨Z,G,S,M,r,h1.mono {uL b G M D with nx:=B _} _ S Z ⟨λS' Z' z U' H' G' M' r' s' m'=>⟨Z',G',S',M',r',h2.mono _ _ S' Z' (FQ s' m') z⟩,λS' d z=>z,λS' Z' z=>z,λS' Z' z=>z⟩ q⟩
def dH(h1:OS X b st A):mQ X b [st] A:=⟨h1.mono,vO h1.ps⟩
abbrev ug(C:aJ->WT)(A B:WF):WF:=λE S Z=>C S Z λt=>if t=true then A E S Z else B E S Z
def yf(hC:∀S M G1,DT X (bR b S M G1) e (C S))(hA:mQ X b x A)(hB:mQ X b y B):OS X b (.If e x y pos) (ug C A B)where
 mono:=λE E' S Z l q=>(hC S (λ_=>none) (λ_=>none)).mono Z _ _ (λt z=>by
  cases t
  .exact hB.mono _ _ S Z l z
  .exact hA.mono _ _ S Z l z) q
 ps:=λaa s U H D I ⟨Z,G,S,M,⟨G1,o,r⟩,q⟩=>Dj (hC S M G1).pt hA.pss hB.pss aa s U H D I ⟨Z,G,r,(hC S M G1).mono Z _ _ (λt z H' G' t1=>by
  cases t
  .exact⟨Z,G',S,M,⟨G1,o,r.step t1⟩,hB.mono _ _ S Z (FQ t1.gg (Dm.refl M)) z⟩
  .exact⟨Z,G',S,M,⟨G1,o,r.step t1⟩,hA.mono _ _ S Z (FQ t1.gg (Dm.refl M)) z⟩) q⟩
end
def mz(t:Tg)(B:WF)(E:iY):List D->aJ->Env->Prop
 |[],S,Z=>E.nx S Z
 |x::xs,S,Z=>gD t x Z λZ'=>B {nx:=mz t B E xs,ct:=mz t B E xs,bk:=E.nx,rt:=E.rt} S Z'
abbrev mJ(I:aJ->WL)(t:Tg)(B:WF):WF:=λE S Z=>I S Z λxs=>mz t B E xs S Z
theorem zhj(mB:Gv B)(l:iY.Le E E'):∀(xs:List D)(S:aJ)(Z:Env),mz t B E xs S Z->mz t B E' xs S Z
 |[],S,Z,q=>l.nx S Z q
 |x::xs,S,Z,q=>tM t x Z (λZ' z=>mB {nx:=mz t B E xs,ct:=mz t B E xs,bk:=E.nx,rt:=E.rt} _ S Z' ⟨λS Z z=>zhj mB l xs S Z z,l.rt,l.nx,λS Z z=>zhj mB l xs S Z z⟩ z) q
def Rep.carry(e:Rep (bR b S M Ga) G d v)(s:Same G G')(h:∀a,M' a≠none->G' a=none):Rep (bR b S' M' Gb) G' d v:=
 (Rep.reb (c:=bR b S' M' Gb) (c':=bR b S M Ga) rfl rfl (λa ga z=>by
  obtain⟨z1,z2⟩:=aV.mp z;refine aV.mpr ⟨?_,z2⟩;cases y:M' a with
  |none=>rfl
  |some u=>
   have:=h a (by rw[y];simp)
   cases w:G a with
   |none=>exact absurd w ga
   |some o=>rw[s a o w]at this;cases this) e).mono s
theorem Rel.apart(r:Rel (bR b S M G1) Z U H G)(a:Addr)(h:M a≠none):G a=none:=by
 obtain⟨ad,k⟩:=r.kn;exact Out.apart k.kin (λa z=>(k.ap a z).1) r.stp a h
section
variable{X:Cx}{b:Bo}{tg iter e:Expr}{body:List Stmt}{pos p:Pos}
def zK(t:Tg)(hI:∀S M G1,DI X (bR b S M G1) tg iter (I S))(hg:PG X tg (lC b.K t))(hB:mQ X b body B)(hp:PassesOwn (model X.prog X.w) X.A X.env X.xe:=by exact PassesOwn.never)(hc:X.calm=true:=by rfl)(hs:∀x,foldedSetIterable iter X.env x=pure x:=by intro _;rfl) :
  OS X b (.For tg iter body [] pos) (mJ I t B)where
 mono:=λE E' S Z l q=>(hI S (λ_=>none) (λ_=>none)).mono Z _ _ (λxs z=>zhj hB.mono l xs S Z z) q
 ps:=λaa s U H D Iv ⟨Z,G,S,M,⟨Gb,o,r⟩,q⟩=>ztA hp hc (hI S M Gb).pi hg hB.pss hs aa s U H D Iv ⟨Z,G,r,(hI S M Gb).mono Z _ _ (λxs z J H1 G1 t1 it=>by
  refine⟨λi m U H=>m=xs.length-i/\i<=xs.length/\∃ Z' G' S' M',bL b S' M' Z' U H G'/\Same G1 G'/\Dm M M'/\mz t B _ (xs.drop i) S' Z',⟨xs.length,rfl,wy _,Z,G1,S,M,⟨Gb,o,r.step t1⟩,Same.refl _,Dm.refl M,z⟩,?_⟩;rintro i m U' H' ⟨rfl,hi,Z',G',S',M',⟨Gc,o',r'⟩,s',m',q'⟩;have free:∀a,H' a=none->(bR b S M Gb).H0 a=none:=λa z=>by
   obtain⟨z1,z2⟩:=aV.mp (r'.new0 z);refine aV.mpr ⟨?_,z2⟩;cases y:M a with
   |none=>rfl
   |some u=>exact absurd z1 (m' a (by rw[y];simp))
  have ok:=it i H' G' s' r'.gh r'.bx free;by_cases hlt:i<xs.length
  .refine .inr ?_;have ed:=K5 hlt;rw[ed]at q';obtain⟨go,yl⟩:=ok.2 xs[i] (YAB hlt);refine⟨go,λU H=>∃ Z' G' S' M',bL b S' M' Z' U H G'/\Same G1 G'/\Dm M M'/\mz t B (uL b G M D) _ S' Z',λU2 H2 h=>⟨xs.length-_,by omega,rfl,by omega,h⟩,λx H3 y=>?_⟩;obtain⟨G3,t3,e3⟩:=yl x H3 y;have r3:=r'.step t3;have e4:Rep (bR b S' M' Gc) G3 xs[i] x:=e3.carry (Same.refl _) r3.apart;refine yw t xs[i] x Z' U' r3 e4 (tM t xs[i] Z' (λZ2 z2 U2 r2=>?_) q');refine⟨Z2,G3,S',M',⟨Gc,o',r2⟩,hB.mono {nx:=mz t B (uL b G M D) (xs.drop (i+1)),ct:=mz t B (uL b G M D) (xs.drop (i+1)),bk:=(uL b G M D).nx,rt:=(uL b G M D).rt} _ S' Z2 ⟨λS3 Z3 z3 U3 H4 G4 M4 r4 s4 m4=>⟨Z3,G4,S3,M4,r4,(s'.trans t3.gg).trans s4,m'.trans m4,z3⟩,λS3 d z v H4 G4 M4 G5 k5 o5 t5 m5 e5=>z v H4 G4 M4 G5 k5 o5 t5 (m'.trans m5) e5,λS3 Z3 z3 U3 H4 G4 M4 r4 s4 m4=>z3 U3 H4 G4 M4 r4 (((t1.gg.trans s').trans t3.gg).trans s4) (m'.trans m4),λS3 Z3 z3 U3 H4 G4 M4 r4 s4 m4=>⟨Z3,G4,S3,M4,r4,(s'.trans t3.gg).trans s4,m'.trans m4,z3⟩⟩ z2⟩
  .have e:i=xs.length:=by omega
   subst e;rw[YB6]at q';exact .inl ⟨ok.1 rfl,q' U' H' G' M' ⟨Gc,o',r'⟩ (t1.gg.trans s') m'⟩) q⟩
end
abbrev cD:=List D->aJ->(D->aJ->Prop)->(Str->aJ->Prop)->Prop
def vV(F:cD):cD:=λds S Q Y=>∃(P:D->aJ->Prop)(qc:Str->aJ->Prop),F ds S P qc/\(∀d S',P d S'->Q d S')/\∀n S',qc n S'->Y n S'
def vB(F:cD)(k:∀d S,Q d S->Q' d S)(l:∀n S,Y n S->Y' n S):vV F ds S Q Y->vV F ds S Q' Y':=λ⟨P,qc,h1,h2,h3⟩=>⟨P,qc,h1,λd S z=>k d S (h2 d S z),λn S z=>l n S (h3 n S z)⟩
noncomputable def bZ(K:qd)(mg:Str->Option Value)(n:Nat)(F:cD):Sp:=λvs H Q E=>∃ β G S M ad ds,Same G H/\fU β H G/\(∀a o,M a=some o->H a=some o)/\Kn K β G S M ad/\aC (il K β G) G ds vs/\vs.length=n /\
 vV F ds S (λd S'=>∀v H' G' M' ad',wR β M M' H G H' G'->Kn K β G' S' M' ad'->Rep ⟨K,β,H,G,True⟩ G' d v->Q v H') λnm S'=>∀C H' G' M' ad',mg nm=some (.ref C)->wR β M M' H G H' G'->Kn K β G' S' M' ad'->E (.ref C) none H'
def mi(H M:Hp):Hp:=λa=>match M a with|some _=>none|none=>H a
def zue(h:M a≠none):mi H M a=none:=by
 unfold mi;cases e:M a with
 |none=>exact absurd e h
 |some o=>rfl
def vX(h:M a=none):mi H M a=H a:=by unfold mi;rw[h]
def zxV(h:∀a o,M a=some o->H a=some o):ov (mi H M) M=H:=by
 funext a
 cases e:M a with
 |none=>rw[qj e,vX e]
 |some o=>rw[qN e,h a o e]
def bY(n:Nat)(B:(Str->aJ->Prop)->WF):cD:=λds S Q Y=>B Y {nx:=λS' _=>Q .non S',rt:=λS' d=>Q d S',bk:=λ_ _=>False,ct:=λ_ _=>False} S (eU n ds)
def Out.whole(mb:M β=none)(k:Kn K β G1 S M' ad)(o:Out ⟨K,β,mi H M,G,M⟩ M' G1)(t:aY β (ov (mi H M) M') G1 H' G'):wR β M M' H G H' G'/\Kn K β G' S M' ad/\∀d v,Rep (bR ⟨K,β,mi H M,G,M⟩ S M' G1) G' d v->Rep ⟨K,β,H,G,True⟩ G' d v:=by
 have m:Dm M M':=o.dm;have ap:∀a,M' a≠none->G' a=none:=Out.apart (b:=⟨K,β,mi H M,G,M⟩) k.kin (λa z=>(k.ap a z).1) t;have w:=o.stp k.kin t;have no:∀a u,M a=none->H a=some u->M' a=none:=λa u h1 h2=>by
  cases y:M' a with
  |none=>rfl
  |some x=>
   have:=(o.mb a (by rw[y];simp)).1
   rw[show(⟨K,β,mi H M,G,M⟩:Bo).H0 a=H a from vX h1,h2]at this;cases this
 refine⟨⟨o.gg.trans t.gg,t.gh,λa u n h1 h2=>t.fr a u n ?_,λa u h=>t.fr a u (o.mb a (by rw[h];simp)).2.2 (qN h),λa h=>?_,λa h=>⟨ap a h,(o.mb a h).2.2⟩,λa h=>?_,t.bx,λcc p q d h=>w.bc cc p q d ((vX mb).trans h),m⟩,k.mono t.gg ap,λd v e=>Rep.reb (c:=⟨K,β,H,G,True⟩) (c':=bR ⟨K,β,mi H M,G,M⟩ S M' G1) rfl rfl (λa ga z=>?_) e⟩
 .rw[qj (no a u h1 h2),vX h1];exact h2
 .have:=(o.mb a h).1
  cases e:M a with
  |some u=>exact .inl (by simp)
  |none=>exact .inr ((vX e).symm.trans this)
 .rcases w.nw a h with z|z|⟨u,z,st⟩
  .exact .inl z
  .cases e:M a with
   |none=>exact .inr (.inl ((vX e).symm.trans z))
   |some u=>exact absurd (ap a (m a (by rw[e];simp))) h
  .cases e:M a with
   |none=>exact .inr (.inr ⟨u,(vX e).symm.trans z,st⟩)
   |some x=>rw[show(⟨K,β,mi H M,G,M⟩:Bo).H0 a=none from zue (by rw[e];simp)]at z;cases z
 .obtain⟨z1,z2⟩:=aV.mp z;cases e:M a with
  |none=>exact(vX e).symm.trans z2
  |some u=>exact absurd z1 (m a (by rw[e];simp))
def Rel.hyp(r:Rel c Z U H G)(q:Q):Rel {c with P:=Q} Z U H G:=
 ⟨r.len,r.stp,λi s e=>by
  have z:=r.slot i s e;cases s with
  |un=>trivial
  |val d=>obtain⟨v,h1,h2⟩:=z;exact⟨v,h1,Rep.reb (c:={c with P:=Q}) (c':=c) rfl rfl (λ_ _ z=>z) h2⟩
  |own xs=>obtain⟨a,vs,h1,h2,h3,h4,h5,h6⟩:=z;exact⟨a,vs,h1,h2,h3,h4,h5,aC.reb (c:={c with P:=Q}) (c':=c) rfl rfl (λ_ _ z=>z) h6⟩
  |dic ks xs=>obtain⟨a,vs,h1,h2,h3,h4,h5,h6,h7⟩:=z;exact⟨a,vs,h1,h2,h3,h4,h5,aC.reb (c:={c with P:=Q}) (c':=c) rfl rfl (λ_ _ z=>z) h6,h7⟩,r.dis,q⟩
def iZ(F:bD K x qual st f fd)
  (hB:∀{cdv:Value}{A:Around}{outer:List PySem.Env}{s:Shared}{H:Hp}{E:XK}{β:Addr}{G M:Hp}(Y:Str->aJ->Prop),(∀nm C H' G' S M' G1,Y nm S->mg nm=some (.ref C)->(∃ad,Kn K β G1 S M' ad)->Out ⟨K,β,mi H M,G,M⟩ M' G1->aY β (ov (mi H M) M') G1 H' G'->E (.ref C) none H')->N.Nodup->bA k (A.deeper (PyProof.Rows.envOfC qual (gB st) s.heap.objs.size f cdv)) ->
   mQ (dI (aZ P w) P w K mg base N qual (gB st) f cdv A outer s H E) ⟨K,β,mi H M,G,M⟩ (nD st) (B Y)) (S:dj N ps (gB st):=by exact⟨rfl,rfl,rfl,by decide,rfl,by decide,by decide⟩):aG P w K mg base (aZ P w) (k+1) f fd ps (bZ K mg ps.length (bY N.length B)):=by
 obtain⟨oc,od,kV,doc,pm,an,cdv,ct,osl,rfl,lk,hcd⟩:=F.ex;refine zrZ lk hcd S (λvs H Q E ⟨β,G,S,M,ad,ds,_,_,_,_,_,h,_⟩=>h) λA outer s H vs Q E hr ⟨β,G,So,M,ad,ds,gh,bx,mh,kn,hv,hl,P',qc,q,hP,hZ⟩=>?_;have mb:M β=none:=by
  cases e:M β with
  |none=>rfl
  |some u=>exact absurd rfl (kn.ap β (by rw[e];simp)).2
 have h:=@hB cdv A outer s H E β G M qc (λnm C H' G' S M' G1 z hm ⟨ad',k'⟩ o' t=>by
  obtain⟨e1,e2,_⟩:=Out.whole mb k' o' t;exact hZ nm S z C H' G' M' ad' hm e1 e2) S.nd hr
 have r0:bL ⟨K,β,mi H M,G,M⟩ So M (eU N.length ds) (L2.uC N vs) H G:=by
  refine⟨G,⟨λa z=>⟨zue z,(kn.ap a z).1,(kn.ap a z).2⟩,Same.refl _,λa z=>.inl z,λa o z=>(vX (by
   cases y:M a with
   |none=>rfl
   |some u=>exact absurd ((kn.ap a (by rw[y];simp)).1.symm.trans z) (by simp))).trans (gh a o z),Dm.refl M⟩,?_⟩
  have h0:=JD (N:=N) gh bx hv;unfold bR;rw[show ov (Bo.H0 ⟨K,β,mi H M,G,M⟩) M=H from zxV mh];exact h0.hyp ⟨ad,kn⟩
 refine⟨_,h.pss,eU N.length ds,G,So,M,r0,h.mono {nx:=λS' _=>P' .non S',rt:=λS' d=>P' d S',bk:=λ_ _=>False,ct:=λ_ _=>False} _ So _ ⟨λS' Z z U H' G' M' ⟨G1,o',r'⟩ s' m=>?_,λS' d z v H' G' M' G1 ⟨ad',k'⟩ o' t m e=>?_,λS Z z=>z.elim,λS Z z=>z.elim⟩ q⟩
 .obtain⟨ad',k'⟩:=r'.kn;obtain⟨e1,e2,_⟩:=Out.whole mb k' o' r'.stp;exact hP _ _ z .non H' G' M' ad' e1 e2 rfl
 .obtain⟨e1,e2,e3⟩:=Out.whole mb k' o' t;exact hP _ _ z v H' G' M' ad' e1 e2 (e3 d v e)
end Fd
namespace L2
open PySem PySem.Spec PyProof.Rows PySem.W
section
variable{P:Program}{w:World}{K:qd}{mg:Str->Option Value}{base:Heap}{N:List Str}{qual:Str}{scope:Scope}{f:Addr}{cd:Value}{A:Around}{outer:List Env}{s0:Shared}{H0:Hp}{E E1:XK}
def zwn(hE:∀C H',E1 (.ref C) none H'->E (.ref C) none H'):jZ (aZ P w) (dI (aZ P w) P w K mg base N qual scope f cd A outer s0 H0 E) E1:=by
 rintro aa U H s _ s' I ⟨ea,C,H',rfl,N',e1⟩;have nex:∀{b:Addr},b∉([]:List Addr):=λz=>nomatch z;have neL:∀{b o},s0.heap.get? b=some o->b≠s0.heap.objs.size:=λe=>iU (dG e);have sub:∀{b},b∉frs outer->b≠s0.heap.objs.size->b∉frs (dI _ P w K mg base N qual scope f cd A outer s0 H0 E).stack:=λh1 h2 h3=>(eX.mp (I.stkSub _ h3)).elim h2 h1;obtain⟨B,fl,hB⟩:=id N'.fly;have frx:∀b∈frs (dI (aZ P w) P w K mg base N qual scope f cd A outer s0 H0 E).stack,∃o,s.heap.get? b=some o:=λb hb=>by
  obtain⟨_,o,ho,_⟩:=I.stack.mem hb;exact⟨o,ho⟩
 refine zsn I.ok.frames rfl fl λh' fl' sm=>?_;have on:=N'.on hB fl.2.2.1 I.stkFree fl'.1 sm frx;have I':=I.call' (s':={s' with heap:=h'}) N'.os on.1 on.2 N'.bare λb z=>nomatch z;refine⟨ea,C,H',rfl,⟨I'.os,I'.bare,I'.base,I'.hok,B,fl',λb o q hb nf=>?_⟩,hE C H' e1⟩;rcases hb with⟨u,hu⟩|⟨u,hu⟩
 .obtain⟨v,hv⟩:=(N'.hok b u hu).ex;have nb:b∉frs (dI (aZ P w) P w K mg base N qual scope f cd A outer s0 H0 E).stack:=λz=>by rw[I'.stkFree b z]at hu;cases hu
  have z:=hB b v hv (.inl ⟨u,hu⟩) nb
  have:=fl'.1 b v z
  rw[this]at q;cases q;exact z
 .obtain⟨o1,q1⟩:=I.base.there b u hu nex;obtain⟨o2,q2⟩:=N'.un.there b o1 q1 nex;have z:=hB b o2 q2 (.inr ⟨o1,q1⟩) (sub nf (neL hu))
  have:=fl'.1 b o2 z
  rw[this]at q;cases q;exact z
end
end L2
namespace Fd
open PySem L2
def nZ(b:Bo)(S:aJ)(M:Hp)(Z:Env)(U:St)(H G:Hp)(d:D)(v:V):Prop:=∃G1,Out b M G1/\Rel (bR b S M G1) Z U H G/\Rep (bR b S M G1) G d v
def lO(b:Bo)(S:aJ)(M:Hp)(Z:Env)(U:St)(H G:Hp)(ds:List D)(vs:List V):Prop:=∃G1,Out b M G1/\Rel (bR b S M G1) Z U H G/\aC (bR b S M G1) G ds vs
abbrev WOE:=Env->aJ->(D->aJ->Prop)->Prop
abbrev WOA:=Env->aJ->(List D->aJ->Prop)->Prop
def qg{α:Type}(W:Env->aJ->(α->aJ->Prop)->Prop):Prop:=∀ Z S Q Q',(∀d S',Q d S'->Q' d S')->W Z S Q->W Z S Q'
def xQ(b:Bo)(W:WOE):TE:=λU H Q=>∃ Z G S M,bL b S M Z U H G/\W Z S λd S'=>∀v H' G' M',nZ b S' M' Z U H' G' d v->Same G G'->Dm M M'->Q v H'
def tOA(b:Bo)(W:WOA):TA:=λU H Q=>∃ Z G S M,bL b S M Z U H G/\W Z S λds S'=>∀vs H' G' M',lO b S' M' Z U H' G' ds vs->Same G G'->Dm M M'->Q vs H'
structure OE(X:Cx)(b:Bo)(e:Expr)(W:WOE):Prop where
 mono:qg W
 pe:PE X e (xQ b W)
structure OA(X:Cx)(b:Bo)(es:List Expr)(W:WOA):Prop where
 mono:qg W
 pa:PA X es (tOA b W)
def nZ.rel(r:nZ b S M Z U H G d v):bL b S M Z U H G:=let⟨G1,o,r1,_⟩:=r;⟨G1,o,r1⟩
def lO.rel(r:lO b S M Z U H G ds vs):bL b S M Z U H G:=let⟨G1,o,r1,_⟩:=r;⟨G1,o,r1⟩
section
variable{X:Cx}{b:Bo}{e e1:Expr}{es:List Expr}{pos p:Pos}
def zmV{A:aJ->WE}(h:∀S M G1,DE X (bR b S M G1) e (A S)):OE X b e (λZ S Q=>A S Z λd=>Q d S)where
 mono:=λZ S Q Q' l q=>(h S (λ_=>none) (λ_=>none)).mono Z _ _ (λd z=>l d S z) q
 pe:=λaa s U H Q I ⟨Z,G,S,M,⟨G1,o,r⟩,q⟩=>(h S M G1).pe aa s U H Q I ⟨Z,G,r,(h S M G1).mono Z _ _ (λd z v H' G' t e=>z v H' G' M ⟨G1,o,r.step t,e⟩ t.gg (Dm.refl M)) q⟩
abbrev aO:WOA:=λZ S Q=>Q [] S
abbrev bF(A:WOE)(B:WOA):WOA:=λZ S Q=>A Z S λd S1=>B Z S1 λds S2=>Q (d::ds) S2
def zq1(h:PA X es t)(k:∀ U H Q,t' U H Q->t U H Q):PA X es t':=λpos aa s U H Q I q=>h pos aa s U H Q I (k U H Q q)
def cU:OA X b [] aO:=⟨λZ S Q Q' l q=>l _ S q,zq1 nF λU H Q ⟨Z,G,S,M,⟨G1,o,r⟩,q⟩=>q [] H G M ⟨G1,o,r,rfl⟩ (Same.refl _) (Dm.refl M)⟩
def bV(hA:OE X b e A)(hB:OA X b es B)(hs:starEach (e::es) X.env=(false,eval e X.env)::starEach es X.env:=by rfl):OA X b (e::es) (bF A B)where
 mono:=λZ S Q Q' l q=>hA.mono Z S _ _ (λd S1 z=>hB.mono Z S1 _ _ (λds S2 y=>l _ S2 y) z) q
 pa:=zq1 (kj hA.pe hB.pa hs) λU H Q ⟨Z,G,S,M,r,q⟩=>⟨Z,G,S,M,r,hA.mono Z S _ _ (λd S1 z v H1 G1 M1 r1 s1 m1=>⟨Z,G1,S1,M1,r1.rel,hB.mono Z S1 _ _ (λds S2 y vs H2 G2 M2 r2 s2 m2=>by
   obtain⟨Ga,o,ra,ea⟩:=r1;obtain⟨Gb,o',rb,eb⟩:=r2;exact y _ H2 G2 M2 ⟨Gb,o',rb,v,vs,rfl,ea.carry s2 rb.apart,eb⟩ (s1.trans s2) (m1.trans m2)) z⟩) q⟩
def bL.called(r:bL b S M Z U H G)(e:wR b.β M M' H G H' G')(k:Kn b.K b.β G' S' M' ad')(z:Rep ⟨b.K,b.β,H,G,True⟩ G' d v):nZ b S' M' Z U H' G' d v:=by
 obtain⟨G1,o,r1⟩:=r;refine⟨G',o.eff r1 e,r1.eff (λa z=>⟨(o.mb a z).1,(o.mb a z).2.2⟩) e ⟨ad',k⟩,Rep.reb (c:=bR b S' M' G') (c':=⟨b.K,b.β,H,G,True⟩) rfl rfl (λa ga h=>?_) z⟩
 have:=aV.mp (r1.new0 h)
 refine aV.mpr ⟨?_,this.2⟩;cases y:M' a with
 |none=>rfl
 |some u=>exact absurd (e.mg a (by rw[y];simp)).1 ga
def bL.give(hK:b.K=K)(r:lO b S M Z U H G ds vs)(hn:ds.length=n)
  (q:vV F ds S (λd S'=>∀v H' G' M',nZ b S' M' Z U H' G' d v->Same G G'->Dm M M'->Q v H') λnm S'=>∀C H' G' M',mg nm=some (.ref C)->bL b S' M' Z U H' G'->Same G G'->Dm M M'->E1 (.ref C) none H'):bZ K mg n F vs H Q E1:=by
 subst hK;have rl:=r.rel;obtain⟨G1,o,r1,e⟩:=r;obtain⟨ad,k⟩:=r1.kn;refine⟨b.β,G,S,M,ad,ds,r1.gh,r1.bx,λa u h=>r1.stp.fr a u (o.mb a (by rw[h];simp)).2.2 (qN h),k.mono r1.stp.gg r1.apart,aC.back (c':=bR b S M G1) (c:=il b.K b.β G) rfl rfl (λ_ _=>rfl) e,by rw[<-e.length];exact hn,vB F (λd S' z v H' G' M' ad' ef k' e'=>z v H' G' M' (rl.called ef k' e') ef.gg ef.dm) (λnm S' z C H' G' M' ad' hm ef k'=>z C H' G' M' hm (rl.called (d:=.non) ef k' rfl).rel ef.gg ef.dm) q⟩
end
structure Met(P:Program)(w:World)(K:qd)(mg:Str->Option Value)(base:Heap)(CX:qC)(C:Addr)(m:Str)(k:Nat)(ps:List Str)(sp:Sp):Prop where
 ex:∃f fd,aG P w K mg base CX k f fd ps sp/\jN K C/\Meth K C m f/\Binds K fd ps []
def XO(b:Bo)(mg:Str->Option Value)(y:Str->aJ->Prop):XK:=λv _ H'=>∃nm C S' M' Z U G',v=.ref C/\y nm S'/\mg nm=some (.ref C)/\bL b S' M' Z U H' G'
theorem Kp{m:Str}:∀{fs:List (Str×At)}{as:List Addr},(∀x∈fs,x.1≠m)->(jw fs as).lookup m=none
 |[],_,_=>rfl
 |_::_,[],_=>rfl
 |x::fs,a::as,h=>by
  show((x.1,V.ref a)::jw fs as).lookup m=none;rw[pM]
  have:(m==x.1)=false:=by
   rw[YAE];exact YAD (h x (by simp))
  rw[this];exact Kp λy hy=>h y (by simp[hy])
section
variable{X:Cx}{b:Bo}{e:Expr}{es:List Expr}{pos p apos:Pos}{y:Str->aJ->Prop}
abbrev wB(n:Nat)(F:cD)(y:Str->aJ->Prop)(R:WOA):WOE:=λZ S Q=>R Z S λds S1=>ds.length=n/\vV F ds S1 Q y
def zoD(h:qg R):qg (wB n F y R):=λZ S Q Q' l q=>h Z S _ _ (λds S1 z=>⟨z.1,vB F l (λ_ _ w=>w) z.2⟩) q
def Ff(C:eY X.prog X.w X.K X.mg X.base x k ps (bZ X.K X.mg n F))(hR:OA X b (e::es) R)(hx:jZ (aZ X.prog X.w) X (XO b X.mg y))(hg:Gl X x:=by rfl)
  (hdb:ZD x:=by decide) (sk:Sk X e es pos:=by exact⟨rfl,rfl⟩) (hK:b.K=X.K:=by rfl) (hr:bA k X.A:=by decreasing_trivial) :
  OE X b (.Call (.Name x p) (e::es) [] pos) (wB n F y R)where
 mono:=zoD hR.mono
 pe:=by
  obtain⟨f,fd,FO,hm,hk,hb⟩:=C.ex;refine dw (zq FO hr hg hm hk hb .nil hx hR.pa hdb sk.1 sk.2) λU H Q ⟨Z,G,S,M,r,q⟩=>⟨Z,G,S,M,r,hR.mono Z S _ _ (λds S1 z vs H' G' M' r' s' m'=>?_) q⟩;show bZ X.K X.mg n F (vs++[]) H' Q _;rw[YAF];exact bL.give hK r' z.1 (vB F (λd S' w v H2 G2 M2 r2 s2 m2=>w v H2 G2 M2 r2 (s'.trans s2) (m'.trans m2)) (λnm S' w C H2 G2 M2 hc r2 s2 m2=>⟨nm,C,S',M2,Z,U,G2,rfl,w,hc,r2⟩) z.2)
abbrev dC(i:Nat)(C:Addr)(m:Str)(n:Nat)(F:cD)(y:Str->aJ->Prop)(R:WOA):WOE:=λZ S Q=>match Z[i]? with
 |some (.val (.obj a))=>(∃o,S a=some o/\o.C=C/\∀x∈o.fs,x.1≠m)/\R Z S λds S1=>ds.length+1=n/\vV F (.obj a::ds) S1 Q y
 |_=>False
def zjU(h:qg R):qg (dC i C m n F y R):=λZ S Q Q' l q=>by
 unfold dC at q ⊢;split at q
 .exact⟨q.1,h Z S _ _ (λds S1 z=>⟨z.1,vB F l (λ_ _ w=>w) z.2⟩) q.2⟩
 .exact q.elim
def bL.at{S:aJ}{M H G:Hp}{Z:Env}{U:St}{a:Addr}{o:Ob}(r:bL b S M Z U H G)(h:S a=some o):∃dx as,H a=some (.ins o.C dx (jw o.fs as)):=by
 obtain⟨G1,u,r1⟩:=r;obtain⟨ad,k⟩:=r1.kn;obtain⟨dx,h1,_⟩:=k.obj a o h;exact⟨dx,ad a,r1.stp.fr a _ (u.mb a (by rw[h1];simp)).2.2 (qN h1)⟩
def zo4{S:aJ}{M G:Hp}{Z:Env}{U:St}{H:Hp}{Q:VK}{i:Nat}{C:Addr}{m:Str}{n:Nat}{F:cD}{R:WOA}{E:XK}{t:TA}{x:Str}(hK:b.K=X.K)(hR:qg R)(r:bL b S M Z U H G)(q:dC i C m n F y R Z S λd S'=>∀v H' G' M',nZ b S' M' Z U H' G' d v->Same G G'->Dm M M'->Q v H')(hE:∀nm C S' M' H' G',y nm S'->X.mg nm=some (.ref C)->bL b S' M' Z U H' G'->Same G G'->Dm M M'->E (.ref C) none H')(ht:∀ U H Q,tOA b R U H Q->t U H Q) :
  Ey C m (bZ X.K X.mg n F) [] E (xQ b (λZ S Q=>vW i Z λd=>Q d S)) t U H Q:=by
 unfold dC at q;split at q
 .rename_i a ea
  obtain⟨⟨o,h1,h2,h3⟩,q⟩:=q;refine⟨Z,G,S,M,r,?_⟩;show vW i Z _;unfold vW;rw[ea];intro v H1 G1 M1 r1 s1 m1;obtain⟨dx,as,h4⟩:=r1.rel.at h1;obtain⟨Ga,oa,ra,e⟩:=r1;have ev:v=V.ref a:=e;subst ev;rw[h2]at h4;refine⟨a,dx,jw o.fs as,rfl,h4,Kp h3,ht _ _ _ ⟨Z,G1,S,M1,⟨Ga,oa,ra⟩,hR Z S _ _ (λds S1 z vs H' G' M' r' s' m'=>?_) q⟩⟩;show bZ X.K X.mg n F (V.ref a::(vs++[])) H' Q _;rw[YAF];have r2:lO b S1 M' Z U H' G' (.obj a::ds) (V.ref a::vs):=by
   obtain⟨Gb,ob,rb,eb⟩:=r';exact⟨Gb,ob,rb,V.ref a,vs,rfl,rfl,eb⟩
  exact bL.give hK r2 z.1 (vB F (λd S' w v H2 G2 M2 r2 s2 m2=>w v H2 G2 M2 r2 ((s1.trans s').trans s2) ((m1.trans m').trans m2)) (λnm S' w C H2 G2 M2 hc r2 s2 m2=>hE nm C S' M2 H2 G2 w hc r2 ((s1.trans s').trans s2) ((m1.trans m').trans m2)) z.2)
 .exact q.elim
def zmp{U:St}{H:Hp}{Q:VK}{i:Nat}{C:Addr}{m:Str}{n:Nat}{F:cD}{R:WOA}{sp:Sp}{E:XK}{t:TA}{x:Str}(hK:b.K=X.K)(hsp:sp=bZ X.K X.mg n F)(hE:E=XO b X.mg y)(hR:qg R)(hv:∀S M G1,DE X (bR b S M G1) (.Name x p) (vW i))(q:xQ b (dC i C m n F y R) U H Q)(ht:∀ U H Q,tOA b R U H Q->t U H Q) :
  Ey C m sp [] E (xQ b (λZ S Q=>vW i Z λd=>Q d S)) t U H Q:=by
 subst hsp hE;obtain⟨Z,G,S,M,r,q⟩:=q;exact zo4 (X:=X) (x:=x) hK hR r q (λnm C S' M' H' G' w hc r2 _ _=>⟨nm,C,S',M',Z,U,G',rfl,w,hc,r2⟩) ht
def jd(T:Met X.prog X.w X.K X.mg X.base (aZ X.prog X.w) C m k ps (bZ X.K X.mg n F))(hv:∀S M G1,DE X (bR b S M G1) (.Name x p) (vW i))(hR:OA X b (e::es) R)(hx:jZ (aZ X.prog X.w) X (XO b X.mg y))
  (sk:Sk X e es pos:=by exact⟨rfl,rfl⟩)
  (ht:eval (.Call (.Attribute (.Name x p) m apos) (e::es) [] pos) X.env=(do
   let ov <-eval (.Name x p) X.env
   standAt apos.atName
   let(f,first) <-holding [ov] (getMethod ov m pl)
   callWith pos f first (backTo pos (starEach (e::es) X.env)) (backToKw pos (keywordEach [] X.env))):=by rfl) (hK:b.K=X.K:=by rfl) (hr:bA k X.A:=by decreasing_trivial) :
  OE X b (.Call (.Attribute (.Name x p) m apos) (e::es) [] pos) (dC i C m n F y R)where
 mono:=zjU hR.mono
 pe:=by
  obtain⟨f,fd,FO,hc,hm,hb⟩:=T.ex;exact dw (zqE (zmV (A:=λ_=>vW i) hv).pe hc hm FO hr hb .nil hx hR.pa sk.1 sk.2 ht) λU H Q q=>zmp hK rfl rfl hR.mono hv q λ_ _ _ z=>z
def ztP(T:Met X.prog X.w X.K X.mg X.base (aZ X.prog X.w) C m k ps (bZ X.K X.mg n F))(hv:∀S M G1,DE X (bR b S M G1) (.Name x p) (vW i))(hx:jZ (aZ X.prog X.w) X (XO b X.mg y))
  (ht:eval (.Call (.Attribute (.Name x p) m apos) [] [] pos) X.env=(do
   let ov <-eval (.Name x p) X.env
   standAt apos.atName
   let(f,first) <-holding [ov] (getMethod ov m pl)
   callWith pos f first (backTo pos (starEach [] X.env)) (backToKw pos (keywordEach [] X.env))):=by rfl) (hK:b.K=X.K:=by rfl) (hr:bA k X.A:=by decreasing_trivial) :
  OE X b (.Call (.Attribute (.Name x p) m apos) [] [] pos) (dC i C m n F y aO)where
 mono:=zjU (cU (X:=X) (b:=b)).mono
 pe:=by
  obtain⟨f,fd,FO,hc,hm,hb⟩:=T.ex;exact dw (zh3 (zmV (A:=λ_=>vW i) hv).pe hc hm FO hr hb .nil hx ht) λU H Q q=>zmp hK rfl rfl (cU (X:=X) (b:=b)).mono hv q λ_ _ _ ⟨Z,G,S,M,⟨G1,o,r⟩,q⟩=>q [] _ G M ⟨G1,o,r,rfl⟩ (Same.refl _) (Dm.refl M)
abbrev jR(A:WOE):WF:=λE S Z=>A Z S λ_ S'=>E.nx S' Z
def nH(hA:OE X b e A)(hs:swapsWith e none pos.line X.env=pure false:=by rfl):OS X b (.Expr e pos) (jR A)where
 mono:=λE E' S Z l q=>hA.mono Z S _ _ (λ_ S' z=>l.nx S' Z z) q
 ps:=lZ (Ex hA.pe hs) λD U H ⟨Z,G,S,M,r,q⟩=>⟨Z,G,S,M,r,hA.mono Z S _ _ (λd S' z v H' G' M' r' s' m'=>z U H' G' M' r'.rel s' m') q⟩
abbrev j5(A:WOE):WF:=λE S Z=>A Z S λd S'=>E.rt S' d
def uJ(hA:OE X b e A):OS X b (.Return (some e) pos) (j5 A)where
 mono:=λE E' S Z l q=>hA.mono Z S _ _ (λd S' z=>l.rt S' d z) q
 ps:=lZ (yq hA.pe) λD U H ⟨Z,G,S,M,r,q⟩=>⟨Z,G,S,M,r,hA.mono Z S _ _ (λd S' z v H' G' M' ⟨G1,o,r',e⟩ s' m'=>z v H' G' M' G1 r'.kn o r'.stp m' e) q⟩
abbrev f9(t:Tg)(A:WOE):WF:=λE S Z=>A Z S λd S'=>gD t d Z (E.nx S')
def ziq(h:qg A):Gv (f9 t A):=λE E' S Z l q=>h Z S _ _ (λd S' z=>tM t d Z (λZ' z=>l.nx S' Z' z) z) q
def zlw(mA:qg A)(D:Ends)(U:St)(H:Hp)(h:tOS b (f9 t A) D U H):tR (xQ b A) (lC b.K t) D U H:=by
 obtain⟨Z,G,S,M,r,q⟩:=h;refine⟨Z,G,S,M,r,mA Z S _ _ (λd S' z v H' G' M' ⟨G1,o,r',e⟩ s' m'=>?_) q⟩;exact yw (c:=bR b S' M' G1) t d v Z U r' e (tM t d Z (λZ' w U' r2=>w U' H' G' M' ⟨G1,o,r2⟩ s' m') z)
def wY(i:Nat)(hA:OE X b e A)(hi:X.N[i]?=some x:=by rfl)(hx:Loc X.env.scope x:=by first|exact Or.inl rfl|exact Or.inr rfl)(hs:swapsWith e (some (.Name x p)) pos.line X.env=pure false:=by rfl)(hf:X.fn x=true\/X.env.scope.names.lookup x=some .local:=by first|exact .inl rfl|exact .inr rfl|assumption)(hN:X.N.Nodup:=by decreasing_trivial):OS X b (.Assign [.Name x p] e pos) (f9 (.nm i) A):=
 ⟨ziq hA.mono,lZ (xJ hN hi hx hA.pe hs hf) λD U H h=>zlw (t:=.nm i) hA.mono D U H h⟩
def zte(t:Tg)(hA:OE X b e A)(hg:PG X tg (lC b.K t))(hs:swapsWithSole [tg] e pos.line X.env=pure false:=by rfl)(hw:swappedStores [tg] e X.env=pure none:=by rfl)
  (h1:(assignEach [tg] X.env).map (·.2)=[assign tg X.env]:=by rfl):OS X b (.Assign [tg] e pos) (f9 t A):=
 ⟨ziq hA.mono,lZ (CG hA.pe hg hs hw h1) λD U H h=>zlw hA.mono D U H h⟩
end
theorem zq7 :∀{fs:List (Str×At)}{as:List Addr}{j:Nat}{xs:At},fs[j]?=some (f,xs)->jw (fs.set j (f,ys)) as=jw fs as
 |[],_,_,_,h=>by simp at h
 |_::_,[],0,_,_=>rfl
 |_::_,[],_+1,_,_=>rfl
 |x::fs,a::as,0,xs,h=>by
  have:x=(f,xs):=by simpa using h
  subst this;rfl
 |x::fs,a::as,j+1,xs,h=>by
  show(x.1,V.ref a)::jw (fs.set j (f,ys)) as=(x.1,V.ref a)::jw fs as;rw[zq7 (by simpa using h)]
theorem znu:∀{fs:List (Str×At)}{as:List Addr}{j:Nat}{xs:At},(∀i y,i<j->fs[i]?=some y->y.1≠f)->fs[j]?=some (f,xs)->as.length=fs.length->∃a,as[j]?=some a/\(jw fs as).lookup f=some (.ref a)
 |[],_,_,_,_,h,_=>by simp at h
 |_::_,[],_,_,_,_,h=>by simp at h
 |x::fs,a::as,0,xs,_,h,_=>by
  have:x=(f,xs):=by simpa using h
  subst this;exact⟨a,rfl,by show((f,V.ref a)::jw fs as).lookup f=_;simp⟩
 |x::fs,a::as,j+1,xs,hn,h,hl=>by
  obtain⟨b,h1,h2⟩:=znu (fs:=fs) (as:=as) (j:=j) (λi y hi e=>hn (i+1) y (by omega) (by simpa using e)) (by simpa using h) (by simpa using hl);refine⟨b,by simpa using h1,?_⟩;show((x.1,V.ref a)::jw fs as).lookup f=_;rw[pM]
  have:(f==x.1)=false:=by rw[YAE];exact YAD (hn 0 x (by omega) rfl)
  rw[this];exact h2
def qW(o:Ob)(j:Nat)(f:Str)(y:At):Ob:=⟨o.C,o.fs.set j (f,y)⟩
abbrev d9(o:Ob)(j:Nat)(f:Str)(ys:List D):Ob:=qW o j f (.l ys)
section
variable{b:Bo}
def wz(o:Ob)(f:Str)(j:Nat)(x:At):Prop:=o.fs[j]?=some (f,x)/\∀i y,i<j->o.fs[i]?=some y->y.1≠f
abbrev lW(o:Ob)(f:Str)(j:Nat)(xs:List D):Prop:=wz o f j (.l xs)
def Kn.atA{K:qd}{β:Addr}{G:Hp}{S:aJ}{M:Hp}{ad:Addr->List Addr}{p:Addr}{o:Ob}{f:Str}{j:Nat}{x:At}(k:Kn K β G S M ad)(h:S p=some o)(hf:wz o f j x):∃dx a u,M p=some (.ins o.C dx (jw o.fs (ad p)))/\(jw o.fs (ad p)).lookup f=some (.ref a)/\(ad p)[j]?=some a/\M a=some u/\uo (il K β G) G x u:=by
 obtain⟨dx,h1,h2⟩:=k.obj p o h;obtain⟨a,h3,h4⟩:=znu hf.2 hf.1 h2;obtain⟨u,h5,h6⟩:=k.lst p o j a _ h h3 hf.1;exact⟨dx,a,u,h1,h4,h3,h5,h6⟩
def Kn.at(k:Kn K β G S M ad)(h:S p=some o)(hf:lW o f j xs):∃dx a vs,M p=some (.ins o.C dx (jw o.fs (ad p)))/\(jw o.fs (ad p)).lookup f=some (.ref a)/\(ad p)[j]?=some a/\M a=some (.lst vs)/\aC (il K β G) G xs vs:=by
 obtain⟨dx,a,_,h1,h2,h3,h4,vs,rfl,h5⟩:=k.atA h hf;exact⟨dx,a,vs,h1,h2,h3,h4,h5⟩
def Kn.put(k:Kn K β G S M ad)(h:S p=some o)(hf:wz o f j x0)(ha:(ad p)[j]?=some a)(hm:M a=some u0)(hu:∀C dx fs,u0≠.ins C dx fs)(hy:uo (il K β G) G ys ws):Kn K β G (cW S p (qW o j f ys)) (upd M a ws) ad:=by
 have ins:∀q u,S q=some u->q≠a:=λq u hq z=>by
  obtain⟨dx,h1,_⟩:=k.obj q u hq;rw[z,hm]at h1;exact hu _ _ _ (Option.some.inj h1)
 have some':∀q,cW S p (qW o j f ys) q≠none->S q≠none:=λq hq z=>by
  by_cases e:q=p
  .subst e;rw[h]at z;cases z
  .rw[gQ e]at hq;exact hq z
 refine⟨λq u hq=>?_,λq u i c x hq hc hx=>?_,λq r i l c hq hr=>k.dis q r i l c (some' q hq) (some' r hr),λc u hc=>?_,λc hc=>?_⟩
 .by_cases e:q=p
  .subst e;rw[gK]at hq;cases hq;obtain⟨dx,h1,h2⟩:=k.obj q o h;exact⟨dx,by rw[ao (ins q o h)];show M q=some (.ins o.C dx (jw (o.fs.set j (f,ys)) (ad q)));rw[zq7 hf.1];exact h1,by show(ad q).length=(o.fs.set j (f,ys)).length;rw[List.length_set];exact h2⟩
  .rw[gQ e]at hq;obtain⟨dx,h1,h2⟩:=k.obj q u hq;exact⟨dx,by rw[ao (ins q u hq)];exact h1,h2⟩
 .by_cases e:q=p
  .subst e;rw[gK]at hq;cases hq;by_cases ij:i=j
   .subst ij;rw[ha]at hc;cases hc;have hx':(o.fs.set i (f,ys))[i]?=some x:=hx;rw[pZ (nW.mp hf.1).1]at hx';cases hx';exact⟨ws,cG,hy⟩
   .have hx':(o.fs.set j (f,ys))[i]?=some x:=hx;rw[mY (YAD ij)]at hx';obtain⟨us,h1,h2⟩:=k.lst q o i c x h hc hx'
    have:c≠a:=λz=>ij (k.dis q q i j c (by rw[h];simp) (by rw[h];simp) hc (z▸ha)).2
    exact⟨us,by rw[ao this];exact h1,h2⟩
  .rw[gQ e]at hq;obtain⟨us,h1,h2⟩:=k.lst q u i c x hq hc hx
   have:c≠a:=λz=>e (k.dis q p i j c (by rw[hq];simp) (by rw[h];simp) hc (z▸ha)).1
   exact⟨us,by rw[ao this];exact h1,h2⟩
 .by_cases e:c=a
  .subst e;rw[cG]at hc;cases hc;exact hy.kin.1
  .rw[ao e]at hc;exact k.kin c u hc
 .by_cases e:c=a
  .subst e;exact k.ap c (by rw[hm];simp)
  .rw[ao e]at hc;exact k.ap c hc
def bL.put'(u:Out b M G1)(r:Rel (bR b S M G1) Z U H G)(k:Kn b.K b.β G1 S M ad)(h:S p=some o)(hf:wz o f j x0)(ha:(ad p)[j]?=some a)(hm:M a=some u0)(hu:∀C dx fs,u0≠.ins C dx fs)(hy:uo (il b.K b.β G) G ys ws):Out b (upd M a ws) G/\Rel (bR b (cW S p (qW o j f ys)) (upd M a ws) G) Z U (upd H a ws) G/\Kn b.K b.β G (cW S p (qW o j f ys)) (upd M a ws) ad/\Dm M (upd M a ws):=by
 have ma:M a≠none:=by rw[hm];simp
 have ab:=(u.mb a ma).2.2;have hH:∀c w,M c=some w->H c=some w:=λc w hc=>r.stp.fr c w (u.mb c (by rw[hc];simp)).2.2 (qN hc);have dom:∀c,upd M a ws c≠none->M c≠none:=λc hc=>by
  by_cases e:c=a
  .subst e;exact ma
  .rw[ao e]at hc;exact hc
 have dm:Dm M (upd M a ws):=λc hc=>by
  by_cases e:c=a
  .subst e;rw[cG];simp
  .rw[ao e];exact hc
 have ef:wR b.β M (upd M a ws) H G (upd H a ws) G:=by
  refine⟨Same.refl _,λc w hc=>?_,λc w n hc hw=>?_,λc w hc=>?_,λc hc=>.inl (dom c hc),λc hc=>⟨r.apart c (dom c hc),(u.mb c (dom c hc)).2.2⟩,λc hc=>.inl hc,?_,λcc q s d hb=>⟨q,s,d,by rw[ao (YAD ab)];exact hb⟩,dm⟩
  .rw[ao (λz=>by rw[z,r.apart a ma]at hc;cases hc)];exact r.gh c w hc
  .rw[ao (λz=>by rw[z]at hc;exact ma hc)];exact hw
  .by_cases e:c=a
   .subst e;rw[cG]at hc ⊢;exact hc
   .rw[ao e]at hc ⊢;exact hH c w hc
  .obtain⟨cc,q,s,d,ns,hb,z⟩:=r.bx.ex;exact⟨⟨cc,q,s,d,ns,by rw[ao (YAD ab)];exact hb,z⟩,r.bx.still⟩
 have k':=(k.mono r.stp.gg r.apart).put h hf ha hm hu hy;exact⟨u.eff r ef,r.eff (λc hc=>⟨(u.mb c hc).1,(u.mb c hc).2.2⟩) ef ⟨ad,k'⟩,k',dm⟩
def bL.put(u:Out b M G1)(r:Rel (bR b S M G1) Z U H G)(k:Kn b.K b.β G1 S M ad)(h:S p=some o)(hf:lW o f j xs)(ha:(ad p)[j]?=some a)(hm:M a=some (.lst vs))(hy:aC (il b.K b.β G) G ys ws):bL b (cW S p (d9 o j f ys)) (upd M a (.lst ws)) Z U (upd H a (.lst ws)) G/\Dm M (upd M a (.lst ws)):=
 let⟨h1,h2,_,h4⟩:=bL.put' u r k h hf ha hm (λ_ _ _ z=>by cases z) (ys:=.l ys) ⟨ws,rfl,hy⟩
 ⟨⟨G,h1,h2⟩,h4⟩
end
section
variable{X:Cx}{b:Bo}{c:Bk}{e:Expr}{pos p fpos apos cpos:Pos}
def jr(h:aC (il K β G) G ds vs)(s:Same G G'):aC (il K β G') G' ds vs:=aC.back (c':=il K β G) (c:=il K β G') rfl rfl (λ_ e=>e) (h.mono s)
def jK(i:Nat)(f:Str)(C:Addr)(A:aJ->WE):WF:=λE S Z=>match Z[i]? with
 |some (.val (.obj q))=>∃o j xs,S q=some o/\o.C=C/\lW o f j xs/\A S Z λd=>xs.length<100000/\E.nx (cW S q (d9 o j f (xs++[d.old]))) Z
 |_=>False
def znW(i:Nat)(hA:∀S M G1,DE X (bR b S M G1) e (A S))(hc:jN X.K C)(hn:bH X.K C f)(nk:Nk X i x:=by decreasing_trivial)
  (hb0:ZB (.Name x p) f X:=by rfl)
  (hbase:ZB (.Attribute (.Name x p) f fpos) "append" X:=by rfl)
  (hfew:ZF cpos e X:=by rfl)
  (hline:(apos.endLine==cpos.line)=true:=by rfl) (hs:ZE e X:=by rfl)
  (hsw:swapsWith (.Call (.Attribute (.Attribute (.Name x p) f fpos) "append" apos) [e] [] cpos) none pos.line X.env=pure false:=by rfl) (hK:b.K=X.K:=by rfl):OS X b (.Expr (.Call (.Attribute (.Attribute (.Name x p) f fpos) "append" apos) [e] [] cpos) pos) (jK i f C A)where
 mono:=λE E' S Z l q=>by
  unfold jK at q ⊢;split at q
  .obtain⟨o,j,xs,h1,h2,h3,q⟩:=q;exact⟨o,j,xs,h1,h2,h3,(hA S (λ_=>none) (λ_=>none)).mono Z _ _ (λd z=>⟨z.1,l.nx _ _ z.2⟩) q⟩
  .exact q.elim
 ps:=λaa s U H D I ⟨Z,G,S,M,⟨G1,u,r⟩,q⟩=>Ex (HB YAW YBN YBO zg8 (tE (kY nk.N nk.v nk.d nk.c) hb0) (kj (hA S M G1).pe nF hs) hbase hfew hline hs rfl) hsw aa s U H D I (by
  unfold jK at q;split at q
  .rename_i a0 ei
   obtain⟨o,j,xs,h1,h2,h3,q⟩:=q;obtain⟨ad,k⟩:=r.kn;obtain⟨dx,a,vs,k1,k2,k3,k4,k5⟩:=k.at h1 h3;obtain⟨v,ev,rv⟩:=r.slot i _ ei;have rv':=rv;subst rv';have hM:=λc w hc=>r.stp.fr c w (u.mb c (by rw[hc];simp)).2.2 (qN hc);refine⟨.ref a0,ev,a0,o.C,dx,_,.ref a,rfl,hM _ _ k1,h2▸hc,h2▸hn,k2,.inl ⟨rfl,vs,cg.of (hM _ _ k4)⟩,Z,G,r,(hA S M G1).mono Z _ _ (λd z w H' G' t e=>?_) q⟩;have r':=r.step t;have ab:=(u.mb a (by rw[k4];simp)).2.2;have hy:=(jr k5 r'.stp.gg).append (.one (Rep.hand (c:=bR b S M G1) (c':=il b.K b.β G') rfl rfl e));obtain⟨r2,dm⟩:=bL.put u r' k h1 h3 k3 k4 hy;exact⟨a,vs,w,rfl,rfl,t.fr a _ ab (hM _ _ k4),by rw[<-k5.length,YAS];omega,z.2 U _ G' _ r2 t.gg dm⟩
  .exact q.elim)
def xj(S:aJ)(i:Nat)(f:Str)(C:Addr)(B:WE):WE:=λZ Q=>match Z[i]? with
 |some (.val (.obj q))=>∃o j xs,S q=some o/\o.C=C/\lW o f j xs/\B Z λy=>CJ xs y λd=>Q d.old
 |_=>False
def qJ(c:Bk)(S:aJ):Prop:=∃M ad,Kn c.K c.β c.G0 S M ad/\∀a o,M a=some o->c.H0 a=some o
def mZ(h:(bR b S M G1).P):qJ (bR b S M G1) S:=let⟨ad,k⟩:=h;⟨M,ad,k,λ_ _ e=>qN e⟩
def Rel.obj(r:Rel c Z U H G)(kw:qJ c S)(h:S q=some o)(hf:lW o f j xs):∃dx fs a vs,H q=some (.ins o.C dx fs)/\fs.lookup f=some (.ref a)/\H a=some (.lst vs)/\aC (il c.K c.β G) G xs vs/\a≠c.β/\G a=none:=by
 obtain⟨M,ad,k,sub⟩:=kw;obtain⟨dx,a,vs,k1,k2,k3,k4,k5⟩:=k.at h hf;have ma:M a≠none:=by rw[k4];simp
 refine⟨dx,_,a,vs,r.stp.fr q _ (k.ap q (by rw[k1];simp)).2 (sub _ _ k1),k2,r.stp.fr a _ (k.ap a ma).2 (sub _ _ k4),jr k5 r.stp.gg,(k.ap a ma).2,?_⟩;cases e:G a with
 |none=>rfl
 |some w=>
  rcases r.stp.nw a (by rw[e];simp)with z|z|⟨w',z,st⟩
  .exact absurd (k.ap a ma).1 z
  .rw[sub _ _ k4]at z;cases z
  .rw[sub _ _ k4]at z;cases z;exact st.elim
end
section
variable{X:Cx}{b:Bo}{c:Bk}{e:Expr}{S:aJ}{C:Addr}{f:Str}{pos p fpos lp:Pos}
def zyX(i:Nat)(hB:DE X c e B)(hk:c.P->qJ c S)(hc:jN X.K C)(hn:bH X.K C f)(hs:zm7 e:=by intro _ _;rfl)(nk:Nk X i x:=by decreasing_trivial)(hb0:ZB (.Name x p) f X:=by rfl)(hK:c.K=X.K:=by rfl):DE X c (.Subscript (.Attribute (.Name x p) f fpos) e pos) (xj S i f C B)where
 mono:=λZ Q Q' k q=>by
  unfold xj at q ⊢;split at q
  .obtain⟨o,j,xs,h1,h2,h3,q⟩:=q;exact⟨o,j,xs,h1,h2,h3,hB.mono Z _ _ (λy z=>zoo (λd w=>k _ w) z) q⟩
  .exact q.elim
 pe:=dw (uN (hK▸zty) (tE (kY nk.N nk.v nk.d nk.c) hb0) hB.pe hs) λU H Q ⟨Z,G,r,q⟩=>by
  unfold xj at q;split at q
  .rename_i a0 ei
   obtain⟨o,j,xs,h1,h2,h3,q⟩:=q;obtain⟨dx,fs,a,vs,g1,g2,g3,g4,g5,g6⟩:=r.obj (hk r.kn) h1 h3;obtain⟨v,ev,rv⟩:=r.slot i _ ei;have rv':=rv;subst rv';refine⟨.ref a0,ev,a0,o.C,dx,fs,.ref a,rfl,g1,h2▸hc,h2▸hn,g2,Z,G,r,hB.mono Z _ _ (λy z w H1 G1 t1 e1=>?_) q⟩;cases y with
   |int k=>
    cases e1;have z:(match lE xs k with|some d=>_|none=>False):=z;split at z
    .rename_i d' e'
     obtain⟨w',f',rw'⟩:=zmA g4 e';exact .inl ⟨a,vs,k,w',rfl,rfl,cg.of (t1.fr a _ g5 g3),f',z w' H1 G1 t1 ((Rep.hand (c:=il c.K c.β G) (c':=c) rfl rfl rw').mono t1.gg)⟩
    .exact z.elim
   |_=>exact z.elim
  .exact q.elim
def pN(S:aJ)(i:Nat)(f:Str)(C:Addr):WT:=λZ Q=>match Z[i]? with
 |some (.val (.obj q))=>∃o j xs,S q=some o/\o.C=C/\lW o f j xs/\Q (!xs.isEmpty)
 |_=>False
def zxy(i:Nat)(hk:c.P->qJ c S)(hc:jN X.K C)(hn:bH X.K C f)(nk:Nk X i x:=by decreasing_trivial)(hb0:ZB (.Name x p) f X:=by rfl)(he:∀whole,isTrue (.Attribute (.Name x p) f fpos) X.env whole=(do let v <-whole;standAt (Expr.Attribute (.Name x p) f fpos).pos;holding [v] (truthy v)):=by intro _;rfl)(hK:c.K=X.K:=by rfl):DT X c (.Attribute (.Name x p) f fpos) (pN S i f C)where
 mono:=λZ Q Q' k q=>by
  unfold pN at q ⊢;split at q
  .obtain⟨o,j,xs,h1,h2,h3,q⟩:=q;exact⟨o,j,xs,h1,h2,h3,k _ q⟩
  .exact q.elim
 pt:=zE (zkx (tE (kY nk.N nk.v nk.d nk.c) hb0) he) λU H Q ⟨Z,G,r,q⟩=>by
  unfold pN at q;split at q
  .rename_i a0 ei
   obtain⟨o,j,xs,h1,h2,h3,q⟩:=q;obtain⟨dx,fs,a,vs,g1,g2,g3,g4,g5,g6⟩:=r.obj (hk r.kn) h1 h3;obtain⟨v,ev,rv⟩:=r.slot i _ ei;have rv':v=V.ref a0:=rv;subst rv';refine⟨.ref a0,ev,a0,o.C,dx,fs,.ref a,rfl,g1,h2▸hc,h2▸hn,g2,!xs.isEmpty,.inl ⟨vs,cg.of g3,?_⟩,q H G r.refl⟩
   have:=g4.length
   cases xs<;>cases vs<;>first|rfl|simp at this
  .exact q.elim
def lw(S:aJ)(i:Nat)(f:Str)(C:Addr):WL:=λZ Q=>match Z[i]? with
 |some (.val (.obj q))=>∃o j xs,S q=some o/\o.C=C/\lW o f j xs/\Q (xs.map D.old)
 |_=>False
def zrJ(i:Nat)(hk:c.P->qJ c S)(hc:jN X.K C)(hn:bH X.K C f)(nk:Nk X i x:=by decreasing_trivial)(hb0:ZB (.Name x p) f X:=by rfl)(hg:Gl X "list":=by rfl)(he:starEach [.Attribute (.Name x p) f fpos] X.env=(false,eval (.Attribute (.Name x p) f fpos) X.env)::starEach [] X.env:=by rfl)(hK:c.K=X.K:=by rfl)(hm:X.mg "list"=none:=by decreasing_trivial):DF X c (.Call (.Name "list" lp) [.Attribute (.Name x p) f fpos] [] pos) (lw S i f C)where
 mono:=λZ Q Q' k q=>by
  unfold lw at q ⊢;split at q
  .obtain⟨o,j,xs,h1,h2,h3,q⟩:=q;exact⟨o,j,xs,h1,h2,h3,k _ q⟩
  .exact q.elim
 pe:=dw (Es zff hg hm Ma (kj (tE (kY nk.N nk.v nk.d nk.c) hb0) nF he) (by decide) (by decide) he rfl) λU H Q ⟨Z,G,r,q⟩=>by
  unfold lw at q;split at q
  .rename_i a0 ei
   obtain⟨o,j,xs,h1,h2,h3,q⟩:=q;obtain⟨dx,fs,a,vs,g1,g2,g3,g4,g5,g6⟩:=r.obj (hk r.kn) h1 h3;obtain⟨v,ev,rv⟩:=r.slot i _ ei;have rv':=rv;subst rv';refine⟨.ref a0,ev,a0,o.C,dx,fs,.ref a,rfl,g1,h2▸hc,h2▸hn,g2,a,vs,rfl,.inl (cg.of g3),λl hl=>q l vs _ _ (aY.own r.gh r.bx hl) cG (lU r.gh hl) hl (aC.hand (c:=il c.K c.β G) (c':=c) rfl rfl g4)⟩
  .exact q.elim
end
def gR(K:qd)(n:Nat)(F:aJ->Fn):Sp:=λvs H Q _=>∃ β G S ds,Same G H/\fU β H G/\(∃M ad,Kn K β G S M ad/\∀a o,M a=some o->H a=some o)/\aC (il K β G) G ds vs/\vs.length=n /\
 up (F S) ds λd=>∀v H' G',aY β H G H' G'->Rep ⟨K,β,H,G,True⟩ G' d v->Q v H'
abbrev rdB(K:qd)(β:Addr)(H G:Hp)(S:aJ):Bk:=⟨K,β,H,G,∃M ad,Kn K β G S M ad/\∀a o,M a=some o->H a=some o⟩
def ju(h:(rdB K β H G S).P):qJ (rdB K β H G S) S:=h
def t6{P:Program}{w:World}{K:qd}{mg:Str->Option Value}{base:Heap}{x qual:Str}{st:Stmt}{f:Addr}{fd:FuncData}{N ps:List Str}{k:Nat}{B:aJ->WS}(F:bD K x qual st f fd)
  (hB:∀{cdv:Value}{A:Around}{outer:List PySem.Env}{s:Shared}{H:Hp}{E:XK}{β:Addr}{G:Hp}(S:aJ),N.Nodup->bA k (A.deeper (PyProof.Rows.envOfC qual (gB st) s.heap.objs.size f cdv)) ->
   vG (dI dh P w K mg base N qual (gB st) f cdv A outer s H E).nox (rdB K β H G S) (nD st) (B S)) (S:dj N ps (gB st):=by exact⟨rfl,rfl,rfl,by decide,rfl,by decide,by decide⟩):aG P w K mg base dh (k+1) f fd ps (gR K ps.length λSo=>gC N.length (B So)):=by
 refine F.ok S (λvs H Q E ⟨β,G,So,ds,_,_,_,_,h,_⟩=>h) (λcdv A outer s H vs Q E hr ⟨β,G,So,ds,gh,bx,kn,hv,hl,P',q,hP⟩=>?_);have h:=@hB cdv A outer s H E β G So S.nd hr;have r0:=(JD (N:=N) gh bx hv).hyp kn;refine⟨_,h.pss,eU N.length ds,G,r0,h.mono {nx:=λ_=>P' .non,rt:=P',bk:=λ_=>False,ct:=λ_=>False} _ _ ⟨λZ z U H' G' r s'=>hP _ z .non H' G' r.stp rfl,λd z v H' G' t e=>hP _ z v H' G' t (Rep.reb (c:=⟨K,β,H,G,True⟩) (c':=rdB K β H G So) rfl rfl (λ_ _ w=>w) e),λZ z=>z.elim,λZ z=>z.elim⟩ q⟩
section
variable{X:Cx}{c:Bk}{e:Expr}{es:List Expr}{S:aJ}{pos p apos:Pos}
def Rel.know(r:Rel c Z U H G)(kw:qJ c S):∃M ad,Kn c.K c.β G S M ad/\∀a o,M a=some o->H a=some o:=by
 obtain⟨M,ad,k,sub⟩:=kw;refine⟨M,ad,k.mono r.stp.gg λa ma=>?_,λa o h=>r.stp.fr a o (k.ap a (by rw[h];simp)).2 (sub a o h)⟩;cases e:G a with
 |none=>rfl
 |some w=>
  cases y:M a with
  |none=>exact absurd y ma
  |some u=>
   rcases r.stp.nw a (by rw[e];simp)with z|z|⟨w',z,st⟩
   .exact absurd (k.ap a ma).1 z
   .rw[sub _ _ y]at z;cases z
   .rw[sub _ _ y]at z;cases z;exact absurd st (k.kin a _ y)
def Rel.read(r:Rel c Z U H G)(kw:qJ c S)(hK:c.K=X.K)(e:aC c G ds vs)(hn:ds.length=n)(q:up (F S) ds λd=>∀v H' G',aY c.β H G H' G'->Rep c G' d v->Q v H'):gR X.K n F vs H Q E:=by
 obtain⟨M,ad,k,sub⟩:=r.know kw;exact⟨c.β,G,S,ds,r.gh,r.bx,⟨M,ad,hK▸k,sub⟩,aC.back (c':=c) (c:=il X.K c.β G) hK rfl (λ_ _=>rfl) e,by exact e.length▸hn,
  qU (F S) ds _ _ (λd z v H2 G2 t2 e2=>z v H2 G2 t2 (Rep.back (c':=⟨X.K,c.β,H,G,True⟩) hK.symm rfl (λa h=>r.new0 h) e2)) q⟩
abbrev xR(S:aJ)(n:Nat)(F:aJ->Fn)(R:WL):WE:=λZ Q=>R Z λds=>ds.length=n/\up (F S) ds Q
def znm(C:gG X.prog X.w X.K X.mg X.base x k ps (gR X.K n F))(hR:DA X c (e::es) R)(hk:c.P->qJ c S)(hg:Gl X x:=by rfl)
  (hdb:ZD x:=by decide) (sk:Sk X e es pos:=by exact⟨rfl,rfl⟩) (hK:c.K=X.K:=by rfl) (hr:bA k X.A:=by decreasing_trivial) :
  DE X c (.Call (.Name x p) (e::es) [] pos) (xR S n F R)where
 mono:=λZ Q Q' k q=>hR.mono Z _ _ (λds z=>⟨z.1,qU (F S) ds _ _ k z.2⟩) q
 pe:=by
  obtain⟨f,fd,FO,hm,hkp,hb⟩:=C.ex;refine dw (zq FO hr hg hm hkp hb .nil zc hR.pa hdb sk.1 sk.2) λU H Q ⟨Z,G,r,q⟩=>⟨Z,G,r,hR.mono Z _ _ (λds z vs H' G' t e=>?_) q⟩;show gR X.K n F _ H' Q E0;rw[YAF];exact(r.step t).read (hk r.kn) hK e z.1 (qU (F S) ds _ _ (λd w v H2 G2 t2 e2=>w v H2 G2 (t.trans t2) e2) z.2)
def dB(S:aJ)(i:Nat)(C:Addr)(m:Str)(n:Nat)(F:aJ->Fn)(R:WL):WE:=λZ Q=>match Z[i]? with
 |some (.val (.obj a))=>(∃o,S a=some o/\o.C=C/\∀x∈o.fs,x.1≠m)/\R Z λds=>ds.length+1=n/\up (F S) (.obj a::ds) Q
 |_=>False
def zoS(h:sU R):km (dB S i C m n F R):=λZ Q Q' k q=>by
 unfold dB at q ⊢;split at q
 .exact⟨q.1,h Z _ _ (λds z=>⟨z.1,qU (F S) _ _ _ k z.2⟩) q.2⟩
 .exact q.elim
def zoT(hk:c.P->qJ c S)(hK:c.K=X.K)(hR:sU R)(ht:∀ U H Q,tDs c R U H Q->t U H Q)(q:tD c (dB S i C m n F R) U H Q) :
  Ey C m (gR X.K n F) [] E0 (λU H Q=>∃v,U[i]?=some (some v)/\Q v H) t U H Q:=by
 obtain⟨Z,G,r,q⟩:=q;unfold dB at q;split at q
 .rename_i a ei
  obtain⟨⟨o,h1,h2,h3⟩,q⟩:=q;obtain⟨v,ev,rv⟩:=r.slot i _ ei;have rv':v=V.ref a:=rv;subst rv';obtain⟨M,ad,k,sub⟩:=r.know (hk r.kn);obtain⟨dx,g1,_⟩:=k.obj a o h1;refine⟨.ref a,ev,a,dx,_,rfl,h2▸sub _ _ g1,Kp h3,ht _ _ _ ⟨Z,G,r,hR Z _ _ (λds z vs H' G' t e=>?_) q⟩⟩;show gR X.K n F (V.ref a::(vs++[])) H' Q E0;rw[YAF];exact(r.step t).read (hk r.kn) hK (ds:=.obj a::ds) ⟨V.ref a,vs,rfl,rfl,e⟩ z.1 (qU (F S) _ _ _ (λd w v H2 G2 t2 e2=>w v H2 G2 (t.trans t2) e2) z.2)
 .exact q.elim
def iK(T:Met X.prog X.w X.K X.mg X.base dh C m k ps (gR X.K n F))(hk:c.P->qJ c S)(nk:Nk X i x:=by decreasing_trivial)
  (ht:eval (.Call (.Attribute (.Name x p) m apos) [] [] pos) X.env=(do
   let ov <-eval (.Name x p) X.env
   standAt apos.atName
   let(f,first) <-holding [ov] (getMethod ov m pl)
   callWith pos f first (backTo pos (starEach [] X.env)) (backToKw pos (keywordEach [] X.env))):=by rfl) (hK:c.K=X.K:=by rfl) (hr:bA k X.A:=by decreasing_trivial) :
  DE X c (.Call (.Attribute (.Name x p) m apos) [] [] pos) (dB S i C m n F (λ_ Q=>Q []))where
 mono:=zoS (λ_ Q Q' k q=>k _ q)
 pe:=by
  obtain⟨f,fd,FO,hc,hm,hb⟩:=T.ex;exact dw (zh3 (kY nk.N nk.v nk.d nk.c) hc hm FO hr hb .nil zc ht) λU H Q q=>zoT hk hK (λ_ Q Q' k q=>k _ q) (λU H Q ⟨Z,G,r,q⟩=>q [] H G r.refl rfl) q
end
def jO{α:Type}:List Str->List α->Str->Option α
 |k::ks,x::xs,z=>if k=z then some x else jO ks xs z
 |_,_,_=>none
theorem Dd:∀{ks:List Str}{vs:List V}{z:Str},dR (jG ks vs) (Sum.inr z)=jO ks vs z
 |[],_,_=>rfl
 |_::_,[],_=>rfl
 |k::ks,v::vs,z=>by
  show dR (_::jG ks vs) _=if k=z then some v else jO ks vs z;by_cases e:k=z
  .rw[if_pos e,Kd (by rw[e])]
  .rw[if_neg e,Jw (λy=>e (Sum.inr.inj y)),Dd]
theorem zib :∀{ks:List Str}{xs:List D}{vs:List V}{z:Str}{d:D},aC c G xs vs->jO ks xs z=some d->∃v,jO ks vs z=some v/\Rep c G d v
 |[],_,_,_,_,_,h=>by simp[jO]at h
 |_::_,[],_,_,_,_,h=>by simp[jO]at h
 |k::ks,x::xs,vs,z,d,⟨v,ws,h1,h2,h3⟩,h=>by
  subst h1;unfold jO at h ⊢;by_cases e:k=z
  .rw[if_pos e]at h ⊢;cases h;exact⟨v,rfl,h2⟩
  .rw[if_neg e]at h ⊢;exact zib h3 h
def qX(o:Option D)(Q:D->Prop):Prop:=match o with|some d=>Q d|none=>False
def ziK(k:∀d,Q d->Q' d)(q:qX o Q):qX o Q':=by
 cases o with
 |none=>exact q
 |some d=>exact k _ q
def fX:F2
 |.dct _ ks xs,.str z,Q=>qX (jO ks xs z) Q
 |.fdc ks xs,.str z,Q=>qX (jO ks xs z) Q
 |_,_,_=>False
def zrb:ph fX:=λx y Q Q' k q=>by
 unfold fX at q ⊢;split at q
 .exact ziK k q
 .exact ziK k q
 .exact q.elim
section
variable{X:Cx}{c:Bk}{a i:Expr}{pos p:Pos}
def jA(hA:DE X c a A)(hB:DE X c i B)(hs:sV i:=by intro _ _;rfl)(hu:X.A.units+1<cLine:=by decreasing_trivial):DE X c (.Subscript a i pos) (ak fX A B)where
 mono:=Ek zrb hA.mono hB.mono
 pe:=dw (zqo hu hA.pe hB.pe hs) λU H Q ⟨Z,G,r,q⟩=>⟨Z,G,r,hA.mono Z _ _ (λx zx vx H1 G1 t1 e1=>⟨Z,G1,r.step t1,hB.mono Z _ _ (λy zy vy H2 G2 t2 e2=>by
  unfold fX at zy;split at zy
  .rename_i n ks xs z
   obtain⟨d0,vs,h1,h2,_,h4,h5⟩:=e1;subst h1;have ey:=e2;subst ey;cases e:jO ks xs z with
   |none=>rw[e]at zy;exact zy.elim
   |some d=>
    rw[e]at zy;obtain⟨v,f1,f2⟩:=zib h5 e;refine⟨d0,v,rfl,?_,zy v H2 G2 (t1.trans t2) (f2.mono t2.gg)⟩
    have:=kO.k (k:=Sum.inr z) (t2.gh _ _ (t2.gg _ _ h2))
    rw[Dd,f1]at this;exact this
  .rename_i ks xs z
   obtain⟨d0,vs,o,h1,h2,h4,h5⟩:=e1;subst h1;have ey:vy=V.str z:=e2;subst ey;cases e:jO ks xs z with
   |none=>rw[e]at zy;exact zy.elim
   |some d=>
    rw[e]at zy;obtain⟨v,f1,f2⟩:=zib h5 e;refine⟨d0,v,rfl,?_,zy v H2 G2 (t1.trans t2) (f2.mono t2.gg)⟩
    have:kO H2 d0 _ _:=.inl ⟨_,.inr z,.inr ⟨o,t2.gh _ _ (t2.gg _ _ h2)⟩,rfl,rfl⟩
    rw[Dd,f1]at this;exact this
  .exact zy.elim) zx⟩) q⟩
def zmu:cL X (.type "dict") (λxs H Q=>∃a kvs,xs=[.ref a]/\Rd H a (.dK kvs)/\∀l,H l=none->Q (.ref l) (upd H l (.dK kvs))):=by
 intro aa s U H xs us Q I r h;obtain⟨a,kvs,rfl,ha,q⟩:=h;obtain⟨u,rfl,rx⟩:=qx r;cases rx;exact zsj I ha λp s' hp I'=>⟨.ref p,_,I',rfl,q p hp⟩
end
def pL(ks:List Str)(z:Str):List Str:=if ks.contains z then ks else ks++[z]
def j6{α:Type}(ks:List Str)(vs:List α)(z:Str)(w:α):List α:=if ks.contains z then List.zipWith (λk x=>if k=z then w else x) ks vs else vs++[w]
theorem zq2:∀{ks:List Str}{vs:List V},ks.length=vs.length->(jG ks vs).any (λkv=>decide (kv.1=(Sum.inr z:Key)))=ks.contains z
 |[],[],_=>rfl
 |k::ks,v::vs,h=>by
  show(decide _ || (jG ks vs).any _)=_;rw[zq2 (by simpa using h)];congr 1;by_cases e:k=z
  .subst e;simp
  .rw[jq (λy=>e (Sum.inr.inj y))];symm;rw[YAE];exact λy=>e y.symm
theorem zpP :∀{ks:List Str}{vs:List V},ks.length=vs.length->(jG ks vs).map (λkv=>if kv.1=(Sum.inr z:Key)then(kv.1,w)else kv)=jG ks (List.zipWith (λk x=>if k=z then w else x) ks vs)
 |[],[],_=>rfl
 |k::ks,v::vs,h=>by
  show(if (Sum.inr k:Key)=Sum.inr z then((Sum.inr k:Key),w)else(Sum.inr k,v))::(jG ks vs).map _=(Sum.inr k,if k=z then w else v)::jG ks _;rw[zpP (by simpa using h)];congr 1;by_cases e:k=z
  .subst e;simp
  .rw[if_neg (λy=>e (Sum.inr.inj y)),if_neg e]
def zqV(h:ks.length=vs.length):putK (jG ks vs) (Sum.inr z) w=jG (pL ks z) (j6 ks vs z w):=by
 unfold putK pL j6;rw[zq2 h];by_cases e:ks.contains z=true
 .rw[if_pos e,if_pos e,if_pos e,zpP h]
 .rw[if_neg e,if_neg e,if_neg e];unfold jG;rw[List.zip_append h,lY];rfl
theorem zom(hd:Rep c G d w):∀{ks:List Str}{xs:List D}{vs:List V},aC c G xs vs->aC c G (List.zipWith (λk x=>if k=z then d else x) ks xs) (List.zipWith (λk x=>if k=z then w else x) ks vs)
 |[],_,_,_=>rfl
 |_::_,[],_,h=>by cases h;rfl
 |k::ks,x::xs,_,⟨v,ws,h1,h2,h3⟩=>by
  subst h1;refine⟨if k=z then w else v,_,rfl,?_,zom hd h3⟩;show Rep c G (if k=z then d else x) (if k=z then w else v);by_cases e:k=z
  .rw[if_pos e,if_pos e];exact hd
  .rw[if_neg e,if_neg e];exact h2
def zlp(hd:Rep c G d w)(h:aC c G xs vs):aC c G (j6 ks xs z d) (j6 ks vs z w):=by
 unfold j6;by_cases e:ks.contains z=true
 .rw[if_pos e,if_pos e];exact zom hd h
 .rw[if_neg e,if_neg e];exact h.append (.one hd)
def zqP(h:ks.length=vs.length):(pL ks z).length=(j6 ks vs z w).length:=by
 unfold pL j6;by_cases e:ks.contains z=true
 .rw[if_pos e,if_pos e,List.length_zipWith,<-h];simp
 .rw[if_neg e,if_neg e,iB,iB,h];rfl
section
variable{X:Cx}{c:Bk}{p1 p2 p3 p4 p5 p6 p7 p8 p9 p10 p11 p12:Pos}
def zss(ib iw iv i:Nat):WS:=λE Z=>match Z[ib]?,Z[iw]?,Z[iv]? with
 |some (.val (.dct _ ks xs)),some (.val (.str z)),some (.val d)=>i<Z.length/\ks.length<1000/\E.rt (.dct true (pL ks z) (j6 ks xs z d))
 |_,_,_=>False
def zw5(ib iw iv i:Nat)(hi:X.N[i]?=some x:=by rfl)(hx:X.env.scope.names.lookup x=some .local:=by rfl)(hdx:ZD x:=by decide)(hcx:(x==("__classdict__":Str))=false:=by decide)
  (hb:PE X (.Name nb p3) (uK ib)) (hw:PE X (.Name nw p6) (uK iw)) (hv:PE X (.Name nv p7) (uK iv)) (nb':i≠ib:=by decide) (nw':i≠iw:=by decide) (nv':i≠iv:=by decide)
  (hg:Gl X "dict":=by rfl) (he:starEach [.Name nb p3] X.env=(false,eval (.Name nb p3) X.env)::starEach [] X.env:=by rfl) (hm:X.mg "dict"=none:=by decreasing_trivial)
  (hs1:swapsWith (.Call (.Name "dict" p2) [.Name nb p3] [] p4) (some (.Name x p1)) p5.line X.env=pure false:=by rfl) (hs2:swapsWith (.Name nv p7) (some (.Subscript (.Name x p8) (.Name nw p6) p9)) p10.line X.env=pure false:=by rfl)
  (hu:X.A.units+1<cLine:=by decreasing_trivial) (hN:X.N.Nodup:=by decreasing_trivial) :
  vG X c [.Assign [.Name x p1] (.Call (.Name "dict" p2) [.Name nb p3] [] p4) p5,.Assign [.Subscript (.Name x p8) (.Name nw p6) p9] (.Name nv p7) p10,.Return (some (.Name x p11)) p12] (zss ib iw iv i)where
 mono:=λE E' Z l q=>by
  unfold zss at q ⊢;split at q
  .exact⟨q.1,q.2.1,l.rt _ q.2.2⟩
  .exact q.elim
 pss:=by
  have pvx:∀{p:Pos},PE X (.Name x p) _:=λ{p}=>kY hi (.inl hx) hdx hcx;refine yo (pD (xJ hN hi (.inl hx) (Es zmu hg hm PyProof.Rows.boot_dict (kj hb nF he) (by decide) (by decide) he rfl) hs1 (.inr hx)) (pD (zq6 hu pvx hw hv hs2) (vO (yq pvx)))) λD U H ⟨Z,G,r,q⟩=>?_;unfold zss at q;split at q
  .rename_i n ks xs z d e1 e2 e3
   obtain⟨hl,q⟩:=q;rw[r.len]at hl;obtain⟨v1,s1,a,vs,h1,h2,_,h4,h5⟩:=r.slot ib _ e1;obtain⟨v2,s2,r2⟩:=r.slot iw _ e2;obtain⟨v3,s3,r3⟩:=r.slot iv _ e3;subst h1;have e:=r2;subst e;have o8:∀{j:Nat}{l:Addr},i≠j->(U.set i (some (.ref l)))[j]?=U[j]?:=λh=>mY h;refine⟨.ref a,s1,a,_,rfl,.inl (r.gh _ _ h2),λl hl0=>?_⟩;have at_:(U.set i (some (.ref l)))[i]?=some _:=pZ hl;have len:(jG ks vs).length<sizeLine:=by
    unfold jG;rw[cY,Bf,YAS];omega
   refine⟨v3,(o8 nv').trans s3,.ref l,at_,.str z,(o8 nw').trans s2,l,_,rfl,sZ.k (k:=.inr z) cG len,?_⟩;rw[zvn,zqV h4];refine⟨.ref l,at_,?_⟩;have gl:=lU r.gh hl0;have sg:Same G (upd G l (.dK (jG (pL ks z) (j6 ks vs z v3)))):=lD gl;exact q.2 _ _ _ (r.stp.trans (aY.new r.gh r.bx hl0)) ⟨l,_,rfl,cG,λ_=>r.new0 hl0,zqP h4,(zlp r3 h5).mono sg⟩
  .exact q.elim
end
def aY.wrS(s:aY β H G H2 G2)(h0:H p=none)(hb:p≠β)(g2:G2 p=none):aY β H G (upd H2 p o) (upd G2 p o):=
 ⟨s.gg.trans (lD g2),λa u e=>by
  by_cases z:a=p
  .subst z;rw[cG]at e ⊢;exact e
  .rw[ao z]at e ⊢;exact s.gh a u e,
 λa u n e=>by
  have z:a≠p:=λz=>by rw[z,h0]at e;cases e
  rw[ao z];exact s.fr a u n e,
 λa e=>by
  by_cases z:a=p
  .subst z;exact .inr (.inl h0)
  .rw[ao z]at e;exact s.nw a e,
 ⟨by
   obtain⟨cc,q,r,d,ns,h,p1,p2,p3,p4,hc,w⟩:=s.bx.ex;exact⟨cc,q,r,d,ns,by rw[ao (YAD hb)];exact h,p1,p2,p3,p4,by rw[ao (mW hc g2)];exact hc,w⟩,by rw[ao (YAD hb)];exact s.bx.still⟩,
 s.b0,λcc q r d h=>by
  obtain⟨q1,r1,d1,h1⟩:=s.bc cc q r d h;exact⟨q1,r1,d1,by rw[ao (YAD hb)];exact h1⟩⟩
structure DP(X:Cx)(c:Bk)(pos:Pos)(keys:List (Option Expr))(values:List Expr)(ks:List Str)(R:WL):Prop where
 mono:sU R
 ex:∃trs,Ik X pos keys values trs/\∀ U H (Q:List (V×V)->Hp->Prop),(∃ Z G,Rel c Z U H G/\R Z λds=>∀vs H' G',aY c.β H G H' G'->aC c G' ds vs->Q ((ks.zip vs).map λp=>(V.str p.1,p.2)) H')->zn7 trs U H Q
section
variable{X:Cx}{c:Bk}{pos kpos:Pos}{keys:List (Option Expr)}{values:List Expr}{e:Expr}{ks:List Str}{R:WL}
def zwz:DP X c pos [] [] [] (λ_ Q=>Q []):=⟨λZ Q Q' k q=>k _ q,[],ztK,λU H Q ⟨Z,G,r,q⟩=>q [] H G r.refl rfl⟩
def CW(hA:DE X c e A)(hR:DP X c pos keys values ks R):DP X c pos (some (.Constant (.str k) n kpos)::keys) (e::values) (k::ks) (λZ Q=>A Z λd=>R Z λds=>Q (d::ds)):=by
 obtain⟨m,trs,h1,h2⟩:=hR;refine⟨λZ Q Q' k q=>hA.mono Z _ _ (λd z=>m Z _ _ (λds y=>k _ y) z) q,_,zsB zp2 hA.pe h1,λU H Q ⟨Z,G,r,q⟩=>?_⟩;exact⟨Z,G,r,hA.mono Z _ _ (λd z v H1 G1 t1 e1=>h2 U H1 _ ⟨Z,G1,r.step t1,m Z _ _ (λds y vs H2 G2 t2 e2=>y _ H2 G2 (t1.trans t2) ⟨v,vs,rfl,e1.mono t2.gg,e2⟩) z⟩) q⟩
theorem znQ:∀{ks:List Str}{vs:List V},ks.length=vs.length->(jG ks vs).map (·.1)=ks.map (Sum.inr:Str->Key)
 |[],[],_=>rfl
 |k::ks,v::vs,h=>by
  show _::(jG ks vs).map (·.1)=_;rw[znQ (by simpa using h)];rfl
theorem zlD:∀{ks:List Str},ks.Nodup->(ks.map (Sum.inr:Str->Key)).Nodup
 |[],_=>List.nodup_nil
 |k::ks,h=>by
  rw[yE]at h;rw[fj,yE];refine⟨λm=>?_,zlD h.2⟩;obtain⟨x,hx,e⟩:=rD.mp m;exact h.1 (Sum.inr.inj e▸hx)
abbrev zwX(ks:List Str)(R:WL):WE:=λZ Q=>R Z λxs=>xs.length=ks.length/\Q (.dct true ks xs)
def zxd(hR:DP X c pos keys values ks R)(hn:ks.Nodup:=by decide)(hl:ks.length<=15:=by decide)(ha:keys.all (·.isSome)=true:=by rfl)(hkl:keys.length=values.length:=by rfl)(h0:keys≠[]:=by intro z;cases z)(h15:keys.length<=15:=by decide):DE X c (.Dict keys values pos) (zwX ks R)where
 mono:=λZ Q Q' k q=>hR.mono Z _ _ (λds z=>⟨z.1,k _ z.2⟩) q
 pe:=by
  obtain⟨m,trs,h1,h2⟩:=hR;refine dw (zuB h1 ha hkl h0 h15) λU H Q ⟨Z,G,r,q⟩=>λp hp=>?_;have st:=aY.own (o:=.dK []) r.gh r.bx hp;have pb:=r.neβ hp;refine h2 U _ _ ⟨Z,G,r.step st,m Z _ _ (λxs z vs H2 G2 t2 e2=>?_) q⟩;have hlen:ks.length=vs.length:=z.1.symm.trans e2.length;have g2:G2 p=none:=by
   cases w:G2 p with
   |none=>rfl
   |some o=>
    rcases t2.nw p (by rw[w];simp)with y|y|⟨u,y,su⟩
    .exact absurd (lU r.gh hp) y
    .rw[cG]at y;cases y
    .rw[cG]at y;cases y;exact su.elim
  refine⟨t2.fr p _ pb cG,jG ks vs,by unfold jG;rw[YAL];rfl,by unfold jG;rw[cY,Bf,<-hlen,YCE];exact hl,?_⟩;rw[zgU _ [] (λk _=>by simp) (by rw[znQ hlen];exact zlD hn)];exact z.2 _ _ _ ((st.trans t2).wrS hp pb g2) ⟨p,vs,rfl,cG,λ_=>r.new0 hp,hlen,e2.mono (lD g2)⟩
end
def yK(ad:Addr->List Addr)(p:Addr)(as:List Addr):Addr->List Addr:=λq=>if q=p then as else ad q
def El:yK ad p as p=as:=by unfold yK;rw[if_pos rfl]
def Aq(h:q≠p):yK ad p as q=ad q:=by unfold yK;rw[if_neg h]
structure Hs(fs fs':List (Str×At))(as as':List Addr)(j:Nat)(f:Str)(xs:At)(l:Addr):Prop where
 len:as'.length=fs'.length
 new:fs'[j]?=some (f,xs)
 at_:∀(i:Nat) a,as'[i]?=some a->(i=j/\a=l)\/(i≠j/\as[i]?=some a/\fs'[i]?=fs[i]?)
def Kn.newL(k:Kn K β G S M ad)(h:S p=some o)(hl:M l=none)(gl:G l=none)(lb:l≠β)(g:Hs o.fs fs' (ad p) as' j f xs l)(hw:uo (il K β G) G xs ws) :
  Kn K β G (cW S p ⟨o.C,fs'⟩) (upd (upd M l ws) p (.ins o.C dx (jw fs' as'))) (yK ad p as'):=by
 have mp:∀q u,S q=some u->M q≠none:=λq u hq=>by obtain⟨_,h1,_⟩:=k.obj q u hq;rw[h1];simp
 have pl:p≠l:=λz=>mp p o h (z▸hl);have mlst:∀q u (i:Nat) a x,S q=some u->(ad q)[i]?=some a->u.fs[i]?=some x->a≠p/\a≠l:=λq u i a x hq ha hx=>by
  obtain⟨vs,h1,h3⟩:=k.lst q u i a x hq ha hx;refine⟨λz=>?_,λz=>?_⟩
  .obtain⟨_,h2,_⟩:=k.obj p o h;rw[z,h2]at h1;exact h3.kin.2 _ _ _ (Option.some.inj h1).symm
  .rw[z,hl]at h1;cases h1
 have inFs:∀q u (i:Nat) a,S q=some u->(ad q)[i]?=some a->∃x,u.fs[i]?=some x:=λq u i a hq ha=>by
  obtain⟨_,_,h2⟩:=k.obj q u hq
  have:=(nW.mp ha).1
  exact⟨_,YAB (by rw[<-h2];exact this)⟩
 have some':∀q,cW S p ⟨o.C,fs'⟩ q≠none->∃u,S q=some u:=λq hq=>by
  by_cases e:q=p
  .exact⟨o,e▸h⟩
  .rw[gQ e]at hq;cases z:S q with
   |none=>exact absurd z hq
   |some u=>exact⟨u,rfl⟩
 refine⟨λq u hq=>?_,λq u i a x hq ha hx=>?_,λq r i n a hq hr ha hb=>?_,λa u ha=>?_,λa ha=>?_⟩
 .by_cases e:q=p
  .subst e;rw[gK]at hq;cases hq;exact⟨dx,by rw[cG,El],by rw[El];exact g.len⟩
  .rw[gQ e]at hq;obtain⟨d,h1,h2⟩:=k.obj q u hq;have ql:q≠l:=λz=>mp q u hq (z▸hl);exact⟨d,by rw[ao e,ao ql,Aq e];exact h1,by rw[Aq e];exact h2⟩
 .by_cases e:q=p
  .subst e;rw[gK]at hq;cases hq;rw[El]at ha;rcases g.at_ i a ha with⟨z1,z2⟩|⟨z1,z2,z3⟩
   .subst z1 z2;have hx':fs'[i]?=some x:=hx;rw[g.new]at hx';cases hx';exact⟨ws,by rw[ao (YAD pl),cG],hw⟩
   .have hx':fs'[i]?=some x:=hx;rw[z3]at hx';obtain⟨vs,h1,h2⟩:=k.lst q o i a x h z2 hx';obtain⟨n1,n2⟩:=mlst q o i a x h z2 hx';exact⟨vs,by rw[ao n1,ao n2];exact h1,h2⟩
  .rw[gQ e]at hq;rw[Aq e]at ha;obtain⟨vs,h1,h2⟩:=k.lst q u i a x hq ha hx;obtain⟨n1,n2⟩:=mlst q u i a x hq ha hx;exact⟨vs,by rw[ao n1,ao n2];exact h1,h2⟩
 .have old:∀q (i:Nat),cW S p ⟨o.C,fs'⟩ q≠none->(yK ad p as' q)[i]?=some a->(q=p/\i=j/\a=l)\/((q=p->i≠j)/\(ad q)[i]?=some a/\a≠l):=λq i hq ha=>by
   obtain⟨u,hu⟩:=some' q hq;by_cases e:q=p
   .subst e;rw[El]at ha;rcases g.at_ i a ha with⟨z1,z2⟩|⟨z1,z2,z3⟩
    .exact .inl ⟨rfl,z1,z2⟩
    .obtain⟨x,hx⟩:=inFs q u i a hu z2;exact .inr ⟨λ_=>z1,z2,(mlst q u i a x hu z2 hx).2⟩
   .rw[Aq e]at ha;obtain⟨x,hx⟩:=inFs q u i a hu ha;exact .inr ⟨λz=>absurd z e,ha,(mlst q u i a x hu ha hx).2⟩
  rcases old q i hq ha with⟨a1,a2,a3⟩|⟨a1,a2,a3⟩
  .rcases old r n hr hb with⟨b1,b2,b3⟩|⟨b1,b2,b3⟩
   .exact⟨a1.trans b1.symm,a2.trans b2.symm⟩
   .exact absurd a3 b3
  .rcases old r n hr hb with⟨b1,b2,b3⟩|⟨b1,b2,b3⟩
   .exact absurd b3 a3
   .obtain⟨u,hu⟩:=some' q hq;obtain⟨w,hw'⟩:=some' r hr;exact k.dis q r i n a (by rw[hu];simp) (by rw[hw'];simp) a2 b2
 .by_cases e:a=p
  .subst e;rw[cG]at ha;cases ha;exact λz=>z
  .rw[ao e]at ha;by_cases e':a=l
   .subst e';rw[cG]at ha;cases ha;exact hw.kin.1
   .rw[ao e']at ha;exact k.kin a u ha
 .by_cases e:a=p
  .subst e;exact k.ap a (mp a o h)
  .rw[ao e]at ha;by_cases e':a=l
   .subst e';exact⟨gl,lb⟩
   .rw[ao e']at ha;exact k.ap a ha
def g8(f:Str)(xs:At):List (Str×At)->List (Str×At)
 |[]=>[(f,xs)]
 | (g,y)::r=>if g=f then(g,xs)::r else(g,y)::g8 f xs r
def lK(f:Str)(l:Addr):List (Str×At)->List Addr->List Addr
 |[],_=>[l]
 | (g,_)::r,a::as=>if g=f then l::as else a::lK f l r as
 |_::_,[]=>[]
theorem zqH :∀{fs:List (Str×At)}{as:List Addr},as.length=fs.length->gW f (.ref l) (jw fs as)=jw (g8 f xs fs) (lK f l fs as)
 |[],[],_=>rfl
 | (g,y)::fs,a::as,h=>by
  show(if g=f then(g,V.ref l)::jw fs as else(g,V.ref a)::gW f (.ref l) (jw fs as))=jw (if g=f then(g,xs)::fs else(g,y)::g8 f xs fs) (if g=f then l::as else a::lK f l fs as);by_cases e:g=f
  .rw[if_pos e,if_pos e,if_pos e];rfl
  .rw[if_neg e,if_neg e,if_neg e,zqH (xs:=xs) (by simpa using h)];rfl
theorem Ht :∀{fs:List (Str×At)}{as:List Addr},as.length=fs.length->∃j,Hs fs (g8 f xs fs) as (lK f l fs as) j f xs l
 |[],[],_=>⟨0,rfl,rfl,λi a h=>by
  cases i with
  |zero=>exact .inl ⟨rfl,by simpa[lK]using h.symm⟩
  |succ i=>simp[lK]at h⟩
 | (g,y)::fs,a::as,h=>by
  unfold g8 lK;by_cases e:g=f
  .rw[if_pos e,if_pos e];subst e;refine⟨0,by simpa using h,rfl,λi c hc=>?_⟩;cases i with
   |zero=>exact .inl ⟨rfl,by simpa using hc.symm⟩
   |succ i=>exact .inr ⟨by omega,by simpa using hc,rfl⟩
  .rw[if_neg e,if_neg e];obtain⟨j,g1,g2,g3⟩:=Ht (f:=f) (xs:=xs) (l:=l) (fs:=fs) (as:=as) (by simpa using h);refine⟨j+1,by simpa using g1,by simpa using g2,λi c hc=>?_⟩;cases i with
   |zero=>exact .inr ⟨by omega,by simpa using hc,rfl⟩
   |succ i=>
    rcases g3 i c (by simpa using hc)with⟨z1,z2⟩|⟨z1,z2,z3⟩
    .exact .inl ⟨by omega,z2⟩
    .exact .inr ⟨by omega,by simpa using z2,by simpa using z3⟩
section
variable{X:Cx}{b:Bo}{e:Expr}{pos p fpos:Pos}
def zqn{S:aJ}{M H G G1 H1 G':Hp}{Z:Env}{U:St}{a0 l:Addr}{o:Ob}{f:Str}{x:At}{u1:HO}(u:Out b M G1)(r:Rel (bR b S M G1) Z U H G)(t:aY b.β H G H1 G')(hl:H1 l=some u1)(gl:G' l=none)(hl0:H l=none)(h1:S a0=some o)(h3:o.fs.length<100)(hw:uo (il b.K b.β G') G' x u1) :
  ∃dx fs,H1 a0=some (.ins o.C dx fs)/\fs.length<100/\∃M',bL b (cW S a0 ⟨o.C,g8 f x o.fs⟩) M' Z U (upd H1 a0 (.ins o.C dx (gW f (.ref l) fs))) G'/\Dm M M':=by
 have r1:=r.step t;obtain⟨ad,k⟩:=r.kn;have k1:Kn b.K b.β G' S M ad:=k.mono r1.stp.gg r1.apart;obtain⟨dx,g1,g2⟩:=k1.obj a0 o h1;have qm:M a0≠none:=by rw[g1];simp
 have qb:=(u.mb a0 qm).2.2;have lb:l≠b.β:=r.neβ hl0;have hM:∀c w,M c=some w->H c=some w:=λc w hc=>r.stp.fr c w (u.mb c (by rw[hc];simp)).2.2 (qN hc);have hM1:∀c w,M c=some w->H1 c=some w:=λc w hc=>t.fr c w (u.mb c (by rw[hc];simp)).2.2 (hM c w hc);have ml:M l=none:=by
  cases z:M l with
  |none=>rfl
  |some w=>rw[hM l w z]at hl0;cases hl0
 have ql:a0≠l:=λz=>qm (z▸ml);obtain⟨j,g⟩:=Ht (f:=f) (xs:=x) (l:=l) g2;have k2:=k1.newL (dx:=dx) h1 ml gl lb g hw;refine⟨dx,_,hM1 _ _ g1,by unfold jw;rw[cY,Bf,g2,YCE];omega,upd (upd M l u1) a0 (.ins o.C dx (jw (g8 f x o.fs) (lK f l o.fs (ad a0)))),?_⟩;rw[zqH (xs:=x) g2];have dm:Dm M (upd (upd M l u1) a0 (.ins o.C dx (jw (g8 f x o.fs) (lK f l o.fs (ad a0))))):=λc hc=>by
  by_cases e:c=a0
  .subst e;rw[cG];simp
  .rw[ao e];by_cases e':c=l
   .subst e';rw[cG];simp
   .rw[ao e'];exact hc
 have ef:wR b.β M (upd (upd M l u1) a0 (.ins o.C dx (jw (g8 f x o.fs) (lK f l o.fs (ad a0))))) H G (upd H1 a0 (.ins o.C dx (jw (g8 f x o.fs) (lK f l o.fs (ad a0))))) G':=by
  refine⟨t.gg,λc w hc=>?_,λc w n hc hw=>?_,λc w hc=>?_,λc hc=>?_,λc hc=>k2.ap c hc,t.nw,?_,λcc q1 r1 d1 hb=>?_,dm⟩
  .rw[ao (λz=>by rw[z,r1.apart a0 qm]at hc;cases hc)];exact t.gh c w hc
  .rw[ao (λz=>by rw[z]at hc;exact qm hc)];exact t.fr c w n hw
  .by_cases e:c=a0
   .subst e;rw[cG]at hc ⊢;exact hc
   .rw[ao e]at hc ⊢;by_cases e':c=l
    .subst e';rw[cG]at hc;cases hc;exact hl
    .rw[ao e']at hc;exact hM1 c w hc
  .by_cases e:c=a0
   .subst e;exact .inl qm
   .rw[ao e]at hc;by_cases e':c=l
    .subst e';exact .inr hl0
    .rw[ao e']at hc;exact .inl hc
  .obtain⟨cc,q1,r2,d1,ns,hb,z⟩:=t.bx.ex;exact⟨⟨cc,q1,r2,d1,ns,by rw[ao (YAD qb)];exact hb,z⟩,t.bx.still⟩
  .obtain⟨q2,r2,d2,hb'⟩:=t.bc cc q1 r1 d1 hb;exact⟨q2,r2,d2,by rw[ao (YAD qb)];exact hb'⟩
 exact⟨⟨G',u.eff r ef,r.eff (λc hc=>⟨(u.mb c hc).1,(u.mb c hc).2.2⟩) ef ⟨_,k2⟩⟩,dm⟩
def gj(i:Nat)(f:Str)(C:Addr)(F:aJ->WL):WF:=λE S Z=>match Z[i]? with
 |some (.val (.obj q))=>F S Z λxs=>∃o,S q=some o/\o.C=C/\o.fs.length<100/\E.nx (cW S q ⟨o.C,g8 f (.l (xs.map D.old)) o.fs⟩) Z
 |_=>False
def zO(i:Nat)(hF:∀S M G1,DF X (bR b S M G1) e (F S))(hc:jN X.K C)(hn:bH X.K C f)(nk:Nk X i x:=by decreasing_trivial)(hs:swapsWith e (some (.Attribute (.Name x p) f fpos)) pos.line X.env=pure false:=by rfl):OS X b (.Assign [.Attribute (.Name x p) f fpos] e pos) (gj i f C F)where
 mono:=λE E' S Z l q=>by
  unfold gj at q ⊢;split at q
  .exact(hF S (λ_=>none) (λ_=>none)).mono Z _ _ (λxs ⟨o,h1,h2,h3,h4⟩=>⟨o,h1,h2,h3,l.nx _ _ h4⟩) q
  .exact q.elim
 ps:=λaa s U H Ds I ⟨Z,G,S,M,⟨G1,u,r⟩,q⟩=>ztF (kY nk.N nk.v nk.d nk.c) (hF S M G1).pe hs aa s U H Ds I (by
  unfold gj at q;split at q
  .rename_i a0 ei
   refine⟨Z,G,r,(hF S M G1).mono Z _ _ (λxs ⟨o,h1,h2,h3,h4⟩ l vs H1 G' t hl gl hl0 hv0=>?_) q⟩;obtain⟨v,ev,rv⟩:=r.slot i _ ei;cases (show v=V.ref a0 from rv);obtain⟨dx,fs,g1,g2,M',rr,dm⟩:=zqn (f:=f) (x:=.l (xs.map D.old)) u r t hl gl hl0 h1 h3 ⟨vs,rfl,aC.hand (c:=bR b S M G1) (c':=il b.K b.β G') rfl rfl hv0⟩;exact⟨.ref a0,ev,a0,o.C,dx,fs,rfl,g1,h2▸hc,h2▸hn,by omega,h4 U _ G' _ rr t.gg dm⟩
  .exact q.elim)
def zsS(i:Nat)(f:Str)(C:Addr):WF:=λE S Z=>match Z[i]? with
 |some (.val (.obj q))=>∃o,S q=some o/\o.C=C/\o.fs.length<100/\E.nx (cW S q ⟨o.C,g8 f (.d [] []) o.fs⟩) Z
 |_=>False
end
section
variable{X:Cx}{b:Bo}{pos p:Pos}{y:Str->aJ->Prop}
abbrev Kh(C:Addr)(F:cD)(y:Str->aJ->Prop):WOE:=λ_ S Q=>∀a,S a=none->vV F [.obj a] (cW S a ⟨C,[]⟩) (λd S2=>d=.non/\Q (.obj a) S2) y
def Kn.new(k:Kn K β G S M ad)(hm:M a=none)(ga:G a=none)(ab:a≠β):Kn K β G (cW S a ⟨C,[]⟩) (upd M a (.ins C dx [])) (yK ad a []):=by
 have nl:∀{q:Addr}{i:Nat}{c:Addr},(yK ad a [] q)[i]?=some c->q≠a/\_[i]?=some c:=λ{q i c} h=>by
  by_cases e:q=a
  .subst e;rw[El]at h;simp at h
  .rw[Aq e]at h;exact⟨e,h⟩
 refine⟨λq u hq=>?_,λq u i c x hq hc hx=>?_,λq r i n c hq hr hc hd=>?_,λc u hc=>?_,λc hc=>?_⟩
 .by_cases e:q=a
  .subst e;rw[gK]at hq;cases hq;exact⟨dx,by rw[cG];rfl,by rw[El];rfl⟩
  .rw[gQ e]at hq;obtain⟨d,h1,h2⟩:=k.obj q u hq;exact⟨d,by rw[ao e,Aq e];exact h1,by rw[Aq e];exact h2⟩
 .obtain⟨e,hc'⟩:=nl hc;rw[gQ e]at hq;obtain⟨vs,h1,h2⟩:=k.lst q u i c x hq hc' hx;exact⟨vs,by rw[ao (λz=>by rw[z,hm]at h1;cases h1)];exact h1,h2⟩
 .obtain⟨e1,c1⟩:=nl hc;obtain⟨e2,c2⟩:=nl hd;rw[gQ e1]at hq;rw[gQ e2]at hr;exact k.dis q r i n c hq hr c1 c2
 .by_cases e:c=a
  .subst e;rw[cG]at hc;cases hc;exact λz=>z
  .rw[ao e]at hc;exact k.kin c u hc
 .by_cases e:c=a
  .subst e;exact⟨ga,ab⟩
  .rw[ao e]at hc;exact k.ap c hc
def znB(T:Mk X.K C f)(FO:aG X.prog X.w X.K X.mg X.base (aZ X.prog X.w) k f fd ps (bZ X.K X.mg 1 F))(hm:X.mg x=some (.ref C))(hb:Binds X.K fd ps [])(hx:jZ (aZ X.prog X.w) X (XO b X.mg y))(hg:Gl X x:=by rfl)
  (hdb:ZD x:=by decide) (hK:b.K=X.K:=by rfl) (hr:bA (k+1) X.A:=by decreasing_trivial):OE X b (.Call (.Name x p) [] [] pos) (Kh C F y)where
 mono:=λZ S Q Q' l q a ha=>vB F (λd S2 z=>⟨z.1,l _ _ z.2⟩) (λ_ _ z=>z) (q a ha)
 pe:=dw (zrB T FO hr hg hm hb .nil hx hdb) λU H Q ⟨Z,G,S,M,⟨G1,u,r⟩,q⟩=>by
  intro a dx ha hdx ne;obtain⟨ad,kn⟩:=r.kn;have k1:=kn.mono r.stp.gg r.apart;have hM:=λc w hc=>r.stp.fr c w (u.mb c (by rw[hc];simp)).2.2 (qN hc);have free:∀{c},H c=none->M c=none:=λ{c} h=>by
   cases z:M c with
   |none=>rfl
   |some w=>rw[hM c w z]at h;cases h
  have ma:=free ha;have sa:S a=none:=by
   cases z:S a with
   |none=>rfl
   |some o=>obtain⟨_,h1,_⟩:=k1.obj a o z;rw[ma]at h1;cases h1
  have ab:=r.neβ ha;have k2:=k1.new (dx:=dx) (C:=C) ma (lU r.gh ha) ab;have ha':upd H dx (.own a) a=none:=by rw[ao (YAD ne)];exact ha
  have dm:Dm M (upd M a (.ins C dx [])):=λc hc=>by
   by_cases e:c=a
   .subst e;rw[cG];simp
   .rw[ao e];exact hc
  have keep:∀c w,H c=some w->upd (upd H dx (.own a)) a (.ins C dx []) c=some w:=λc w hc=>by
   rw[ao (λz=>by rw[z,ha]at hc;cases hc),ao (λz=>by rw[z,hdx]at hc;cases hc)];exact hc
  have ef:wR b.β M (upd M a (.ins C dx [])) H G (upd (upd H dx (.own a)) a (.ins C dx [])) G:=by
   refine⟨Same.refl _,λc w hc=>keep c w (r.gh c w hc),λc w _ _ hc=>keep c w hc,λc w hc=>?_,λc hc=>?_,λc hc=>k2.ap c hc,λc hc=>.inl hc,(r.bx.new hdx).new ha',λcc q1 r1 d1 hb=>⟨q1,r1,d1,keep _ _ hb⟩,dm⟩
   .by_cases e:c=a
    .subst e;rw[cG]at hc ⊢;exact hc
    .rw[ao e]at hc;exact keep c w (hM c w hc)
   .by_cases e:c=a
    .subst e;exact .inr ha
    .rw[ao e]at hc;exact .inl hc
  have rs:lO b _ _ Z U _ G [.obj a] [.ref a]:=
   ⟨G,u.eff r ef,r.eff (λc hc=>⟨(u.mb c hc).1,(u.mb c hc).2.2⟩) ef ⟨_,k2⟩,.ref a,[],rfl,rfl,rfl⟩
  refine bL.give hK rs rfl (vB F (λd S2 z v H2 G2 M2 r2 s2 m2=>?_) (λnm S2 z C2 H2 G2 M2 hc r2 s2 m2=>⟨nm,C2,S2,M2,Z,U,G2,rfl,z,hc,r2⟩) (q a sa));obtain⟨z1,z2⟩:=z;subst z1;obtain⟨Ga,oa,ra,ea⟩:=r2;have ev:=ea;exact⟨ev,z2 _ H2 G2 M2 ⟨Ga,oa,ra,rfl⟩ s2 (dm.trans m2)⟩
end
theorem zgE :∀{xs:List D}{d:D}{vs:List V},aC c G (xs++[d]) vs->∃ws v,vs=ws++[v]/\aC c G xs ws/\Rep c G d v
 |[],d,vs,⟨v,ws,h1,h2,h3⟩=>by cases h3;exact⟨[],v,h1,rfl,h2⟩
 |x::xs,d,vs,⟨v,ws,h1,h2,h3⟩=>by
  obtain⟨us,w,e1,e2,e3⟩:=zgE (xs:=xs) h3;subst e1 h1;exact⟨v::us,w,rfl,⟨v,us,rfl,h2,e2⟩,e3⟩
section
variable{X:Cx}{b:Bo}{pos p fpos apos cpos:Pos}
def wD(i:Nat)(f:Str)(C:Addr):WOE:=λZ S Q=>match Z[i]? with
 |some (.val (.obj q))=>∃o j xs d,S q=some o/\o.C=C/\lW o f j (xs++[d])/\Q d.old (cW S q (d9 o j f xs))
 |_=>False
def zy3(i:Nat)(hc:jN X.K C)(hn:bH X.K C f)(nk:Nk X i x:=by decreasing_trivial)
  (hb0:ZB (.Name x p) f X:=by rfl)
  (hbase:ZB (.Attribute (.Name x p) f fpos) "pop" X:=by rfl)
  (hline:(apos.endLine==cpos.line)=true:=by rfl):OE X b (.Call (.Attribute (.Attribute (.Name x p) f fpos) "pop" apos) [] [] cpos) (wD i f C)where
 mono:=λZ S Q Q' l q=>by
  unfold wD at q ⊢;split at q
  .obtain⟨o,j,xs,d,h1,h2,h3,q⟩:=q;exact⟨o,j,xs,d,h1,h2,h3,l _ _ q⟩
  .exact q.elim
 pe:=dw (zpN YAW YB3 YB4 zqF (tE (kY nk.N nk.v nk.d nk.c) hb0) hbase hline) λU H Q ⟨Z,G,S,M,⟨G1,u,r⟩,q⟩=>by
  unfold wD at q;split at q
  .rename_i a0 ei
   obtain⟨o,j,xs,d,h1,h2,h3,q⟩:=q;obtain⟨ad,k⟩:=r.kn;obtain⟨dx,a,vs,k1,k2,k3,k4,k5⟩:=k.at h1 h3;obtain⟨ws,w,e1,e2,e3⟩:=zgE k5;subst e1;obtain⟨v,ev,rv⟩:=r.slot i _ ei;have rv':v=V.ref a0:=rv;subst rv';have hM:∀c w,M c=some w->H c=some w:=λc w hc=>r.stp.fr c w (u.mb c (by rw[hc];simp)).2.2 (qN hc);refine⟨.ref a0,ev,a0,o.C,dx,_,.ref a,rfl,hM _ _ k1,h2▸hc,h2▸hn,k2,.inl ⟨rfl,_,cg.of (hM _ _ k4)⟩,?_⟩;obtain⟨⟨G2,u2,r2⟩,dm⟩:=bL.put u r k h1 h3 k3 k4 (jr e2 r.stp.gg);have e4:Rep (bR b (cW S a0 (d9 o j f xs)) (upd M a (.lst ws)) G2) G d.old w:=Rep.hand (c:=il b.K b.β G1) (c':=bR b (cW S a0 (d9 o j f xs)) (upd M a (.lst ws)) G2) rfl rfl (e3.mono r.stp.gg);exact⟨a,ws++[w],w,rfl,rfl,hM _ _ k4,by simp,by rw[YB9];exact q w _ G _ ⟨G2,u2,r2,e4⟩ (Same.refl _) dm⟩
  .exact q.elim
end
section
variable{X:Cx}{b:Bo}{e:Expr}{es:List Expr}{pos p npos:Pos}
abbrev vd(n:Nat)(F:Fn)(R:WOA):WOE:=λZ S Q=>R Z S λds S1=>ds.length=n/\up F ds λd=>Q d S1
def Cd(C:gG X.prog X.w X.K X.mg X.base x k ps (eV X.K n F))(hR:OA X b (e::es) R)(hg:Gl X x:=by rfl)
  (hdb:ZD x:=by decide) (sk:Sk X e es pos:=by exact⟨rfl,rfl⟩) (hK:b.K=X.K:=by rfl) (hr:bA k X.A:=by decreasing_trivial) :
  OE X b (.Call (.Name x p) (e::es) [] pos) (vd n F R)where
 mono:=λZ S Q Q' l q=>hR.mono Z S _ _ (λds S1 z=>⟨z.1,qU F ds _ _ (λd w=>l d S1 w) z.2⟩) q
 pe:=by
  obtain⟨f,fd,FO,hm,hk,hb⟩:=C.ex;refine dw (zq FO hr hg hm hk hb .nil zc hR.pa hdb sk.1 sk.2) λU H Q ⟨Z,G,S,M,r,q⟩=>⟨Z,G,S,M,r,hR.mono Z S _ _ (λds S1 z vs H' G' M' r' s' m'=>?_) q⟩;show eV X.K n F _ H' Q E0;rw[YAF];obtain⟨Ga,oa,ra,ea⟩:=r';exact⟨b.β,G',ds,ra.gh,ra.bx,aC.back (c':=bR b S1 M' Ga) (c:=⟨X.K,b.β,λ_=>none,G',True⟩) hK rfl (λ_ _=>rfl) ea,by exact ea.length▸z.1,
   qU F ds _ _ (λd w v H2 G2 t2 e2=>w v H2 G2 M' ⟨Ga,oa,ra.step t2,Rep.back (c':=⟨X.K,b.β,H',G',True⟩) (c:=bR b S1 M' Ga) hK.symm rfl (λa h=>ra.new0 h) e2⟩ (s'.trans t2.gg) m') z.2⟩
abbrev pX(A:WOE)(o9 V:WF):WF:=λE S Z=>A Z S λd S1=>lH d λt=>if t=true then V E S1 Z else o9 E S1 Z
def znS{A:WOE}{o9 V:WF}{x y:List Stmt}(hA:OE X b e A)(hU:mQ X b x o9)(hV:mQ X b y V)(he:∀whole,isTrue e X.env whole=(do let v <-whole;standAt e.pos;holding [v] (truthy v)):=by intro _;rfl)(hK:b.K=X.K:=by rfl):OS X b (.If (.UnaryOp .Not e npos) x y pos) (pX A o9 V)where
 mono:=λE E' S Z l q=>hA.mono Z S _ _ (λd S1 z=>zmh d (λt z=>by
  cases t
  .exact hU.mono _ _ S1 Z l z
  .exact hV.mono _ _ S1 Z l z) z) q
 ps:=lZ (Dj (ztc (zkx hA.pe he)) hU.pss hV.pss) λD U H ⟨Z,G,S,M,r,q⟩=>⟨Z,G,S,M,r,hA.mono Z S _ _ (λd S1 z v H' G' M' r' s' m'=>by
  obtain⟨Ga,oa,ra,ea⟩:=r';unfold lH at z;split at z
  .rename_i k hk
   refine⟨k,hK▸zp9 ra.gh ea hk,?_⟩;cases k
   .exact⟨Z,G',S1,M',⟨Ga,oa,ra⟩,hU.mono _ _ S1 Z (FQ s' m') z⟩
   .exact⟨Z,G',S1,M',⟨Ga,oa,ra⟩,hV.mono _ _ S1 Z (FQ s' m') z⟩
  .exact z.elim) q⟩
end
section
variable{X:Cx}{b:Bo}{c:Bk}{e:Expr}{es:List Expr}{pos cpos p np:Pos}
abbrev uO(n:Nat)(F:ik)(y:Str->aJ->Prop)(R:WOA):WOE:=λZ S Q=>R Z S λds S1=>ds.length=n/\zL F ds (λd=>Q d S1) λnm=>y nm S1
def Cm(C:eY X.prog X.w X.K X.mg X.base x k ps (cj X.K X.mg n F))(hR:OA X b (e::es) R)(hx:jZ (aZ X.prog X.w) X (XO b X.mg y))(hg:Gl X x:=by rfl)
  (hdb:ZD x:=by decide) (sk:Sk X e es pos:=by exact⟨rfl,rfl⟩) (hK:b.K=X.K:=by rfl) (hr:bA k X.A:=by decreasing_trivial) :
  OE X b (.Call (.Name x p) (e::es) [] pos) (uO n F y R)where
 mono:=λZ S Q Q' l q=>hR.mono Z S _ _ (λds S1 z=>⟨z.1,DK F (λd w=>l d S1 w) (λ_ w=>w) z.2⟩) q
 pe:=by
  obtain⟨f,fd,FO,hm,hk,hb⟩:=C.ex;refine dw (zq FO hr hg hm hk hb .nil hx hR.pa hdb sk.1 sk.2) λU H Q ⟨Z,G,S,M,r,q⟩=>⟨Z,G,S,M,r,hR.mono Z S _ _ (λds S1 z vs H' G' M' r' s' m'=>?_) q⟩;show cj X.K X.mg n F _ H' Q _;rw[YAF];obtain⟨Ga,oa,ra,ea⟩:=r';exact⟨b.β,G',ds,ra.gh,ra.bx,aC.back (c':=bR b S1 M' Ga) (c:=⟨X.K,b.β,λ_=>none,G',True⟩) hK rfl (λ_ _=>rfl) ea,by exact ea.length▸z.1,
   DK F (λd w v H2 G2 t2 e2=>w v H2 G2 M' ⟨Ga,oa,ra.step t2,Rep.back (c':=⟨X.K,b.β,H',G',True⟩) (c:=bR b S1 M' Ga) hK.symm rfl (λa h=>ra.new0 h) e2⟩ (s'.trans t2.gg) m') (λnm w C H2 G2 hc t2=>⟨nm,C,S1,M',Z,U,G2,rfl,w,hc,Ga,oa,ra.step t2⟩) z.2⟩
def XD(c:Bk)(mg:Str->Option Value)(y:Str->Prop):XK:=λv _ H'=>∃nm C G',v=.ref C/\y nm/\mg nm=some (.ref C)/\aY c.β c.H0 c.G0 H' G'
abbrev my(n:Nat)(F:ik)(y:Str->Prop)(R:WL):WE:=λZ Q=>R Z λds=>ds.length=n/\zL F ds Q y
def qR(C:eY X.prog X.w X.K X.mg X.base x k ps (cj X.K X.mg n F))(hR:DA X c (e::es) R)(hx:jZ (aZ X.prog X.w) X (XD c X.mg y))(hg:Gl X x:=by rfl)
  (hdb:ZD x:=by decide) (sk:Sk X e es pos:=by exact⟨rfl,rfl⟩) (hK:c.K=X.K:=by rfl) (hr:bA k X.A:=by decreasing_trivial) :
  DE X c (.Call (.Name x p) (e::es) [] pos) (my n F y R)where
 mono:=λZ Q Q' l q=>hR.mono Z _ _ (λds z=>⟨z.1,DK F l (λ_ w=>w) z.2⟩) q
 pe:=by
  obtain⟨f,fd,FO,hm,hk,hb⟩:=C.ex;refine dw (zq FO hr hg hm hk hb .nil hx hR.pa hdb sk.1 sk.2) λU H Q ⟨Z,G,r,q⟩=>⟨Z,G,r,hR.mono Z _ _ (λds z vs H' G' t ea=>?_) q⟩;show cj X.K X.mg n F _ H' Q _;rw[YAF];have ra:=r.step t;exact⟨c.β,G',ds,t.gh,t.bx,aC.back (c':=c) (c:=⟨X.K,c.β,λ_=>none,G',True⟩) hK rfl (λ_ _=>rfl) ea,by exact ea.length▸z.1,
   DK F (λd w v H2 G2 t2 e2=>w v H2 G2 (t.trans t2) (Rep.back (c':=⟨X.K,c.β,H',G',True⟩) hK.symm rfl (λa h=>ra.new0 h) e2)) (λnm w C H2 G2 hc t2=>⟨nm,C,G2,rfl,w,hc,ra.stp.trans t2⟩) z.2⟩
abbrev yd(R:aJ->WL)(y:aJ->Prop):WF:=λ_ S Z=>R S Z λds=>ds.length<=1000/\y S
def yN(hR:∀S M G1,DA X.nox (bR b S M G1) (e::es) (R S))(hx:∀aa s U H G h' ea us S M Z,Inv X aa U H s->bL b S M Z U H G->Heap.MadeExcOf s.heap h' ea (.ref C) us->y S->X.xe (.ref ea) {s with heap:=h'})(ho:PySem.W.excIn X.K C nC "ValueError.__new__"=true)(hm:X.mg x=some (.ref C))(hc:X.calm=true:=by rfl)(hg:Gl X x:=by rfl)
  (hd:ZD x:=by decide) (sk:Sk X e es cpos:=by exact⟨rfl,rfl⟩):OS X b (.Raise (some (.Call (.Name x np) (e::es) [] cpos)) none pos) (yd R y)where
 mono:=λE E' S Z l q=>q
 ps:=λaa s U H D I ⟨Z,G,S,M,⟨G1,o,r⟩,q⟩=>znO (Y:=λ_ U' H'=>y S/\∃G',bL b S M Z U' H' G') hc ho hg hm (PA.nox (hR S M G1).pa) (λaa s U H h' ea us I m _ ⟨z,G,t⟩=>hx aa s U H G h' ea us S M Z I t m z) hd sk.1 sk.2 aa s U H D I
  ⟨Z,G,r,(hR S M G1).mono Z _ _ (λds z vs H' G' t v=>⟨by rw[<-v.length,YAS];have:=z.1;omega,z.2,G',G1,o,r.step t⟩) q⟩
end
end Fd
namespace L2
open PySem PySem.Spec PyProof.Rows PySem.W
section
variable{X:Cx}{CX:qC}{E:XK}{x:Str}{i:Nat}{p pos:Pos}{e:Expr}{es:List Expr}{t:TA}
def zwI(X:Cx)(CX:qC)(i:Nat)(E:XK)(t:TA):TE:=λU H Q=>∃f fd k ps sp,U[i]?=some (some (V.ref f))/\aG X.prog X.w X.K X.mg X.base CX k f fd ps sp/\bA k X.A/\PySem.W.keepIn X.K (.ref f)=true/\Binds X.K fd ps []/\t U H λvs H1=>sp (vs++[]) H1 Q E
def zof(hN:X.N[i]?=some x)(hv:Et X.env.scope x)(hx:jZ CX X E)(ha:PA X (e::es) t)(hd:ZD x:=by decide)(hcd:(x==("__classdict__":Str))=false:=by decide)
  (he:starEach (e::es) X.env=(false,eval e X.env)::starEach es X.env:=by rfl) (hpl:(backTo pos (starEach es X.env)).any (·.1)=false:=by rfl):PE X (.Call (.Name x p) (e::es) [] pos) (zwI X CX i E t):=by
 intro aa s U H Q I ⟨f,fd,k,ps,sp,ev,F,hr,hk,hb,h⟩;obtain⟨m,hn,hl⟩:=id I.loc;obtain⟨u,r,l⟩:=hl i x _ hN ev hv;obtain rfl:u=Value.ref f:=r;have go:wpAny _ X.A (callWith pos _ [] _ _) _ X.xe s:=
  YCj I.ok.mod.kin hk (bK (ha pos aa s U H _ I h) λus s1 ⟨vs,H1,I1,r,q⟩=>⟨I1.kIn,Hl F hr hb .nil hx I1 r q⟩) he hpl
 rcases l with⟨hk,hm⟩|⟨hk,c,hc,hcell⟩
 .exact zp (DN (wpAny_loadName_local I.ok.kind hk hn hm go) hd)
 .rcases hk with hk|hk
  .exact zp (DN (wpAny_loadName_cell I.ok.kind hk hc hcell go) hd)
  .exact zp (DN (wpAny_loadName_free I.ok.kind hk hc hcell go hcd) hd)
end
end L2
namespace Fd
open PySem L2
structure Tab(X:Cx)(n:Nat)(T:List (Addr×ik)):Prop where
 ex:∀q∈T,∃fd k ps,aG X.prog X.w X.K X.mg X.base (aZ X.prog X.w) k q.1 fd ps (cj X.K X.mg n q.2)/\bA k X.A/\PySem.W.keepIn X.K (.ref q.1)=true/\Binds X.K fd ps []
section
variable{X:Cx}{c:Bk}{e:Expr}{es:List Expr}{pos p:Pos}{y:Str->Prop}
def zny(i n:Nat)(T:List (Addr×ik))(y:Str->Prop)(R:WL):WE:=λZ Q=>match Z[i]? with
 |some (.val (.obj f))=>∃F,(f,F)∈T/\R Z λds=>ds.length=n/\zL F ds Q y
 |_=>False
def zut(hT:Tab X n T)(hR:DA X c (e::es) R)(hx:jZ (aZ X.prog X.w) X (XD c X.mg y))(nk:Nk X i x:=by decreasing_trivial)(sk:Sk X e es pos:=by exact⟨rfl,rfl⟩)(hK:c.K=X.K:=by rfl) :
  DE X c (.Call (.Name x p) (e::es) [] pos) (zny i n T y R)where
 mono:=λZ Q Q' l q=>by
  unfold zny at q ⊢;split at q
  .obtain⟨F,h1,q⟩:=q;exact⟨F,h1,hR.mono Z _ _ (λds z=>⟨z.1,DK F l (λ_ w=>w) z.2⟩) q⟩
  .exact q.elim
 pe:=dw (zof nk.N nk.v hx hR.pa nk.d nk.c sk.1 sk.2) λU H Q ⟨Z,G,r,q⟩=>by
  unfold zny at q;split at q
  .rename_i f ei
   obtain⟨F,h1,q⟩:=q;obtain⟨fd,k,ps,FO,hr,hk,hb⟩:=hT.ex _ h1;obtain⟨v,ev,rv⟩:=r.slot i _ ei;have rv':=rv;subst rv';refine⟨f,fd,k,ps,_,ev,FO,hr,hk,hb,Z,G,r,hR.mono Z _ _ (λds z vs H' G' t ea=>?_) q⟩;show cj X.K X.mg n F _ H' Q _;rw[YAF];have ra:=r.step t;exact⟨c.β,G',ds,t.gh,t.bx,aC.back (c':=c) (c:=⟨X.K,c.β,λ_=>none,G',True⟩) hK rfl (λ_ _=>rfl) ea,by exact ea.length▸z.1,
    DK F (λd w v H2 G2 t2 e2=>w v H2 G2 (t.trans t2) (Rep.back (c':=⟨X.K,c.β,H',G',True⟩) hK.symm rfl (λa h=>ra.new0 h) e2)) (λnm w C H2 G2 hc t2=>⟨nm,C,G2,rfl,w,hc,ra.stp.trans t2⟩) z.2⟩
  .exact q.elim
end
end Fd
namespace L2
open PySem PySem.Spec PyProof.Rows
def zlM(hc:X.calm=true):cL X (.type "list") (λvs H Q=>∃d kvs,vs=[.ref d]/\Rd H d (.dK kvs)/\kvs.length<=1000/\∀l,H l=none->Q (.ref l) (upd H l (.lst (kvs.map λp=>kV p.1)))):=by
 intro aa s U H vs us Q I r h;obtain⟨d,kvs,rfl,hd,hz,q⟩:=h;obtain⟨u,rfl,rx⟩:=qx r;cases rx;obtain⟨z,sy,xs,rel,hD⟩:=Al I.hok hd;obtain⟨ep,hat⟩:=hD.dictAt;have lx:xs.length=kvs.length:=rel.length.symm;refine PySem.W.kdl_call (PySem.W.kdl_dict sy) (I.ok.hd hc) hat (by omega) λh' tk acc c' k g ac=>?_;refine⟨.ref s.heap.objs.size,upd H s.heap.objs.size (.lst (kvs.map λp=>kV p.1)),I.laid (t':=tk) k (d8 _) ⟨by rw[cY,YAS];omega,acc.toList,c',?_,by rw[Array.toArray_toList];exact g⟩,rfl,q _ (I.hok.fresh (d8 _))⟩;have go:∀{kvs:List (Key×V)}{xs:List (Key×Value)}{vs:List Value},KV kvs xs->vs.length=xs.length->(∀(j:Nat) v,vs[j]?=some v->∃k x,xs[j]?=some (k,x)/\(lX X.prog X.w).is k v=true)->Vals (kvs.map λp=>kV p.1) vs:=by
  intro kvs xs vs h
  induction h generalizing vs with
  |nil=>intro hl _;cases vs with|nil=>exact .nil|cons _ _=>cases hl
  |cons b _ ih=>
   intro hl hv;cases vs with
   |nil=>cases hl
   |cons v vs=>
    obtain⟨_,_,e,hk⟩:=hv 0 v rfl;cases e;exact .cons (by show RelV (kV _) _;rw[b.1];exact zyh hk) (ih (Nat.succ.inj hl) λj u hu=>hv (j+1) u hu)
 exact go rel (by rw[Af,ac.1]) λj v e=>ac.2 j v (by rw[<-YBB];exact e)
end L2
namespace Fd
open PySem L2
section
variable{X:Cx}{c:Bk}{e ie ve:Expr}{es:List Expr}{rest:List Stmt}{pos p p1 p2 p3 cp tp pos2:Pos}
theorem zta:∀{ks:List Str}{vs:List V},ks.length=vs.length->(jG ks vs).map (λp=>kV p.1)=ks.map V.str
 |[],[],_=>rfl
 |k::ks,v::vs,h=>by
  show kV _::(jG ks vs).map (λp=>kV p.1)=_;rw[zta (by simpa using h)];rfl
end
end Fd
namespace L2
open PySem PySem.Spec PyProof.Rows PySem.W
section
variable{X:Cx}{aa:List (Addr×Obj)}{U:St}{H H':Hp}{s s':Shared}{ea C:Addr}{oe:Obj}{E:Value->Shared->Prop}
def ztG{Q:Flow->Shared->Prop}{x:Str}{D:Addr}{b₀:Stmt}{suite:List Stmt}{pos np:Pos}{rest:List ExceptHandler}(I:Inv X aa U H s)(hs:X.stack=X.env::X.outer)(hf:X.env.frame=some X.env.locals)(N:Gk X.prog X.w X.stack H s ea C H' s')(hg:Gl X x)(hm:X.mg x=some (.ref D))
  (he:exmOne X.K (.ref C) (.ref D)=some true)
  (k:∀oe s2,oe.cls=.ref C->(∃vs,oe.data=.fields vs/\vs[2]?=some Value.none)->Inv (X.sup ea oe λ_ _=>False) aa U H' s2->wpAny (model X.prog X.w) (X.A.mark (some (.ref ea))) (execs (b₀::suite) X.env) Q (λ_ _=>False) s2)
  (hd:ZD x:=by decide) :
  wpAny (model X.prog X.w) X.A (noteFrame (.ref ea) X.env) (λ_ s₂=>wpAny (model X.prog X.w) X.A (setFlight (.ref ea) none) (λ_ s₃=>wpAny (model X.prog X.w) X.A (handleBy (.ref ea) X.env (.ExceptHandler (some (.Name x np)) none (b₀::suite) pos::rest)) Q E s₃) E s₂) E s':=by
 obtain⟨B,fl,hB⟩:=id N.fly;have fl':=fl;rw[hs]at fl';have hA:X.A.frames=some (X.env::X.outer):=by rw[<-hs];exact I.ok.frames
 have frx:∀b∈frs X.stack,∃o,s.heap.get? b=some o:=λb hb=>by
  obtain⟨_,o,ho,_⟩:=I.stack.mem hb;exact⟨o,ho⟩
 refine znn hA hf fl' λh4 held sm4=>?_;refine Dl held λh5 fl5 sm5=>?_;have on5:=N.on hB fl.2.2.1 I.stkFree fl5.1 (sm4.trans sm5) frx;have I5:Inv X aa U H' {s' with heap:=h5}:=I.call' (s':={s' with heap:=h5}) N.os on5.1 on5.2 N.bare λb z=>nomatch z;have sub:∀{b},b=X.env.locals\/b∈X.fs->b∈frs (X.env::X.outer):=λ{b} z=>by
  show b∈(X.env::X.outer).filterMap (·.frame);rw[YAN,hf];exact eX.mpr z
 have apart:∀{h:Heap}{oe:Obj}{vs:Array Value},h.FunFrames B (X.env::X.outer)->h.get? ea=some oe->oe.data=.fields vs->∀{b},b=X.env.locals\/b∈X.fs->ea≠b:=λ{h oe vs} ff e1 e2 {b} z e3=>by
  obtain⟨_,o,ho,hd⟩:=ff.mem (sub z);rw[<-e3,e1]at ho;cases ho;exact hd _ e2
 have hea:H' ea=none:=by
  cases q:H' ea with
  |none=>rfl
  |some u=>
   obtain⟨v,hv⟩:=(N.hok ea u q).ex;obtain⟨oe,vs,e1,_,e3,_⟩:=fl'.first
   have nf:ea∉frs X.stack:=λz=>by
    rw[hs]at z;obtain⟨_,o,ho,hd⟩:=fl'.2.2.1.mem z;rw[e1]at ho;cases ho;exact hd _ e3
   have:=hB ea v hv (.inl ⟨u,q⟩) nf
   rw[fl.2.1]at this;cases this
 have sup:∀{h:Heap}{U:St}{t:Nat},pO B (X.env::X.outer) ea (.ref C) h->Inv X aa U H' {s' with heap:=h,toks:=t}->∃oe,(oe.cls=.ref C/\∃vs,oe.data=.fields vs/\vs[2]?=some Value.none)/\h.get? ea=some oe/\Inv (X.sup ea oe λ_ _=>False) aa U H' {s' with heap:=h,toks:=t}:=λfl I=>by
  obtain⟨oe,vs,e1,e2,e3,e4⟩:=fl.first
  exact⟨oe,⟨e2,vs,e3,e4⟩,e1,I.sup e1 hea (apart fl.2.2.1 e1 e3 (.inl rfl)) (λz=>apart fl.2.2.1 e1 e3 (.inr z) rfl) λv q=>by rw[e3]at q;cases q⟩
 obtain⟨oe5,c5,g5,S5⟩:=sup fl5 I5;refine wpAny_handleBy_cons (codeAny_handlers_test (vZ S5 hg hm ?_ hd)) (by intro q;cases q);refine(exm_one (M:=model X.prog X.w) I5.kIn (c5.1▸(Looks.ld g5).andThen .now) he).here (codeAny_handlers_suite ?_);refine Dl fl5 λh6 fl6 sm6=>?_;have on6:=N.on hB fl.2.2.1 I.stkFree fl6.1 ((sm4.trans sm5).trans sm6) frx;have I6:Inv X aa U H' {s' with heap:=h6}:=I.call' (s':={s' with heap:=h6}) N.os on6.1 on6.2 N.bare λb z=>nomatch z;obtain⟨oe,c6,g6,S6⟩:=sup fl6 I6;exact YAQ (k oe _ c6.1 c6.2 S6) (λ_ _ z=>z) λ_ _ z=>z.elim
abbrev Cx.trd(X:Cx)(pn:List (Addr×Obj))(E:Value->Shared->Prop):Cx:={X with pn:=pn,xe:=E}
theorem Cx.Ok.trd{pn:List (Addr×Obj)}(ok:X.Ok):(X.trd pn E).Ok:=
 ⟨ok.mod,ok.kind,ok.glob,ok.blt,ok.above,ok.inj,ok.has,ok.cab,ok.hd,ok.frames,ok.stk,ok.exf,ok.bs,ok.bsz,ok.noex,ok.exfs,ok.funs,ok.frf⟩
theorem Inv.trd(I:Inv X aa U H s):Inv (X.trd (X.pn++aa) E) [] U H s:=
 ⟨I.ok.trd,I.os,I.bare,I.base,I.loc,I.cell,I.free,I.freeC,λp hp=>I.pin p (by simpa using hp),I.hok,I.len⟩
def Inv.untrd(I:Inv (X.trd (X.pn++aa) E) ps U H s)(ok:X.Ok):Inv X aa U H s:=
 ⟨ok,I.os,I.bare,I.base,I.loc,I.cell,I.free,I.freeC,λp hp=>I.pin p (Ay _ hp),I.hok,I.len⟩
end
end L2
namespace Fd
open PySem L2
def vU(b:Bo)(Ds:Ends):iY where
 nx:=λS Z=>∀ U H' G' M',bL b S M' Z U H' G'->Ds.nx U H'
 rt:=λS d=>∀v H' G' M' G1,(∃ad,Kn b.K b.β G1 S M' ad)->Out b M' G1->aY b.β (ov b.H0 M') G1 H' G'->Rep (bR b S M' G1) G' d v->Ds.rt v H'
 bk:=λS Z=>∀ U H' G' M',bL b S M' Z U H' G'->Ds.bk U H'
 ct:=λS Z=>∀ U H' G' M',bL b S M' Z U H' G'->Ds.ct U H'
def eO:iY.Le (vU b Ds) (uL b G M Ds):=
 ⟨λS Z h U H' G' M' r _ _=>h U H' G' M' r,λS d h v H' G' M' G2 k o t _ e=>h v H' G' M' G2 k o t e,λS Z h U H' G' M' r _ _=>h U H' G' M' r,λS Z h U H' G' M' r _ _=>h U H' G' M' r⟩
structure Bs(X:Cx)(b:Bo)(sts:List Stmt)(W:WF):Prop where
 mono:Gv W
 pss:mq X sts (λDs U H=>∃ Z G S M,bL b S M Z U H G/\W (vU b Ds) S Z)
section
variable{X:Cx}{b:Bo}{st b₀:Stmt}{rest body suite:List Stmt}{pos hpos np:Pos}
def zx8(h:mQ X b rest W):Bs X b rest W:=⟨h.mono,yo h.pss λD U H ⟨Z,G,S,M,r,q⟩=>⟨Z,G,S,M,r,h.mono _ _ S Z eO q⟩⟩
def zpB(h1:OS X b st A)(h2:Bs X b rest B):Bs X b (st::rest) (aN A B)where
 mono:=λE E' S Z l q=>h1.mono {E with nx:=B E} _ S Z ⟨λS' Z' z=>h2.mono _ _ S' Z' l z,l.rt,l.bk,l.ct⟩ q
 pss:=yo (pD h1.ps h2.pss) λD U H ⟨Z,G,S,M,r,q⟩=>⟨Z,G,S,M,r,h1.mono {vU b D with nx:=B (vU b D)} _ S Z ⟨λS' Z' z U' H' G' M' r' _ _=>⟨Z',G',S',M',r',z⟩,λS' d z=>eO.rt S' d z,λS' Z' z=>eO.bk S' Z' z,λS' Z' z=>eO.ct S' Z' z⟩ q⟩
def bL.blank(r:bL b S M Z U H G)(h:U'.length=n):bL b S M (List.replicate n .un) U' H G:=by
 obtain⟨G1,o,r⟩:=r;have nn:∀(i:Nat) s,(List.replicate n Sl.un)[i]?=some s->s=.un:=λi s e=>by
  rw[CP]at e;split at e<;>cases e
  rfl
 exact⟨G1,o,by simp[h],r.stp,λi s e=>by rw[nn i s e];trivial,λi j a xs ys e1=>(by have:=nn i _ e1;cases this),r.kn⟩
def zwx(n:Nat)(xc:Str)(B:(Str->aJ->Prop)->WF)(V R:WF):WF:=λE S Z=>∃Y,B Y {E with nx:=R E} S Z/\∀nm S',Y nm S'->nm=xc/\V {E with nx:=R E} S' (List.replicate n .un)
def ztM{xc:Str}{Dc:Addr}{B:(Str->aJ->Prop)->WF}{V R:WF}{n:Nat}(hB:∀(Y:Str->aJ->Prop) (pn:List (Addr×Obj)) (xe:Value->Shared->Prop),jZ (aZ X.prog X.w) (X.trd pn xe) (XO b X.mg Y)->mQ (X.trd pn xe) b body (B Y))
  (hV:∀ea oe,mQ (X.sup ea oe λ_ _=>False) b (b₀::suite) V) (hR:Bs X b rest R) (hm:X.mg xc=some (.ref Dc)) (hx:PySem.W.exmOne X.K (.ref Dc) (.ref Dc)=some true)
  (hst:X.stack=X.env::X.outer:=by rfl) (hfr:X.env.frame=some X.env.locals:=by rfl) (hg:Gl X xc:=by rfl) (hn:X.N.length=n:=by rfl) (hdc:ZD xc:=by decide) :
  Bs X b (.Try body [.ExceptHandler (some (.Name xc np)) none (b₀::suite) hpos] [] [] pos::rest) (zwx n xc B V R)where
 mono:=λE E' S Z l ⟨Y,q,h⟩=>by
  have l':iY.Le {E with nx:=R E} {E' with nx:=R E'}:=⟨λS' Z' z=>hR.mono _ _ S' Z' l z,l.rt,l.bk,l.ct⟩;exact⟨Y,(hB Y [] (λ_ _=>True) λ_ _ _ _ _ _ _ _=>trivial).mono _ _ S Z l' q,λnm S' y=>⟨(h nm S' y).1,(hV 0 {cls:=.none,data:=.fields #[]}).mono _ _ S' _ l' (h nm S' y).2⟩⟩
 pss:=by
  refine yo (pD (t:=λDs U H=>∃ Z G S M Y,bL b S M Z U H G/\B Y (vU b Ds) S Z/\∀nm S',Y nm S'->nm=xc/\V (vU b Ds) S' (List.replicate n .un)) ?_ hR.pss) λD U H ⟨Z,G,S,M,r,Y,q,h⟩=>⟨Z,G,S,M,Y,r,?_⟩
  .intro aa s U H Ds I ⟨Z,G,S,M,Y,r,q,hY⟩;have ps:jZ (aZ X.prog X.w) (X.trd (X.pn++aa) λe s'=>∃ U1 H1 s1,Inv X aa U1 H1 s1/\aZ X.prog X.w X.stack H1 s1 (XO b X.mg Y) e s') (XO b X.mg Y):=λps' U1 H1 s1 e s' I1 cx=>⟨U1,H1,s1,I1.untrd I.ok,cx⟩;have h:=hB Y _ _ ps;refine wpAny_Try_except (YAQ (h.pss [] s U H Ds I.trd ⟨Z,G,S,M,r,h.mono _ _ S Z eO q⟩) (λf s1 z=>?_) λe s1 ⟨U1,H1,s0,I1,ea,C,H',ee,N,nm,C',S',M',Z',U',G',ec,y,hc,r'⟩=>?_)
   .cases f with
    |next=>obtain⟨U1,H1,I1,z⟩:=z;exact KN ⟨U1,H1,I1.untrd I.ok,z⟩
    |brk=>obtain⟨U1,H1,I1,z⟩:=z;exact⟨U1,H1,I1.untrd I.ok,z⟩
    |cont=>obtain⟨U1,H1,I1,z⟩:=z;exact⟨U1,H1,I1.untrd I.ok,z⟩
    |ret u=>obtain⟨v,U1,H1,I1,rv,z⟩:=z;exact⟨v,U1,H1,I1.untrd I.ok,rv,z⟩
   .subst ee;cases ec;obtain⟨e1,v⟩:=hY nm S' y;subst e1;rw[hm]at hc;cases hc;refine ztG I1 hst hfr N hg hm hx (λoe s2 hoc _ I2=>?_) hdc;have hv:=hV ea oe;have r2:bL b S' M' (List.replicate n .un) U1 H' G':=r'.blank (I1.len.trans hn);refine YAQ (hv.pss aa s2 U1 H' Ds I2 ⟨_,G',S',M',r2,hv.mono _ _ S' _ eO v⟩) (λf s4 z=>?_) λ_ _ w=>w;cases f with
    |next=>obtain⟨U1,H1,I1,z⟩:=z;exact⟨U1,H1,I1.unsup I.ok,z⟩
    |brk=>obtain⟨U1,H1,I1,z⟩:=z;exact⟨U1,H1,I1.unsup I.ok,z⟩
    |cont=>obtain⟨U1,H1,I1,z⟩:=z;exact⟨U1,H1,I1.unsup I.ok,z⟩
    |ret u=>obtain⟨v,U1,H1,I1,rv,z⟩:=z;exact⟨v,U1,H1,I1.unsup I.ok,rv,z⟩
  .have l:iY.Le {vU b D with nx:=R (vU b D)} (vU b {D with nx:=λU H=>∃ Z G S M,bL b S M Z U H G/\R (vU b D) S Z}):=⟨λS' Z' z U' H' G' M' r'=>⟨Z',G',S',M',r',z⟩,λS' d z=>z,λS' Z' z=>z,λS' Z' z=>z⟩;exact⟨(hB Y [] (λ_ _=>True) λ_ _ _ _ _ _ _ _=>trivial).mono _ _ S Z l q,λnm S' y=>⟨(h nm S' y).1,(hV 0 {cls:=.none,data:=.fields #[]}).mono _ _ S' _ l (h nm S' y).2⟩⟩
end
def ztu(F:bD K x qual st f fd)
  (hB:∀{cdv:Value}{A:Around}{outer:List PySem.Env}{s:Shared}{H:Hp}{E:XK}{β:Addr}{G M:Hp}(Y:Str->aJ->Prop),(∀nm C H' G' S M' G1,Y nm S->mg nm=some (.ref C)->(∃ad,Kn K β G1 S M' ad)->Out ⟨K,β,mi H M,G,M⟩ M' G1->aY β (ov (mi H M) M') G1 H' G'->E (.ref C) none H')->N.Nodup->bA k (A.deeper (PyProof.Rows.envOfC qual (gB st) s.heap.objs.size f cdv)) ->
   Bs (dI (aZ P w) P w K mg base N qual (gB st) f cdv A outer s H E) ⟨K,β,mi H M,G,M⟩ (nD st) (B Y)) (S:dj N ps (gB st):=by exact⟨rfl,rfl,rfl,by decide,rfl,by decide,by decide⟩):aG P w K mg base (aZ P w) (k+1) f fd ps (bZ K mg ps.length (bY N.length B)):=by
 obtain⟨oc,od,kV,doc,pm,an,cdv,ct,osl,rfl,lk,hcd⟩:=F.ex;refine zrZ lk hcd S (λvs H Q E ⟨β,G,S,M,ad,ds,_,_,_,_,_,h,_⟩=>h) λA outer s H vs Q E hr ⟨β,G,So,M,ad,ds,gh,bx,mh,kn,hv,hl,P',qc,q,hP,hZ⟩=>?_;have mb:M β=none:=by
  cases e:M β with
  |none=>rfl
  |some u=>exact absurd rfl (kn.ap β (by rw[e];simp)).2
 have h:=@hB cdv A outer s H E β G M qc (λnm C H' G' S M' G1 z hm ⟨ad',k'⟩ o' t=>by
  obtain⟨e1,e2,_⟩:=Out.whole mb k' o' t;exact hZ nm S z C H' G' M' ad' hm e1 e2) S.nd hr
 have r0:bL ⟨K,β,mi H M,G,M⟩ So M (eU N.length ds) (L2.uC N vs) H G:=by
  refine⟨G,⟨λa z=>⟨zue z,(kn.ap a z).1,(kn.ap a z).2⟩,Same.refl _,λa z=>.inl z,λa o z=>(vX (by
   cases y:M a with
   |none=>rfl
   |some u=>exact absurd ((kn.ap a (by rw[y];simp)).1.symm.trans z) (by simp))).trans (gh a o z),Dm.refl M⟩,?_⟩
  have h0:=JD (N:=N) gh bx hv;unfold bR;rw[show ov (Bo.H0 ⟨K,β,mi H M,G,M⟩) M=H from zxV mh];exact h0.hyp ⟨ad,kn⟩
 refine⟨_,h.pss,eU N.length ds,G,So,M,r0,h.mono {nx:=λS' _=>P' .non S',rt:=λS' d=>P' d S',bk:=λ_ _=>False,ct:=λ_ _=>False} _ So _ ⟨λS' Z z U H' G' M' ⟨G1,o',r'⟩=>?_,λS' d z v H' G' M' G1 ⟨ad',k'⟩ o' t e=>?_,λS Z z=>z.elim,λS Z z=>z.elim⟩ q⟩
 .obtain⟨ad',k'⟩:=r'.kn;obtain⟨e1,e2,_⟩:=Out.whole mb k' o' r'.stp;exact hP _ _ z .non H' G' M' ad' e1 e2 rfl
 .obtain⟨e1,e2,e3⟩:=Out.whole mb k' o' t;exact hP _ _ z v H' G' M' ad' e1 e2 (e3 d v e)
def qQ:cW (cW S p o) p u=cW S p u:=by
 funext a
 by_cases e:a=p
 .subst e;rw[gK,gK]
 .rw[gQ e,gQ e,gQ e]
theorem lW.set(h:lW o g j zs)(hf:lW o f i xs)(n:i≠j):lW (d9 o i f ys) g j zs:=by
 refine⟨?_,λk y hk e=>?_⟩
 .show(o.fs.set i (f,At.l ys))[j]?=_;rw[mY n];exact h.1
 .have e:(o.fs.set i (f,At.l ys))[k]?=some y:=e;by_cases z:i=k
  .subst z;rw[pZ (nW.mp hf.1).1]at e;cases e;exact h.2 i (f,.l xs) hk hf.1
  .rw[mY z]at e;exact h.2 k y hk e
section
variable{X:Cx}{b:Bo}{pos p p2 p3 fp fp2 fp3 ap ap2 ap3 cp cp2 cp3 tp:Pos}
def zrC(i:Nat)(f g h:Str)(C:Addr):WF:=λE S Z=>match Z[i]? with
 |some (.val (.obj q))=>∃o jf jg jh xs ys zs y z,S q=some o/\o.C=C/\lW o f jf xs/\lW o g jg (ys++[y])/\lW o h jh (zs++[z])/\jg≠jh/\jg≠jf/\jh≠jf/\xs.length<100000 /\
   E.nx (cW S q (d9 (d9 (d9 o jg g ys) jh h zs) jf f (xs++[.tup [y.old,z.old]]))) Z
 |_=>False
def zrP(i:Nat)(hc:jN X.K C)(hnf:bH X.K C f)(hng:bH X.K C g)(hnh:bH X.K C h)(nk:Nk X i x:=by decreasing_trivial)
  (hb1:ZB (.Name x p) f X:=by rfl) (hb2:ZB (.Name x p2) g X:=by rfl) (hb3:ZB (.Name x p3) h X:=by rfl)
  (ha1:ZB (.Attribute (.Name x p) f fp) "append" X:=by rfl)
  (ha2:ZB (.Attribute (.Name x p2) g fp2) "pop" X:=by rfl)
  (ha3:ZB (.Attribute (.Name x p3) h fp3) "pop" X:=by rfl)
  (hl1:(ap.endLine==cp.line)=true:=by rfl) (hl2:(ap2.endLine==cp2.line)=true:=by rfl) (hl3:(ap3.endLine==cp3.line)=true:=by rfl)
  (hfew:((backTo cp (starEach [.Tuple [.Call (.Attribute (.Attribute (.Name x p2) g fp2) "pop" ap2) [] [] cp2,.Call (.Attribute (.Attribute (.Name x p3) h fp3) "pop" ap3) [] [] cp3] k1 tp] X.env)).all (λx=>!x.1)&&(backToKw cp (keywordEach [] X.env)).all (λx=>x.1.isSome)
   && decide (([.Tuple [.Call (.Attribute (.Attribute (.Name x p2) g fp2) "pop" ap2) [] [] cp2,.Call (.Attribute (.Attribute (.Name x p3) h fp3) "pop" ap3) [] [] cp3] k1 tp]:List Expr).length+([]:List Keyword).length+(if ([]:List Keyword).isEmpty then 0 else 1)<30))=true:=by rfl)
  (hs1:starEach [.Tuple [.Call (.Attribute (.Attribute (.Name x p2) g fp2) "pop" ap2) [] [] cp2,.Call (.Attribute (.Attribute (.Name x p3) h fp3) "pop" ap3) [] [] cp3] k1 tp] X.env=(false,eval (.Tuple [.Call (.Attribute (.Attribute (.Name x p2) g fp2) "pop" ap2) [] [] cp2,.Call (.Attribute (.Attribute (.Name x p3) h fp3) "pop" ap3) [] [] cp3] k1 tp) X.env)::starEach [] X.env:=by rfl)
  (hsw:swapsWith (.Call (.Attribute (.Attribute (.Name x p) f fp) "append" ap) [.Tuple [.Call (.Attribute (.Attribute (.Name x p2) g fp2) "pop" ap2) [] [] cp2,.Call (.Attribute (.Attribute (.Name x p3) h fp3) "pop" ap3) [] [] cp3] k1 tp] [] cp) none pos.line X.env=pure false:=by rfl) (hK:b.K=X.K:=by rfl) :
  OS X b (.Expr (.Call (.Attribute (.Attribute (.Name x p) f fp) "append" ap) [.Tuple [.Call (.Attribute (.Attribute (.Name x p2) g fp2) "pop" ap2) [] [] cp2,.Call (.Attribute (.Attribute (.Name x p3) h fp3) "pop" ap3) [] [] cp3] k1 tp] [] cp) pos) (zrC i f g h C)where
 mono:=λE E' S Z l q=>by
  unfold zrC at q ⊢;split at q
  .obtain⟨o,jf,jg,jh,xs,ys,zs,y,z,h1,h2,h3,h4,h5,n1,n2,n3,h6,q⟩:=q;exact⟨o,jf,jg,jh,xs,ys,zs,y,z,h1,h2,h3,h4,h5,n1,n2,n3,h6,l.nx _ _ q⟩
  .exact q.elim
 ps:=lZ (Ex (HB YAW YBN YBO zg8 (tE (kY nk.N nk.v nk.d nk.c) hb1)
   (kj (ztd (kj (zpN YAW YB3 YB4 zqF (tE (kY nk.N nk.v nk.d nk.c) hb2) ha2 hl2)
    (kj (zpN YAW YB3 YB4 zqF (tE (kY nk.N nk.v nk.d nk.c) hb3) ha3 hl3) nF))) nF hs1) ha1 hfew hl1 hs1 rfl) hsw) λD U H ⟨Z,G,S,M,⟨G1,u,r⟩,q⟩=>by
  unfold zrC at q;split at q
  .rename_i a0 ei
   obtain⟨o,jf,jg,jh,xs,ys,zs,y,z,h1,h2,h3,h4,h5,n1,n2,n3,h6,q⟩:=q;obtain⟨v,ev,rv⟩:=r.slot i _ ei;have rv':v=V.ref a0:=rv;subst rv';have hMH:∀{M H G G1:Hp}{S:aJ},Out b M G1->Rel (bR b S M G1) Z U H G->∀c w,M c=some w->H c=some w:=λu r c w hc=>r.stp.fr c w (u.mb c (by rw[hc];simp)).2.2 (qN hc);obtain⟨ad,k⟩:=id r.kn
   -- the list that is appended to
   obtain⟨dx,af,vf,k1,k2,k3,k4,k5⟩:=k.at h1 h3;have hM:=hMH u r;refine⟨.ref a0,ev,a0,o.C,dx,_,.ref af,rfl,hM _ _ k1,h2▸hc,h2▸hnf,k2,.inl ⟨rfl,vf,cg.of (hM _ _ k4)⟩,?_⟩
   -- the first pop
   obtain⟨dx',ag,vg,l1,l2,l3,l4,l5⟩:=k.at h1 h4;obtain⟨wg,vy,e1,e2,e3⟩:=zgE l5;subst e1;refine⟨.ref a0,ev,a0,o.C,dx',_,.ref ag,rfl,hM _ _ l1,h2▸hc,h2▸hng,l2,.inl ⟨rfl,_,cg.of (hM _ _ l4)⟩,?_⟩;refine⟨ag,wg++[vy],vy,rfl,rfl,hM _ _ l4,by simp,?_⟩;rw[YB9];obtain⟨u2,r2,kk2,dm2⟩:=bL.put' (ys:=.l ys) u r k h1 h4 l3 l4 (λ_ _ _ z=>by cases z) ⟨_,rfl,jr e2 r.stp.gg⟩;have hM2:=hMH u2 r2;have S2:cW S a0 (d9 o jg g ys) a0=some (d9 o jg g ys):=gK
   -- the second
   obtain⟨dx2,ah,vh,m1,m2,m3,m4,m5⟩:=kk2.at S2 (h5.set h4 n1);obtain⟨wh,vz,f1,f2,f3⟩:=zgE m5;subst f1;refine⟨.ref a0,ev,a0,(d9 o jg g ys).C,dx2,_,.ref ah,rfl,hM2 _ _ m1,h2▸hc,h2▸hnh,m2,.inl ⟨rfl,_,cg.of (hM2 _ _ m4)⟩,?_⟩;refine⟨ah,wh++[vz],vz,rfl,rfl,hM2 _ _ m4,by simp,?_⟩;rw[YB9];obtain⟨u3,r3,kk3,dm3⟩:=bL.put' (ys:=.l zs) u2 r2 kk2 S2 (h5.set h4 n1) m3 m4 (λ_ _ _ z=>by cases z) ⟨_,rfl,jr f2 r2.stp.gg⟩
   -- the tuple
   refine⟨by rw[YAS];show 2<=16777216;decide,λt ht=>?_⟩;have tn:G t=none:=lU r3.gh ht;have r4:=r3.step (aY.new (o:=.tup [vy,vz]) r3.gh r3.bx ht);have S3:cW (cW S a0 (d9 o jg g ys)) a0 (d9 (d9 o jg g ys) jh h zs) a0=some (d9 (d9 o jg g ys) jh h zs):=gK;have if3:lW (d9 (d9 o jg g ys) jh h zs) f jf xs:=(h3.set h4 n2).set (h5.set h4 n1) n3;obtain⟨dx3,af',vf',q1,q2,q3,q4,q5⟩:=kk3.at S3 if3;have eaf:af'=af:=by rw[k3]at q3;exact(Option.some.inj q3).symm
   subst eaf;have hM4:=hMH u3 r4;have hy:aC (il b.K b.β (upd G t (.tup [vy,vz]))) (upd G t (.tup [vy,vz])) (xs++[.tup [y.old,z.old]]) (vf'++[.ref t]):=by
    refine(jr q5 (lD tn)).append (.one ⟨t,[vy,vz],rfl,fM.of cG,vy,[vz],rfl,?_,vz,[],rfl,?_,rfl⟩)
    .exact(Rep.hand (c:=il b.K b.β G1) (c':=il b.K b.β (upd G t (.tup [vy,vz]))) rfl rfl (e3.mono r.stp.gg)).mono (lD tn)
    .exact(Rep.hand (c:=il b.K b.β G) (c':=il b.K b.β (upd G t (.tup [vy,vz]))) rfl rfl (f3.mono r2.stp.gg)).mono (lD tn)
   obtain⟨u5,r5,kk5,dm5⟩:=bL.put' (ys:=.l (xs++[.tup [y.old,z.old]])) u3 r4 kk3 S3 if3 q3 q4 (λ_ _ _ z=>by cases z) ⟨_,rfl,hy⟩;refine⟨af',vf',.ref t,rfl,rfl,hM4 _ _ q4,by rw[<-q5.length,YAS];omega,?_⟩;rw[<-qQ (o:=d9 (d9 o jg g ys) jh h zs),<-qQ (S:=S) (o:=d9 o jg g ys) (u:=d9 (d9 o jg g ys) jh h zs)]at q;exact q U _ _ _ ⟨_,u5,r5⟩ (lD tn) (dm2.trans (dm3.trans dm5))
  .exact q.elim
end
structure Bd(mg:Str->Option Value):Prop where
 dict:mg "dict"=none
 abs:mg "abs"=none
def wI(n:Nat)(B:WF):Prop:=B {nx:=λ_ _=>False,rt:=λ_ d=>d=.bl true,bk:=λ_ _=>False,ct:=λ_ _=>False} (λ_=>none) (.un::.val .box::List.replicate n .un)
def qT:FL
 |[.int i],Q=>Q (.int (if i<0 then -i else i))
 |_,_=>False
def zyj:uw qT:=λds Q Q' k q=>by
 unfold qT at q ⊢;split at q<;>first|exact k _ q|exact q.elim
section
variable{X:Cx}{c:Bk}{b:Bo}{st:Stmt}{e a:Expr}{es:List Expr}{sts x y:List Stmt}{pos p npos bpos:Pos}
def zrE:cL X (.builtin "abs") (λxs H Q=>∃i,xs=[.int i]/\Q (.int (if i<0 then -i else i)) H):=by
 intro aa s U H xs us Q I r h;obtain⟨i,rfl,q⟩:=h;obtain⟨u,rfl,t,rfl⟩:=qx r;exact PyProof.Rows.call_abs_int λu tk=>⟨.int _,H,I.tok _,⟨_,rfl⟩,q⟩
def zvO:uv c qT (λxs H Q=>∃i,xs=[.int i]/\Q (.int (if i<0 then -i else i)) H):=by
 intro H G ds vs Q gh bx h0 rv q;unfold qT at q;split at q
 .obtain⟨v,rfl,h⟩:=uh rv;cases h;exact⟨_,rfl,q _ H G (aY.refl gh bx) rfl⟩
 .exact q.elim
def zyH(hR:DA X c [e] R)(hg:Gl X "abs":=by rfl)(he:ZE e X:=by rfl)(hm:X.mg "abs"=none:=by decreasing_trivial):DE X c (.Call (.Name "abs" p) [e] [] pos) (cbW qT R):=
 zkT zyj zrE zvO hm PyProof.Rows.boot_abs hR hg (by decide) (by decide) he rfl
def zuU{x:Str}{k:Nat}{ps:List Str}{F:Fn}(C:gG X.prog X.w X.K X.mg X.base x k ps (eV X.K 0 F))(hg:Gl X x:=by rfl)(hdb:ZD x:=by decide)(hK:c.K=X.K:=by rfl)(hr:bA k X.A:=by decreasing_trivial):DE X c (.Call (.Name x p) [] [] pos) (dZ 0 F aq)where
 mono:=λZ Q Q' k q=>⟨q.1,qU F _ _ _ k q.2⟩
 pe:=by
  obtain⟨f,fd,FO,hm,hk,hb⟩:=C.ex;exact dw (zsa FO hr hg hm hk hb .nil zc hdb) λU H Q ⟨Z,G,r,q⟩=>(⟨c.β,G,[],r.gh,r.bx,rfl,rfl,qU F _ _ _ (λd z v H2 G2 t2 e2=>z v H2 G2 t2 (Rep.back (c':=⟨X.K,c.β,H,G,True⟩) hK.symm rfl (λa h=>r.new0 h) e2)) q.2⟩)
abbrev bU(A:aJ->WE):WOE:=λZ S Q=>A S Z λd=>Q d S
def aR(h:∀S M G1,DE X (bR b S M G1) e (A S)):OE X b e (bU A):=zmV h
theorem DA.nox(h:DA X.nox c es W):DA X c es W:=⟨h.mono,PA.nox h.pa⟩
theorem mq.nox(h:mq X.nox sts t):mq X sts t:=λaa s U H D I hw=>YAQ (h aa s U H D (I.wish _) hw) (λf s1 z=>by
 cases f with
 |next=>obtain⟨U1,H1,I1,z⟩:=z;exact⟨U1,H1,I1.unwish,z⟩
 |brk=>obtain⟨U1,H1,I1,z⟩:=z;exact⟨U1,H1,I1.unwish,z⟩
 |cont=>obtain⟨U1,H1,I1,z⟩:=z;exact⟨U1,H1,I1.unwish,z⟩
 |ret u=>obtain⟨v,U1,H1,I1,rv,z⟩:=z;exact⟨v,U1,H1,I1.unwish,rv,z⟩) λ_ _ z=>z.elim
theorem mQ.nox(h:mQ X.nox b sts W):mQ X b sts W:=⟨h.mono,mq.nox h.pss⟩
end
def zxa(r:bA k A):A.units+1<cLine:=by have:=bA.units r;omega
def qO:jZ (aZ X.prog X.w) X (XO b X.mg λ_ _=>False):=by
 rintro aa U H s _ s' I ⟨ea,C,H',rfl,N,nm,C',S',M',Z,U',G',ec,y,r⟩;exact y.elim
section
variable{P:Program}{w:World}{K:qd}{mg:Str->Option Value}{base:Heap}{N:List Str}{qual:Str}{scope:Scope}{f:Addr}{cd:Value}{A:Around}{outer:List PySem.Env}{s0:Shared}{H0 H G M:Hp}{E:XK}{β:Addr}
def qy(hY:∀nm C H' G',Y nm->mg nm=some (.ref C)->aY β H G H' G'->E (.ref C) none H'):jZ (aZ P w) (dI (aZ P w) P w K mg base N qual scope f cd A outer s0 H0 E) (XD ⟨K,β,H,G,True⟩ mg Y):=
 zwn λC H' ⟨nm,C',G',ec,y,hm,t⟩=>by cases ec;exact hY nm C H' G' y hm t
def fZ(hY:∀nm C H' G' S M' G1,Y nm S->mg nm=some (.ref C)->(∃ad,Kn K β G1 S M' ad)->Out ⟨K,β,mi H M,G,M⟩ M' G1->aY β (ov (mi H M) M') G1 H' G'->E (.ref C) none H'):jZ (aZ P w) (dI (aZ P w) P w K mg base N qual scope f cd A outer s0 H0 E) (XO ⟨K,β,mi H M,G,M⟩ mg Y):=
 zwn λC H' ⟨nm,C',S',M',Z,U,G',ec,y,hm,G1,o,r⟩=>by cases ec;exact hY nm C H' G' S' M' G1 y hm r.kn o r.stp
end
structure jW(P:Program)(w:World)(K:qd)(mg:Str->Option Value)(base:Heap)(lv n:Nat)(T:List (Addr×ik)):Prop where
 ex:∀q∈T,∃fd k ps,aG P w K mg base (aZ P w) k q.1 fd ps (cj K mg n q.2)/\k<=lv/\PySem.W.keepIn K (.ref q.1)=true/\Binds K fd ps []
def jW.at(h:jW X.prog X.w X.K X.mg X.base lv n T)(hr:bA lv X.A):Tab X n T:=
 ⟨λq hq=>by
  obtain⟨fd,k,ps,h1,h2,h3,h4⟩:=h.ex q hq;exact⟨fd,k,ps,h1,hr.mono h2,h3,h4⟩⟩
def jW.nil:jW P w K mg base lv n []:=⟨λq h=>by cases h⟩
def jW.cons{P:Program}{w:World}{K:qd}{mg:Str->Option Value}{base:Heap}{lv n k:Nat}{T:List (Addr×ik)}{f:Addr}{fd:FuncData}{ps:List Str}{F:ik}{x qual:Str}{st:Stmt}(Fu:bD K x qual st f fd)(h:aG P w K mg base (aZ P w) k f fd ps (cj K mg n F))(hb:Binds K fd ps [])(r:jW P w K mg base lv n T)(hk:k<=lv:=by decide):jW P w K mg base lv n ((f,F)::T):=
 ⟨λq hq=>by
  rcases eX.mp hq with rfl|hq
  .exact⟨fd,k,ps,h,hk,Fu.kp,hb⟩
  .exact r.ex q hq⟩
def jU:vK K (x,t,.ref f) (x,.obj f):=⟨rfl,.ref f,rfl,λc G hK=>rfl⟩
section
open AutoSeq1 (wpAny_loadPart')
open SeqAt MeetsSeq MeetsSeq2 MeetsSeq3 SeqRoads2
def zln(l:Addr)(items:Array Value)(n:Nat)(dd:Option Addr)(sl:Array (Option Value))(x:Value)(hj:0<items.size) :
  Meets (Builtin.«tuple.index» ⟨[.ref l,x],[]⟩)
   (λA R s=>s.heap.get? l=some {cls:=.type "tuple",dict:=dd,data:=.seq items n,slots:=sl}/\EqAt A.in1 s items[0] x true/\R (.ok (.ret (.int 0 s.toks))) {s with toks:=s.toks+1}):=by
 intro prog w A R s h;obtain⟨hp,g,d,tk,os⟩:=s;obtain⟨hl,he,h⟩:=h
 wp_walk using YCg hl
 change wpAny _ _ (forIn [:min items.size items.size] _ _) _ _ _
 rw[Std.Legacy.Range.forIn_eq_forIn_range'];obtain⟨k,hk⟩:∃k,items.size=k+1:=⟨items.size-1,by omega⟩;have e:[:min items.size items.size].size=k+1:=by simp[hk]
 rw[e,List.range'_succ,YCh];refine aP ?_;rw[YBJ hj];refine aP (he prog w _ _ ?_)
 wp_walk
 exact h
end
def zys(K:qd):V->List V->Hp->VK->Prop:=λx vs H Q=>∃(c:Bk)(G:Hp)(ds:List D)(d e:D)(v:V),c.K=K/\Same G H/\Rep c G (.tup (e::ds)) x/\vs=[v]/\Rep c G d v/\nY d (e::ds)/\eqB e d=true/\Q (.int 0) H
def zt7{X:Cx}(hu:X.A.units+64<cLine):yU X "tuple.index" (zys X.K):=by
 intro aa s U H x vs v us Q I rx rv ⟨c,G,ds,d,e,v1,hK,gh,hx,e1,hv,⟨lx,ly,ld⟩,he,q⟩;subst e1;obtain⟨u,rfl,ru⟩:=rv.one;obtain⟨as,qa⟩:=hv.reads hK I gh d ru lx;obtain⟨bs,qb⟩:=hx.reads hK I gh _ rx (ly);have hxs:=zB _ ly;have hd:=vP d lx;obtain⟨ra,_,er,_⟩:=id hx;subst er;obtain rfl:v=Value.ref ra:=rx;cases qb with
 |@tuple _ o items n2 _ as2 h1 h2 h3 h4=>
  have ho:s.heap.get? ra=some {cls:=.type "tuple",dict:=o.dict,data:=.seq items n2,slots:=o.slots}:=by rw[h1,<-h2,<-h3]
  have mp:=SeqAt.readsAll_map _ _ _ hxs h4;have hsz:0<items.size:=by
   have:=congrArg List.length mp
   rw[zlm,cY,cY,YAA,Af]at this;omega
  have at_:SeqAt.readOf s.heap items[0]=toPy e:=by
   have:=congrArg (λl=>l[0]?) mp
   simp only[YAG,YBB,YBJ hsz]at this;exact Option.some.inj this
  refine BJ F.slot_tuple_index ⟨_,ho,rfl⟩ F.entry_tuple_index (F.args_tuple_index_2 _ _) (zln ra items n2 o.dict o.slots u hsz) ⟨ho,?_,⟨.int 0,H,I.tok _,⟨_,rfl⟩,q⟩⟩
  have:=SeqAt.items_eqAt (A:=X.A) h4 qa hxs hd (by omega) items[0] (Array.getElem_mem hsz)
  rw[at_]at this
  rwa[show PyData.eqv _ _=true from he]at this
def zwC{X:Cx}{o e:Expr}{es:List Expr}{apos cpos:Pos}{name:Str}{id:String}{r:V->List V->Hp->VK->Prop}{to:TE}{t:TA}(pa:PlainAttrs "tuple")(slot:Slot "tuple" name id)(hty:typeOf (.builtin id)=pure (.type "method_descriptor"))(hm:yU X id r)(ho:PE X o to)(ha:PA X (e::es) t)
  (hbase:ZB o name X)
  (hfew:((backTo cpos (starEach (e::es) X.env)).all (λx=>!x.1)&&(backToKw cpos (keywordEach [] X.env)).all (λx=>x.1.isSome)
   && decide ((e::es).length+([]:List Keyword).length+(if ([]:List Keyword).isEmpty then 0 else 1)<30))=true)
  (hline:(apos.endLine==cpos.line)=true) (hs:starEach (e::es) X.env=(false,eval e X.env)::starEach es X.env) (hplain:(backTo cpos (starEach es X.env)).any (·.1)=false) :
  PE X (.Call (.Attribute o name apos) (e::es) [] cpos) (λU H Q=>to U H λx H1=>(∃p xs,x=.ref p/\fM X.K H1 p xs)/\t U H1 λvs H2=>r x vs H2 Q):=by
 intro aa s U H Q I h;refine wpAny_Call_method_late hbase hfew hline rfl (bK (ho aa s U H _ I h) λv s1 ⟨x,H1,I1,r1,⟨p,xs,ex,ty⟩,q1⟩=>?_);subst ex;have ev:=r1;subst ev;obtain⟨_,_,⟨ob,e1,c1,_⟩,_⟩:=I1.tuple ty;refine⟨"tuple",id,pa,slot,hty,⟨_,e1,c1⟩,λa e=>by cases e;exact I1.uM ty,?_⟩;have hA:=ha cpos aa s1 U H1 _ I1 q1;rw[hs]at hA ⊢;refine YBw (by show(false || (backTo cpos _).any (·.1))=false;rw[hplain]<;>rfl) (YBI ?_);exact bK hA λus s2 ⟨vs,H2,I2,r2,q2⟩=>hm aa s2 U H2 (.ref p) vs _ us Q I2 rfl r2 q2
def Ei(xs:List D)(y:D)(Q:D->Prop):Prop:=match xs with
 |e::r=>nY y (e::r)/\eqB e y=true/\Q (.int 0)
 |[]=>False
def zxE{xs:List D}{y:D}{Q Q':D->Prop}(k:∀d,Q d->Q' d)(q:Ei xs y Q):Ei xs y Q':=by
 cases xs with
 |nil=>exact q
 |cons e r=>exact⟨q.1,q.2.1,k _ q.2.2⟩
def uM(x:D)(Q:List D->Prop):Prop:=match x with|.tup xs=>Q xs|_=>False
def zxD{x:D}{Q Q':List D->Prop}(k:∀xs,Q xs->Q' xs)(q:uM x Q):uM x Q':=by
 cases x<;>first|exact k _ q|exact q
abbrev zwV(A B:WE):WE:=λZ Q=>A Z λx=>uM x λxs=>B Z λy=>Ei xs y Q
def zwR{X:Cx}{c:Bk}{o e:Expr}{A B:WE}{apos cpos:Pos}(hA:DE X c o A)(hB:DE X c e B)(hbase:ZB o "index" X:=by rfl)
  (hfew:ZF cpos e X:=by rfl)
  (hline:(apos.endLine==cpos.line)=true:=by rfl) (hs:ZE e X:=by rfl) (hplain:(backTo cpos (starEach [] X.env)).any (·.1)=false:=by rfl) (hK:c.K=X.K:=by rfl) (hu:X.A.units+64<cLine:=by decreasing_trivial) :
  DE X c (.Call (.Attribute o "index" apos) [e] [] cpos) (zwV A B)where
 mono:=λZ Q Q' k q=>hA.mono Z _ _ (λx z=>zxD (λt y=>hB.mono Z _ _ (λy z=>zxE k z) y) z) q
 pe:=dw (zwC PySem.F.plainAttrs_tuple PySem.F.slot_tuple_index PySem.F.type_tuple_index (zt7 hu) hA.pe (kj hB.pe nF hs) hbase hfew hline hs hplain) λU H Q ⟨Z,G,R,q⟩=>⟨Z,G,R,hA.mono Z _ _ (λx z v H1 G1 t1 e1=>by
  cases x with
  |tup xs=>
   obtain⟨a,vs,ea,ha,rv⟩:=id e1;subst ea;refine⟨⟨a,vs,rfl,hK▸qI t1.gh ha⟩,Z,G1,R.step t1,hB.mono Z _ _ (λy z v H2 G2 t2 e2=>?_) z⟩;cases xs with
   |nil=>exact z.elim
   |cons e0 r=>exact⟨c,G2,r,y,e0,v,hK,t2.gh,e1.mono t2.gg,rfl,e2,z.1,z.2.1,z.2.2 _ H2 G2 (t1.trans t2) rfl⟩
  |_=>exact z.elim) q⟩
theorem zku{α:Type}:∀{ks:List Str}{vs:List α}{z:Str},ks.length=vs.length->(jO ks vs z).isSome=ks.contains z
 |[],[],z,_=>rfl
 |k::ks,v::vs,z,h=>by
  show(if k=z then some v else jO ks vs z).isSome=(k::ks).contains z;by_cases e:k=z
  .subst e;simp
  .rw[if_neg e,zku (by simpa using h)];simp[YAD e]
section
variable{X:Cx}{b:Bo}{e:Expr}{es:List Expr}{pos p p1 p2 np q1 q2 fpos hpos cpos spos bpos:Pos}{y:Str->aJ->Prop}
abbrev Cy(n:Nat)(F:aJ->Fn)(R:WOA):WOE:=λZ S Q=>R Z S λds S1=>ds.length=n/\up (F S1) ds λd=>Q d S1
def zqX(C:gG X.prog X.w X.K X.mg X.base x k ps (gR X.K n F))(hR:OA X b (e::es) R)(hg:Gl X x:=by rfl)
  (hdb:ZD x:=by decide) (sk:Sk X e es pos:=by exact⟨rfl,rfl⟩) (hK:b.K=X.K:=by rfl) (hr:bA k X.A:=by decreasing_trivial) :
  OE X b (.Call (.Name x p) (e::es) [] pos) (Cy n F R)where
 mono:=λZ S Q Q' l q=>hR.mono Z S _ _ (λds S1 z=>⟨z.1,qU (F S1) ds _ _ (λd w=>l d S1 w) z.2⟩) q
 pe:=by
  obtain⟨f,fd,FO,hm,hk,hb⟩:=C.ex;refine dw (zq FO hr hg hm hk hb .nil zc hR.pa hdb sk.1 sk.2) λU H Q ⟨Z,G,S,M,r,q⟩=>⟨Z,G,S,M,r,hR.mono Z S _ _ (λds S1 z vs H' G' M' r' s' m'=>?_) q⟩;show gR X.K n F (vs++[]) H' Q E0;rw[YAF];obtain⟨Ga,oa,ra,ea⟩:=r';exact ra.read (mZ ra.kn) hK ea z.1 (qU (F S1) ds _ _ (λd w v H2 G2 t2 e2=>w v H2 G2 M' ⟨Ga,oa,ra.step t2,e2⟩ (s'.trans t2.gg) m') z.2)
end
section
variable{X:Cx}{b:Bo}{c:Bk}{e ie:Expr}{es:List Expr}{S:aJ}{C:Addr}{f:Str}{pos p fpos lp tp apos:Pos}{y:Str->aJ->Prop}
def Rel.objA{Z:Env}{U:St}{H G:Hp}{q:Addr}{o:Ob}{j:Nat}{x:At}(r:Rel c Z U H G)(kw:qJ c S)(h:S q=some o)(hf:wz o f j x):∃dx fs a u,H q=some (.ins o.C dx fs)/\fs.lookup f=some (.ref a)/\H a=some u/\uo (il c.K c.β G) G x u/\a≠c.β:=by
 obtain⟨M,ad,k,sub⟩:=kw;obtain⟨dx,a,u,k1,k2,k3,k4,k5⟩:=k.atA h hf;have ma:M a≠none:=by rw[k4];simp
 exact⟨dx,_,a,u,r.stp.fr q _ (k.ap q (by rw[k1];simp)).2 (sub _ _ k1),k2,r.stp.fr a _ (k.ap a ma).2 (sub _ _ k4),k5.mv r.stp.gg,(k.ap a ma).2⟩
def ztI(i:Nat){x:Str}(hc:jN X.K C)(hn:bH X.K C f)(nk:Nk X i x:=by decreasing_trivial)(hs:swapsWith (.Dict [] [] tp) (some (.Attribute (.Name x p) f fpos)) pos.line X.env=pure false:=by rfl):OS X b (.Assign [.Attribute (.Name x p) f fpos] (.Dict [] [] tp) pos) (zsS i f C)where
 mono:=λE E' S Z l q=>by
  unfold zsS at q ⊢;split at q
  .obtain⟨o,h1,h2,h3,h4⟩:=q;exact⟨o,h1,h2,h3,l.nx _ _ h4⟩
  .exact q.elim
 ps:=lZ (ztF (kY nk.N nk.v nk.d nk.c) zsW hs) λD U H ⟨Z,G,S,M,⟨G1,u,r⟩,q⟩=>by
  unfold zsS at q;split at q
  .rename_i a0 ei
   obtain⟨o,h1,h2,h3,h4⟩:=q;intro l hl;obtain⟨v,ev,rv⟩:=r.slot i _ ei;cases (rv);obtain⟨dx,fs,g1,g2,M',rr,dm⟩:=zqn (x:=.d [] []) u r (aY.own r.gh r.bx hl) cG (lU r.gh hl) hl h1 h3 ⟨[],rfl,rfl,rfl⟩;exact⟨.ref a0,ev,a0,o.C,dx,fs,rfl,g1,h2▸hc,h2▸hn,by omega,h4 U _ G _ rr (Same.refl _) dm⟩
  .exact q.elim
def tY(S:aJ)(neg:Bool)(i:Nat)(f:Str)(C:Addr)(A:WE):WT:=λZ Q=>A Z λy=>match Z[i]?,y with
 |some (.val (.obj q)),.str z=>∃o j ks xs,S q=some o/\o.C=C/\wz o f j (.d ks xs)/\Q (neg != ks.contains z)
 |_,_=>False
def zol{neg:Bool}{i:Nat}{A:WE}(hA:km A):yO (tY S neg i f C A):=λZ Q Q' k q=>hA Z _ _ (λy z=>by
 split at z
 .obtain⟨o,j,ks,xs,h1,h2,h3,h4⟩:=z;exact⟨o,j,ks,xs,h1,h2,h3,k _ h4⟩
 .exact z.elim) q
def zyY(i:Nat){x:Str}{A:WE}(hA:DE X c e A)(hk:c.P->qJ c S)(hc:jN X.K C)(hn:bH X.K C f)(nk:Nk X i x:=by decreasing_trivial)(hb0:ZB (.Name x p) f X:=by rfl)(hm:behindInMarks .In (.Attribute (.Name x p) f fpos)=false:=by with_unfolding_all rfl)(hu:X.A.units+1<cLine:=by decreasing_trivial):DT X c (.Compare e [.In] [.Attribute (.Name x p) f fpos] pos) (tY S false i f C A)where
 mono:=zol hA.mono
 pt:=zE (znT (zwd hu hA.pe (tE (kY nk.N nk.v nk.d nk.c) hb0)) hm) λU H Q ⟨Z,G,r,q⟩=>⟨Z,G,r,hA.mono Z _ _ (λy z vy H1 G1 t1 e1=>by
  split at z
  .rename_i a0 s ei
   obtain⟨o,j,ks,xs,h1,h2,h3,h4⟩:=z;obtain⟨dx,fs,a,_,g1,g2,g3,⟨vs,rfl,gl,g4⟩,g5⟩:=(r.step t1).objA (hk r.kn) h1 h3;obtain⟨v,ev,rv⟩:=(r.step t1).slot i _ ei;cases (rv);cases (e1);refine⟨.ref a0,ev,a0,o.C,dx,fs,.ref a,rfl,g1,h2▸hc,h2▸hn,g2,a,_,rfl,.inl ⟨_,Sum.inr s,.inl g3,rfl,rfl⟩,_,rfl,?_⟩;rw[Dd,zku gl]
   have:=h4 H1 G1 t1
   simpa using this
  .exact z.elim) q⟩
def zrI(i:Nat){x:Str}{A:WE}(hA:DE X c e A)(hk:c.P->qJ c S)(hc:jN X.K C)(hn:bH X.K C f)(nk:Nk X i x:=by decreasing_trivial)(hb0:ZB (.Name x p) f X:=by rfl)(hm:behindInMarks .NotIn (.Attribute (.Name x p) f fpos)=false:=by with_unfolding_all rfl)(hu:X.A.units+1<cLine:=by decreasing_trivial):DT X c (.Compare e [.NotIn] [.Attribute (.Name x p) f fpos] pos) (tY S true i f C A)where
 mono:=zol hA.mono
 pt:=zE (znT (zpK hu hA.pe (tE (kY nk.N nk.v nk.d nk.c) hb0)) hm) λU H Q ⟨Z,G,r,q⟩=>⟨Z,G,r,hA.mono Z _ _ (λy z vy H1 G1 t1 e1=>by
  split at z
  .rename_i a0 s ei
   obtain⟨o,j,ks,xs,h1,h2,h3,h4⟩:=z;obtain⟨dx,fs,a,_,g1,g2,g3,⟨vs,rfl,gl,g4⟩,g5⟩:=(r.step t1).objA (hk r.kn) h1 h3;obtain⟨v,ev,rv⟩:=(r.step t1).slot i _ ei;cases (rv);cases (e1);refine⟨.ref a0,ev,a0,o.C,dx,fs,.ref a,rfl,g1,h2▸hc,h2▸hn,g2,a,_,rfl,.inl ⟨_,Sum.inr s,.inl g3,rfl,rfl⟩,_,rfl,?_⟩;rw[Dd,zku gl]
   have:=h4 H1 G1 t1
   simpa using this
  .exact z.elim) q⟩
def zrS(S:aJ)(i:Nat)(f:Str)(C:Addr)(B:WE):WE:=λZ Q=>match Z[i]? with
 |some (.val (.obj q))=>∃o j ks xs,S q=some o/\o.C=C/\wz o f j (.d ks xs)/\B Z λy=>(match y with|.str z=>qX (jO ks xs z) λd=>Q d.old|_=>False)
 |_=>False
def zwB(i:Nat){x:Str}{B:WE}(hB:DE X c e B)(hk:c.P->qJ c S)(hc:jN X.K C)(hn:bH X.K C f)(hs:sV e:=by intro _ _;rfl)(nk:Nk X i x:=by decreasing_trivial)(hb0:ZB (.Name x p) f X:=by rfl)(hu:X.A.units+1<cLine:=by decreasing_trivial):DE X c (.Subscript (.Attribute (.Name x p) f fpos) e pos) (zrS S i f C B)where
 mono:=λZ Q Q' k q=>by
  unfold zrS at q ⊢;split at q
  .obtain⟨o,j,ks,xs,h1,h2,h3,q⟩:=q;refine⟨o,j,ks,xs,h1,h2,h3,hB.mono Z _ _ (λy z=>?_) q⟩;split at z
   .exact ziK (λd w=>k _ w) z
   .exact z.elim
  .exact q.elim
 pe:=dw (zqo hu (tE (kY nk.N nk.v nk.d nk.c) hb0) hB.pe hs) λU H Q ⟨Z,G,r,q⟩=>by
  unfold zrS at q;split at q
  .rename_i a0 ei
   obtain⟨o,j,ks,xs,h1,h2,h3,q⟩:=q;obtain⟨dx,fs,a,_,g1,g2,g3,⟨vs,rfl,gl,g4⟩,g5⟩:=r.objA (hk r.kn) h1 h3;obtain⟨v,ev,rv⟩:=r.slot i _ ei;cases (show v=V.ref a0 from rv);refine⟨.ref a0,ev,a0,o.C,dx,fs,.ref a,rfl,g1,h2▸hc,h2▸hn,g2,Z,G,r,hB.mono Z _ _ (λy z w H1 G1 t1 e1=>?_) q⟩;split at z
   .rename_i s
    cases (show w=V.str s from e1);cases ed:jO ks xs s with
    |none=>rw[ed]at z;exact z.elim
    |some d=>
     rw[ed]at z;obtain⟨v',f1,f2⟩:=zib g4 ed;refine⟨a,v',rfl,?_,z v' H1 G1 t1 ((Rep.hand (c:=il c.K c.β G) (c':=c) rfl rfl f2).mono t1.gg)⟩
     have:=kO.k (k:=Sum.inr s) (t1.fr a _ g5 g3)
     rw[Dd,f1]at this;exact this
   .exact z.elim
  .exact q.elim
def Eo(S:aJ)(i:Nat)(f:Str)(C:Addr):WL:=λZ Q=>match Z[i]? with
 |some (.val (.obj q))=>∃o j ks xs,S q=some o/\o.C=C/\wz o f j (.d ks xs)/\ks.length<=1000/\Q (ks.map D.str)
 |_=>False
def zt9(i:Nat){x:Str}(hk:c.P->qJ c S)(hc:jN X.K C)(hn:bH X.K C f)(nk:Nk X i x:=by decreasing_trivial)(hb0:ZB (.Name x p) f X:=by rfl)(hg:Gl X "list":=by rfl)(he:starEach [.Attribute (.Name x p) f fpos] X.env=(false,eval (.Attribute (.Name x p) f fpos) X.env)::starEach [] X.env:=by rfl)(hca:X.calm=true:=by rfl)(hm:X.mg "list"=none:=by decreasing_trivial):DF X c (.Call (.Name "list" lp) [.Attribute (.Name x p) f fpos] [] pos) (Eo S i f C)where
 mono:=λZ Q Q' k q=>by
  unfold Eo at q ⊢;split at q
  .obtain⟨o,j,ks,xs,h1,h2,h3,h4,q⟩:=q;exact⟨o,j,ks,xs,h1,h2,h3,h4,k _ q⟩
  .exact q.elim
 pe:=dw (Es (zlM hca) hg hm Ma (kj (tE (kY nk.N nk.v nk.d nk.c) hb0) nF he) (by decide) (by decide) he rfl) λU H Q ⟨Z,G,r,q⟩=>by
  unfold Eo at q;split at q
  .rename_i a0 ei
   obtain⟨o,j,ks,xs,h1,h2,h3,h4,q⟩:=q;obtain⟨dx,fs,a,_,g1,g2,g3,⟨vs,rfl,gl,g4⟩,g5⟩:=r.objA (hk r.kn) h1 h3;obtain⟨v,ev,rv⟩:=r.slot i _ ei;cases (show v=V.ref a0 from rv);refine⟨.ref a0,ev,a0,o.C,dx,fs,.ref a,rfl,g1,h2▸hc,h2▸hn,g2,a,_,rfl,.inl g3,by unfold jG;rw[cY,Bf,<-gl,YCE];exact h4,λl hl=>?_⟩;rw[zta gl];exact q l _ _ _ (aY.own r.gh r.bx hl) cG (lU r.gh hl) hl (eF.mpr rfl)
  .exact q.elim
def Ij(i:Nat)(f:Str)(C:Addr)(I:WE)(A:WOE):WF:=λE S Z=>A Z S λd S1=>match Z[i]? with
 |some (.val (.obj q))=>∃o j ks xs,S1 q=some o/\o.C=C/\wz o f j (.d ks xs)/\ks.length<1000/\I Z λk=>(match k with|.str z=>E.nx (cW S1 q (qW o j f (.d (pL ks z) (j6 ks xs z d.old)))) Z|_=>False)
 |_=>False
def zmB(i:Nat){x:Str}{I:WE}{A:WOE}(hA:OE X b e A)(hI:∀S M G1,DE X (bR b S M G1) ie I)(hc:jN X.K C)(hn:bH X.K C f)(nk:Nk X i x:=by decreasing_trivial)(hb0:ZB (.Name x p) f X:=by rfl)(hs:swapsWith e (some (.Subscript (.Attribute (.Name x p) f fpos) ie tp)) pos.line X.env=pure false:=by rfl)(hu:X.A.units+1<cLine:=by decreasing_trivial):OS X b (.Assign [.Subscript (.Attribute (.Name x p) f fpos) ie tp] e pos) (Ij i f C I A)where
 mono:=λE E' S Z l q=>hA.mono Z S _ _ (λd S1 z=>by
  split at z
  .obtain⟨o,j,ks,xs,h1,h2,h3,h4,z⟩:=z;refine⟨o,j,ks,xs,h1,h2,h3,h4,(hI S1 (λ_=>none) (λ_=>none)).mono Z _ _ (λk w=>?_) z⟩;split at w
   .exact l.nx _ _ w
   .exact w.elim
  .exact z.elim) q
 ps:=by
  have hI':PE X ie (λU H Q=>∃S M G1,tD (bR b S M G1) I U H Q):=λaa s U H Q J ⟨S,M,G1,q⟩=>(hI S M G1).pe aa s U H Q J q;refine lZ (zq6 hu (tE (kY nk.N nk.v nk.d nk.c) hb0) hI' hA.pe hs) λD U H ⟨Z,G,S,M,r,q⟩=>⟨Z,G,S,M,r,hA.mono Z S _ _ (λd S1 z v H1 G1 M1 ⟨Ga,oa,ra,ea⟩ sg dm=>?_) q⟩;split at z
  .rename_i a0 ei
   obtain⟨o,j,ks,xs,h1,h2,h3,h4,z⟩:=z;obtain⟨ad,k⟩:=ra.kn;obtain⟨dx,a,_,k1,k2,k3,k4,vs,rfl,gl,k5⟩:=k.atA h1 h3;obtain⟨v0,ev,rv⟩:=ra.slot i _ ei;cases (show v0=V.ref a0 from rv);have hM:∀c w,M1 c=some w->H1 c=some w:=λc w hc=>ra.stp.fr c w (oa.mb c (by rw[hc];simp)).2.2 (qN hc);refine⟨.ref a0,ev,a0,o.C,dx,_,.ref a,rfl,hM _ _ k1,h2▸hc,h2▸hn,k2,S1,M1,Ga,Z,G1,ra,(hI S1 M1 Ga).mono Z _ _ (λkk w vk H2 G2 t2 e2=>?_) z⟩;split at w
   .rename_i s
    cases (show vk=V.str s from e2);have r2:=ra.step t2;have ab:=(oa.mb a (by rw[k4];simp)).2.2;have len:(jG ks vs).length<sizeLine:=by unfold jG;rw[cY,Bf,<-gl,YCE,YAS];omega
    refine⟨a,_,rfl,sZ.k (k:=.inr s) (t2.fr a _ ab (hM _ _ k4)) len,?_⟩;rw[zqV gl];obtain⟨u5,r5,_,d5⟩:=bL.put' (ys:=.d (pL ks s) (j6 ks xs s d.old)) (ws:=.dK (jG (pL ks s) (j6 ks vs s v))) oa r2 k h1 h3 k3 k4 (λ_ _ _ z=>by cases z) ⟨_,rfl,zqP gl,zlp (Rep.hand (c:=bR b S1 M1 Ga) (c':=il b.K b.β G2) rfl rfl (ea.mono t2.gg)) (jr k5 r2.stp.gg)⟩;exact w U _ G2 _ ⟨G2,u5,r5⟩ (sg.trans t2.gg) (dm.trans d5)
   .exact w.elim
  .exact z.elim
abbrev tu(C:Addr)(m:Str)(n:Nat)(F:cD)(y:Str->aJ->Prop)(A:WOE)(R:WOA):WOE:=λZ S Q=>A Z S λd S0=>match d with
 |.obj a=>(∃o,S0 a=some o/\o.C=C/\∀x∈o.fs,x.1≠m)/\R Z S0 λds S1=>ds.length+1=n/\vV F (.obj a::ds) S1 Q y
 |_=>False
def zjW{m:Str}{n:Nat}{F:cD}{A:WOE}{R:WOA}(hA:qg A)(h:qg R):qg (tu C m n F y A R):=λZ S Q Q' l q=>hA Z S _ _ (λd S0 z=>by
 split at z
 .exact⟨z.1,h Z S0 _ _ (λds S1 z=>⟨z.1,vB F l (λ_ _ w=>w) z.2⟩) z.2⟩
 .exact z.elim) q
def zjR{U:St}{H:Hp}{Q:VK}{m:Str}{n:Nat}{F:cD}{A:WOE}{R:WOA}{t:TA}(hK:b.K=X.K)(hA:qg A)(hR:qg R)(q:xQ b (tu C m n F y A R) U H Q)(ht:∀ U H Q,tOA b R U H Q->t U H Q) :
  Ey C m (bZ X.K X.mg n F) [] (XO b X.mg y) (xQ b A) t U H Q:=by
 obtain⟨Z,G,S,M,r,q⟩:=q;refine⟨Z,G,S,M,r,hA Z S _ _ (λd S0 z v H1 G1 M1 r1 s1 m1=>?_) q⟩;split at z
 .rename_i a
  obtain⟨⟨o,h1,h2,h3⟩,q⟩:=z;obtain⟨dx,as,h4⟩:=r1.rel.at h1;obtain⟨Ga,oa,ra,e⟩:=r1;cases (e);rw[h2]at h4;refine⟨a,dx,jw o.fs as,rfl,h4,Kp h3,ht _ _ _ ⟨Z,G1,S0,M1,⟨Ga,oa,ra⟩,hR Z S0 _ _ (λds S1 z vs H' G' M' r' s' m'=>?_) q⟩⟩;show bZ X.K X.mg n F _ H' Q _;rw[YAF];have r2:lO b S1 M' Z U H' G' (.obj a::ds) (V.ref a::vs):=by
   obtain⟨Gb,ob,rb,eb⟩:=r';exact⟨Gb,ob,rb,V.ref a,vs,rfl,rfl,eb⟩
  exact bL.give hK r2 z.1 (vB F (λd S' w v H2 G2 M2 r2 s2 m2=>w v H2 G2 M2 r2 ((s1.trans s').trans s2) ((m1.trans m').trans m2)) (λnm S' w C H2 G2 M2 hc r2 s2 m2=>⟨nm,C,S',M2,Z,U,G2,rfl,w,hc,r2⟩) z.2)
 .exact z.elim
def zkW{m:Str}{k n:Nat}{ps:List Str}{F:cD}{A:WOE}{R:WOA}{a0:Expr}{pl:Sem Bool}(T:Met X.prog X.w X.K X.mg X.base (aZ X.prog X.w) C m k ps (bZ X.K X.mg n F))(hA:OE X b a0 A)(hR:OA X b (e::es) R)(hx:jZ (aZ X.prog X.w) X (XO b X.mg y))
  (sk:Sk X e es pos:=by exact⟨rfl,rfl⟩)
  (ht:eval (.Call (.Attribute a0 m apos) (e::es) [] pos) X.env=(do
   let ov <-eval a0 X.env
   standAt apos.atName
   let(f,first) <-holding [ov] (getMethod ov m pl)
   callWith pos f first (backTo pos (starEach (e::es) X.env)) (backToKw pos (keywordEach [] X.env))):=by rfl) (hK:b.K=X.K:=by rfl) (hr:bA k X.A:=by decreasing_trivial) :
  OE X b (.Call (.Attribute a0 m apos) (e::es) [] pos) (tu C m n F y A R)where
 mono:=zjW hA.mono hR.mono
 pe:=by
  obtain⟨f,fd,FO,hc,hm,hb⟩:=T.ex;exact dw (zqE hA.pe hc hm FO hr hb .nil hx hR.pa sk.1 sk.2 ht) λU H Q q=>zjR hK hA.mono hR.mono q λ_ _ _ z=>z
def zkd{m:Str}{k n:Nat}{ps:List Str}{F:cD}{A:WOE}{a0:Expr}{pl:Sem Bool}(T:Met X.prog X.w X.K X.mg X.base (aZ X.prog X.w) C m k ps (bZ X.K X.mg n F))(hA:OE X b a0 A)(hx:jZ (aZ X.prog X.w) X (XO b X.mg y))
  (ht:eval (.Call (.Attribute a0 m apos) [] [] pos) X.env=(do
   let ov <-eval a0 X.env
   standAt apos.atName
   let(f,first) <-holding [ov] (getMethod ov m pl)
   callWith pos f first (backTo pos (starEach [] X.env)) (backToKw pos (keywordEach [] X.env))):=by rfl) (hK:b.K=X.K:=by rfl) (hr:bA k X.A:=by decreasing_trivial) :
  OE X b (.Call (.Attribute a0 m apos) [] [] pos) (tu C m n F y A aO)where
 mono:=zjW hA.mono (cU (X:=X) (b:=b)).mono
 pe:=by
  obtain⟨f,fd,FO,hc,hm,hb⟩:=T.ex;exact dw (zh3 hA.pe hc hm FO hr hb .nil hx ht) λU H Q q=>zjR hK hA.mono (cU (X:=X) (b:=b)).mono q λ_ _ _ ⟨Z,G,S,M,⟨G1,o,r⟩,q⟩=>q [] _ G M ⟨G1,o,r,rfl⟩ (Same.refl _) (Dm.refl M)
end
def rK:Fn:=λ_ _=>False
def zk5{P:Program}{w:World}{K:qd}{mg:Str->Option Value}{base:Heap}{k:Nat}{f:Addr}{fd:FuncData}{ps:List Str}:aG P w K mg base dh k f fd ps (eV K ps.length rK):=
 ⟨λvs H Q E ⟨β,G,ds,_,_,_,h,_⟩=>h,λA outer s H args us vs Q E _ _ _ _ ⟨β,G,ds,_,_,_,_,P,z,_⟩=>z.elim⟩
abbrev LC:WF:=λ_ _ _=>False
section
variable{X:Cx}{b:Bo}{e a0:Expr}{es:List Expr}{rest:List Stmt}{pos p apos:Pos}{y:Str->aJ->Prop}
def zh2:mQ X b rest LC:=⟨λ_ _ _ _ _ q=>q,λaa s U H D I ⟨Z,G,S,M,r,q⟩=>q.elim⟩
structure TbO(X:Cx)(n:Nat)(T:List (Addr×cD)):Prop where
 ex:∀q∈T,∃fd k ps,aG X.prog X.w X.K X.mg X.base (aZ X.prog X.w) k q.1 fd ps (bZ X.K X.mg n q.2)/\bA k X.A/\PySem.W.keepIn X.K (.ref q.1)=true/\Binds X.K fd ps []
structure jY(P:Program)(w:World)(K:qd)(mg:Str->Option Value)(base:Heap)(lv n:Nat)(T:List (Addr×cD)):Prop where
 ex:∀q∈T,∃fd k ps,aG P w K mg base (aZ P w) k q.1 fd ps (bZ K mg n q.2)/\k<=lv/\PySem.W.keepIn K (.ref q.1)=true/\Binds K fd ps []
def jY.at{lv n:Nat}{T:List (Addr×cD)}(h:jY X.prog X.w X.K X.mg X.base lv n T)(hr:bA lv X.A):TbO X n T:=⟨λq hq=>by
 obtain⟨fd,k,ps,h1,h2,h3,h4⟩:=h.ex q hq;exact⟨fd,k,ps,h1,hr.mono h2,h3,h4⟩⟩
def jY.nil{P:Program}{w:World}{K:qd}{mg:Str->Option Value}{base:Heap}{lv n:Nat}:jY P w K mg base lv n []:=⟨λq h=>by cases h⟩
def jY.cons{P:Program}{w:World}{K:qd}{mg:Str->Option Value}{base:Heap}{lv n k:Nat}{T:List (Addr×cD)}{f:Addr}{fd:FuncData}{ps:List Str}{F:cD}{x qual:Str}{st:Stmt}(Fu:bD K x qual st f fd)(h:aG P w K mg base (aZ P w) k f fd ps (bZ K mg n F))(hb:Binds K fd ps [])(r:jY P w K mg base lv n T)(hk:k<=lv:=by decide):jY P w K mg base lv n ((f,F)::T):=⟨λq hq=>by
 rcases eX.mp hq with rfl|hq
 .exact⟨fd,k,ps,h,hk,Fu.kp,hb⟩
 .exact r.ex q hq⟩
def zou(i n:Nat)(T:List (Addr×cD))(y:Str->aJ->Prop)(R:WOA):WOE:=λZ S Q=>match Z[i]? with
 |some (.val (.obj f))=>∃F,(f,F)∈T/\R Z S λds S1=>ds.length=n/\vV F ds S1 Q y
 |_=>False
def ztS{x:Str}{i n:Nat}{T:List (Addr×cD)}{R:WOA}(hT:TbO X n T)(hR:OA X b (e::es) R)(hx:jZ (aZ X.prog X.w) X (XO b X.mg y))(nk:Nk X i x:=by decreasing_trivial)(sk:Sk X e es pos:=by exact⟨rfl,rfl⟩)(hK:b.K=X.K:=by rfl) :
  OE X b (.Call (.Name x p) (e::es) [] pos) (zou i n T y R)where
 mono:=λZ S Q Q' l q=>by
  unfold zou at q ⊢;split at q
  .obtain⟨F,h1,q⟩:=q;exact⟨F,h1,hR.mono Z S _ _ (λds S1 z=>⟨z.1,vB F l (λ_ _ w=>w) z.2⟩) q⟩
  .exact q.elim
 pe:=dw (zof nk.N nk.v hx hR.pa nk.d nk.c sk.1 sk.2) λU H Q ⟨Z,G,S,M,r,q⟩=>by
  unfold zou at q;split at q
  .rename_i f ei
   obtain⟨F,h1,q⟩:=q;obtain⟨fd,k,ps,FO,hr,hk,hb⟩:=hT.ex _ h1;have r0:=r;obtain⟨Ga,oa,ra⟩:=r0;obtain⟨v,ev,rv⟩:=ra.slot i _ ei;cases (rv);refine⟨f,fd,k,ps,_,ev,FO,hr,hk,hb,Z,G,S,M,r,hR.mono Z S _ _ (λds S1 z vs H' G' M' r' s' m'=>?_) q⟩;show bZ X.K X.mg n F _ H' Q _;rw[YAF];exact bL.give hK r' z.1 (vB F (λd S' w v H2 G2 M2 r2 s2 m2=>w v H2 G2 M2 r2 (s'.trans s2) (m'.trans m2)) (λnm S' w C H2 G2 M2 hc r2 s2 m2=>⟨nm,C,S',M2,Z,U,G2,rfl,w,hc,r2⟩) z.2)
  .exact q.elim
abbrev Hx(R:WOA):WOE:=λZ S Q=>R Z S λds S1=>ds.length<=100000/\Q (.lst true ds) S1
def zyk{R:WOA}(hR:OA X b es R):OE X b (.List es pos) (Hx R)where
 mono:=λZ S Q Q' l q=>hR.mono Z S _ _ (λds S1 z=>⟨z.1,l _ _ z.2⟩) q
 pe:=dw (zre hR.pa) λU H Q ⟨Z,G,S,M,r,q⟩=>⟨Z,G,S,M,r,hR.mono Z S _ _ (λds S1 z vs H' G' M' r' s' m'=>by
  obtain⟨Ga,oa,ra,ea⟩:=r';refine⟨by rw[<-ea.length];exact dW z.1,λl hl=>?_⟩;have gl:=lU ra.gh hl;have t:=aY.own (o:=.lst vs) ra.gh ra.bx hl;have ts:=t.still cG hl (ra.neβ hl) gl;exact z.2 _ _ _ M' ⟨Ga,oa,ra.step ts,l,vs,rfl,cG,λ_=>ra.new0 hl,ea.mono (lD gl)⟩ (s'.trans (lD gl)) m') q⟩
abbrev zv6(C:Addr)(m:Str)(F:aJ->Fn)(A:WOE):WOE:=λZ S Q=>A Z S λd S0=>match d with
 |.obj a=>(∃o,S0 a=some o/\o.C=C/\∀x∈o.fs,x.1≠m)/\up (F S0) [.obj a] λd=>Q d S0
 |_=>False
def zuH{C:Addr}{m:Str}{k:Nat}{ps:List Str}{F:aJ->Fn}{A:WOE}{pl:Sem Bool}(T:Met X.prog X.w X.K X.mg X.base dh C m k ps (gR X.K 1 F))(hA:OE X b a0 A)
  (ht:eval (.Call (.Attribute a0 m apos) [] [] pos) X.env=(do
   let ov <-eval a0 X.env
   standAt apos.atName
   let(f,first) <-holding [ov] (getMethod ov m pl)
   callWith pos f first (backTo pos (starEach [] X.env)) (backToKw pos (keywordEach [] X.env))):=by rfl) (hK:b.K=X.K:=by rfl) (hr:bA k X.A:=by decreasing_trivial) :
  OE X b (.Call (.Attribute a0 m apos) [] [] pos) (zv6 C m F A)where
 mono:=λZ S Q Q' l q=>hA.mono Z S _ _ (λd S0 z=>by
  split at z
  .exact⟨z.1,qU _ _ _ _ (λd w=>l _ _ w) z.2⟩
  .exact z.elim) q
 pe:=by
  obtain⟨f,fd,FO,hc,hm,hb⟩:=T.ex;refine dw (zh3 hA.pe hc hm FO hr hb .nil zc ht) λU H Q ⟨Z,G,S,M,r,q⟩=>⟨Z,G,S,M,r,hA.mono Z S _ _ (λd S0 z v H1 G1 M1 r1 s1 m1=>?_) q⟩;split at z
  .rename_i a
   obtain⟨⟨o,h1,h2,h3⟩,q⟩:=z;obtain⟨dx,as,h4⟩:=r1.rel.at h1;obtain⟨Ga,oa,ra,e⟩:=r1;cases (e);rw[h2]at h4;refine⟨a,dx,jw o.fs as,rfl,h4,Kp h3,?_⟩;show gR X.K 1 F [V.ref a] H1 Q E0;have eb:aC (bR b S0 M1 Ga) G1 [.obj a] [V.ref a]:=⟨V.ref a,[],rfl,rfl,rfl⟩;exact ra.read (mZ ra.kn) hK eb rfl (qU _ _ _ _ (λd w v H2 G2 t2 e2=>w v H2 G2 M1 ⟨Ga,oa,ra.step t2,e2⟩ (s1.trans t2.gg) m1) q)
  .exact z.elim
end
end Fd
namespace L2
open PySem PySem.Spec PyProof.Rows PySem.W
section
variable{X:Cx}{aa:List (Addr×Obj)}{U:St}{H H':Hp}{s s':Shared}{ea C:Addr}{oe:Obj}{E:Value->Shared->Prop}
def tV:List ExceptHandler->Option (List (Str×Str))
 |[]=>some []
 |.ExceptHandler (some (.Name c _)) none [.Return (some (.Constant (.str s) _ _)) _] _::r=>(tV r).map ((c,s)::·)
 |_=>none
def zuz{Q:Flow->Shared->Prop}{hs:List ExceptHandler}{l:List (Str×Str)}{nm z:Str}(I:Inv X aa U H s)(hs':X.stack=X.env::X.outer)(hf:X.env.frame=some X.env.locals)(N:Gk X.prog X.w X.stack H s ea C H' s')(hh:tV hs=some l)
  (he:∀p∈l,Gl X p.1/\(p.1==("__debug__":Str))=false/\∃D,X.mg p.1=some (.ref D)/\exmOne X.K (.ref C) (.ref D)=some (decide (nm=p.1))) (hz:l.lookup nm=some z)
  (k:∀oe s2 j p q,Inv (X.sup ea oe λ_ _=>False) aa U H' s2->wpAny (model X.prog X.w) (X.A.mark (some (.ref ea))) (execs [.Return (some (.Constant (.str z) j p)) q] X.env) Q (λ_ _=>False) s2) :
  wpAny (model X.prog X.w) X.A (noteFrame (.ref ea) X.env) (λ_ s₂=>wpAny (model X.prog X.w) X.A (setFlight (.ref ea) none) (λ_ s₃=>wpAny (model X.prog X.w) X.A (handleBy (.ref ea) X.env hs) Q E s₃) E s₂) E s':=by
 obtain⟨B,fl,hB⟩:=id N.fly;have fl':=fl;rw[hs']at fl';have hA:X.A.frames=some (X.env::X.outer):=by rw[<-hs'];exact I.ok.frames
 have frx:∀b∈frs X.stack,∃o,s.heap.get? b=some o:=λb hb=>by
  obtain⟨_,o,ho,_⟩:=I.stack.mem hb;exact⟨o,ho⟩
 refine znn hA hf fl' λh4 held sm4=>?_;refine Dl held λh5 fl5 sm5=>?_;have on5:=N.on hB fl.2.2.1 I.stkFree fl5.1 (sm4.trans sm5) frx;have I5:=I.call' (s':={s' with heap:=h5}) N.os on5.1 on5.2 N.bare λb z=>nomatch z;have sub:=λ{b} z=>by
  show b∈(X.env::X.outer).filterMap (·.frame);rw[YAN,hf];exact eX.mpr z
 have apart:∀{h:Heap}{oe:Obj}{vs:Array Value},h.FunFrames B _->h.get? ea=some oe->oe.data=.fields vs->∀{b},b=X.env.locals\/b∈X.fs->ea≠b:=λ{h oe vs} ff e1 e2 {b} z e3=>by
  obtain⟨_,o,ho,hd⟩:=ff.mem (sub z);rw[<-e3,e1]at ho;cases ho;exact hd _ e2
 have hea:H' ea=none:=by
  cases q:H' ea with
  |none=>rfl
  |some u=>
   obtain⟨v,hv⟩:=(N.hok ea u q).ex;obtain⟨oe,vs,e1,_,e3,_⟩:=fl'.first
   have nf:ea∉frs X.stack:=λz=>by
    rw[hs']at z;obtain⟨_,o,ho,hd⟩:=fl'.2.2.1.mem z;rw[e1]at ho;cases ho;exact hd _ e3
   have:=hB ea v hv (.inl ⟨u,q⟩) nf
   rw[fl.2.1]at this;cases this
 have sup:∀{h:Heap}{U:St}{t:Nat},pO B _ ea (.ref C) h->Inv X aa U H' {s' with heap:=h,toks:=t}->∃oe,(oe.cls=.ref C/\∃vs,oe.data=.fields vs/\vs[2]?=some Value.none)/\h.get? ea=some oe/\Inv (X.sup ea oe λ_ _=>False) aa U H' {s' with heap:=h,toks:=t}:=λfl I=>by
  obtain⟨oe,vs,e1,e2,e3,e4⟩:=fl.first
  exact⟨oe,⟨e2,vs,e3,e4⟩,e1,I.sup e1 hea (apart fl.2.2.1 e1 e3 (.inl rfl)) (λz=>apart fl.2.2.1 e1 e3 (.inr z) rfl) λv q=>by rw[e3]at q;cases q⟩
 obtain⟨oe5,c5,g5,S5⟩:=sup fl5 I5;have go:∀(hs:List ExceptHandler)(l:List (Str×Str)),tV hs=some l->(∀p∈l,Gl X p.1/\(p.1==("__debug__":Str))=false/\∃D,X.mg p.1=some (.ref D)/\exmOne X.K (.ref C) (.ref D)=some (decide (nm=p.1)))->l.lookup nm=some z->wpAny (model X.prog X.w) X.A (handleBy (.ref ea) X.env hs) Q E {s' with heap:=h5}:=by
  intro hs
  induction hs with
  |nil=>intro l h _ hz;cases h;cases hz
  |cons h0 rest ih=>
   intro l h he hz;unfold tV at h;split at h
   .rename_i e;cases e
   .rename_i c np y j cp rp hp r e
    cases e;cases er:tV rest with
    |none=>rw[er]at h;cases h
    |some l'=>
     rw[er]at h;cases h;obtain⟨hg,hd,D,hm,hx⟩:=he _ lF;refine wpAny_handleBy_cons (codeAny_handlers_test (vZ S5 hg hm ?_ hd)) (by intro q;cases q);refine(exm_one I5.kIn (c5.1▸(Looks.ld g5).andThen .now) hx).here ?_;by_cases en:nm=c
     .rw[iQ en];subst en;rw[List.lookup_cons_self]at hz;cases hz;refine codeAny_handlers_suite (Dl fl5 λh6 fl6 sm6=>?_);have on6:=N.on hB fl.2.2.1 I.stkFree fl6.1 ((sm4.trans sm5).trans sm6) frx;have I6:=I.call' (s':={s' with heap:=h6}) N.os on6.1 on6.2 N.bare λb z=>nomatch z;obtain⟨oe,c6,g6,S6⟩:=sup fl6 I6;exact YAQ (k oe _ j cp rp S6) (λ_ _ z=>z) λ_ _ z=>z.elim
     .rw[jq en];refine ih l' er (λp hp=>he p (fL _ hp)) ?_;rw[pM]at hz
      have:(nm==c)=false:=by rw[YAE];exact en
      rw[this]at hz;exact hz
   .cases h
 exact go hs l hh he hz
end
end L2
namespace Fd
open PySem L2
structure xr(K:qd)(mg:Str->Option Value)(ns:List Str):Prop where
 cl:∀x∈ns,∃D,mg x=some (.ref D)/\∀nm∈ns,∀C,mg nm=some (.ref C)->PySem.W.exmOne K (.ref C) (.ref D)=some (decide (nm=x))
def zvC(B:(Str->aJ->Prop)->WF)(l:List (Str×Str)):WF:=λE S Z=>∃Y,B Y E S Z/\∀nm S',Y nm S'->∃z,l.lookup nm=some z/\E.rt S' (.str z)
section
variable{X:Cx}{b:Bo}{body:List Stmt}{pos:Pos}
theorem znw{nm z:Str}:∀{l:List (Str×Str)},l.lookup nm=some z->nm∈l.map (·.1)
 |[],h=>by cases h
 | (c,y)::l,h=>by
  by_cases e:nm=c
  .rw[e];exact lF
  .rw[pM,show(nm==c)=false by rw[YAE];exact e]at h;exact fL _ (znw h)
def zuo{B:(Str->aJ->Prop)->WF}{hs0:ExceptHandler}{hs:List ExceptHandler}{l:List (Str×Str)}(hB:∀(Y:Str->aJ->Prop) (pn:List (Addr×Obj)) (xe:Value->Shared->Prop),jZ (aZ X.prog X.w) (X.trd pn xe) (XO b X.mg Y)->mQ (X.trd pn xe) b body (B Y))
  (xl:xr X.K X.mg (l.map (·.1))) (hh:tV (hs0::hs)=some l:=by rfl) (hg:∀p∈l,Gl X p.1/\(p.1==("__debug__":Str))=false:=by(simp only[La,jL,YCu,YCF,and_true];and_intros<;>first|rfl|decide)) (hst:X.stack=X.env::X.outer:=by rfl) (hfr:X.env.frame=some X.env.locals:=by rfl) :
  Bs X b [.Try body (hs0::hs) [] [] pos] (zvC B l)where
 mono:=λE E' S Z l' ⟨Y,q,h⟩=>⟨Y,(hB Y [] (λ_ _=>True) λ_ _ _ _ _ _ _ _=>trivial).mono _ _ S Z l' q,λnm S' y=>(h nm S' y).imp λz w=>⟨w.1,l'.rt _ _ w.2⟩⟩
 pss:=by
  refine vO ?_;intro aa s U H Ds I ⟨Z,G,S,M,r,Y,q,hY⟩;have ps:jZ (aZ X.prog X.w) (X.trd (X.pn++aa) λe s'=>∃ U1 H1 s1,Inv X aa U1 H1 s1/\aZ X.prog X.w X.stack H1 s1 (XO b X.mg Y) e s') (XO b X.mg Y):=λps' U1 H1 s1 e s' I1 cx=>⟨U1,H1,s1,I1.untrd I.ok,cx⟩;have h:=hB Y _ _ ps;refine wpAny_Try_except (YAQ (h.pss [] s U H Ds I.trd ⟨Z,G,S,M,r,h.mono _ _ S Z eO q⟩) (λf s1 z=>?_) λe s1 ⟨U1,H1,s0,I1,ea,C,H',ee,N,nm,C',S',M',Z',U',G',ec,y,hc,r'⟩=>?_)
  .cases f with
   |next=>obtain⟨U1,H1,I1,z⟩:=z;exact KN ⟨U1,H1,I1.untrd I.ok,z⟩
   |brk=>obtain⟨U1,H1,I1,z⟩:=z;exact⟨U1,H1,I1.untrd I.ok,z⟩
   |cont=>obtain⟨U1,H1,I1,z⟩:=z;exact⟨U1,H1,I1.untrd I.ok,z⟩
   |ret u=>obtain⟨v,U1,H1,I1,rv,z⟩:=z;exact⟨v,U1,H1,I1.untrd I.ok,rv,z⟩
  .subst ee;cases ec;obtain⟨z,lz,v⟩:=hY nm S' y;refine zuz I1 hst hfr N hh (λp hp=>⟨(hg p hp).1,(hg p hp).2,?_⟩) lz λoe s2 j cp rp I2=>?_
   .obtain⟨D,h1,h2⟩:=xl.cl p.1 (rD.mpr ⟨p,hp,rfl⟩);exact⟨D,h1,h2 nm (znw lz) C hc⟩
   .obtain⟨G1,o1,r1⟩:=r';refine YAQ ((vO (yq (X:=X.sup ea oe λ_ _=>False) zp2)) aa s2 U1 H' Ds I2 (v (.str z) H' G' M' G1 r1.kn o1 r1.stp rfl)) (λf s4 w=>?_) λ_ _ w=>w;cases f with
    |next=>obtain⟨U1,H1,I1,z⟩:=w;exact⟨U1,H1,I1.unsup I.ok,z⟩
    |brk=>obtain⟨U1,H1,I1,z⟩:=w;exact⟨U1,H1,I1.unsup I.ok,z⟩
    |cont=>obtain⟨U1,H1,I1,z⟩:=w;exact⟨U1,H1,I1.unsup I.ok,z⟩
    |ret u=>obtain⟨v,U1,H1,I1,rv,z⟩:=w;exact⟨v,U1,H1,I1.unsup I.ok,rv,z⟩
end
end Fd
namespace L2
open PySem PySem.Spec PyProof.Rows PySem.W
section
variable{X:Cx}{e:Expr}{x:Str}{ax:Addr}{vvs:List (Key×V)}{ty:TE}{p apos cpos:Pos}
def zyQ(vvs:List (Key×V))(ty:TE):TE:=λU H Q=>ty U H λy H1=>∃z,y=.str z/\Q ((dR vvs (.inr z)).getD .non) H1
def ztZ(hm:X.mg x=some (.ref ax))(hk:∀h:Heap,X.K.In h->(ax==sysModules)=false/\∃vs,KV vvs vs/\h.DictOf (lX X.prog X.w) ax vs)(hg:Gl X x)(hdb:(x==("__debug__":Str))=false)(he:PE X e ty)(m:M1 X (.Name x p) "get" apos e cpos):PE X (.Call (.Attribute (.Name x p) "get" apos) [e] [] cpos) (zyQ vvs ty):=by
 intro aa s U H Q I h;refine wpAny_Call_method m.base m.few m.line PySem.F.plainAttrs_dict PySem.F.slot_dict_get PySem.F.type_dict_get (vZ I hg hm ?_ hdb);obtain⟨_,vs0,_,dd0⟩:=hk s.heap I.kIn;refine⟨dd0.typeIs,λb q=>?_,?_⟩
 .cases q;obtain⟨ob,_,_,h1,h2,_⟩:=dd0;exact⟨ob,h1,h2.2.1⟩
 rw[m.trees];refine YBw rfl (YBI (Calls.spliced_cons (bK (he aa s U H _ I h) λiv s2 ⟨y,H2,I2,ry,z,ey,q2⟩=>Calls.spliced_nil ?_)));subst ey;obtain⟨hd,vs,rel,dd⟩:=hk s2.heap I2.kIn;exact call_meetsIn PySem.F.slot_dict_get dd.typeIs PySem.F.entry_dict_get (PySem.F.args_dict_get_2 _ _) (meets_dict_get _ ax (xn (k:=.inr z) ry) hd) ⟨_,dd.mapOf,_,H2,I2.tok _,(by exact(rel.val _).getD (rfl)),q2⟩
end
end L2
namespace Fd
open PySem L2
section
variable{X:Cx}{c:Bk}{e f:Expr}{A:WE}{R:WL}{p pos apos:Pos}
abbrev zr1(kvs:List (Str×D))(A:WE):WE:=λZ Q=>A Z λd=>yG kvs d λo=>Q (o.getD .non)
def zvY{x:Str}{kvs:List (Str×D)}(g:gM X.prog X.w X.K X.mg x kvs)(hA:DE X c e A)(hK:c.K=X.K:=by rfl)(hg:Gl X x:=by rfl)(hdb:ZD x:=by decide)(m:M1 X (.Name x p) "get" apos e pos:=by exact⟨rfl,rfl,rfl,rfl⟩):DE X c (.Call (.Attribute (.Name x p) "get" apos) [e] [] pos) (zr1 kvs A)where
 mono:=λZ Q Q' k q=>hA.mono Z _ _ (λd z=>zlh (λo y=>k _ y) z) q
 pe:=by
  obtain⟨ax,vvs,hm,hk,hv⟩:=g.ex;exact dw (ztZ hm hk hg hdb hA.pe m) λU H Q ⟨Z,G,r,q⟩=>⟨Z,G,r,hA.mono Z _ _ (λd z v H' G' t e=>by
   cases d with
   |str zz=>
    cases e;rcases hv zz with⟨e1,e2⟩|⟨v,d,e1,e2,e3⟩
    .have z:=DQ z e2;exact⟨zz,rfl,by rw[e1];exact z .non H' G' t rfl⟩
    .have z:=DQ z e2;exact⟨zz,rfl,by rw[e1];exact z v H' G' t (e3 c G' hK)⟩
   |_=>exact z.elim) q⟩
def Bq:FL:=λds Q=>match ds with
 |[.int i,.int j]=>Q (.int (if j>i then j else i))
 |_=>False
def zwS:∀ds (Q Q':D->Prop),(∀d,Q d->Q' d)->Bq ds Q->Bq ds Q':=λds Q Q' k q=>by
 unfold Bq at q ⊢;split at q
 .exact k _ q
 .exact q.elim
def zui:uv c Bq (λxs H Q=>∃i j:Int,xs=[.int i,.int j]/\Q (.int (if j>i then j else i)) H):=by
 intro H G ds vs Q gh bx h0 rv q;unfold Bq at q;split at q
 .obtain⟨v,ws,rfl,h1,w,us,rfl,h2,h3⟩:=rv;cases h1;cases h2;cases h3;exact⟨_,_,rfl,q _ H G (aY.refl gh bx) rfl⟩
 .exact q.elim
def zxP(hR:DA X c [e,f] R)(hg:Gl X "max":=by rfl)(he:starEach [e,f] X.env=(false,eval e X.env)::starEach [f] X.env:=by rfl)(hp:(backTo pos (starEach [f] X.env)).any (·.1)=false:=by rfl)(hc:X.calm=true:=by rfl)(hm:X.mg "max"=none:=by decreasing_trivial):DE X c (.Call (.Name "max" p) [e,f] [] pos) (cbW Bq R):=
 zkT zwS (zql hc) zui hm PyProof.Rows.boot_max hR hg (by decide) (by decide) he hp
end
def nq:Env->Bool
 |[]=>true
 |.un::r=>nq r
 |.val _::r=>nq r
 |_=>false
theorem zmU:∀{Z:Env},nq Z=true->∀(i:Nat) s,Z[i]?=some s->s=.un\/∃d,s=.val d
 |[],_,i,s,e=>by simp at e
 |.un::r,h,0,s,e=>.inl (by simpa using e.symm)
 |.val d::r,h,0,s,e=>.inr ⟨d,by simpa using e.symm⟩
 |.un::r,h,i+1,s,e=>zmU (Z:=r) h i s (by simpa using e)
 |.val _::r,h,i+1,s,e=>zmU (Z:=r) h i s (by simpa using e)
 |.own _::r,h,_,_,_=>by cases h
 |.dic _ _::r,h,_,_,_=>by cases h
def Rel.swap{c c':Bk}{Z:Env}{U:St}{H G H' G':Hp}(hv:∀(i:Nat) s,Z[i]?=some s->s=.un\/∃d,s=.val d)(r:Rel c Z U H G)(st:aY c'.β c'.H0 c'.G0 H' G')(hR:∀d v,Rep c G d v->Rep c' G' d v)(kn:c'.P):Rel c' Z U H' G':=by
 refine⟨r.len,st,λi s h=>?_,λi j a xs ys h1=>?_,kn⟩
 .have q:=r.slot i s h;rcases hv i s h with rfl|⟨d,rfl⟩
  .trivial
  .obtain⟨v,h1,h2⟩:=q;exact⟨v,h1,hR d v h2⟩
 .rcases hv i _ h1 with z|⟨_,z⟩<;>cases z
def zu(i:Nat)(A:WOE)(Zc:Env)(Q:List D->aJ->Prop):List D->List D->aJ->Prop
 |[],acc,S=>Q acc S
 |x::xs,acc,S=>A (Zc.set i (.val x)) S λd S'=>zu i A Zc Q xs (acc++[d]) S'
theorem zj0{i:Nat}{A:WOE}(hA:qg A){Zc:Env}{Q Q':List D->aJ->Prop}(k:∀ds S,Q ds S->Q' ds S):∀(xs acc:List D)(S:aJ),zu i A Zc Q xs acc S->zu i A Zc Q' xs acc S
 |[],acc,S,q=>k _ _ q
 |x::xs,acc,S,q=>hA _ _ _ _ (λd S' z=>zj0 hA k xs _ S' z) q
abbrev De(sub:List (Option Nat))(I:aJ->WL)(i:Nat)(A:WOE):WOE:=λZ S Q=>nq Z=true/\I S Z λxs=>xs.length<=100000/\zu i A (fY sub Z) (λds S'=>Q (.lst true ds) S') xs [] S
abbrev Bo.hold(b:Bo)(l:Addr)(ys:List V):Bo:={b with H0:=upd b.H0 l (.lst ys)}
section
variable{b:Bo}{S:aJ}{M G1 H G:Hp}{Z:Env}{U:St}{l:Addr}{ys:List V}
theorem Out.hold(o:Out b M G1)(ml:M l=none)(gl:G1 l=none)(h0:b.G0 l=none):Out (b.hold l ys) M G1:=
 ⟨λa z=>⟨by show upd b.H0 l _ a=none;rw[ao (λe:a=l=>z (by rw[e];exact ml))];exact(o.mb a z).1,(o.mb a z).2⟩,o.gg,λa z=>by
  rcases o.nw a z with w|w|⟨u,w,st⟩
  .exact .inl w
  .exact .inr (.inl (by show upd b.H0 l _ a=none;rw[ao (λe:a=l=>z (by rw[e];exact gl))];exact w))
  .exact .inr (.inr ⟨u,by show upd b.H0 l _ a=_;rw[ao (λe:a=l=>z (by rw[e];exact gl))];exact w,st⟩),λa u z=>by show upd b.H0 l _ a=_;rw[ao (λe:a=l=>by rw[e]at z;exact absurd (h0.symm.trans z) (by simp))];exact o.g0 a u z,o.dm⟩
def Out.loose(o:Out (b.hold l ys) M G1)(bl:b.H0 l=none)(gl:G1 l=none)(h0:b.G0 l=none):Out b M G1:=by
 have up:∀a,a≠l->(b.hold l ys).H0 a=b.H0 a:=λa n=>ao n;have ml:M l=none:=by
  cases z:M l with
  |none=>rfl
  |some u=>have:=(o.mb l (by rw[z];simp)).1;rw[show(b.hold l ys).H0 l=_ from cG]at this;cases this
 refine⟨λa z=>⟨by rw[<-up a (λe=>z (by rw[e];exact ml))];exact(o.mb a z).1,(o.mb a z).2⟩,o.gg,λa z=>?_,λa u z=>?_,o.dm⟩
 .have n:a≠l:=λe=>z (by rw[e];exact gl);rcases o.nw a z with w|w|⟨u,w,st⟩
  .exact .inl w
  .exact .inr (.inl (by rw[<-up a n];exact w))
  .exact .inr (.inr ⟨u,by rw[<-up a n];exact w,st⟩)
 .have z':=z;rw[<-up a (λe=>by rw[e,h0]at z';cases z')];exact o.g0 a u z
def vN{a:Addr}(n:a≠l):ov (b.hold l ys).H0 M a=ov b.H0 M a:=by
 unfold ov;rw[show(b.hold l ys).H0 a=b.H0 a from ao n]
theorem aY.hold{β:Addr}{H' G':Hp}(s:aY β (ov b.H0 M) G H' G')(h':H' l=some (.lst ys))(g':G' l=none)(lb:l≠β)(ml:M l=none):aY β (ov (b.hold l ys).H0 M) G H' G':=by
 refine⟨s.gg,s.gh,λa u n h=>?_,λa z=>?_,s.bx,?_,λcc p q d h=>?_⟩
 .by_cases e:a=l
  .subst e;rw[qj ml,show(b.hold a ys).H0 a=_ from cG]at h;exact h'.trans h
  .rw[vN e]at h;exact s.fr a u n h
 .have n:a≠l:=λe=>z (by rw[e];exact g');rw[vN n];exact s.nw a z
 .rw[vN (YAD lb)];exact s.b0
 .rw[vN (YAD lb)]at h;exact s.bc cc p q d h
def aY.loose{β:Addr}{H' G':Hp}(s:aY β (ov (b.hold l ys).H0 M) G H' G')(g':G' l=none)(lb:l≠β)(ml:M l=none)(bl:b.H0 l=none):aY β (ov b.H0 M) G H' G':=by
 refine⟨s.gg,s.gh,λa u n h=>?_,λa z=>?_,s.bx,?_,λcc p q d h=>?_⟩
 .have n':a≠l:=λe=>by rw[e,qj ml,bl]at h;cases h
  exact s.fr a u n (by rw[vN n'];exact h)
 .have n:a≠l:=λe=>z (by rw[e];exact g');rw[<-vN (ys:=ys) n];exact s.nw a z
 .rw[<-vN (ys:=ys) (YAD lb)];exact s.b0
 .exact s.bc cc p q d (by rw[vN (YAD lb)];exact h)
def zsT{sub:List (Option Nat)}{i:Nat}{x:D}:∀(j:Nat) s,((fY sub Z).set i (.val x))[j]?=some s->s=.un\/∃d,s=.val d:=λj s e=>by
 by_cases z:i=j
 .subst z;rw[List.getElem?_set]at e;simp only[uU]at e;split at e
  .cases e;exact .inr ⟨x,rfl⟩
  .cases e
 .rw[mY z]at e;unfold fY at e;rw[YAG]at e;cases h:sub[j]? with
  |none=>rw[h]at e;cases e
  |some o=>
   rw[h]at e;simp only[YCC]at e;cases e;split
   .split
    .exact .inr ⟨_,rfl⟩
    .exact .inl rfl
   .exact .inl rfl
end
section
variable{X:Cx}{b:Bo}{tg iter elt:Expr}{scope:Scope}{pos:Pos}{Nc:List Str}{sub:List (Option Nat)}{I:aJ->WL}{A:WOE}
def zj1{te:TE}{S:aJ}{M Gb H G:Hp}{Z:Env}{U:St}{Q:VK}(i:Nat)(mA:qg A)(mI:sU (I S))(ht:∀ U H Q,(∃h0,xQ {b with H0:=h0} A U H Q)->te U H Q)(o:Out b M Gb)(r:Rel (bR b S M Gb) Z U H G)(q:De sub I i A Z S λd S'=>∀v H' G' M',nZ b S' M' Z U H' G' d v->Same G G'->Dm M M'->Q v H') :
  Gg sub (tDI (bR b S M Gb) (I S)) (lC b.K (.nm i)) zxk te U H Q:=by
 obtain⟨hv0,q⟩:=q;have hv:=zmU hv0;refine⟨Z,G,r,mI Z _ _ (λxs ⟨hz,z⟩ J H1 G1 t1 it l hl=>?_) q⟩;have r1:=r.step t1;have lb:l≠b.β:=r1.neβ hl;have l0:=aV.mp (r1.new0 hl);have bl:b.H0 l=none:=l0.2;have g0l:b.G0 l=none:=o.g0.free bl;refine⟨λj m ys H2=>m=xs.length-j/\j<=xs.length/\ys.length<=j/\H2 l=some (.lst ys)/\∃G2 S2 M2 Gc acc,Out b M2 Gc/\Rel (bR b S2 M2 Gc) Z U H2 G2/\Same G1 G2/\Dm M M2/\G2 l=none/\M2 l=none/\aC (bR b S2 M2 Gc) G2 acc ys /\
  zu i A (fY sub Z) (λds S'=>∀v H' G' M',nZ b S' M' Z U H' G' (.lst true ds) v->Same G G'->Dm M M'->Q v H') (xs.drop j) acc S2,⟨xs.length,rfl,wy _,d8 _,cG,G1,S,M,Gb,[],o,r1.step (aY.own r1.gh r1.bx hl),Same.refl _,Dm.refl M,lU t1.gh hl,l0.1,rfl,z⟩,?_⟩
 rintro j m ys H2 ⟨rfl,hj,hyl,h2,G2,S2,M2,Gc,acc,o2,r2,s2,m2,g2l,m2l,ha,q2⟩;refine⟨h2,?_⟩;have free:∀a,H2 a=none->(bR b S M Gb).H0 a=none:=λa z=>by
  obtain⟨z1,z2⟩:=aV.mp (r2.new0 z);refine aV.mpr ⟨?_,z2⟩;cases y:M a with
  |none=>rfl
  |some u=>exact absurd z1 (m2 a (by rw[y];simp))
 have ok:=it j H2 G2 s2 r2.gh r2.bx free;by_cases hlt:j<xs.length
 .refine .inr ?_;rw[K5 hlt]at q2;obtain⟨go,yl⟩:=ok.2 xs[j] (YAB hlt);refine⟨go,λys' H3=>ys'.length<=j+1/\H3 l=some (.lst ys')/\∃G3 S3 M3 Gd acc',Out b M3 Gd/\Rel (bR b S3 M3 Gd) Z U H3 G3/\Same G1 G3/\Dm M M3/\G3 l=none/\M3 l=none/\aC (bR b S3 M3 Gd) G3 acc' ys' /\
   zu i A (fY sub Z) (λds S'=>∀v H' G' M',nZ b S' M' Z U H' G' (.lst true ds) v->Same G G'->Dm M M'->Q v H') (xs.drop (j+1)) acc' S3,λys' H3 ⟨a1,a2,a3⟩=>⟨xs.length-(j+1),by omega,rfl,by omega,a1,a2,a3⟩,λx H3 y=>?_⟩
  obtain⟨G3,t3,e3⟩:=yl x H3 y;have r3:=r2.step t3;have h3:=t3.fr l _ lb h2;have g3l:=t3.still_none h2 g2l;have e4:Rep (bR b S2 M2 Gc) G3 xs[j] x:=e3.carry (Same.refl _) r3.apart;refine yw (.nm i) xs[j] x _ _ (zog sub r3) e4 ?_;unfold gD;intro U2 rr;have rr':Rel (bR (b.hold l ys) S2 M2 Gc) ((fY sub Z).set i (.val xs[j])) U2 H3 G3:=rr.swap (c':=bR (b.hold l ys) S2 M2 Gc) zsT (rr.stp.hold h3 g3l lb m2l) (λd v h=>Rep.reb (c:=bR (b.hold l ys) S2 M2 Gc) (c':=bR b S2 M2 Gc) rfl rfl (λa ga z=>by
   have n:a≠l:=λe=>ga (by rw[e];exact g3l);exact(vN n).trans z) h) rr.kn
  have gcl:Gc l=none:=rr.stp.gg.free g3l;refine ht _ _ _ ⟨upd b.H0 l (.lst ys),_,G3,S2,M2,⟨Gc,o2.hold m2l gcl g0l,rr'⟩,mA _ _ _ _ (λd S3 w v H4 G4 M4 ⟨Gd,od,rd,ed⟩ s4 m4=>?_) q2⟩;have hl':(b.hold l ys).H0 l=some (.lst ys):=cG;have m4l:M4 l=none:=by
   cases z:M4 l with
   |none=>rfl
   |some u=>have:=(od.mb l (by rw[z];simp)).1;rw[hl']at this;cases this
  have ovl:ov (b.hold l ys).H0 M4 l=some (.lst ys):=(qj m4l).trans hl';have h4:H4 l=some (.lst ys):=rd.stp.fr l _ lb ovl;have gdl:Gd l=none:=by
   cases z:Gd l with
   |none=>rfl
   |some u=>
    rcases od.nw l (by rw[z];simp)with w|w|⟨u',w,st⟩
    .exact absurd g0l w
    .rw[hl']at w;cases w
    .rw[hl']at w;cases w;exact st.elim
  have g4l:G4 l=none:=by
   cases z:G4 l with
   |none=>rfl
   |some u=>
    rcases rd.stp.nw l (by rw[z];simp)with w|w|⟨u',w,st⟩
    .exact absurd gdl w
    .rw[show(bR (b.hold l ys) S3 M4 Gd).H0 l=_ from ovl]at w;cases w
    .rw[show(bR (b.hold l ys) S3 M4 Gd).H0 l=_ from ovl]at w;cases w;exact st.elim
  have ap:∀a,M4 a≠none->G4 a=none:=rd.apart;have s24:=t3.gg.trans s4;have ro:Rel (bR b S3 M4 Gd) Z U (upd H4 l (.lst (ys++[v]))) G4:=r3.swap (c':=bR b S3 M4 Gd) hv ((rd.stp.loose g4l lb m4l bl).wr (aV.mpr ⟨m4l,bl⟩) g4l lb) (λd v h=>h.carry s4 ap) rd.kn;refine⟨h4,?_,by rw[iB];exact Nat.add_le_add_right hyl 1,cG,G4,S3,M4,Gd,acc++[d],od.loose bl gdl g0l,ro,s2.trans s24,m2.trans m4,g4l,m4l,?_,w⟩
  .have:=dW (d8 100000)
   omega
  .refine((aC.reb (c:=bR b S3 M4 Gd) (c':=bR b S2 M2 Gc) rfl rfl (λa ga z=>?_) ha).mono s24).append (.one (Rep.reb (c:=bR b S3 M4 Gd) (c':=bR (b.hold l ys) S3 M4 Gd) rfl rfl (λa ga z=>?_) ed))
   .obtain⟨z1,z2⟩:=aV.mp z;refine aV.mpr ⟨?_,z2⟩;cases y:M4 a with
    |none=>rfl
    |some u=>
     have:=ap a (by rw[y];simp)
     cases w:G2 a with
     |none=>exact absurd w ga
     |some o=>rw[s24 a o w]at this;cases this
   .have n:a≠l:=λe=>ga (by rw[e];exact g4l);exact(vN n).symm.trans z
 .have e:j=xs.length:=by omega
  subst e;rw[YB6]at q2;refine .inl ⟨ok.1 rfl,q2 (.ref l) H2 (upd G2 l (.lst ys)) M2 ⟨Gc,o2,?_,l,ys,rfl,cG,λ_=>aV.mpr ⟨m2l,bl⟩,ha.mono (lD g2l)⟩ ((t1.gg.trans s2).trans (lD g2l)) m2⟩;exact r2.swap (c':=bR b S2 M2 Gc) hv (r2.stp.still h2 (aV.mpr ⟨m2l,bl⟩) lb g2l) (λd v h=>h.mono (lD g2l)) r2.kn
def zkP(i:Nat)(hI:∀S M G1,DI X (bR b S M G1) tg iter (I S))(hg:∀{cl L s0 H0 ex},PG (iy X Nc scope cl L s0 H0 ex) tg (lC b.K (.nm i)))(hE:∀{cl L s0 H0 ex} h0,OE (iy X Nc scope cl L s0 H0 ex) {b with H0:=h0} elt A)
  (hS:Ao X.N X.env.scope scope Nc sub=true:=by left) (hok:vY sub (.nm i)=true:=by decide) (hc:X.calm=true:=by rfl) (hs:∀x,foldedSetIterable iter X.env x=pure x:=by intro _;rfl) :
  OE X b (.ListComp elt [⟨tg,iter,[],0⟩] scope pos) (De sub I i A)where
 mono:=λZ S Q Q' k q=>⟨q.1,(hI S (λ_=>none) (λ_=>none)).mono Z _ _ (λxs z=>⟨z.1,zj0 (@hE [] 0 X.s₀ (λ_=>none) [] (λ_=>none)).mono (λds S' w=>k _ _ w) xs [] S z.2⟩) q.2⟩
 pe:=λaa s U H Q Iv ⟨Z,G,S,M,⟨Gb,o,r⟩,q⟩=>znI hc (bG.of hS) (hI S M Gb).pi (λcl L s0 H0 ex=>@hg cl L s0 H0 ex) (Eh b.K sub _ hok) (Ax b.K _) (λcl L s0 H0 ex=>BX) (λcl L s0 H0 ex aa s U H Q J ⟨h0,q⟩=>(@hE cl L s0 H0 ex h0).pe aa s U H Q J q) hs aa s U H Q Iv (zj1 i (@hE [] 0 X.s₀ (λ_=>none) [] (λ_=>none)).mono (hI S (λ_=>none) (λ_=>none)).mono (λ_ _ _ z=>z) o r q)
def zsm(k i:Nat){x:Str}{spos p:Pos}(hI:∀S M G1,DI X (bR b S M G1) tg iter (I S))(hg:∀{cl L s0 H0 ex},PG (iy X Nc scope cl L s0 H0 ex) tg (lC b.K (.nm i)))(hE:∀{cl L s0 H0 ex} h0,OE (iy X Nc scope cl L s0 H0 ex) {b with H0:=h0} elt A)
  (hS:Ao X.N X.env.scope scope Nc sub=true:=by left) (hok:vY sub (.nm i)=true:=by decide) (hc:X.calm=true:=by rfl) (hs:∀x,foldedSetIterable iter X.env x=pure x:=by intro _;rfl) (hi:X.N[k]?=some x:=by rfl) (hy:X.env.scope.names.lookup x=some .local:=by rfl) (hsw:swapsWith (.ListComp elt [⟨tg,iter,[],0⟩] scope pos) (some (.Name x p)) spos.line X.env=pure true:=by rfl) (hN:X.N.Nodup:=by decreasing_trivial) :
  OS X b (.Assign [.Name x p] (.ListComp elt [⟨tg,iter,[],0⟩] scope pos) spos) (f9 (.nm k) (De sub I i A))where
 mono:=ziq (zkP (X:=X) (pos:=pos) i hI hg hE hS hok hc hs).mono
 ps:=λaa s U H D Iv ⟨Z,G,S,M,⟨Gb,o,r⟩,q⟩=>znr (te:=λU H Q=>∃h0,xQ {b with H0:=h0} A U H Q) hc hN hi hy (bG.of hS) (hI S M Gb).pi (λcl L s0 H0 ex=>@hg cl L s0 H0 ex) (Eh b.K sub (.nm i) hok) (Ax b.K (.nm i)) (λcl L s0 H0 ex=>BX) (λcl L s0 H0 ex aa s U H Q J ⟨h0,q⟩=>(@hE cl L s0 H0 ex h0).pe aa s U H Q J q) hsw hs aa s U H D Iv (zj1 i (@hE [] 0 X.s₀ (λ_=>none) [] (λ_=>none)).mono (hI S (λ_=>none) (λ_=>none)).mono (λ_ _ _ z=>z) o r ((zkP (X:=X) (pos:=pos) i hI hg hE hS hok hc hs).mono Z S _ _ (λd S' z v H' G' M' ⟨G1,o',r',e⟩ s' m'=>yw (c:=bR b S' M' G1) (.nm k) d v Z U r' e (tM (.nm k) d Z (λZ' w U' r2=>w U' H' G' M' ⟨G1,o',r2⟩ s' m') z)) q))
abbrev Bl(i j:Nat)(R:WOA):WF:=λE S Z=>R Z S λds S1=>match ds with
 |[x,y]=>E.nx S1 ((Z.set i (.val x)).set j (.val y))
 |_=>False
def zv3(i j:Nat){x y:Str}{e f:Expr}{R:WOA}{px py pt:Pos}{kt k2 pt2}(hR:OA X b [e,f] R)(hij:i≠j:=by decide)(hi:X.N[i]?=some x:=by rfl)(hj:X.N[j]?=some y:=by rfl)(hx:X.env.scope.names.lookup x=some .local:=by rfl)(hy:X.env.scope.names.lookup y=some .local:=by rfl)(hw:swappedStores [.Tuple [.Name x px,.Name y py] kt pt] (.Tuple [e,f] k2 pt2) X.env=pure (some [x,y]):=by rfl)(hs:swapsWithSole [.Tuple [.Name x px,.Name y py] kt pt] (.Tuple [e,f] k2 pt2) pos.line X.env=pure false:=by rfl)(hc:X.calm=true:=by rfl)(hN:X.N.Nodup:=by decreasing_trivial) :
  OS X b (.Assign [.Tuple [.Name x px,.Name y py] kt pt] (.Tuple [e,f] k2 pt2) pos) (Bl i j R)where
 mono:=λE E' S Z l q=>hR.mono Z S _ _ (λds S1 z=>by
  split at z
  .exact l.nx _ _ z
  .exact z.elim) q
 ps:=lZ (zv5 hc hN hi hj hij hx hy hR.pa hw hs) λD U H ⟨Z,G,S,M,r,q⟩=>⟨Z,G,S,M,r,hR.mono Z S _ _ (λds S1 z vs H' G' M' r' s' m'=>by
  split at z
  .obtain⟨Ga,oa,ra,v,ws,rfl,e1,w,us,rfl,e2,e3⟩:=r';cases e3;exact⟨v,w,rfl,z _ H' G' M' ⟨Ga,oa,(ra.put e1).put e2⟩ s' m'⟩
  .exact z.elim) q⟩
end
section
variable{X:Cx}{c:Bk}
def pR(i:Nat)(A:WE):WS:=λE Z=>match Z[i]? with
 |some (.own xs)=>A Z λd=>match d with
  |.lst _ ys=>xs.length+ys.length<=100000/\E.nx (Z.set i (.own (xs++ys)))
  |_=>False
 |_=>False
def zxS(i:Nat){x:Str}{A:WE}{apos cpos:Pos}(hA:DE X c e A)(hN:X.N[i]?=some x:=by rfl)(hv:Et X.env.scope x:=by first|exact Or.inl rfl|exact Or.inr (Or.inl rfl)|exact Or.inr (Or.inr rfl))
  (hd:ZD x:=by decide) (hcd:(x==("__classdict__":Str))=false:=by decide)
  (hbase:ZB (.Name x p) "extend" X:=by rfl)
  (hfew:ZF cpos e X:=by rfl)
  (hline:(apos.endLine==cpos.line)=true:=by rfl) (hs:ZE e X:=by rfl)
  (hsw:swapsWith (.Call (.Attribute (.Name x p) "extend" apos) [e] [] cpos) none pos.line X.env=pure false:=by rfl):DS X c (.Expr (.Call (.Attribute (.Name x p) "extend" apos) [e] [] cpos) pos) (pR i A)where
 mono:=λE E' Z l q=>by
  unfold pR at q ⊢;split at q
  .refine hA.mono Z _ _ (λd z=>?_) q;split at z
   .exact⟨z.1,l.nx _ z.2⟩
   .exact z.elim
  .exact q.elim
 ps:=lZ (Ex (HB YAW PySem.F.slot_list_extend PySem.F.type_list_extend zqd (kY hN hv hd hcd) (kj hA.pe nF hs) hbase hfew hline hs rfl) hsw) λD U H ⟨Z,G,r,q⟩=>by
  unfold pR at q;split at q
  .rename_i xs ek
   obtain⟨a,vs,h1,h2,h3,h4,h5,h6⟩:=r.slot i _ ek;refine⟨.ref a,h1,.inl ⟨rfl,vs,cg.of h2⟩,Z,G,r,hA.mono Z _ _ (λd z w H' G' t e=>?_) q⟩;split at z
   .rename_i n ys
    obtain⟨l,us,rfl,hl,_,hu⟩:=e;refine⟨a,l,vs,us,rfl,rfl,t.fr a _ h5 h2,t.gh _ _ hl,?_,?_⟩
    .rw[<-h6.length,<-hu.length];exact dW z.1
    .exact z.2 _ _ G' ((r.step t).write ek h1 ((h6.mono t.gg).append hu)) t.gg
   .exact z.elim
  .exact q.elim
end
structure bN where
 (fen off:Addr)
 mark_entered:Addr
 hand_entered:Addr
 run_entered:Addr
 run_struck:Addr
 run_mended:Addr
 mark_settled:Addr
 hand_set_aside:Addr
 hand_heeded:Addr
 number_allowed:Addr
 answer_open:Addr
 answer_copy:Addr
 answer_close:Addr
 answer_join:Addr
 answer_names:Addr
 answer_in:Addr
 answer_back:Addr
 answer_again:Addr
 answer_marks:Addr
 answer_hands:Addr
 answer_asides:Addr
 answer_runs:Addr
 answer_least:Addr
 answer_height:Addr
 answer_sank:Addr
 answer_false:Addr
 answer_groups:Addr
 answer_parting:Addr
noncomputable def b7:List (Str×D):=[("open",.int 2),("copy",.int 3),("close",.int 2),("join",.int 4),("names",.int 1),("back",.int 2),("again",.int 2),("marks",.int 2),("hands",.int 2),("asides",.int 2),("runs",.int 2),("least",.int 2),("height",.int 4),("sank",.int 3),("false",.int 2),("groups",.int 2),("parting",.int 4)]
def zbY(A:bN):cD:=bY 1 (λY=>(zsS 0 "fens" A.off))
def zfT(A:bN):cD:=bY 1 (λY=>(aN (ug (λS=>(lr (pN S 0 "kept" A.fen))) (yd (λS=>(aA (kW (.str "there is nothing to take back")) aq)) (Y "NothingLeft")) nilF)
  (zrC 0 "undone" "kept" "books" A.fen)))
def tZ(A:bN):cD:=bY 2 (λY=>(aN (ug (λS=>(tY S true 0 "fens" A.off (vW 1))) (yd (λS=>(aA (kW (.str "there is no fen of this name")) aq)) (Y "NoFen")) nilF)
  (ji λS=>(aU (zrS S 0 "fens" A.off (vW 1))))))
def zdw(A:bN):cD:=bY 2 (λY=>(jR (tu A.fen "back" 1 (zfT A) Y (dC 0 A.off "fen_called" 2 (tZ A) Y (bF (bU λS=>(vW 1)) aO)) aO)))
noncomputable def zd5:Fn:=gC 2 ((aM (bh (.nm 1) (bO (dg (aA (aW (aA (kW (.str "open Here")) (aA (kW (.str "BadName")) aq))) (aA (aW (aA (kW (.str "in here mark a")) (aA (kW (.str "Taken")) aq))) (aA (aW (aA (kW (.str "in here hand h")) (aA (kW (.str "Taken")) aq))) aq))))))
  (aM (bh (.nm 1) (ak bM (vW 1) (bO (dg (aA (aW (aA (kW (.str "in full mark z")) (aA (kW (.str "Full")) aq))) (aA (aW (aA (kW (.str "in full hand z")) (aA (kW (.str "Full")) aq))) (aA (aW (aA (kW (.str "in full settle a")) (aA (kW (.str "Full")) aq))) aq)))))))
  (aM (bh (.nm 1) (ak bM (vW 1) (bO (dg (aA (aW (aA (kW (.str "height here a nobody")) (aA (kW (.str "NoMark")) aq))) (aA (aW (aA (kW (.str "sank here nobody")) (aA (kW (.str "NoMark")) aq))) aq))))))
  (aM (bh (.nm 1) (ak bM (vW 1) (bO (dg (aA (aW (aA (kW (.str "in here run a b 1 nobody")) (aA (kW (.str "NoHand")) aq))) (aA (aW (aA (kW (.str "in here run a a 1 h")) (aA (kW (.str "Same")) aq))) aq))))))
  (aM (bh (.nm 1) (ak bM (vW 1) (bO (dg (aA (aW (aA (ak bM (ak bM (kW (.str "in here run a b ")) (cbW mG (aA (ak bM (kW (.int 1000000001)) (vW 0)) aq))) (kW (.str " h"))) (aA (kW (.str "BadRise")) aq))) aq)))))
  (aM (bh (.nm 1) (ak bM (vW 1) (bO (dg (aA (aW (aA (kW (.str "in here aside nobody")) (aA (kW (.str "NoHand")) aq))) (aA (aW (aA (kW (.str "in here aside g")) (aA (kW (.str "Aside")) aq))) aq))))))
  (aM (bh (.nm 1) (ak bM (vW 1) (bO (dg (aA (aW (aA (ak bM (kW (.str "in here mend 1 -")) (cbW mG (aA (ak bM (kW (.int 1000000001)) (vW 0)) aq))) (aA (kW (.str "BadRise")) aq))) aq)))))
  (aM (bh (.nm 1) (ak bM (vW 1) (bO (dg (aA (aW (aA (ak bM (kW (.str "in here strike ")) (cbW mG (aA (ak bM (kW (.int 2)) (vW 0)) aq))) (aA (kW (.str "NoRun")) aq))) (aA (aW (aA (kW (.str "in here heed h")) (aA (kW (.str "NotAside")) aq))) aq))))))
  (aM (bh (.nm 1) (ak bM (vW 1) (bO (dg (aA (aW (aA (ak bM (kW (.str "in here allow ")) (cbW mG (aA (ak bM (kW (.int 4)) (vW 0)) aq))) (aA (kW (.str "BadNumber")) aq))) (aA (aW (aA (kW (.str "again full")) (aA (kW (.str "NothingLeft")) aq))) aq))))))
  (aM (bh (.nm 1) (ak bM (vW 1) (bO (dg (aA (aW (aA (kW (.str "sank here a")) (aA (kW (.str "Steady")) aq))) (aA (aW (aA (kW (.str "copy here full")) (aA (kW (.str "Known")) aq))) (aA (aW (aA (kW (.str "close nobody")) (aA (kW (.str "NoFen")) aq))) aq)))))))
  (aM (bh (.nm 1) (ak bM (vW 1) (bO (dg (aA (aW (aA (kW (.str "join here here new")) (aA (kW (.str "Same")) aq))) (aA (aW (aA (kW (.str "join here sunk new")) (aA (kW (.str "Settled")) aq))) aq))))))
  (aM (bh (.nm 1) (ak bM (vW 1) (bO (dg (aA (aW (aA (kW (.str "join here full new")) (aA (kW (.str "Full")) aq))) (aA (aW (aA (kW (.str "join here nobody new")) (aA (kW (.str "NoFen")) aq))) aq))))))
  (aU (ak bM (vW 1) (bO (dg (aA (aW (aA (kW (.str "parting here Q a")) (aA (kW (.str "NoMark")) aq))) aq))))))))))))))))))
noncomputable def yz(A:bN):cD:=bY 2 (λY=>(aN (ug (λS=>(lr (gU (dZ 1 vm (aA (vW 1) aq))))) (yd (λS=>(aA (kW (.str "a fen's name is 1 to 8 small letters")) aq)) (Y "BadName")) nilF)
  (ug (λS=>(tY S false 0 "fens" A.off (vW 1))) (yd (λS=>(aA (kW (.str "there is a fen of this name")) aq)) (Y "Known")) nilF)))
def Ec:Fn:=gC 0 ((aU (zwX ["stands","hands","aside","runs","entered","allowed"] (aA (aW aq) (aA (aW aq) (aA (aW aq) (aA (aW aq) (aA (kW (.int 0)) (aA (kW (.int 0)) aq)))))))))
def Cz(A:bN):cD:=bY 1 (λY=>(aN (gj 0 "kept" A.fen (λS=>(dg aq)))
  (aN (gj 0 "books" A.fen (λS=>(dg (aA (dZ 0 Ec aq) aq))))
  (gj 0 "undone" A.fen (λS=>(dg aq))))))
def xN(A:bN):cD:=bY 2 (λY=>(aN (jR (dC 0 A.off "need_free" 2 (yz A) Y (bF (bU λS=>(vW 1)) aO)))
  (Ij 0 "fens" A.off (vW 1) (Kh A.fen (Cz A) Y))))
def qH:Fn:=gC 4 ((zss 0 1 2 3))
def Cq:Fn:=gC 2 ((aU (cbW mj (aA (bO (jD [none,none,some 1] (iM (vW 0)) (.tp 2 (.cons (.nm 0) (.cons (.nm 1) .nil))) (b8 (ak gV (vW 0) (vW 2))) (vW 1))) aq))))
def zd2:Fn:=gC 2 ((aU (aW (aA (vW 1) (aA (ak bM (dZ 2 Cq (aA (vW 0) (aA (vW 1) aq))) (kW (.int 1))) aq)))))
def JL:ik:=eZ 3 (λY=>(aM (bh (.nm 2) (ak fX (vW 0) (kW (.str "stands"))))
  (aM (iI (b8 (ak Mf (cbW mj (aA (vW 2) aq)) (kW (.int 12)))) (pF (aA (kW (.str "there is no room for another stand")) aq) (Y "Full")) cX)
  (aU (dZ 3 qH (aA (vW 0) (aA (kW (.str "stands")) (aA (ak bM (vW 2) (aW (aA (dZ 2 zd2 (aA (vW 2) (aA (vW 1) aq))) aq))) aq))))))))
def zdP:ik:=eZ 4 (λY=>(aM (bh (.tp 2 (.cons (.nm 2) (.cons (.nm 3) .nil))) (vW 1))
  (aM (iI (lr (gU (dZ 1 vm (aA (vW 3) aq)))) (pF (aA (kW (.str "a mark's name is 1 to 8 small letters")) aq) (Y "BadName")) cX)
  (aM (iI (b8 (ak wM (dZ 2 Cq (aA (ak fX (vW 0) (kW (.str "stands"))) (aA (vW 3) aq))) (kW (.int 0)))) (pF (aA (kW (.str "there is a mark of this name")) aq) (Y "Taken")) cX)
  (aU (my 2 JL Y (aA (vW 0) (aA (vW 3) aq))))))))
def zdS:ik:=eZ 5 (λY=>(aM (bh (.tp 2 (.cons (.nm 2) (.cons (.nm 3) .nil))) (vW 1))
  (aM (bh (.nm 4) (ak fX (vW 0) (kW (.str "hands"))))
  (aM (iI (lr (gU (dZ 1 vm (aA (vW 3) aq)))) (pF (aA (kW (.str "a hand's name is 1 to 8 small letters")) aq) (Y "BadName")) cX)
  (aM (iI (b8 (ak (d7 false) (vW 3) (vW 4))) (pF (aA (kW (.str "there is a hand of this name")) aq) (Y "Taken")) cX)
  (aM (iI (b8 (ak Mf (cbW mj (aA (vW 4) aq)) (kW (.int 10)))) (pF (aA (kW (.str "there is no room for another hand")) aq) (Y "Full")) cX)
  (aU (dZ 3 qH (aA (vW 0) (aA (kW (.str "hands")) (aA (ak bM (vW 4) (aW (aA (vW 3) aq))) aq)))))))))))
def ww:ik:=eZ 3 (λY=>(aM (bh (.nm 2) (dZ 2 Cq (aA (vW 0) (aA (vW 1) aq))))
  (aM (iI (b8 (ak gV (vW 2) (kW (.int 0)))) (pF (aA (kW (.str "there is no mark of this name")) aq) (Y "NoMark")) cX)
  (aU (aW (aA (vW 1) (aA (vW 2) aq)))))))
def Df:ik:=eZ 2 (λY=>(iI (b8 (ak (d7 true) (vW 1) (ak fX (vW 0) (kW (.str "hands"))))) (pF (aA (kW (.str "there is no hand of this name")) aq) (Y "NoHand")) cX))
def JX:ik:=eZ 1 (λY=>(iI (b8 (ak wM (cbW qT (aA (vW 0) aq)) (kW (.int 1000000000)))) (pF (aA (kW (.str "the rise is beyond the bounds")) aq) (Y "BadRise")) cX))
def zei:ik:=eZ 13 (λY=>(aM (bh (.tp 5 (.cons (.nm 2) (.cons (.nm 3) (.cons (.nm 4) (.cons (.nm 5) (.cons (.nm 6) .nil)))))) (vW 1))
  (aM (bh (.tp 2 (.cons (.nm 7) (.cons (.nm 8) .nil))) (my 2 ww Y (aA (ak fX (vW 0) (kW (.str "stands"))) (aA (vW 3) aq))))
  (aM (bh (.tp 2 (.cons (.nm 9) (.cons (.nm 10) .nil))) (my 2 ww Y (aA (ak fX (vW 0) (kW (.str "stands"))) (aA (vW 4) aq))))
  (aM (iI (b8 (ak gV (vW 3) (vW 4))) (pF (aA (kW (.str "a run goes between two marks")) aq) (Y "Same")) cX)
  (aM (xx (my 2 Df Y (aA (vW 0) (aA (vW 6) aq))))
  (aM (xx (my 1 JX Y (aA (vW 5) aq)))
  (aM (iI (b8 (ak Mf (cbW mj (aA (ak fX (vW 0) (kW (.str "runs"))) aq)) (kW (.int 40)))) (pF (aA (kW (.str "there is no room for another run")) aq) (Y "Full")) cX)
  (aM (bh (.nm 11) (ak bM (ak fX (vW 0) (kW (.str "entered"))) (kW (.int 1))))
  (aM (bh (.nm 12) (aW (aA (vW 11) (aA (vW 7) (aA (vW 8) (aA (vW 9) (aA (vW 10) (aA (vW 5) (aA (vW 6) aq)))))))))
  (aU (dZ 3 qH (aA (dZ 3 qH (aA (vW 0) (aA (kW (.str "entered")) (aA (vW 11) aq)))) (aA (kW (.str "runs")) (aA (ak bM (ak fX (vW 0) (kW (.str "runs"))) (aW (aA (vW 12) aq))) aq)))))))))))))))
def Mj:ik:=eZ 2 (λY=>(iI (b8 (ak (d7 true) (vW 1) (bO (jD [none] (iM (ak fX (vW 0) (kW (.str "runs")))) (.nm 0) jF (ak bC (vW 0) (kW (.int 0))))))) (pF (aA (kW (.str "no run of this number stands")) aq) (Y "NoRun")) cX))
def zeN:ik:=eZ 4 (λY=>(aM (bh (.tp 2 (.cons (.nm 2) (.cons (.nm 3) .nil))) (vW 1))
  (aM (xx (my 2 Mj Y (aA (vW 0) (aA (vW 3) aq))))
  (aU (dZ 3 qH (aA (vW 0) (aA (kW (.str "runs")) (aA (cbW uH (aA (bO (jD [none,some 3] (iM (ak fX (vW 0) (kW (.str "runs")))) (.nm 0) (b8 (ak nu (ak bC (vW 0) (kW (.int 0))) (vW 1))) (vW 0))) aq)) aq))))))))
def zeO:ik:=eZ 6 (λY=>(aM (bh (.tp 3 (.cons (.nm 2) (.cons (.nm 3) (.cons (.nm 4) .nil)))) (vW 1))
  (aM (xx (my 2 Mj Y (aA (vW 0) (aA (vW 3) aq))))
  (aM (xx (my 1 JX Y (aA (vW 4) aq)))
  (aM (bh (.nm 5) (bO (jD [none,some 3,some 4] (iM (ak fX (vW 0) (kW (.str "runs")))) (.nm 0) jF (Kq (b8 (ak gV (ak bC (vW 0) (kW (.int 0))) (vW 1))) (ak bM (nU (vW 0) yL (yH (kW (.int 5)))) (aW (aA (vW 2) (aA (ak bC (vW 0) (kW (.int 6))) aq)))) (vW 0)))))
  (aU (dZ 3 qH (aA (vW 0) (aA (kW (.str "runs")) (aA (cbW uH (aA (vW 5) aq)) aq))))))))))
def zdJ:ik:=eZ 6 (λY=>(aM (bh (.tp 2 (.cons (.nm 2) (.cons (.nm 3) .nil))) (vW 1))
  (aM (bh (.tp 2 (.cons (.nm 4) (.cons (.nm 5) .nil))) (my 2 ww Y (aA (ak fX (vW 0) (kW (.str "stands"))) (aA (vW 3) aq))))
  (aU (my 2 JL Y (aA (vW 0) (aA (vW 4) aq)))))))
def zcZ:ik:=eZ 4 (λY=>(aM (bh (.tp 2 (.cons (.nm 2) (.cons (.nm 3) .nil))) (vW 1))
  (aM (xx (my 2 Df Y (aA (vW 0) (aA (vW 3) aq))))
  (aM (iI (b8 (ak (d7 false) (vW 3) (ak fX (vW 0) (kW (.str "aside"))))) (pF (aA (kW (.str "the hand is set aside already")) aq) (Y "Aside")) cX)
  (aU (dZ 3 qH (aA (vW 0) (aA (kW (.str "aside")) (aA (ak bM (ak fX (vW 0) (kW (.str "aside"))) (aW (aA (vW 3) aq))) aq)))))))))
def zek:ik:=eZ 4 (λY=>(aM (bh (.tp 2 (.cons (.nm 2) (.cons (.nm 3) .nil))) (vW 1))
  (aM (xx (my 2 Df Y (aA (vW 0) (aA (vW 3) aq))))
  (aM (iI (b8 (ak (d7 true) (vW 3) (ak fX (vW 0) (kW (.str "aside"))))) (pF (aA (kW (.str "the hand isn't set aside")) aq) (Y "NotAside")) cX)
  (aU (dZ 3 qH (aA (vW 0) (aA (kW (.str "aside")) (aA (cbW uH (aA (bO (jD [none,some 3] (iM (ak fX (vW 0) (kW (.str "aside")))) (.nm 0) (b8 (ak nu (vW 0) (vW 1))) (vW 0))) aq)) aq)))))))))
def zb0:ik:=eZ 4 (λY=>(aM (bh (.tp 2 (.cons (.nm 2) (.cons (.nm 3) .nil))) (vW 1))
  (aM (iI (um (b8 (ak ltD (vW 3) (kW (.int 0)))) (b8 (ak wM (vW 3) (kW (.int 3))))) (pF (aA (kW (.str "so many false hands can't be allowed for")) aq) (Y "BadNumber")) cX)
  (aU (dZ 3 qH (aA (vW 0) (aA (kW (.str "allowed")) (aA (vW 3) aq))))))))
def zm(A:bN):List (Str×D):=[("mark",.obj A.mark_entered),("hand",.obj A.hand_entered),("run",.obj A.run_entered),("strike",.obj A.run_struck),("mend",.obj A.run_mended),("settle",.obj A.mark_settled),("aside",.obj A.hand_set_aside),("heed",.obj A.hand_heeded),("allow",.obj A.number_allowed)]
def jy(A:bN):List (Addr×ik):=[(A.mark_entered,zdP),(A.hand_entered,zdS),(A.run_entered,zei),(A.run_struck,zeN),(A.run_mended,zeO),(A.mark_settled,zdJ),(A.hand_set_aside,zcZ),(A.hand_heeded,zek),(A.number_allowed,zb0)]
def Fv(A:bN):ik:=eZ 3 (λY=>(aM (bh (.nm 2) (nP (zm A) (ak bC (vW 1) (kW (.int 0)))))
  (aU (zny 2 2 (jy A) Y (aA (vW 0) (aA (vW 1) aq))))))
def pq(A:bN):aJ->Fn:=λS=>gC 1 ((aU (xj S 0 "books" A.fen (unW JW (kW (.int 1))))))
def Iu(A:bN):cD:=bY 3 (λY=>(aN (f9 (.nm 2) (uO 2 (Fv A) Y (bF (bU λS=>(dB S 0 A.fen "now" 1 (pq A) (λ_ Q=>Q []))) (bF (bU λS=>(vW 1)) aO))))
  (aN (jK 0 "kept" A.fen (λS=>(vW 1)))
  (aN (jK 0 "books" A.fen (λS=>(vW 2)))
  (aN (gj 0 "undone" A.fen (λS=>(dg aq)))
  (aN (ji λS=>(iI (b8 (ak gV (ak bC (vW 1) (kW (.int 0))) (kW (.str "run")))) (aU (ak fX (vW 2) (kW (.str "entered")))) cX))
  (ji λS=>(aU (kW .non)))))))))
def wZ(A:bN):cD:=bY 3 (λY=>(j5 (tu A.fen "deed" 2 (Iu A) Y (dC 0 A.off "fen_called" 2 (tZ A) Y (bF (bU λS=>(vW 1)) aO)) (bF (bU λS=>(vW 2)) aO))))
def zf1:Fn:=gC 1 ((aU (bO (jD [none,none] (iM (vW 0)) (.tp 2 (.cons (.nm 0) (.cons (.nm 1) .nil))) (b8 (ak gV (vW 1) (kW (.int 1)))) (vW 0)))))
def xG(A:bN):aJ->Fn:=λS=>gC 1 ((aU (dZ 1 zf1 (aA (ak fX (dB S 0 A.fen "now" 1 (pq A) (λ_ Q=>Q [])) (kW (.str "stands"))) aq))))
def DX(A:bN):aJ->Fn:=λS=>gC 1 ((aU (bO (J8 (ak fX (dB S 0 A.fen "now" 1 (pq A) (λ_ Q=>Q [])) (kW (.str "hands")))))))
def yP(A:bN):aJ->Fn:=λS=>gC 2 ((aM (bh (.nm 1) (dB S 0 A.fen "now" 1 (pq A) (λ_ Q=>Q [])))
  (aU (bO (jD [none,some 1] (iM (ak fX (vW 1) (kW (.str "hands")))) (.nm 0) (b8 (ak (d7 false) (vW 0) (ak fX (vW 1) (kW (.str "aside"))))) (vW 0))))))
def Jc(A:bN):aJ->Fn:=λS=>gC 1 ((aU (bO (J8 (ak fX (dB S 0 A.fen "now" 1 (pq A) (λ_ Q=>Q [])) (kW (.str "stands")))))))
def Ag(A:bN):aJ->Fn:=λS=>gC 1 ((aU (ak fX (dB S 0 A.fen "now" 1 (pq A) (λ_ Q=>Q [])) (kW (.str "allowed")))))
def yu(A:bN):aJ->Fn:=λS=>gC 1 ((aU (bO (J8 (ak fX (dB S 0 A.fen "now" 1 (pq A) (λ_ Q=>Q [])) (kW (.str "runs")))))))
def zbX:Fn:=gC 1 ((aU (bO (jD [none,some 0] (iM (ak fX (vW 0) (kW (.str "runs")))) (.nm 0) (b8 (ak (d7 true) (ak bC (vW 0) (kW (.int 6))) (ak fX (vW 1) (kW (.str "aside"))))) (vW 0)))))
def zc6(A:bN):aJ->Fn:=λS=>gC 1 ((aU (bO (jD [none] (iM (dZ 1 zbX (aA (dB S 0 A.fen "now" 1 (pq A) (λ_ Q=>Q [])) aq))) (.nm 0) jF (ak bC (vW 0) (kW (.int 0)))))))
def zeW(A:bN):aJ->Fn:=λS=>gC 1 ((aU (bO (lw S 0 "kept" A.fen))))
noncomputable def Bv(A:bN):aJ->Fn:=λS=>gC 2 ((aM (bh (.nm 1) (bO (dg (aA (dB S 0 A.fen "marks" 1 (xG A) (λ_ Q=>Q [])) (aA (dB S 0 A.fen "hands" 1 (DX A) (λ_ Q=>Q [])) (aA (dB S 0 A.fen "asides" 1 (yP A) (λ_ Q=>Q [])) (aA (dB S 0 A.fen "stands" 1 (Jc A) (λ_ Q=>Q [])) (aA (dB S 0 A.fen "allowed" 1 (Ag A) (λ_ Q=>Q [])) (aA (dB S 0 A.fen "runs" 1 (yu A) (λ_ Q=>Q [])) (aA (dB S 0 A.fen "counting" 1 (zc6 A) (λ_ Q=>Q [])) aq))))))))))
  (aU (ak bM (vW 1) (bO (dg (aA (dB S 0 A.fen "deeds" 1 (zeW A) (λ_ Q=>Q [])) aq)))))))
def Hg(A:bN):cD:=bY 2 (λY=>(aN (f9 (.nm 1) (Kh A.fen (Cz A) Y))
  (aN (gj 1 "kept" A.fen (λS=>(lw S 0 "kept" A.fen)))
  (aN (gj 1 "books" A.fen (λS=>(lw S 0 "books" A.fen)))
  (aN (gj 1 "undone" A.fen (λS=>(lw S 0 "undone" A.fen)))
  (ji λS=>(aU (vW 1))))))))
def uf(A:bN):cD:=bY 2 (λY=>(j5 (tu A.fen "twin" 1 (Hg A) Y (dC 0 A.off "fen_called" 2 (tZ A) Y (bF (bU λS=>(vW 1)) aO)) aO)))
def Bp(A:bN):aJ->Fn:=λS=>gC 1 ((aU (bO (Eo S 0 "fens" A.off))))
def zdx(A:bN):cD:=bY 2 (λY=>(aN (jR (dC 0 A.off "open_one" 2 (xN A) Y (bF (bU λS=>(ak bC (vW 1) (kW (.int 1)))) aO)))
  (ji λS=>(aU (kW (.str "opened"))))))
def Jh(A:bN):cD:=bY 4 (λY=>(aN (f9 (.nm 3) (dC 0 A.off "fen_called" 2 (tZ A) Y (bF (bU λS=>(vW 1)) aO)))
  (aN (jR (dC 0 A.off "need_free" 2 (yz A) Y (bF (bU λS=>(vW 2)) aO)))
  (Ij 0 "fens" A.off (vW 2) (dC 3 A.fen "twin" 1 (Hg A) Y aO)))))
def zdB(A:bN):cD:=bY 2 (λY=>(aN (jR (dC 0 A.off "copy_one" 3 (Jh A) Y (bF (bU λS=>(ak bC (vW 1) (kW (.int 1)))) (bF (bU λS=>(ak bC (vW 1) (kW (.int 2)))) aO))))
  (ji λS=>(aU (kW (.str "copied"))))))
def Ft(A:bN):cD:=bY 2 (λY=>(aN (jR (dC 0 A.off "fen_called" 2 (tZ A) Y (bF (bU λS=>(vW 1)) aO)))
  LC))
def zc4(A:bN):cD:=bY 2 (λY=>(aN (jR (dC 0 A.off "close" 2 (Ft A) Y (bF (bU λS=>(ak bC (vW 1) (kW (.int 1)))) aO)))
  (ji λS=>(aU (kW (.str "closed"))))))
def zic(A:bN):cD:=bY 3 (λY=>(aN (f9 (.nm 1) (Kh A.fen (Cz A) Y))
  (aN (mJ (λS=>(iM (vW 0))) (.nm 2) (jR (dC 1 A.fen "deed" 2 (Iu A) Y (bF (bU λS=>(vW 2)) aO))))
  (ji λS=>(aU (vW 1))))))
def wW(A:bN):aJ->Fn:=λS=>gC 1 ((aU (ak wM (cbW mj (aA (dB S 0 A.fen "stands" 1 (Jc A) (λ_ Q=>Q [])) aq)) (cbW mj (aA (dB S 0 A.fen "marks" 1 (xG A) (λ_ Q=>Q [])) aq)))))
def Ea:Fn:=gC 2 ((aU (ak bM (vW 0) (bO (jD [none,some 0] (iM (vW 1)) (.nm 0) (b8 (ak (d7 true) (vW 0) (vW 1))) (vW 0))))))
noncomputable def zc5(A:bN):aJ->Fn:=λS=>gC 13 ((aM (bh (.nm 2) (dZ 2 Ea (aA (dB S 0 A.fen "hands" 1 (DX A) (λ_ Q=>Q [])) (aA (dB S 1 A.fen "hands" 1 (DX A) (λ_ Q=>Q [])) aq))))
  (aM (vH 3 (jD [none] (iM (dZ 2 Ea (aA (dB S 0 A.fen "marks" 1 (xG A) (λ_ Q=>Q [])) (aA (dB S 1 A.fen "marks" 1 (xG A) (λ_ Q=>Q [])) aq)))) (.nm 0) jF (aW (aA (kW (.str "mark")) (aA (vW 0) aq)))))
  (aM (pR 3 (bO (jD [none] (iM (vW 2)) (.nm 0) jF (aW (aA (kW (.str "hand")) (aA (vW 0) aq))))))
  (aM (Cr (iM (ak bM (dB S 0 A.fen "runs" 1 (yu A) (λ_ Q=>Q [])) (dB S 1 A.fen "runs" 1 (yu A) (λ_ Q=>Q [])))) (.tp 7 (.cons (.nm 4) (.cons (.nm 5) (.cons (.nm 6) (.cons (.nm 7) (.cons (.nm 8) (.cons (.nm 9) (.cons (.nm 10) .nil)))))))) (qu 3 (aW (aA (kW (.str "run")) (aA (vW 5) (aA (vW 7) (aA (vW 9) (aA (vW 10) aq))))))))
  (aM (bh (.nm 11) (ak bM (dB S 0 A.fen "asides" 1 (yP A) (λ_ Q=>Q [])) (dB S 1 A.fen "asides" 1 (yP A) (λ_ Q=>Q []))))
  (aM (pR 3 (bO (jD [none,some 11] (iM (vW 2)) (.nm 0) (b8 (ak (d7 false) (vW 0) (vW 1))) (aW (aA (kW (.str "aside")) (aA (vW 0) aq))))))
  (aM (bh (.nm 12) (cbW Bq (aA (dB S 0 A.fen "allowed" 1 (Ag A) (λ_ Q=>Q [])) (aA (dB S 1 A.fen "allowed" 1 (Ag A) (λ_ Q=>Q [])) aq))))
  (aM (iI (b8 (ak wM (vW 12) (kW (.int 0)))) (qu 3 (aW (aA (kW (.str "allow")) (aA (vW 12) aq)))) cX)
  (Ls 3 (aU (vW 3))))))))))))
noncomputable def Dq(A:bN):cD:=bY 2 (λY=>(aN (ug (λS=>(um (gU (xR S 1 (wW A) (aA (vW 0) aq))) (gU (xR S 1 (wW A) (aA (vW 1) aq))))) (yd (λS=>(aA (kW (.str "a mark has settled")) aq)) (Y "Settled")) nilF)
  (j5 (wB 1 (zic A) Y (bF (bU λS=>(xR S 2 (zc5 A) (aA (vW 0) (aA (vW 1) aq)))) aO)))))
def zV(A:bN):cD:=bY 6 (λY=>(aN (f9 (.nm 4) (dC 0 A.off "fen_called" 2 (tZ A) Y (bF (bU λS=>(vW 1)) aO)))
  (aN (f9 (.nm 5) (dC 0 A.off "fen_called" 2 (tZ A) Y (bF (bU λS=>(vW 2)) aO)))
  (aN (ug (λS=>(b8 (ak gV (vW 1) (vW 2)))) (yd (λS=>(aA (kW (.str "a fen isn't joined with itself")) aq)) (Y "Same")) nilF)
  (aN (jR (dC 0 A.off "need_free" 2 (yz A) Y (bF (bU λS=>(vW 3)) aO)))
  (Ij 0 "fens" A.off (vW 3) (wB 2 (Dq A) Y (bF (bU λS=>(vW 4)) (bF (bU λS=>(vW 5)) aO)))))))))
def Aw(A:bN):cD:=bY 2 (λY=>(aN (jR (dC 0 A.off "join" 4 (zV A) Y (bF (bU λS=>(ak bC (vW 1) (kW (.int 1)))) (bF (bU λS=>(ak bC (vW 1) (kW (.int 2)))) (bF (bU λS=>(ak bC (vW 1) (kW (.int 3)))) aO)))))
  (ji λS=>(aU (kW (.str "joined"))))))
def zgv(A:bN):cD:=bY 3 (λY=>(aN (f9 (.nm 2) (dC 0 A.off "deed" 3 (wZ A) Y (bF (bU λS=>(ak bC (vW 1) (kW (.int 1)))) (bF (uO 1 vp Y (bF (bU λS=>(uI CK (kW (.str " ")) (nU (vW 1) (yH (kW (.int 2))) yL))) aO)) aO))))
  LC))
noncomputable def Gi(A:bN):cD:=bY 3 (λY=>(aN (ug (λS=>(lr (pN S 0 "undone" A.fen))) (yd (λS=>(aA (kW (.str "there is nothing to do again")) aq)) (Y "NothingLeft")) nilF)
  (aN (f9 (.tp 2 (.cons (.nm 1) (.cons (.nm 2) .nil))) (wD 0 "undone" A.fen))
  (aN (jK 0 "kept" A.fen (λS=>(vW 1)))
  (jK 0 "books" A.fen (λS=>(vW 2)))))))
def Dg(A:bN):cD:=bY 2 (λY=>(jR (tu A.fen "again" 1 (Gi A) Y (dC 0 A.off "fen_called" 2 (tZ A) Y (bF (bU λS=>(vW 1)) aO)) aO)))
def Jp(A:bN):cD:=bY 2 (λY=>(aN (jR (dC 0 A.off "again" 2 (Dg A) Y (bF (bU λS=>(ak bC (vW 1) (kW (.int 1)))) aO)))
  (ji λS=>(aU (kW (.str "again"))))))
def uB:ik:=eZ 3 (λY=>(aM (bh (.nm 2) (ak fX (vW 0) (kW (.str "stands"))))
  (aU (zwV (vW 2) (my 2 ww Y (aA (vW 2) (aA (vW 1) aq)))))))
def zf0:ik:=eZ 3 (λY=>(aU (dZ 3 rK (aA (vW 0) (aA (my 2 uB Y (aA (vW 0) (aA (vW 1) aq))) (aA (my 2 uB Y (aA (vW 0) (aA (vW 2) aq))) aq))))))
def Ho(A:bN):cD:=bY 3 (λY=>(j5 (vd 1 rK (bF (uO 3 zf0 Y (bF (bU λS=>(dB S 0 A.fen "now" 1 (pq A) (λ_ Q=>Q []))) (bF (bU λS=>(vW 1)) (bF (bU λS=>(vW 2)) aO)))) aO))))
def zcK(A:bN):cD:=bY 2 (λY=>(j5 (vd 1 rK (bF (tu A.fen "height" 3 (Ho A) Y (dC 0 A.off "view" 2 (uf A) Y (bF (bU λS=>(ak bC (vW 1) (kW (.int 1)))) aO)) (bF (bU λS=>(ak bC (vW 1) (kW (.int 2)))) (bF (bU λS=>(ak bC (vW 1) (kW (.int 3)))) aO))) aO))))
def CZ(A:bN):cD:=bY 6 (λY=>(aN (ji λS=>(bh (.nm 2) (dB S 0 A.fen "now" 1 (pq A) (λ_ Q=>Q []))))
  (aN (f9 (.tp 2 (.cons (.nm 3) (.cons (.nm 4) .nil))) (uO 2 ww Y (bF (bU λS=>(ak fX (vW 2) (kW (.str "stands")))) (bF (bU λS=>(vW 1)) aO))))
  (aN (ug (λS=>(b8 (ak gV (vW 4) (kW (.int 1))))) (yd (λS=>(aA (kW (.str "the mark has never settled")) aq)) (Y "Steady")) nilF)
  LC))))
def Km(A:bN):cD:=bY 2 (λY=>(j5 (vd 1 rK (bF (tu A.fen "sank" 2 (CZ A) Y (dC 0 A.off "view" 2 (uf A) Y (bF (bU λS=>(ak bC (vW 1) (kW (.int 1)))) aO)) (bF (bU λS=>(ak bC (vW 1) (kW (.int 2)))) aO)) aO))))
def JG(A:bN):cD:=bY 7 (λY=>(aN (ji λS=>(bh (.nm 3) (dB S 0 A.fen "now" 1 (pq A) (λ_ Q=>Q []))))
  (aN (Bl 4 5 (bF (uO 2 uB Y (bF (bU λS=>(vW 3)) (bF (bU λS=>(vW 1)) aO))) (bF (uO 2 uB Y (bF (bU λS=>(vW 3)) (bF (bU λS=>(vW 2)) aO))) aO)))
  LC)))
noncomputable def zcg(A:bN):cD:=bY 3 (λY=>(aN (f9 (.nm 2) (tu A.fen "parting" 3 (JG A) Y (dC 0 A.off "view" 2 (uf A) Y (bF (bU λS=>(ak bC (vW 1) (kW (.int 1)))) aO)) (bF (bU λS=>(ak bC (vW 1) (kW (.int 2)))) (bF (bU λS=>(ak bC (vW 1) (kW (.int 3)))) aO))))
  (aN (ji λS=>(iI (b8 (qw (vW 2))) (aU (kW (.str "safe"))) cX))
  (ji λS=>(aU (dZ 1 rK (aA (vW 2) aq)))))))
noncomputable def vQ(A:bN):List (Str×D):=[("open",.obj A.answer_open),("copy",.obj A.answer_copy),("close",.obj A.answer_close),("join",.obj A.answer_join),("names",.obj A.answer_names),("in",.obj A.answer_in),("back",.obj A.answer_back),("again",.obj A.answer_again),("marks",.obj A.answer_marks),("hands",.obj A.answer_hands),("asides",.obj A.answer_asides),("runs",.obj A.answer_runs),("least",.obj A.answer_least),("height",.obj A.answer_height),("sank",.obj A.answer_sank),("false",.obj A.answer_false),("groups",.obj A.answer_groups),("parting",.obj A.answer_parting)]
def fK(A:bN):List (Addr×cD):=[(A.answer_open,zdx A),(A.answer_copy,zdB A),(A.answer_close,zc4 A),(A.answer_join,Aw A),(A.answer_in,zgv A),(A.answer_again,Jp A),(A.answer_height,zcK A),(A.answer_sank,Km A),(A.answer_parting,zcg A)]
def NLx:List Str:=["BadName","Taken","Full","NoMark","NoHand","Same","BadRise","NoRun","Aside","NotAside","BadNumber","NothingLeft","Steady","Known","NoFen","Settled"]
def Em(A:bN):cD:=bY 3 (λY=>(aN (ji λS=>(bh (.nm 2) (nP (vQ A) (ak bC (vW 1) (kW (.int 0))))))
  (zvC (λY1=>(j5 (zou 2 2 (fK A) Y1 (bF (bU λS=>(vW 0)) (bF (bU λS=>(vW 1)) aO))))) [("BadName","no BadName"),("Taken","no Taken"),("Full","no Full"),("NoMark","no NoMark"),("NoHand","no NoHand"),("Same","no Same"),("BadRise","no BadRise"),("NoRun","no NoRun"),("Aside","no Aside"),("NotAside","no NotAside"),("BadNumber","no BadNumber"),("NothingLeft","no NothingLeft"),("Steady","no Steady"),("Known","no Known"),("NoFen","no NoFen"),("Settled","no Settled")])))
def zgQ(A:bN):cD:=bY 1 (λY=>(zwx 1 "NoDeed" (λY1=>(jR (uO 1 vp Y1 (bF (bU λS=>(uI CK (kW (.str " ")) (vW 0))) aO)))) (ji λS=>(aU (kW (.bl false))))
  (aN (ji λS=>(aU (kW (.bl true))))
  nilF)))
def DR(A:bN):cD:=bY 1 (λY=>(aN (ji λS=>(iI (b8 (ak (d7 false) (kW (.str "")) (vW 0))) (aU (kW (.bl false))) cX))
  (aN (ug (λS=>(b8 (ak gV (ak bC (vW 0) (kW (.int 0))) (kW (.str "in"))))) (j5 (wB 1 (zgQ A) (λ_ _=>False) (bF (bU λS=>(nU (vW 0) (yH (kW (.int 2))) yL)) aO))) nilF)
  (ji λS=>(aU (ak gV (zr1 b7 (ak bC (vW 0) (kW (.int 0)))) (cbW mj (aA (vW 0) aq))))))))
def zkI(A:bN):cD:=bY 3 (λY=>(aN (ji λS=>(bh (.nm 2) (uI FP (vW 1) (kW (.str " ")))))
  (aN (pX (wB 1 (DR A) (λ_ _=>False) (bF (bU λS=>(vW 2)) aO)) (ji λS=>(aU (kW (.str "no line")))) nilF)
  (j5 (wB 2 (Em A) (λ_ _=>False) (bF (bU λS=>(vW 0)) (bF (bU λS=>(vW 2)) aO)))))))
def Bh(A:bN):cD:=bY 2 (λY=>(j5 (wB 2 (zkI A) Y (bF (bU λS=>(vW 0)) (bF (bU λS=>(vW 1)) aO)))))
abbrev Ig(A:bN):WF:=(aN (pX (vd 2 (rE 6) (bF (De [none,some 3] (λS=>(iM (dB S 3 A.off "names" 1 (Bp A) (λ_ Q=>Q [])))) 0 (Cy 1 (Bv A) (bF (dC 1 A.off "view" 2 (uf A) (λ_ _=>False) (bF (bU λS=>(vW 0)) aO)) aO))) (bF (bU λS=>(vW 7)) aO))) (ji λS=>(aU (kW (.bl false)))) nilF)
  (aN (pX (vd 2 (rE 6) (bF (Hx (bF (bU λS=>(dB S 3 A.off "names" 1 (Bp A) (λ_ Q=>Q []))) (bF (dC 3 A.off "say" 2 (Bh A) (λ_ _=>False) (bF (bU λS=>(kW (.str "again here"))) aO)) aO))) (bF (bU λS=>(bO (dg (aA (bO (dg (aA (kW (.str "here")) (aA (kW (.str "full")) (aA (kW (.str "sunk")) aq))))) (aA (kW (.str "again")) aq))))) aO))) (ji λS=>(aU (kW (.bl false)))) nilF)
  (j5 (vd 2 (rE 6) (bF (zv6 A.fen "allowed" (Ag A) (dC 3 A.off "view" 2 (uf A) (λ_ _=>False) (bF (bU λS=>(kW (.str "here"))) aO))) (bF (bU λS=>(kW (.int 2))) aO))))))
abbrev Kz(A:bN):WF:=(aN (mJ (λS=>(zwY (cbW mj (aA (vW 8) aq)))) (.nm 9) (aN (ji λS=>(bh (.tp 2 (.cons (.nm 10) (.cons (.nm 11) .nil))) (ak bC (vW 8) (ak uT (ak bM (vW 9) (vW 2)) (cbW mj (aA (vW 8) aq))))))
  (pX (vd 2 (rE 6) (bF (dC 3 A.off "say" 2 (Bh A) (λ_ _=>False) (bF (bU λS=>(vW 10)) aO)) (bF (bU λS=>(ak bM (kW (.str "no ")) (vW 11))) aO))) (ji λS=>(aU (kW (.bl false)))) nilF))) (Ig A))
abbrev k52b(A:bN):WF:=(aN (f9 (.nm 7) (De [none,some 3] (λS=>(iM (dB S 3 A.off "names" 1 (Bp A) (λ_ Q=>Q [])))) 0 (Cy 1 (Bv A) (bF (dC 1 A.off "view" 2 (uf A) (λ_ _=>False) (bF (bU λS=>(vW 0)) aO)) aO))))
  (aN (ji λS=>(bh (.nm 8) (dZ 1 zd5 (aA (vW 2) aq)))) (Kz A)))
def zgO(A:bN):WF:=(aN (ji λS=>(bh (.nm 2) (dZ 2 Av (aA (vW 1) (aA (kW (.int 500)) aq)))))
  (aN (f9 (.nm 3) (Kh A.off (zbY A) (λ_ _=>False)))
  (aN (mJ (λS=>(iM (aW (aA (kW (.str "here")) (aA (kW (.str "full")) (aA (kW (.str "sunk")) aq)))))) (.nm 4) (jR (dC 3 A.off "open_one" 2 (xN A) (λ_ _=>False) (bF (bU λS=>(vW 4)) aO))))
  (aN (mJ (λS=>(iM (kW (.str "abcdefghijkl")))) (.nm 4) (jR (dC 3 A.off "deed" 3 (wZ A) (λ_ _=>False) (bF (bU λS=>(kW (.str "full"))) (bF (bU λS=>(aW (aA (kW (.str "mark")) (aA (vW 4) aq)))) aO)))))
  (aN (mJ (λS=>(iM (kW (.str "abcdefghij")))) (.nm 4) (jR (dC 3 A.off "deed" 3 (wZ A) (λ_ _=>False) (bF (bU λS=>(kW (.str "full"))) (bF (bU λS=>(aW (aA (kW (.str "hand")) (aA (vW 4) aq)))) aO)))))
  (aN (ji λS=>(bh (.nm 5) (bO (dg (aA (aW (aA (kW (.str "mark")) (aA (kW (.str "a")) aq))) (aA (aW (aA (kW (.str "mark")) (aA (kW (.str "b")) aq))) (aA (aW (aA (kW (.str "mark")) (aA (kW (.str "y")) aq))) (aA (aW (aA (kW (.str "hand")) (aA (kW (.str "h")) aq))) (aA (aW (aA (kW (.str "hand")) (aA (kW (.str "g")) aq))) (aA (aW (aA (kW (.str "run")) (aA (kW (.str "a")) (aA (kW (.str "b")) (aA (kW (.int 4)) (aA (kW (.str "h")) aq)))))) aq))))))))))
  (aN (mJ (λS=>(iM (ak bM (vW 5) (bO (dg (aA (aW (aA (kW (.str "aside")) (aA (kW (.str "g")) aq))) (aA (aW (aA (kW (.str "allow")) (aA (kW (.int 2)) aq))) aq))))))) (.nm 6) (jR (dC 3 A.off "deed" 3 (wZ A) (λ_ _=>False) (bF (bU λS=>(kW (.str "here"))) (bF (bU λS=>(vW 6)) aO)))))
  (aN (mJ (λS=>(iM (aW (aA (aW (aA (kW (.str "mark")) (aA (kW (.str "a")) aq))) (aA (aW (aA (kW (.str "settle")) (aA (kW (.str "a")) aq))) aq))))) (.nm 6) (jR (dC 3 A.off "deed" 3 (wZ A) (λ_ _=>False) (bF (bU λS=>(kW (.str "sunk"))) (bF (bU λS=>(vW 6)) aO)))))
  (aN (jR (dC 3 A.off "back" 2 (zdw A) (λ_ _=>False) (bF (bU λS=>(kW (.str "here"))) aO))) (k52b A))))))))))
def pC(h:F ds P)(k:∀d,P d->Q d):up F ds Q:=⟨P,h,k⟩
def yX(t:Tg)(C:WT)(E:WE)(Zc:Env)(x:D)(o:Option D):Prop:=∀(Y:D->Prop)(N:Prop),(match o with|some d=>Y d|none=>N)->gD t x Zc λZ2=>C Z2 λb=>if b=true then E Z2 Y else N
theorem zh5{α:Type}(emb:α->D)(g:α->Option D):∀(xs:List α)(acc:List D),(∀x∈xs,yX t C E Zc (emb x) (g x))->Q (acc++xs.filterMap g)->sE t C E Zc Q (xs.map emb) acc
 |[],acc,_,q=>by simpa[sE]using q
 |x::xs,acc,h,q=>by
  refine h x lF _ _ ?_;cases e:g x with
  |none=>
   refine zh5 emb g xs acc (λy hy=>h y (fL _ hy)) ?_;rw[YAN,e]at q;exact q
  |some d=>
   refine zh5 emb g xs _ (λy hy=>h y (fL _ hy)) ?_;rw[YAN,e]at q;rw[Fx];exact q
def zsI(h:d∈qL m n):∃k:Int,d=.int k/\m<=k/\k<m+n:=by
 unfold qL at h;obtain⟨k,hk,rfl⟩:=rD.mp h;exact⟨_,rfl,by omega,by have:=List.mem_range.mp hk;omega⟩
def pB(i:Int):D.old (.int i)=.int i:=by unfold D.old;rfl
theorem zod(x:Int):∀hs:List Int,inB (.int x) (hs.map D.int)=hs.contains x
 |[]=>rfl
 |y::hs=>by
  have:=zod x hs
  unfold inB at this ⊢;rw[fj,qp,KQ];congr 1;exact Bool.beq_comm
theorem znV:∀hs:List Int,qZ (hs.map D.int)=true
 |[]=>rfl
 |y::hs=>by rw[fj,qZ,znV hs];rfl
theorem znD:∀hs:List Int,PyData.depthAll (qp (hs.map D.int))=0
 |[]=>rfl
 |y::hs=>by rw[fj,qp,PyData.depthAll,znD hs];rfl
def zpC(x:Int)(hs:List Int):nY (.int x) (hs.map D.int):=⟨rfl,znV hs,by rw[znD];exact gJ (Nat.min_le_left _ _) (by decide)⟩
def Du(x y:Int):qP (.int x) (.int y):=⟨rfl,rfl,by show min 0 0<=50;decide⟩
def Ih(x y:Int):eqB (.int x) (.int y)=decide (x=y):=by
 show(x==y)=_;by_cases h:x=y<;>simp[h]
def tG(x y:Bool):qP (.bl x) (.bl y):=⟨rfl,rfl,by show min 0 0<=50;decide⟩
def zpw{x:Int}{hs:List Int}{n:Bool}{Q:D->Prop}(q:Q (.bl (!hs.contains x))):inD true (.int x) (.lst n (hs.map D.int)) Q:=⟨zpC _ _,by
 have:(if true=true then !inB (.int x) (hs.map D.int)else inB (.int x) (hs.map D.int)) = !hs.contains x:=congrArg (!·) (zod x hs)
 rw[this];exact q⟩
def zxc(q:Q (.bl (decide (x=y)))):gV (.int x) (.int y) Q:=⟨Du _ _,by rw[Ih];exact q⟩
def zvE(q:Q (.bl (!decide (x=y)))):nu (.int x) (.int y) Q:=⟨Du _ _,by rw[Ih];exact q⟩
def cC(x:Str):D.old (.str x)=.str x:=by rw[D.old]
def zsE(h0:0<m)(h1:m<2^64)(k:∀x:Int,0<=x->x<m->Q (.int x)):up Av [.box,.int m] Q:=⟨Q,⟨⟨h0,h1⟩,k⟩,λd z=>z⟩
def zww{α:Type}(f:α->Bool)(xs:List α):(xs.map λx=>D.bl (f x))=(xs.map f).map D.bl:=by simp
def zia{α:Type}{f:α->Bool}{xs:List α}{n:Bool}{Q:D->Prop}(q:Q (.bl (xs.all f))):nR [.lst n (xs.map λx=>D.bl (f x))] Q:=
 ⟨xs.map f,zww f xs,by rw[List.all_map];exact q⟩
def zee{α β:Type}(f:α->β)(xs:List α):xs.filterMap (λx=>some (f x))=xs.map f:=by simp
def zgF{α:Type}(emb:α->D)(g:α->D)(xs:List α)(h:∀x∈xs,yX t C E Zc (emb x) (some (g x)))(q:Q (xs.map g)):sE t C E Zc Q (xs.map emb) []:=
 zh5 emb (λx=>some (g x)) xs [] h (by rw[zee];exact q)
mutual
def gq:D->Nat->Bool
 |.non,_=>true
 |.bl _,_=>true
 |.int _,_=>true
 |.str x,_=>PyData.canLay0 (.str x)
 |.box,_=>false
 |.obj _,_=>false
 |.dct _ _ _,_=>false
 |.fdc _ _,_=>false
 |.tup xs,n+1=>decide (xs.length<=1000)&&vq xs n
 |.lst _ xs,n+1=>decide (xs.length<=1000)&&vq xs n
 |.tup _,0=>false
 |.lst _ _,0=>false
def vq:List D->Nat->Bool
 |[],_=>true
 |x::xs,n=>gq x n&&vq xs n
end
theorem zgn:∀{xs:List D}{n:Nat}{x:D},vq xs n=true->x∈xs->gq x n=true
 |y::ys,n,x,h,hx=>by
  rw[vq,jT]at h;rcases eX.mp hx with e|e
  .rw[e];exact h.1
  .exact zgn h.2 e
theorem zjc:∀xs:List D,iH xs xs=xs.map λx=>.tup [x,x]
 |[]=>rfl
 |x::xs=>by rw[iH,zjc xs];rfl
mutual
theorem zmQ:∀d:D,d.old.old=d.old
 |.non=>by simp[D.old]
 |.bl _=>by simp[D.old]
 |.int _=>by simp[D.old]
 |.str _=>by simp[D.old]
 |.box=>by simp[D.old]
 |.obj _=>by simp[D.old]
 |.dct _ _ xs=>by rw[D.old,D.old,YAL];congr 1;exact J2 xs
 |.fdc _ xs=>by rw[D.old,D.old,YAL];congr 1;exact J2 xs
 |.tup xs=>by rw[D.old,D.old,YAL];congr 1;exact J2 xs
 |.lst _ xs=>by rw[D.old,D.old,YAL];congr 1;exact J2 xs
theorem J2:∀xs:List D,xs.map (D.old∘D.old)=xs.map D.old
 |[]=>rfl
 |x::xs=>by rw[fj,fj,J2 xs,Function.comp_apply,zmQ x]
end
mutual
theorem zj9:∀(d:D)(n:Nat),gq d.old n=gq d n
 |.non,_=>by rw[D.old]
 |.bl _,_=>by rw[D.old]
 |.int _,_=>by rw[D.old]
 |.str _,_=>by rw[D.old]
 |.box,_=>by rw[D.old]
 |.obj _,_=>by rw[D.old]
 |.dct _ _ _,_=>by rw[D.old,gq,gq]
 |.fdc _ _,_=>by rw[D.old,gq,gq]
 |.tup xs,n+1=>by rw[D.old,gq,gq,cY,zgr xs n]
 |.lst _ xs,n+1=>by rw[D.old,gq,gq,cY,zgr xs n]
 |.tup xs,0=>by rw[D.old,gq,gq]
 |.lst _ xs,0=>by rw[D.old,gq,gq]
theorem zgr:∀(xs:List D)(n:Nat),vq (xs.map D.old) n=vq xs n
 |[],_=>rfl
 |x::xs,n=>by rw[fj,vq,vq,zj9 x n,zgr xs n]
end
def uD:∀{d:D}{n:Nat},gq d n=true->(∀xs,d≠.tup xs)->(∀b xs,d≠.lst b xs)->jV d=true
 |.non,_,_,_,_=>rfl
 |.bl _,_,_,_,_=>rfl
 |.int _,_,_,_,_=>rfl
 |.str x,_,h,_,_=>h
 |.box,_,h,_,_=>by rw[gq]at h;cases h
 |.obj _,_,h,_,_=>by rw[gq]at h;cases h
 |.dct _ _ _,_,h,_,_=>by rw[gq]at h;cases h
 |.fdc _ _,_,h,_,_=>by rw[gq]at h;cases h
 |.tup xs,_,_,h,_=>absurd rfl (h xs)
 |.lst b xs,_,_,_,h=>absurd rfl (h b xs)
theorem zis:∀(n:Nat)(d e:D),d.old=e.old->gq d n=true->rE (n+1) [d,e] (·=.bl true)
 |n,d,e,he,h=>by
  have ho:=h;rw[<-zj9]at ho;unfold rE gC eU;rw[fj,fj,<-he];have hoo:=zmQ d;revert ho hoo;generalize d.old=x;intro ho hoo;cases x with
  |non=>rfl
  |bl b=>exact⟨tG _ _,tG _ _,tG _ _,⟨rfl,rfl,by show min 0 0<=50;decide⟩,by show D.bl (b==b)=_;simp⟩
  |int i=>exact⟨tG _ _,tG _ _,tG _ _,Du _ _,by show D.bl (i==i)=_;simp⟩
  |str z=>exact⟨tG _ _,tG _ _,tG _ _,⟨uD ho (λ_ h=>by cases h) (λ_ _ h=>by cases h),uD ho (λ_ h=>by cases h) (λ_ _ h=>by cases h),by show min 0 0<=50;decide⟩,by show D.bl (z==z)=_;simp⟩
  |box=>rw[gq]at ho;cases ho
  |obj a=>rw[gq]at ho;cases ho
  |dct n ks xs=>rw[gq]at ho;cases ho
  |fdc ks xs=>rw[gq]at ho;cases ho
  |tup xs=>
   cases n with
   |zero=>rw[gq]at ho;cases ho
   |succ n=>
    rw[gq,jT]at ho;have hl:=YAJ ho.1;refine⟨tG _ _,tG _ _,Du _ _,?_⟩;rw[Ih,iQ rfl];show _/\sE _ _ _ _ _ _ [];rw[zjc];refine⟨by rw[cY];omega,zgF (λx=>.tup [x,x]) (λ_=>.bl true) xs (λx hx Y N y=>⟨rfl,rfl,pC (zis n x x rfl (zgn ho.2 hx)) λd hd=>by subst hd;exact y⟩) ?_⟩;exact zia (by congr 1;simp)
  |lst b xs=>
   cases n with
   |zero=>rw[gq]at ho;cases ho
   |succ n=>
    rw[gq,jT]at ho;have hl:=YAJ ho.1;refine⟨tG _ _,tG _ _,Du _ _,?_⟩;show v6 (.bl (eqB (.int (xs.length:Int)) (.int (xs.length:Int)))) _;rw[Ih,iQ rfl];show _/\sE _ _ _ _ _ (iH xs xs) [];rw[zjc];refine⟨by rw[cY];omega,zgF (λx=>.tup [x,x]) (λ_=>.bl true) xs (λx hx Y N y=>⟨rfl,rfl,pC (zis n x x rfl (zgn ho.2 hx)) λd hd=>by subst hd;exact y⟩) ?_⟩;exact zia (f:=λ_=>true) (xs:=xs) (n:=true) (by show D.bl _=_;congr 1;simp)
abbrev sg(x:Str):List Nat:=x.cps.toList
def zli(h:sg x=sg y):x=y:=by
 cases x;cases y
 have:_=_:=Array.ext' h
 simp only at this;rw[this]
def sr(x:Str):x.length=(sg x).length:=rfl
def zuQ(l:List Nat):sg ⟨l.toArray⟩=l:=by simp
def v8(x y:Str):sg (x++y)=sg x++sg y:=by show(x.cps++y.cps).toList=_;simp
def yS(x y:Str):eqB (.str x) (.str y)=decide (x=y):=rfl
def bQ(x:Str):Bool:=PyData.canLay0 (.str x)
def nQ(h:∀ch∈sg x,ch<0x110000):bQ x=true:=by
 show x.cps.all _=true;rw[<-Array.all_toList,YAH];intro ch hc;exact iQ (h ch hc)
def dX(h:(sg x).all (λch=>decide (ch<0x110000))=true:=by decide):bQ x=true:=nQ λch hc=>YAJ (YAH.mp h ch hc)
def BR(hx:bQ x=true)(hy:bQ y=true):qP (.str x) (.str y):=⟨by exact hx,by exact hy,by show min 0 0<=50;decide⟩
def zvl(s:Str)(ch:Nat):uV s ⟨#[ch]⟩=decide (ch∈sg s):=StrLaws.found_one s ch
def lG(x signs:Str)(n:Int):Bool:=(decide (1<=(x.length:Int))&&decide ((x.length:Int)<=n))&&(sg x).all λch=>decide (ch∈sg signs)
def qF(h:Z[i]?=some (.val d))(q:Q d):vW i Z Q:=by unfold vW;rw[h];exact q
def bl_t(q:f b):v6 (.bl b) f:=q
def zyL{p q:Prop}(h:p):if true=true then p else q:=h
def ztp(q:Q (.bl (decide (i<=j)))):Ji (.int i) (.int j) Q:=q
def zgb(x signs:Str)(n:Int)(hx:x.length<=100000):Dw [.str x,.str signs,.int n] (·=.bl (lG x signs n)):=by
 unfold Dw gC eU;rw[fj,fj,fj,cC,cC,pB];refine⟨hx,ztp ?_⟩;unfold lG;cases decide (1<=(x.length:Int))with
 |false=>rfl
 |true=>
  refine bl_t (zyL (qF rfl (ztp ?_)));cases decide (_<=n)with
  |false=>rfl
  |true=>
   refine⟨by unfold yM;rw[cY];exact hx,?_⟩;refine zgF (λch=>D.str ⟨#[ch]⟩) (λch=>.bl (decide (ch∈sg signs))) _ (λch _ Y N y=>?_) ?_
   .show Y _;rw[zvl];exact y
   .exact zia (by simp)
abbrev LET:Str:="abcdefghijklmnopqrstuvwxyz"
abbrev Fg:Str:="0123456789"
def zt5(ch:Nat):ch∈sg LET↔97<=ch/\ch<=122:=by
 have:sg LET=List.range' 97 26:=by decide
 rw[this,List.mem_range'];constructor
 .rintro⟨i,h,rfl⟩;omega
 .intro h;exact⟨ch-97,by omega,by omega⟩
def zuw(ch:Nat):ch∈sg Fg↔48<=ch/\ch<=57:=by
 have:sg Fg=List.range' 48 10:=by decide
 rw[this,List.mem_range'];constructor
 .rintro⟨i,h,rfl⟩;omega
 .intro h;exact⟨ch-48,by omega,by omega⟩
def lR(x:Str):Bool:=lG x LET 8
def zjf(x:Str)(hx:x.length<=100000):vm [.str x] (·=.bl (lR x)):=by
 unfold vm gC eU;rw[fj,cC];exact⟨rfl,pC (zgb x LET 8 hx) λd z=>z⟩
abbrev s0:Str:="0"
abbrev sM:Str:="-"
abbrev sM0:Str:="-0"
def rz(x:Str):Bool:=lG x Fg 10&&(decide (x=s0) || !Txt.startswith x s0)
def zeU(x:Str)(hx:x.length<=100000)(ho:bQ x=true):Ai [.str x] (·=.bl (rz x)):=by
 unfold Ai gC eU;rw[fj,cC];refine⟨rfl,pC (zgb x Fg 10 hx) λd z=>?_⟩;subst z;unfold rz;cases lG x Fg 10 with
 |false=>rfl
 |true=>
  refine⟨BR ho dX,?_⟩;show v6 (.bl (eqB (.str x) (.str s0))) _;rw[yS];cases decide (x=s0)with
  |true=>rfl
  |false=>simp;rfl
def Lp(x:Str):Bool:=if Txt.startswith x sM then(!decide (x=sM0)&&rz (j4 x (some 1) none))else rz x
def zsH(x:Str)(lo hi:Option Int):(j4 x lo hi).length<=x.length:=by
 rw[sr,sr];unfold j4;rw[zuQ,Fq,YB5];exact gJ (Nat.min_le_right _ _) (Nat.sub_le _ _)
def zsx(h:ch∈sg (j4 x lo hi)):ch∈sg x:=by
 unfold j4 at h;rw[zuQ]at h;exact List.mem_of_mem_drop (List.mem_of_mem_take h)
def ztX(h:bQ x=true):∀ch∈sg x,ch<0x110000:=by
 have h:x.cps.all (·<0x110000)=true:=h;rw[<-Array.all_toList,YAH]at h;intro ch hc;exact YAJ (h ch hc)
def zuF(h:bQ x=true)(lo hi:Option Int):bQ (j4 x lo hi)=true:=nQ λch hc=>ztX h ch (zsx hc)
def zmX(x:Str)(hx:x.length<=100000)(ho:bQ x=true):Ke [.str x] (·=.bl (Lp x)):=by
 unfold Ke gC eU;rw[fj,cC];show if Txt.startswith x sM=true then _ else _;unfold Lp;cases Txt.startswith x sM with
 |false=>exact⟨rfl,pC (zeU x hx ho) λd z=>z⟩
 |true=>
  refine⟨BR ho dX,?_⟩;show v6 (.bl (!eqB (.str x) (.str sM0))) _;rw[yS];cases decide (x=sM0)with
  |true=>rfl
  |false=>exact⟨hx,rfl,pC (zeU (j4 x (some 1) none) (gJ (zsH _ _ _) hx) (zuF ho _ _)) λd z=>by subst z;rfl⟩
abbrev kN:Str:="name"
abbrev kC:Str:="number"
def Ae(k x:Str):Bool:=if k=kN then lR x else if k=kC then rz x else Lp x
def zhs(k x:Str)(hk:bQ k=true)(hx:x.length<=100000)(ho:bQ x=true):HR [.str k,.str x] (·=.bl (Ae k x)):=by
 unfold HR gC eU;rw[fj,fj,cC,cC];refine⟨BR hk dX,?_⟩;show if eqB (.str k) (.str kN)=true then _ else _;rw[yS];unfold Ae;by_cases h:k=kN
 .rw[if_pos (iQ h),if_pos h];exact⟨rfl,pC (zjf x hx) λd z=>z⟩
 .rw[if_neg (by rw[jq h];decide),if_neg h];refine⟨BR hk dX,?_⟩;show if eqB (.str k) (.str kC)=true then _ else _;rw[yS];by_cases h:k=kC
  .rw[if_pos (iQ h),if_pos h];exact⟨rfl,pC (zeU x hx ho) λd z=>z⟩
  .rw[if_neg (by rw[jq h];decide),if_neg h];exact⟨rfl,pC (zmX x hx ho) λd z=>z⟩
abbrev nS(n:Int):Str:=Str.ofString (toString n)
def znG(m:Nat):sg (nS (m:Int))=(Nat.toDigits 10 m).map Char.toNat:=PySem.W.KIN.signs_num m
def HS{m ch:Nat}(h:ch∈sg (nS (m:Int))):48<=ch/\ch<=57:=by
 rw[znG]at h;obtain⟨c,hc,e⟩:=rD.mp h;have r:=PyProof.Rows.digit_range (Nat.isDigit_of_mem_toDigits (by decide) (by decide) hc);rw[<-e];exact r
def ziy(m:Nat):Nat.toDigits 10 m≠[]:=λe=>by
 have h:=PySem.toDigits_len_ge 10 m;rw[e]at h;exact absurd h (by decide)
def zpj(m:Nat):0<m->∀c r,Nat.toDigits 10 m=c::r->c≠'0':=by
 induction m using Nat.strongRecOn with
 |_ m ih=>
  intro h0 c r e;by_cases h:m<10
  .rw[Nat.toDigits_of_lt_base h]at e;cases e
   have:∀d:Nat,d<10->0<d->Nat.digitChar d≠'0':=by decide
   exact this m h h0
  .have hm:m % 10<10:=Nat.mod_lt m (by decide);have t:Nat.toDigits 10 (m / 10)++Nat.toDigits 10 (m % 10)=Nat.toDigits 10 (10*(m / 10)+m % 10):=Nat.toDigits_append_toDigits (by decide) (by omega) hm;rw[Nat.div_add_mod]at t;rw[<-t]at e;cases e2:Nat.toDigits 10 (m / 10)with
   |nil=>exact absurd e2 (ziy _)
   |cons c' r'=>
    rw[e2]at e;cases e;exact ih (m / 10) (by omega) (by omega) c r' e2
def zrx(x:Str)(ch:Nat):Txt.startswith x ⟨#[ch]⟩=decide ((sg x)[0]?=some ch):=by
 have h:=StrLaws.subAt_one x ch 0;unfold Txt.startswith;by_cases e:(sg x)[0]?=some ch
 .obtain⟨h1,h2⟩:=h.mpr e;rw[iQ e,h2,iQ h1];rfl
 .rw[jq e];cases h3:decide (0+(⟨#[ch]⟩:Str).length<=x.length)with
  |false=>rfl
  |true=>
   cases h4:Builtin.Str.subAt x ⟨#[ch]⟩ 0 with
   |false=>rfl
   |true=>exact absurd (h.mp ⟨YAJ h3,h4⟩) e
def zy2:s0=⟨#[48]⟩:=by decide
def ztJ:sM=⟨#[45]⟩:=by decide
def zy0:((" ":String):Str)=⟨#[32]⟩:=by decide
def zq5{m:Nat}(h:0<m):(sg (nS (m:Int)))[0]?≠some 48:=by
 rw[znG];cases e:Nat.toDigits 10 m with
 |nil=>exact absurd e (ziy _)
 |cons c r=>
  have h1:=zpj m h c r e;intro z;simp only[fj,List.getElem?_cons_zero,Option.some.injEq]at z;have h2:c.toNat='0'.toNat:=z;exact h1 (Char.toNat_inj.mp h2)
def Hn{m:Nat}(h:m<10^10):1<=(nS (m:Int)).length/\(nS (m:Int)).length<=10:=by
 constructor
 .rw[sr,znG,cY];cases e:Nat.toDigits 10 m with
  |nil=>exact absurd e (ziy _)
  |cons c r=>simp
 .exact PySem.W.KT.len_num (by omega) (by exact_mod_cast h)
def zon{m:Nat}(h:m<10^10):rz (nS (m:Int))=true:=by
 obtain⟨h1,h2⟩:=Hn h;unfold rz lG;rw[iQ (by omega:1<=((nS (m:Int)).length:Int)),iQ (by omega:((nS (m:Int)).length:Int)<=10)];have ha:((sg (nS (m:Int))).all λch=>decide (ch∈sg Fg))=true:=YAH.mpr λch hc=>iQ ((zuw ch).mpr (HS hc));rw[ha];rcases Nat.eq_zero_or_pos m with e|e
 .subst e;rw[iQ (by decide:nS ((0:Nat):Int)=s0)];rfl
 .rw[zy2,zrx,jq (zq5 e)];simp
def zus(m:Nat):nS (-((m+1:Nat):Int))=sM++nS ((m+1:Nat):Int):=by
 apply zli;rw[v8];have e:toString (-((m+1:Nat):Int))="-"++toString ((m+1:Nat):Int):=rfl;unfold nS;rw[e];have q:∀s t:String,sg (Str.ofString (s++t))=sg (Str.ofString s)++sg (Str.ofString t):=λs t=>by
  rw[YBZ,YBZ,YBZ]
  simp
 exact q _ _
def yj(m:Nat):sg (nS (-((m+1:Nat):Int)))=45::sg (nS ((m+1:Nat):Int)):=by
 rw[zus,v8,ztJ];rfl
def zu1(m:Nat):j4 (nS (-((m+1:Nat):Int))) (some 1) none=nS ((m+1:Nat):Int):=by
 have hs:HT.cM (45::sg (nS ((m+1:Nat):Int))).length 0 (some 1)=1:=by
  have:=HT.jH (45::sg (nS ((m+1:Nat):Int))).length 0 1
  rw[YAA]at this ⊢;exact this.trans (by omega)
 apply zli;unfold j4;rw[zuQ,sr];show List.take _ (List.drop _ (sg (nS (-((m+1:Nat):Int)))))=_;rw[yj,hs];show List.take ((45::sg (nS ((m+1:Nat):Int))).length-1) (sg (nS ((m+1:Nat):Int)))=_;exact Hc (by simp)
def zqK{n:Int}(h:n.natAbs<10^10):Lp (nS n)=true:=by
 unfold Lp;rcases YCG n 0 with e|e
 .obtain⟨m,rfl⟩:∃m:Nat,n=-((m+1:Nat):Int):=⟨n.natAbs-1,by omega⟩;have h':m+1<10^10:=by omega
  rw[ztJ,zrx,yj,iQ (by simp),if_pos rfl,zu1,zon h']
  have:nS (-((m+1:Nat):Int))≠sM0:=λz=>by
   have z:=congrArg sg z;rw[yj]at z;have z:sg (nS ((m+1:Nat):Int))=[48]:=List.tail_eq_of_cons_eq z;exact zq5 (m:=m+1) (by omega) (by rw[z];rfl)
  rw[jq this];rfl
 .obtain⟨m,rfl⟩:=Fp e;have h':m<10^10:=by omega
  have:(sg (nS (m:Int)))[0]?≠some 45:=λz=>by
   have:=HS (YBH z)
   omega
  rw[ztJ,zrx,jq this,if_neg (by decide),zon h']
def znv{n:Int}(h:n.natAbs<10^10):PySem.intText? (nS n)=some n:=by
 rcases YCG n 0 with e|e
 .obtain⟨m,rfl⟩:∃m:Nat,n=-((m+1:Nat):Int):=⟨n.natAbs-1,by omega⟩;have h':m+1<10^10:=by omega
  have hl:=(Hn h').2;rw[PySem.intText_neg (yj m) (λch hc=>HS hc) (λz=>by have:=(Hn h').1;rw[sr,z]at this;simp at this) (by rw[sr,yj,YAA,<-sr];omega)];rw[znG,PySem.W.KIN.val_back]
 .exact PySem.W.KIN.num_reads e (by omega)
def Cv{n:Int}(h:n.natAbs<10^10):(nS n).length<=11:=by
 rcases YCG n 0 with e|e
 .obtain⟨m,rfl⟩:∃m:Nat,n=-((m+1:Nat):Int):=⟨n.natAbs-1,by omega⟩;have hl:=(Hn (m:=m+1) (by omega)).2;rw[sr,yj,YAA,<-sr];omega
 .obtain⟨m,rfl⟩:=Fp e
  have:=(Hn (m:=m) (by omega)).2
  omega
def ztq(hc:ch∈sg (nS n)):ch=45\/(48<=ch/\ch<=57):=by
 rcases YCG n 0 with e|e
 .obtain⟨m,rfl⟩:∃m:Nat,n=-((m+1:Nat):Int):=⟨n.natAbs-1,by omega⟩;rw[yj]at hc;rcases eX.mp hc with z|z
  .exact .inl z
  .exact .inr (HS z)
 .obtain⟨m,rfl⟩:=Fp e;exact .inr (HS hc)
def zwQ(ha:k∉a)(ha':k∉a')(h:a++k::b=a'++k::b'):a=a'/\b=b':=by
 induction a generalizing a' with
 |nil=>
  cases a' with
  |nil=>simp at h;exact⟨rfl,h⟩
  |cons y a'=>simp at h;exact absurd h.1 (λz=>ha' (by rw[z];exact lF))
 |cons x a ih=>
  cases a' with
  |nil=>simp at h;exact absurd h.1 (λz=>ha (by rw[<-z];exact lF))
  |cons y a'=>
   simp at h;obtain⟨h1,h2⟩:=ih (λz=>ha (fL _ z)) (λz=>ha' (fL _ z)) h.2;exact⟨by rw[h.1,h1],h2⟩
abbrev sB:Str:=" "
def mD(w v:Str)(r:List Str):sg (Str.join sB (w::v::r))=sg w++32::sg (Str.join sB (v::r)):=by
 show sg (w++sB++Str.join sB (v::r))=_;rw[v8,v8]
 have:sg sB=[32]:=by decide
 rw[this,Fx];rfl
theorem zor:∀(ws vs:List Str),ws≠[]->vs≠[]->(∀w∈ws,32∉sg w)->(∀v∈vs,32∉sg v)->Str.join sB ws=Str.join sB vs->ws=vs
 |[],_,h,_,_,_,_=>absurd rfl h
 |_,[],_,h,_,_,_=>absurd rfl h
 |[w],[v],_,_,_,_,e=>by rw[show w=v from e]
 |[w],v::v'::r,_,_,hw,_,e=>by
  have e:=congrArg sg e;rw[mD]at e;have e:sg w=_:=e;exact absurd (by rw[e];simp) (hw w lF)
 |w::w'::r,[v],_,_,_,hv,e=>by
  have e:=congrArg sg e;rw[mD]at e;have e:_=sg v:=e;exact absurd (by rw[<-e];simp) (hv v lF)
 |w::w'::r,v::v'::r',_,_,hw,hv,e=>by
  have e:=congrArg sg e;rw[mD,mD]at e;obtain⟨h1,h2⟩:=zwQ (hw w lF) (hv v lF) e;rw[zli h1,zor (w'::r) (v'::r') (by simp) (by simp) (λx hx=>hw x (fL _ hx)) (λx hx=>hv x (fL _ hx)) (zli h2)]
def yQ(ws:List Str)(h0:ws≠[])(h:∀w∈ws,32∉sg w):Txt.split (Str.join sB ws) sB=ws:=by
 refine zor _ _ (λz=>?_) h0 (λv hv=>?_) h (StrLaws.join_split _ _)
 .have:=PyProof.Rows.split_pos (Str.join sB ws) sB
  rw[z]at this;exact absurd this (by decide)
 .rw[show sB=⟨#[32]⟩from zy0]at hv;exact StrLaws.split_free _ _ v hv
theorem xZ:∀(ws:List Str)(k:Nat),(∀w∈ws,w.length<=k)->(Str.join sB ws).length<=ws.length*(k+1)
 |[],k,_=>by show(Str.empty).length<=_;exact wy _
 |[w],k,h=>by
  have:=h w lF
  show w.length<=1*(k+1);omega
 |w::v::r,k,h=>by
  have h1:=h w lF;have h2:=xZ (v::r) k λx hx=>h x (fL _ hx);rw[sr]at h1 h2 ⊢;rw[mD,iB,YAA];rw[YAA (as:=v::r),Nat.add_mul];omega
def jt(p:Str×Str):D:=if p.1=kN then .str p.2 else .int ((PySem.intText? p.2).getD 0)
theorem K7:∀(ks ts:List Str),iH (ks.map D.str) (ts.map D.str)=(ks.zip ts).map λp=>.tup [.str p.1,.str p.2]
 |[],_=>by rw[ue,wL];rfl
 |_::_,[]=>by rw[ue,List.zip_nil_right];rfl
 |k::ks,t::ts=>by
  rw[fj,fj,iH,K7 ks ts,YAY,fj]
structure ni(w:Str)(ts ks:List Str):Prop where
 form:cR.lookup w=some (.tup (ks.map D.str))
 len:ks.length=ts.length
 oks:∀k∈ks,bQ k=true
 okt:∀t∈ts,bQ t=true/\t.length<=640
 few:ts.length<=1000
 writ:∀p∈ks.zip ts,Ae p.1 p.2=true
 num:∀p∈ks.zip ts,p.1≠kN->∃n,PySem.intText? p.2=some n
def Gh(hi:Z[i]?=some (.val (.str z)))(hl:kvs.lookup z=some d)(q:Q d):nP kvs (vW i) Z Q:=by
 unfold nP vW yG Br;simp only[hi,hl];exact q
def in_G(hi:Z[i]?=some (.val (.str z)))(hl:kvs.lookup z=some d)(q:R false):b8 (xX true kvs (vW i)) Z R:=by
 unfold b8 xX vW yG;simp only[hi,hl];exact q
def zwP(hA:∀P:D->Prop,P x->A Z P)(hB:∀P:D->Prop,P y->B Z P)(ho:qP x y)(q:Q (!eqB x y)):b8 (ak nu A B) Z Q:=hA _ (hB _ ⟨ho,q⟩)
def zxf(x:Str):eU 5 [.str x]=[.val (.str x),.un,.un,.un,.un]:=by unfold eU;rw[fj,cC];rfl
def zoh{α:Type}(emb:α->D)(g:α->D)(ys:List α)(e:xs=ys.map emb)(h:∀x∈ys,yX t C E Zc (emb x) (some (g x)))(q:Q (ys.map g)):sE t C E Zc Q xs []:=e▸zgF emb g ys h q
def GF{ks ts:List Str}{p:Str×Str}(h:p∈ks.zip ts):p.1∈ks/\p.2∈ts:=⟨(Kv h).1,(Kv h).2⟩
def zqi(d e:D)(n:Nat):eU (n+2) [d,e]=.val d.old::.val e.old::List.replicate n .un:=rfl
def Ev(A:WE)(Z:Env)(d:D):Prop:=∀P:D->Prop,P d->A Z P
def iD(A:WL)(Z:Env)(ds:List D):Prop:=∀P:List D->Prop,P ds->A Z P
def gf(A:WT)(Z:Env)(b:Bool):Prop:=∀P:Bool->Prop,P b->A Z P
def Eb(A:WO)(Z:Env)(o:Option Int):Prop:=∀P:Option Int->Prop,P o->A Z P
section
variable{Z:Env}{A B V:WE}{R:WL}{C C':WT}{d x y:D}{ds xs:List D}{i n:Nat}{b b':Bool}
def au(h:Z[i]?=some (.val d)):Ev (vW i) Z d:=λP p=>qF h p
def aF:Ev (kW d) Z d:=λP p=>p
def pJ(hA:Ev A Z x)(hB:Ev B Z y)(h:∀P:D->Prop,P d->f x y P):Ev (ak f A B) Z d:=λP p=>hA _ (hB _ (h P p))
def bw:iD aq Z []:=λP p=>p
def aH(hA:Ev A Z d)(hR:iD R Z ds):iD (aA A R) Z (d::ds):=λP p=>hA _ (hR _ p)
def dU(hR:iD R Z ds)(h:ds.length<=100000:=by simp):Ev (aW R) Z (.tup ds):=λP p=>hR _ ⟨h,p⟩
def mX(hR:iD R Z ds)(h:ds.length<=100000:=by simp):iD (dg R) Z ds:=λP p=>hR _ ⟨h,p⟩
def iW(hR:iD R Z ds):Ev (bO R) Z (.lst true ds):=λP p=>hR _ p
def sJ(hR:iD R Z ds)(h:F ds (·=d))(hl:ds.length=n:=by rfl):Ev (dZ n F R) Z d:=λP p=>hR _ ⟨hl,pC h λe z=>by subst z;exact p⟩
def yr(hR:iD R Z ds)(h:∀P:D->Prop,P d->f ds P):Ev (cbW f R) Z d:=λP p=>hR _ (h P p)
def zyF(hC:gf C Z b)(h:if b=true then Ev A Z d else Ev B Z d):Ev (Kq C A B) Z d:=λP p=>hC _ (by cases b<;>exact h P p)
def zud(hA:Ev A Z (.dct nn ks xs))(h:jO ks xs z=some d):Ev (ak fX A (kW (.str z))) Z d:=pJ hA aF λP p=>by show qX _ P;rw[h];exact p
def BP(hA:Ev A Z (.tup t))(hB:Ev B Z (.int k))(h:lE t k=some d):Ev (ak bC A B) Z d:=pJ hA hB λP p=>by show(match lE t k with|some d=>P d|none=>False);rw[h];exact p
def zs2(hA:Ev A Z (.lst m t))(hB:Ev B Z (.int k))(h:lE t k=some d):Ev (ak bC A B) Z d:=pJ hA hB λP p=>by show(match lE t k with|some d=>P d|none=>False);rw[h];exact p
def zkL(hA:Ev A Z (.int j))(hB:Ev B Z (.int k)):Ev (ak bM A B) Z (.int (j+k)):=pJ hA hB λP p=>p
def zt0(hA:Ev A Z (.int j))(hB:Ev B Z (.int k))(h:0<k:=by decide):Ev (ak uT A B) Z (.int (j % k)):=pJ hA hB λP p=>⟨h,p⟩
def J1(hA:Ev A Z (.tup s))(hB:Ev B Z (.tup t))(h:s.length+t.length<=100000):Ev (ak bM A B) Z (.tup (s++t)):=pJ hA hB λP p=>⟨h,p⟩
def pP(hA:Ev A Z (.lst m s))(hB:Ev B Z (.lst l t))(h:s.length+t.length<=100000):Ev (ak bM A B) Z (.lst true (s++t)):=pJ hA hB λP p=>⟨h,p⟩
def Ib(hA:Ev A Z (.tup t)):Ev (cbW mj (aA A aq)) Z (.int t.length):=yr (aH hA bw) λP p=>p
def Lr(hA:Ev A Z (.lst m t)):Ev (cbW mj (aA A aq)) Z (.int t.length):=yr (aH hA bw) λP p=>p
def zN(hA:Ev A Z (.str s))(hB:Ev B Z (.str t))(hs:bQ s=true)(ht:bQ t=true):Ev (ak gV A B) Z (.bl (decide (s=t))):=pJ hA hB λP p=>⟨BR hs ht,by rw[yS];exact p⟩
def zw2(hA:Ev A Z (.str s))(hB:Ev B Z (.str t))(hs:bQ s=true)(ht:bQ t=true):Ev (ak nu A B) Z (.bl (!decide (s=t))):=pJ hA hB λP p=>⟨BR hs ht,by rw[yS];exact p⟩
def Do(hA:Ev A Z (.int s))(hB:Ev B Z (.int t)):Ev (ak gV A B) Z (.bl (decide (s=t))):=pJ hA hB λP p=>zxc p
def zwb(hA:Ev A Z (.int s))(hB:Ev B Z (.int t)):Ev (ak nu A B) Z (.bl (!decide (s=t))):=pJ hA hB λP p=>zvE p
def zxW(hA:Ev A Z (.int s))(hB:Ev B Z (.int t)):Ev (ak ltD A B) Z (.bl (decide (s<t))):=pJ hA hB λP p=>p
def Dh(hA:Ev A Z (.int s))(hB:Ev B Z (.int t)):Ev (ak wM A B) Z (.bl (decide (t<s))):=pJ hA hB λP p=>p
def Lf(hA:Ev A Z (.int s))(hB:Ev B Z (.int t)):Ev (ak Mf A B) Z (.bl (decide (t<=s))):=pJ hA hB λP p=>p
def gZ(h:Ev A Z (.bl b)):gf (b8 A) Z b:=λP p=>h _ p
def zpY(h:Ev A Z (.bl b)):gf (gU A) Z b:=λP p=>h _ p
def zwo(h:gf C Z b):gf (lr C) Z (!b):=λP p=>h _ p
def zv4(h:gf C Z b)(h':b=false->gf C' Z b'):gf (um C C') Z (b || b'):=λP p=>h _ (by
 cases b
 .exact h' rfl P p
 .exact p)
def ir(h:gf C Z b)(e:b=b'):gf C Z b':=e▸h
def zsl(h:Ev A Z x)(e:x=y):Ev A Z y:=e▸h
def ztg:Eb yL Z none:=λP p=>p
def znZ(h:Ev A Z (.int k)):Eb (yH A) Z (some k):=λP p=>h _ p
def zvT(hA:Ev A Z (.tup t))(hL:Eb L Z l)(hU:Eb o9 Z u):Ev (nU A L o9) Z (.tup (cutD t l u)):=λP p=>hA _ (hL _ (hU _ p))
def ym{α:Type}(emb:α->D)(g:α->Option D)(ys:List α)(hI:iD I Z (ys.map emb))(hl:ys.length<=100000)(h:∀x∈ys,yX t C E (fY sub Z) (emb x) (g x)):iD (jD sub I t C E) Z (ys.filterMap g):=λP p=>
 hI _ ⟨by rw[cY];exact hl,zh5 emb g ys [] h (by rw[YCH];exact p)⟩
def wu(hA:Ev A Z (.tup t)):iD (iM A) Z t:=λP p=>hA _ p
def zH(hA:Ev A Z (.lst m t)):iD (iM A) Z t:=λP p=>hA _ p
def zmO(hA:Ev A Z (.tup t)):iD (J8 A) Z t:=λP p=>hA _ p
def Eg(hC:gf C (Zc.set i (.val x)) true)(hE:Ev E (Zc.set i (.val x)) d):yX (.nm i) C E Zc x (some d):=λY N q=>by
 unfold gD;exact hC _ (hE _ q)
def zsP(hC:gf C (Zc.set i (.val x)) false):yX (.nm i) C E Zc x none:=λY N q=>by
 unfold gD;exact hC _ q
def zw3(hC:gf C ((Zc.set i (.val x)).set j (.val y)) true)(hE:Ev E ((Zc.set i (.val x)).set j (.val y)) d):yX (.tp 2 (.cons (.nm i) (.cons (.nm j) .nil))) C E Zc (.tup [x,y]) (some d):=λY N q=>by
 unfold gD;refine⟨rfl,?_⟩;unfold j9 gD j9 gD j9;exact hC _ (hE _ q)
def ztr(hC:gf C ((Zc.set i (.val x)).set j (.val y)) false):yX (.tp 2 (.cons (.nm i) (.cons (.nm j) .nil))) C E Zc (.tup [x,y]) none:=λY N q=>by
 unfold gD;refine⟨rfl,?_⟩;exact hC _ q
def zkp:gf jF Z true:=λP p=>p
end
section
variable{C:WT}{A B R:WS}{E:En}{Z:Env}{V:WE}{d x y:D}{i j k:Nat}
def ud(h:gf C Z false)(q:R E Z):aM (iI C A cX) R E Z:=h _ q
def ztL(h:gf C Z false)(q:B E Z):iI C A B E Z:=h _ q
def zqD(h:gf C Z true)(q:A E Z):iI C A B E Z:=h _ q
def t8(h:gf C Z true)(q:aM A R E Z):aM (iI C A B) R E Z:=h _ q
def j7(h:Ev V Z d)(q:R E (Z.set i (.val d))):aM (bh (.nm i) V) R E Z:=h _ (q)
def m9(h:Ev V Z d)(q:E.rt d):aU V E Z:=h _ q
def Am(h:Ev V Z (.tup [x,y]))(q:R E ((Z.set i (.val x)).set j (.val y))):aM (bh (.tp 2 (.cons (.nm i) (.cons (.nm j) .nil))) V) R E Z:=by
 refine h _ (⟨rfl,?_⟩);exact q
def zvp(h:Ev V Z (.tup [x1,x2,x3,x4,x5]))(q:R E (((((Z.set i1 (.val x1)).set i2 (.val x2)).set i3 (.val x3)).set i4 (.val x4)).set i5 (.val x5))) :
  aM (bh (.tp 5 (.cons (.nm i1) (.cons (.nm i2) (.cons (.nm i3) (.cons (.nm i4) (.cons (.nm i5) .nil)))))) V) R E Z:=by
 refine h _ (⟨rfl,?_⟩);exact q
def zt4(h:Ev V Z (.tup [x1,x2,x3]))(q:R E (((Z.set i1 (.val x1)).set i2 (.val x2)).set i3 (.val x3))) :
  aM (bh (.tp 3 (.cons (.nm i1) (.cons (.nm i2) (.cons (.nm i3) .nil)))) V) R E Z:=by
 refine h _ (⟨rfl,?_⟩);exact q
end
def Ew(hA:Ev A Z (.str z))(hB:Ev B Z (.str b))(h:z.length+b.length<=100000):Ev (ak bM A B) Z (.str (z++b)):=pJ hA hB λP p=>⟨h,p⟩
structure Yr where
 n:Int
 a:Nat
 b:Nat
 r:Int
 h:Str
structure Ya where
 pl:List (Str×Nat)
 hs:List (Str×Bool)
 sd:List Str
 rs:List Yr
 en:Int
 al:Int
 ds:List D
def gw(p:Str×Nat):D:=.tup [.str p.1,.int p.2]
def gY(pl:List (Str×Nat))(i:Nat):Str×Nat:=pl.getD i ("",0)
def cH(pl:List (Str×Nat))(r:Yr):D:=.tup [.int r.n,.str (gY pl r.a).1,.int (gY pl r.a).2,.str (gY pl r.b).1,.int (gY pl r.b).2,.int r.r,.str r.h]
abbrev BK:List Str:=["stands","hands","aside","runs","entered","allowed"]
abbrev bW(s:Ya):List Str:=s.hs.map (·.1)
def jn(s:Ya):List D:=[.tup (s.pl.map gw),.tup ((bW s).map D.str),.tup (s.sd.map D.str),.tup (s.rs.map (cH s.pl)),.int s.en,.int s.al]
def aX(s:Ya):D:=.dct false BK (jn s)
def CV{xs:List D}(h:∀x∈xs,x.old=x):xs.map D.old=xs:=by
 conv=>rhs;rw[<-YCK xs]
 exact Ie h
def jB{xs:List D}(h:∀x∈xs,x.old=x):(D.tup xs).old=.tup xs:=by rw[D.old,CV h]
def Bm{n:Bool}{xs:List D}(h:∀x∈xs,x.old=x):(D.lst n xs).old=.lst false xs:=by rw[D.old,CV h]
def zlk{n:Bool}{ks:List Str}{xs:List D}(h:∀x∈xs,x.old=x):(D.dct n ks xs).old=.dct false ks xs:=by rw[D.old,CV h]
def eG(a:Addr):D.old (.obj a)=.obj a:=by rw[D.old]
def zR(x:Str×Nat):(gw x).old=gw x:=jB (by simp[cC,pB])
def G9(pl:List (Str×Nat))(r:Yr):(cH pl r).old=cH pl r:=jB (by simp[cC,pB])
def m7{α:Type}{f:α->D}(h:∀x,(f x).old=f x)(xs:List α):∀y∈xs.map f,y.old=y:=λy hy=>by
 obtain⟨x,_,rfl⟩:=rD.mp hy;exact h x
def yF(s:Ya):∀x∈jn s,x.old=x:=by
 unfold jn;simp only[La,jL,YCu,YCF,and_true];exact⟨jB (m7 zR _),jB (m7 cC _),jB (m7 cC _),jB (m7 (G9 _) _),pB _,pB _⟩
def lB(s:Ya):(aX s).old=aX s:=zlk (yF s)
def fV(e:eU n ds=Z)(q:B {nx:=λ_=>Q .non,rt:=Q,bk:=λ_=>False,ct:=λ_=>False} Z):gC n B ds Q:=by unfold gC;rw[e];exact q
def pH(e:eU n ds=Z)(q:B Y {nx:=λ_=>Q .non,rt:=Q,bk:=λ_=>False,ct:=λ_=>False} Z):eZ n B ds Q Y:=by unfold eZ;rw[e];exact q
def iJ(e:eU n ds=Z)(q:B Y {nx:=λS' _=>Q .non S',rt:=λS' d=>Q d S',bk:=λ_ _=>False,ct:=λ_ _=>False} S Z):bY n B ds S Q Y:=by unfold bY;rw[e];exact q
def vD(h:F ds P qc)(k:∀d,P d->Q d)(l:∀n,qc n->Y n):zL F ds Q Y:=⟨P,qc,h,k,l⟩
def uz(h:F ds S P qc)(k:∀d S,P d S->Q d S)(l:∀n S,qc n S->Y n S):vV F ds S Q Y:=⟨P,qc,h,k,l⟩
def iG(hd:d.old=d)(he:e.old=e):eU (n+2) [d,e]=.val d::.val e::List.replicate n .un:=by rw[zqi,hd,he]
def zkq(h:lR x=true):bQ x=true:=by
 unfold lR lG at h;rw[jT]at h;exact nQ λch hc=>by
  have:=YAJ (YAH.mp h.2 ch hc)
  have:=(zt5 ch).mp this
  omega
def bu(pl:List (Str×Nat))(x:Str):Nat:=(pl.filter λp=>decide (p.1=x)).length
def xF:0<bu pl x↔x∈pl.map (·.1):=by
 unfold bu;rw[List.length_pos_iff_exists_mem,rD];exact⟨λ⟨p,hp⟩=>⟨p,(v5.mp hp).1,YAJ (v5.mp hp).2⟩,λ⟨p,hp,e⟩=>⟨p,v5.mpr ⟨hp,iQ e⟩⟩⟩
theorem zry{α β:Type}{p:α->Bool}{f:α->β}:∀xs:List α,(xs.filterMap λx=>if p x then some (f x)else none).length=(xs.filter p).length
 |[]=>rfl
 |x::xs=>by
  rw[YAN,YB7];cases p x
  .exact zry xs
  .exact congrArg (·+1) (zry xs)
def zqf{pl:List (Str×Nat)}{x:Str}(hm:∀y∈pl,bQ y.1=true)(hx:bQ x=true)(hl:pl.length<=1000):Cq [.tup (pl.map gw),.str x] (·=.int (bu pl x)):=by
 refine fV (Z:=[.val (.tup (pl.map gw)),.val (.str x)]) (iG (n:=0) (jB (m7 zR pl)) (cC _)) ?_;refine m9 (Lr (iW (ym gw (λp=>if decide (p.1=x)then some (.int p.2)else none) pl (wu (au rfl)) (by omega) λy hy=>?_))) ?_
 .have ev:∀{Z:Env},Z[0]?=some (.val (.str y.1))->Z[2]?=some (.val (.str x))->gf (b8 (ak gV (vW 0) (vW 2))) Z (decide (y.1=x)):=λh1 h2=>gZ (zN (au h1) (au h2) (hm y hy) hx);cases e:decide (y.1=x)with
  |true=>exact zw3 (e▸ev rfl rfl) (au rfl)
  |false=>exact ztr (e▸ev rfl rfl)
 .rw[zry];rfl
def bk5:jO BK [a,b,c,d,e,f] "entered"=some e:=by left
def b1(s:Ya):jO BK (jn s) "stands"=some (.tup (s.pl.map gw)):=by left
def b2(s:Ya):jO BK (jn s) "hands"=some (.tup ((bW s).map D.str)):=by left
def b3(s:Ya):jO BK (jn s) "aside"=some (.tup (s.sd.map D.str)):=by left
def b4(s:Ya):jO BK (jn s) "runs"=some (.tup (s.rs.map (cH s.pl))):=by left
def b5(s:Ya):jO BK (jn s) "entered"=some (.int s.en):=by left
def b6(s:Ya):jO BK (jn s) "allowed"=some (.int s.al):=by left
def bp1:j6 BK [a,b,c,d,e,f] "stands" w=[w,b,c,d,e,f]:=by left
def bp2:j6 BK [a,b,c,d,e,f] "hands" w=[a,w,c,d,e,f]:=by left
def bp4:j6 BK [a,b,c,d,e,f] "runs" w=[a,b,c,w,e,f]:=by left
def bp5:j6 BK [a,b,c,d,e,f] "entered" w=[a,b,c,d,w,f]:=by left
def bp6:j6 BK [a,b,c,d,e,f] "allowed" w=[a,b,c,d,e,w]:=by left
def bq2:pL BK "hands"=BK:=by left
def bq4:pL BK "runs"=BK:=by left
def bq5:pL BK "entered"=BK:=by left
def bq6:pL BK "allowed"=BK:=by left
def zrp(hx:∀x∈xs,x.old=x)(hl:ks.length<1000)(q:Q (.dct true (pL ks z) (j6 ks xs z v.old))):qH [.dct n ks xs,.str z,v] Q:=by
 exact fV (Z:=[.val (.dct false ks xs),.val (.str z),.val v.old,.un]) (by unfold eU;simp[zlk hx,cC]) (⟨by show 3<4;decide,hl,q⟩)
def zky(h:xs=jn t):(D.dct n BK xs).old=aX t:=by rw[h,zlk (yF t)];rfl
theorem zkc(x:Str):∀hs:List Str,inB (.str x) (hs.map D.str)=decide (x∈hs)
 |[]=>by simp[inB,qp]
 |y::hs=>by
  have ih:=zkc x hs;unfold inB at ih ⊢;rw[fj,qp,KQ,ih]
  have:PyData.eqv _ _=decide _:=yS y x
  rw[this];by_cases e:y=x
  .simp[e]
  .have e':¬ x=y:=λz=>e z.symm;simp[e,e']
theorem zok:∀{hs:List Str},(∀y∈hs,bQ y=true)->qZ (hs.map D.str)=true
 |[],_=>by rw[ue,qZ]
 |y::hs,h=>by rw[fj,qZ,zok λz hz=>h z (fL _ hz),jV,show PyData.canLay0 _=true from h y lF];rfl
theorem zot:∀hs:List Str,PyData.depthAll (qp (hs.map D.str))=0
 |[]=>by rfl
 |y::hs=>by show max 0 _=0;rw[zot hs];rfl
def zl4{x:Str}{hs:List Str}(hx:bQ x=true)(h:∀y∈hs,bQ y=true):nY (.str x) (hs.map D.str):=⟨by exact hx,zok h,by rw[zot];exact gJ (Nat.min_le_left _ _) (by decide)⟩
def zu3{neg:Bool}{x:Str}{hs:List Str}{Q:D->Prop}(hx:bQ x=true)(h:∀y∈hs,bQ y=true)(q:Q (.bl (if neg then !decide (x∈hs)else decide (x∈hs)))):d7 neg (.str x) (.tup (hs.map D.str)) Q:=by
 show nY _ _/\Q _;rw[zkc];exact⟨zl4 hx h,q⟩
def BZ{neg:Bool}{A B:WE}{Z:Env}{x:Str}{hs:List Str}(hA:Ev A Z (.str x))(hB:Ev B Z (.tup (hs.map D.str)))(hx:bQ x=true)(h:∀y∈hs,bQ y=true):Ev (ak (d7 neg) A B) Z (.bl (if neg then !decide (x∈hs)else decide (x∈hs))):=pJ hA hB λP p=>zu3 hx h p
def Gq(hR:iD R Z [.dct n ks xs,.str z,v])(hx:∀x∈xs,x.old=x)(hl:ks.length<1000):Ev (dZ 3 qH R) Z (.dct true (pL ks z) (j6 ks xs z v.old)):=sJ hR (zrp (Q:=(·=_)) hx hl rfl)
def dF(hi:Z[i]?=some (.val (aX s)))(h:jO BK (jn s) z=some d):Ev (ak fX (vW i) (kW (.str z))) Z d:=zud (au hi) h
structure vA(pl:List (Str×Nat)):Prop where
 ok:∀x∈pl,lR x.1=true
 ln:pl.length<=12
theorem vA.bQ(h:vA pl):∀x∈pl,bQ x.1=true:=λx hx=>zkq (h.ok x hx)
def zh9(h:vA pl)(hx:bQ x=true):Cq [.tup (pl.map gw),.str x] (·=.int (bu pl x)):=zqf h.bQ hx (by have:=h.ln;omega)
def rM(pl:List (Str×Nat))(x:Str):Str×Nat:=(x,bu pl x+1)
def zsF(h:vA pl)(hx:bQ x=true):zd2 [.tup (pl.map gw),.str x] (·=gw (rM pl x)):=by
 refine fV (iG (n:=0) (jB (m7 zR pl)) (cC _)) ?_;exact m9 (dU (aH (au rfl) (aH (zkL (sJ (aH (au rfl) (aH (au rfl) bw)) (zh9 h hx)) aF) bw))) rfl
def zX(h:vA pl)(hk:bQ x=true):ww [.tup (pl.map gw),.str x] (λd=>d=gw (x,bu pl x)/\0<bu pl x) (λn=>n="NoMark" /\ bu pl x=0):=by
 refine pH (iG (n:=1) (jB (m7 zR pl)) (cC _)) ?_;refine j7 (sJ (aH (au rfl) (aH (au rfl) bw)) (zh9 h hk)) ?_;by_cases e:bu pl x=0
 .refine t8 (ir (gZ (Do (au rfl) aF)) (by rw[e];decide)) ⟨by decide,rfl,e⟩
 .refine ud (ir (gZ (Do (au rfl) aF)) (jq (by omega))) ?_;exact m9 (dU (aH (au rfl) (aH (au rfl) bw))) ⟨rfl,by omega⟩
def zsi(h:r.a<pl.length/\r.b<pl.length):cH (pl++[p]) r=cH pl r:=by
 have e:∀{i},i<pl.length->gY (pl++[p]) i=gY pl i:=λhi=>by unfold gY;rw[YBG,YBG,Li hi]
 unfold cH;rw[e h.1,e h.2]
def zg9(h:vA s.pl)(h0:∀r∈s.rs,r.a<s.pl.length/\r.b<s.pl.length)(hx:bQ x=true):JL [aX s,.str x] (λv=>s.pl.length<12/\v.old=aX {s with pl:=s.pl++[rM s.pl x]}) (λn=>n="Full" /\ s.pl.length=12):=by
 refine pH (iG (lB s) (cC _)) (j7 (dF rfl (b1 _)) ?_);have ln:=h.ln;by_cases e:s.pl.length=12
 .exact t8 (ir (gZ (Lf (Ib (au rfl)) aF)) (by rw[cY];exact iQ (by omega))) ⟨by decide,rfl,e⟩
 refine ud (ir (gZ (Lf (Ib (au rfl)) aF)) (by rw[cY];exact jq (by omega))) ?_;refine m9 (Gq (aH (au rfl) (aH aF (aH (J1 (au rfl) (dU (aH (sJ (aH (au rfl) (aH (au rfl) bw)) (zsF h hx)) bw)) (by rw[cY];show s.pl.length+1<=100000;omega)) bw))) (yF s) (by decide)) ⟨by omega,?_⟩;rw[show j6 BK (jn s) "stands" (D.tup _).old=_ from bp1];refine zky ?_;rw[<-YBW,<-lY,jB (m7 zR _)];unfold jn;have e:s.rs.map (cH (s.pl++[rM s.pl x]))=s.rs.map _:=Ie λr hr=>zsi (h0 r hr);rw[e]
def Gf(hR:iD R Z ds)(h:F ds P qc)(k:∀d,P d->E.rt d)(l:∀n,qc n->Y n)(hl:ds.length=n:=by rfl):aU (my n F Y R) E Z:=hR _ ⟨hl,vD h k l⟩
def zng(hR:iD R Z ds)(h:F ds P qc)(k:∀d,P d->∃x y,d=.tup [x,y]/\B E ((Z.set i (.val x)).set j (.val y)))(l:∀n,qc n->Y n)(hl:ds.length=n:=by rfl):aM (bh (.tp 2 (.cons (.nm i) (.cons (.nm j) .nil))) (my n F Y R)) B E Z:=
 hR _ ⟨hl,vD h (λd p=>by
  obtain⟨x,y,rfl,q⟩:=k d p;unfold gD;refine⟨rfl,?_⟩;unfold j9 gD j9 gD j9;exact q) l⟩
def K3(hi:Z[i]?=some (.val (.str x)))(hx:x.length<=100000):gf (lr (gU (dZ 1 vm (aA (vW i) aq)))) Z (!lR x):=zwo (zpY (sJ (aH (au hi) bw) (zjf x hx)))
structure Tx(x:Str):Prop where
 ok:bQ x=true
 ln:x.length<=100000
def Iw(s:Ya)(x:Str):Option Str:=if lR x=false then some "BadName" else if 0<bu s.pl x then some "Taken" else if s.pl.length=12 then some "Full" else none
def KD(s:Ya)(x:Str):Option Str:=if lR x=false then some "BadName" else if x∈bW s then some "Taken" else if s.hs.length=10 then some "Full" else none
def Im(s:Ya)(x:Str):Option Str:=if bu s.pl x=0 then some "NoMark" else if s.pl.length=12 then some "Full" else none
def zrX(h:vA s.pl)(h0:∀r∈s.rs,r.a<s.pl.length/\r.b<s.pl.length)(hx:Tx x):zdP [aX s,.tup [.str "mark",.str x]] (λv=>Iw s x=none/\v.old=aX {s with pl:=s.pl++[rM s.pl x]}) (λn=>Iw s x=some n):=by
 refine pH (iG (n:=2) (lB s) (jB (by simp[cC]))) ?_;refine Am (au rfl) ?_;unfold Iw;cases hb:lR x with
 |false=>
  refine t8 (ir (K3 rfl hx.ln) (by rw[hb];rfl)) ⟨by decide,?_⟩;rfl
 |true=>
 refine ud (ir (K3 rfl hx.ln) (by rw[hb];rfl)) ?_;rw[if_neg (by decide)];by_cases e:0<bu s.pl x
 .refine t8 (ir (gZ (Dh (sJ (aH (dF rfl (b1 _)) (aH (au rfl) bw)) (zh9 h hx.ok)) aF)) (iQ (by omega))) ⟨by decide,?_⟩;rw[if_pos e]
 refine ud (ir (gZ (Dh (sJ (aH (dF rfl (b1 _)) (aH (au rfl) bw)) (zh9 h hx.ok)) aF)) (jq (by omega))) ?_;rw[if_neg e];exact Gf (aH (au rfl) (aH (au rfl) bw)) (zg9 h h0 hx.ok) (λd z=>⟨if_neg (by omega),z.2⟩) λn z=>by rw[if_pos z.2,z.1]
def zo6(h:vA s.pl)(h0:∀r∈s.rs,r.a<s.pl.length/\r.b<s.pl.length)(hx:Tx x):zdJ [aX s,.tup [.str "settle",.str x]] (λv=>Im s x=none/\v.old=aX {s with pl:=s.pl++[rM s.pl x]}) (λn=>Im s x=some n):=by
 refine pH (iG (n:=4) (lB s) (jB (by simp[cC]))) ?_;refine Am (au rfl) ?_;unfold Im;refine zng (aH (dF rfl (b1 _)) (aH (au rfl) bw)) (zX h hx.ok) (λd hd=>⟨.str x,.int (bu s.pl x),hd.1,?_⟩) λn z=>by rw[if_pos z.2,z.1]
 rw[if_neg (by omega)];exact Gf (aH (au rfl) (aH (au rfl) bw)) (zg9 h h0 hx.ok) (λd z=>⟨if_neg (by omega),z.2⟩) λn z=>by rw[if_pos z.2,z.1]
structure xm(s:Ya):Prop where
 nd:(bW s).Nodup
 ok:∀x∈bW s,lR x=true
 ln:s.hs.length<=10
theorem xm.bQ(h:xm s):∀x∈bW s,bQ x=true:=λx hx=>zkq (h.ok x hx)
def zrY{s:Ya}{x:Str}(h:xm s)(hx:Tx x):zdS [aX s,.tup [.str "hand",.str x]] (λv=>KD s x=none/\v.old=aX {s with hs:=s.hs++[(x,true)]}) (λn=>KD s x=some n):=by
 refine pH (iG (n:=3) (lB s) (jB (by simp[cC]))) ?_;refine Am (au rfl) ?_;refine j7 (dF rfl (b2 _)) ?_;unfold KD;cases hb:lR x with
 |false=>exact t8 (ir (K3 rfl hx.ln) (by rw[hb];rfl)) ⟨by decide,rfl⟩
 |true=>
 refine ud (ir (K3 rfl hx.ln) (by rw[hb];rfl)) ?_;rw[if_neg (by decide)];have hl:((bW s).map D.str).length=s.hs.length:=by rw[cY,cY]
 have ln:=h.ln;by_cases e:x∈bW s
 .refine t8 (ir (gZ (BZ (neg:=false) (au rfl) (au rfl) hx.ok h.bQ)) (by rw[iQ e];rfl)) ⟨by decide,?_⟩;rw[if_pos e]
 refine ud (ir (gZ (BZ (neg:=false) (au rfl) (au rfl) hx.ok h.bQ)) (by rw[jq e];rfl)) ?_;rw[if_neg e];by_cases f:s.hs.length=10
 .refine t8 (ir (gZ (Lf (Ib (au rfl)) aF)) (iQ (by omega))) ⟨by decide,?_⟩;rw[if_pos f]
 refine ud (ir (gZ (Lf (Ib (au rfl)) aF)) (by rw[hl];exact jq (by omega))) ?_;refine m9 (Gq (aH (au rfl) (aH aF (aH (J1 (au rfl) (dU (aH (au rfl) bw)) (by rw[hl];show s.hs.length+1<=100000;omega)) bw))) (yF s) (by decide)) ⟨if_neg f,?_⟩;rw[bq2,show j6 BK (jn s) "hands" (D.tup ((bW s).map D.str++[D.str x])).old=_ from bp2];refine zky ?_;rw[<-YBW (f:=D.str),<-lY,jB (m7 cC _)];simp[jn,bW]
def bp3:j6 BK [a,b,c,d,e,f] "aside" w=[a,b,w,d,e,f]:=by left
def bq3:pL BK "aside"=BK:=by left
def okR(r:Int):Bool:=decide (-1000000000<=r)&&decide (r<=1000000000)
def G6{s t:Ya}{z:Str}{V:WE}{v:D}{Z:Env}{i:Nat}{E:En}(hi:Z[i]?=some (.val (aX s)))(hV:Ev V Z v)(hk:pL BK z=BK)(hv:j6 BK (jn s) z v.old=jn t)(q:∀d:D,d.old=aX t->E.rt d):aU (dZ 3 qH (aA (vW i) (aA (kW (.str z)) (aA V aq)))) E Z:=
 m9 (Gq (aH (au hi) (aH aF (aH hV bw))) (yF s) (by decide)) (q _ (by rw[hk];exact zky hv))
def Ci(hR:iD R Z ds)(h:F ds P qc)(k:∀d,P d->B E Z)(l:∀n,qc n->Y n)(hl:ds.length=n:=by rfl):aM (xx (my n F Y R)) B E Z:=hR _ ⟨hl,vD h k l⟩
def zeL(h:xm s)(hx:bQ x=true):Df [aX s,.str x] (λ_=>x∈bW s) (λn=>n="NoHand" /\ x∉bW s):=by
 refine pH (iG (lB s) (cC _)) ?_;have ev:=gZ (BZ (neg:=true) (Z:=[.val _,.val _]) (au (i:=1) rfl) (dF (i:=0) rfl (b2 s)) hx h.bQ);by_cases e:x∈bW s
 .exact ztL (ir ev (by rw[iQ e];rfl)) e
 .exact zqD (ir ev (by rw[jq e];rfl)) ⟨by decide,rfl,e⟩
def zgX:JX [.int r] (λ_=>okR r=true) (λn=>n="BadRise" /\ okR r=false):=by
 refine pH (Z:=[.val (.int r)]) (by unfold eU;simp[pB]) ?_;have ev:=gZ (Dh (Z:=[.val (.int r)]) (yr (f:=qT) (aH (au (i:=0) rfl) bw) λP p=>p) (aF (d:=.int 1000000000)));by_cases e:okR r=true
 .refine ztL (ir ev (jq ?_)) e;unfold okR at e;rw[jT,YAK,YAK]at e;split<;>omega
 .refine zqD (ir ev (iQ ?_)) ⟨by decide,rfl,by simpa using e⟩;unfold okR at e;rw[jT,YAK,YAK]at e;split<;>omega
def zqt{α:Type}{Z:Env}{I:WL}{emb:α->D}{f:α->Int}{rs:List α}(hI:iD I Z (rs.map emb))(hl:rs.length<=1000)(he:∀r,∃t,emb r=.tup (.int (f r)::t)):Ev (bO (jD [none] I (.nm 0) jF (ak bC (vW 0) (kW (.int 0))))) Z (.lst true ((rs.map f).map D.int)):=by
 have:=ym (sub:=[none]) (t:=.nm 0) (E:=ak bC (vW 0) _) emb (λr=>some _) rs hI (by omega) λr _=>by
  obtain⟨t,e⟩:=he r;rw[e];exact Eg zkp (BP (au rfl) aF (wj (j:=0) rfl))
 rw[zee]at this;have e:(rs.map λr=>D.int (f r))=(rs.map f).map D.int:=by rw[YAL];rfl
 rw[e]at this;exact iW this
def zhS{s:Ya}{n:Int}(hl:s.rs.length<=40):Mj [aX s,.int n] (λ_=>n∈s.rs.map (·.n)) (λk=>k="NoRun" /\ n∉s.rs.map (·.n)):=by
 refine pH (iG (lB s) (pB _)) ?_;have ev:gf (b8 (ak _ (vW 1) (bO (jD [none] (iM (ak fX (vW 0) _)) _ jF _)))) [.val _,.val (.int n)] _:=gZ (pJ (au rfl) (zqt (wu (dF rfl (b4 s))) (by omega) λr=>⟨_,rfl⟩) λP p=>zpw (n:=true) p);by_cases e:n∈s.rs.map (·.n)
 .exact ztL (ir ev (by rw[List.contains_iff_mem.mpr e];rfl)) e
 .have:(s.rs.map (·.n)).contains n=false:=by rw[<-Bool.not_eq_true,List.contains_iff_mem];exact e
  exact zqD (ir ev (by rw[this];rfl)) ⟨by decide,rfl,e⟩
def Ir(pl:List (Str×Nat))(x:Str):Nat:=pl.findIdx λp=>decide (p=(x,bu pl x))
structure Lst(pl:List (Str×Nat)):Prop where
 fin:∀x,0<bu pl x->(x,bu pl x)∈pl
 le:∀p∈pl,p.2<=bu pl p.1
 nd:pl.Nodup
 one:∀x,0<bu pl x->(x,1)∈pl
def zuJ(h:Lst pl)(hx:0<bu pl x):Ir pl x<pl.length:=List.findIdx_lt_length_of_exists ⟨_,h.fin x hx,iQ rfl⟩
def zyn(h:Lst pl)(hx:0<bu pl x):pl[Ir pl x]?=some (x,bu pl x):=by
 have hl:=zuJ h hx;rw[YAB hl]
 have:=List.findIdx_getElem (p:=λp=>decide (p=(x,bu pl x))) (w:=hl)
 exact congrArg some (YAJ this)
def zs5(h:Lst pl)(hx:0<bu pl x):gY pl (Ir pl x)=(x,bu pl x):=by
 unfold gY;rw[YBG,zyn h hx];rfl
def BW(s:Ya)(a b:Str)(r:Int)(h:Str):Option Str:=if bu s.pl a=0\/bu s.pl b=0 then some "NoMark" else if a=b then some "Same" else if h∉bW s then some "NoHand" else if okR r=false then some "BadRise" else if s.rs.length=40 then some "Full" else none
def vJ(s:Ya)(a b:Str)(r:Int)(h:Str):Yr:=⟨s.en+1,Ir s.pl a,Ir s.pl b,r,h⟩
def zwO{Z:Env}{i j:Nat}{s:Ya}{k:Int}{V:WE}{rs:List Yr}(hi:Z[i]?=some (.val (aX s)))(hj:Z[j]?=some (.val (.int k)))(hV:Ev V Z (.tup (rs.map (cH s.pl)))) :
  Ev (dZ 3 qH (aA (dZ 3 qH (aA (vW i) (aA (kW (.str "entered")) (aA (vW j) aq)))) (aA (kW (.str "runs")) (aA V aq)))) Z (.dct true BK (jn {s with en:=k,rs:=rs})):=by
 have e5:j6 BK (jn s) "entered" (D.int k).old=jn {s with en:=k}:=by rw[pB];exact bp5
 have f5:=Gq (Z:=Z) (R:=aA (vW i) (aA (kW (.str "entered")) (aA (vW j) aq))) (ks:=BK) (xs:=jn s) (z:="entered") (v:=.int k) (n:=false) (aH (au hi) (aH aF (aH (au hj) bw))) (yF s) (by decide);rw[bq5,e5]at f5;have f6:=Gq (aH f5 (aH (aF (d:=.str "runs")) (aH hV bw))) (yF _) (by decide);have e6:j6 BK (jn {s with en:=k}) "runs" (D.tup (rs.map (cH s.pl))).old=jn {s with en:=k,rs:=rs}:=by rw[jB (m7 (G9 _) _)];exact bp4
 rw[bq4,e6]at f6;exact f6
def zul(hp:vA s.pl)(hs:Lst s.pl)(hh:xm s)(ha:bQ a=true)(hb:bQ b=true)(hk:bQ h=true)(hl:s.rs.length<=40) :
  zei [aX s,.tup [.str "run",.str a,.str b,.int r,.str h]] (λv=>BW s a b r h=none/\v.old=aX {s with en:=s.en+1,rs:=s.rs++[vJ s a b r h]}) (λn=>BW s a b r h=some n):=by
 refine pH (iG (n:=11) (lB s) (jB (by simp[cC,pB]))) ?_;refine zvp (au rfl) ?_;unfold BW;refine zng (aH (dF rfl (b1 _)) (aH (au rfl) bw)) (zX hp ha) (λd hd=>⟨.str a,.int (bu s.pl a),hd.1,?_⟩) λn z=>by rw[if_pos (.inl z.2),z.1]
 refine zng (aH (dF rfl (b1 _)) (aH (au rfl) bw)) (zX hp hb) (λd2 hd2=>⟨.str b,.int (bu s.pl b),hd2.1,?_⟩) λn z=>by rw[if_pos (.inr z.2),z.1]
 have c0:¬ (bu s.pl a=0\/bu s.pl b=0):=by have:=hd.2;have:=hd2.2;omega
 have ee:gf (b8 (ak gV (vW 3) (vW 4))) [.val (aX s),.val (.tup [.str "run",.str a,.str b,.int r,.str h]),.val (.str "run"),.val (.str a),.val (.str b),.val (.int r),.val (.str h),.val (.str a),.val (.int (bu s.pl a)),.val (.str b),.val (.int (bu s.pl b)),.un,.un] (decide (a=b)):=gZ (zN (au rfl) (au rfl) ha hb);rw[if_neg c0];by_cases e:a=b
 .refine t8 (ir ee (iQ e)) ⟨by decide,?_⟩;rw[if_pos e]
 refine ud (ir ee (jq e)) ?_;rw[if_neg e];refine Ci (aH (au rfl) (aH (au rfl) bw)) (zeL hh hk) (λ_ i1=>?_) λn z=>by rw[if_pos z.2,z.1]
 rw[if_neg λz=>z i1];refine Ci (aH (au rfl) bw) zgX (λ_ i2=>?_) λn z=>by rw[if_pos z.2,z.1]
 rw[if_neg (by rw[i2];decide)];show aM _ _ _ [.val (aX s),.val (.tup [.str "run",.str a,.str b,.int r,.str h]),.val (.str "run"),.val (.str a),.val (.str b),.val (.int r),.val (.str h),.val (.str a),.val (.int (bu s.pl a)),.val (.str b),.val (.int (bu s.pl b)),.un,.un];have e4:=gZ (Lf (Z:=[.val (aX s),.val (.tup [.str "run",.str a,.str b,.int r,.str h]),.val (.str "run"),.val (.str a),.val (.str b),.val (.int r),.val (.str h),.val (.str a),.val (.int (bu s.pl a)),.val (.str b),.val (.int (bu s.pl b)),.un,.un]) (Ib (t:=s.rs.map (cH s.pl)) (dF (i:=0) (s:=s) rfl (b4 s))) (aF (d:=.int 40)));by_cases f:s.rs.length=40
 .refine t8 (ir e4 (by rw[cY];exact iQ (by omega))) ⟨by decide,?_⟩;rw[if_pos f]
 refine ud (ir e4 (by rw[cY];exact jq (by omega))) ?_;rw[if_neg f];refine j7 (zkL (dF rfl (b5 _)) aF) ?_;refine j7 (d:=cH s.pl (vJ s a b r h)) (zsl (dU (aH (au rfl) (aH (au rfl) (aH (au rfl) (aH (au rfl) (aH (au rfl) (aH (au rfl) (aH (au rfl) bw)))))))) (by unfold cH vJ;rw[zs5 hs hd.2,zs5 hs hd2.2])) ?_;refine m9 (zwO (s:=s) (k:=s.en+1) (rs:=s.rs++[vJ s a b r h]) rfl rfl ?_) ⟨rfl,zky rfl⟩;rw[lY];exact J1 (dF rfl (b4 _)) (dU (aH (au rfl) bw)) (by rw[cY];show s.rs.length+1<=100000;omega)
theorem zmG :∀rs:List Yr,(rs.filterMap λr=>if !decide (r.n=n)then some (g r)else none)=(rs.filter λr=>!decide (r.n=n)).map g
 |[]=>rfl
 |r::rs=>by
  rw[YAN,YB7];by_cases e:r.n=n
  .simp only[e,decide_true,Bool.not_true,Bool.false_eq_true,if_false];exact zmG rs
  .simp only[e,decide_false,Bool.not_false,uU,fj];rw[zmG rs]
def Dt(s:Ya)(n:Int):Option Str:=if n∉s.rs.map (·.n)then some "NoRun" else none
def zoO{s:Ya}{n:Int}(hl:s.rs.length<=40):zeN [aX s,.tup [.str "strike",.int n]] (λv=>Dt s n=none/\v.old=aX {s with rs:=s.rs.filter λr=>!decide (r.n=n)}) (λk=>Dt s n=some k):=by
 refine pH (iG (n:=2) (lB s) (jB (by simp[cC,pB]))) ?_;refine Am (au rfl) ?_;unfold Dt;refine Ci (aH (au rfl) (aH (au rfl) bw)) (zhS hl) (λ_ i1=>?_) λn z=>by rw[if_pos z.2,z.1]
 have hc:=ym (sub:=[none,some 3]) (I:=iM (ak fX (vW 0) (kW (.str "runs")))) (Z:=[.val (aX s),.val (.tup [.str "strike",.int n]),.val (.str "strike"),.val (.int n)]) (t:=.nm 0) (C:=b8 (ak nu (ak bC (vW 0) (kW (.int 0))) (vW 1))) (E:=vW 0) (cH s.pl) (λr=>if !decide (r.n=n)then some (cH s.pl r)else none) s.rs (wu (dF rfl (b4 _))) (by omega) (λr _=>by
  have ev:∀{Z:Env},Z[0]?=some (.val (cH s.pl r))->Z[1]?=some (.val (.int n))->gf (b8 (ak nu (ak bC (vW 0) (kW (.int 0))) (vW 1))) Z (!decide (r.n=n)):=λh0 h1=>gZ (zwb (BP (t:=[.int r.n,.str (gY s.pl r.a).1,.int (gY s.pl r.a).2,.str (gY s.pl r.b).1,.int (gY s.pl r.b).2,.int r.r,.str r.h]) (au h0) aF (wj (j:=0) rfl)) (au h1));cases e:!decide (r.n=n)with
  |false=>exact zsP (ir (ev rfl rfl) e)
  |true=>exact Eg (ir (ev rfl rfl) e) (au rfl))
 rw[zmG]at hc;refine G6 (t:={s with rs:=s.rs.filter λr=>!decide (r.n=n)}) rfl (yr (d:=.tup ((s.rs.filter λr:Yr=>!decide (r.n=n)).map (cH s.pl))) (aH (iW hc) bw) λP p=>p) bq4 ?_ λd hd=>⟨if_neg λz=>z i1,hd⟩;rw[jB (m7 (G9 _) _)];exact bp4
def Fi(s:Ya)(n r:Int):Option Str:=if n∉s.rs.map (·.n)then some "NoRun" else if okR r=false then some "BadRise" else none
def wC(n k:Int)(r:Yr):Yr:=if r.n=n then{r with r:=k}else r
def zse{s:Ya}{n k:Int}(hl:s.rs.length<=40):zeO [aX s,.tup [.str "mend",.int n,.int k]] (λv=>Fi s n k=none/\v.old=aX {s with rs:=s.rs.map (wC n k)}) (λw=>Fi s n k=some w):=by
 refine pH (iG (n:=4) (lB s) (jB (by simp[cC,pB]))) ?_;refine zt4 (au rfl) ?_;unfold Fi;refine Ci (aH (au rfl) (aH (au rfl) bw)) (zhS hl) (λ_ i1=>?_) λn z=>by rw[if_pos z.2,z.1]
 rw[if_neg λz=>z i1];refine Ci (aH (au rfl) bw) zgX (λ_ i2=>?_) λn z=>by rw[if_pos z.2,z.1]
 rw[if_neg (by rw[i2];decide)];have hc:=ym (sub:=[none,some 3,some 4]) (I:=iM (ak fX (vW 0) (kW (.str "runs")))) (Z:=[.val (aX s),.val (.tup [.str "mend",.int n,.int k]),.val (.str "mend"),.val (.int n),.val (.int k),.un]) (t:=.nm 0) (C:=jF) (E:=Kq (b8 (ak gV (ak bC (vW 0) (kW (.int 0))) (vW 1))) (ak bM (nU (vW 0) yL (yH (kW (.int 5)))) (aW (aA (vW 2) (aA (ak bC (vW 0) (kW (.int 6))) aq)))) (vW 0)) (cH s.pl) (λr=>some (cH s.pl (wC n k r))) s.rs (wu (dF rfl (b4 _))) (by omega) (λr _=>by
  have cut:cutD [D.int r.n,.str (gY s.pl r.a).1,.int (gY s.pl r.a).2,.str (gY s.pl r.b).1,.int (gY s.pl r.b).2,.int r.r,.str r.h] none (some 5)=[.int r.n,.str (gY s.pl r.a).1,.int (gY s.pl r.a).2,.str (gY s.pl r.b).1,.int (gY s.pl r.b).2]:=by left
  have v0:Ev (vW 0) ((fY [none,some 3,some 4] [.val (aX s),.val (.tup [.str "mend",.int n,.int k]),.val (.str "mend"),.val (.int n),.val (.int k),.un]).set 0 (.val (cH s.pl r))) (.tup [.int r.n,.str (gY s.pl r.a).1,.int (gY s.pl r.a).2,.str (gY s.pl r.b).1,.int (gY s.pl r.b).2,.int r.r,.str r.h]):=au rfl;have a1:=zsl (zvT v0 ztg (znZ (aF (d:=.int 5)))) (congrArg D.tup cut);refine Eg zkp (zyF (b:=decide (r.n=n)) (gZ (Do (BP v0 aF (wj (j:=0) rfl)) (au rfl))) ?_);unfold wC;by_cases e:r.n=n
  .rw[iQ e,if_pos rfl,if_pos e];exact J1 a1 (dU (aH (au rfl) (aH (BP (k:=6) v0 aF (wj (j:=6) rfl)) bw))) (by show 7<=100000;decide)
  .rw[jq e,if_neg (by decide),if_neg e];exact v0)
 rw[zee]at hc;refine j7 (iW hc) ?_;refine G6 (t:={s with rs:=s.rs.map (wC n k)}) rfl (yr (f:=uH) (d:=.tup (s.rs.map λr=>cH s.pl (wC n k r))) (aH (au rfl) bw) λP p=>p) bq4 ?_ λd hd=>⟨rfl,hd⟩;rw[show(s.rs.map λr=>cH s.pl (wC n k r))=(s.rs.map (wC n k)).map (cH s.pl)from by rw[YAL];rfl,jB (m7 (G9 _) _)];exact bp4
def Jg(s:Ya)(x:Str):Option Str:=if x∉bW s then some "NoHand" else if x∈s.sd then some "Aside" else none
def zp3{s:Ya}{x:Str}(h:xm s)(hd:∀y∈s.sd,bQ y=true)(hl:s.sd.length<=1000)(hx:bQ x=true):zcZ [aX s,.tup [.str "aside",.str x]] (λv=>Jg s x=none/\v.old=aX {s with sd:=s.sd++[x]}) (λn=>Jg s x=some n):=by
 refine pH (iG (n:=2) (lB s) (jB (by simp[cC]))) ?_;refine Am (au rfl) ?_;unfold Jg;refine Ci (aH (au rfl) (aH (au rfl) bw)) (zeL h hx) (λ_ i1=>?_) λn z=>by rw[if_pos z.2,z.1]
 rw[if_neg λz=>z i1];have ev:=gZ (BZ (neg:=false) (Z:=[.val (aX s),.val (.tup [.str "aside",.str x]),.val (.str "aside"),.val (.str x)]) (au (i:=3) rfl) (dF (i:=0) rfl (b3 s)) hx hd);by_cases e:x∈s.sd
 .refine t8 (ir ev (by rw[iQ e];rfl)) ⟨by decide,?_⟩;rw[if_pos e]
 refine ud (ir ev (by rw[jq e];rfl)) ?_;refine G6 (t:={s with sd:=s.sd++[x]}) rfl (J1 (dF rfl (b3 s)) (dU (aH (au rfl) bw)) (by rw[cY];show s.sd.length+1<=100000;omega)) bq3 ?_ λd hd=>⟨if_neg e,hd⟩;rw[<-YBW (f:=D.str),<-lY,jB (m7 cC _)];exact bp3
def zkk(s:Ya)(x:Str):Option Str:=if x∉bW s then some "NoHand" else if x∉s.sd then some "NotAside" else none
def zrD{s:Ya}{x:Str}(h:xm s)(hd:∀y∈s.sd,bQ y=true)(hl:s.sd.length<=1000)(hx:bQ x=true):zek [aX s,.tup [.str "heed",.str x]] (λv=>zkk s x=none/\v.old=aX {s with sd:=s.sd.filter λy=>!decide (y=x)}) (λn=>zkk s x=some n):=by
 refine pH (iG (n:=2) (lB s) (jB (by simp[cC]))) ?_;refine Am (au rfl) ?_;unfold zkk;refine Ci (aH (au rfl) (aH (au rfl) bw)) (zeL h hx) (λ_ i1=>?_) λn z=>by rw[if_pos z.2,z.1]
 rw[if_neg λz=>z i1];have ev:=gZ (BZ (neg:=true) (Z:=[.val (aX s),.val (.tup [.str "heed",.str x]),.val (.str "heed"),.val (.str x)]) (au (i:=3) rfl) (dF (i:=0) rfl (b3 s)) hx hd);by_cases e:x∈s.sd
 .refine ud (ir ev (by rw[iQ e];rfl)) ?_;have hc:=ym (sub:=[none,some 3]) (I:=iM (ak fX (vW 0) (kW (.str "aside")))) (Z:=[.val (aX s),.val (.tup [.str "heed",.str x]),.val (.str "heed"),.val (.str x)]) (t:=.nm 0) (C:=b8 (ak nu (vW 0) (vW 1))) (E:=vW 0) D.str (λy=>if !decide (y=x)then some (.str y)else none) s.sd (wu (dF rfl (b3 s))) (by omega) (λy hy=>by
   have ev:∀{Z:Env},Z[0]?=some (.val (.str y))->Z[1]?=some (.val (.str x))->gf (b8 (ak nu (vW 0) (vW 1))) Z (!decide (y=x)):=λh0 h1=>gZ (zw2 (au h0) (au h1) (hd y hy) hx);cases e:!decide (y=x)with
   |false=>exact zsP (ir (ev rfl rfl) e)
   |true=>exact Eg (ir (ev rfl rfl) e) (au rfl))
  have fm:∀ys:List Str,(ys.filterMap λy=>if !decide (y=x)then some (D.str y)else none)=(ys.filter λy=>!decide (y=x)).map D.str:=λys=>by
   induction ys with
   |nil=>rfl
   |cons y ys ih=>
    rw[YAN,YB7];cases !decide (y=x)
    .exact ih
    .exact congrArg (D.str y::·) ih
  rw[fm]at hc;refine G6 (t:={s with sd:=s.sd.filter λy=>!decide (y=x)}) rfl (yr (f:=uH) (d:=.tup ((s.sd.filter λy=>!decide (y=x)).map D.str)) (aH (iW hc) bw) λP p=>p) bq3 ?_ λd hd=>⟨if_neg λz=>z e,hd⟩;rw[jB (m7 cC _)];exact bp3
 .refine t8 (ir ev (by rw[jq e];rfl)) ⟨by decide,?_⟩;rw[if_pos e]
def Dv(k:Int):Option Str:=if k<0\/3<k then some "BadNumber" else none
def zqc{s:Ya}{k:Int}:zb0 [aX s,.tup [.str "allow",.int k]] (λv=>Dv k=none/\v.old=aX {s with al:=k}) (λn=>Dv k=some n):=by
 refine pH (iG (n:=2) (lB s) (jB (by simp[cC,pB]))) ?_;refine Am (au rfl) ?_;unfold Dv;have ev:=zv4 (Z:=[.val (aX s),.val (.tup [.str "allow",.int k]),.val (.str "allow"),.val (.int k)]) (gZ (zxW (au (i:=3) (d:=.int k) rfl) (aF (d:=.int 0)))) λ_=>gZ (Dh (au (i:=3) (d:=.int k) rfl) (aF (d:=.int 3)));by_cases e:k<0\/3<k
 .refine t8 (ir ev (by rw[YCB,YAK,YAK];exact e)) ⟨by decide,?_⟩;rw[if_pos e]
 refine ud (ir ev (by rw[Bool.or_eq_false_iff,YBs,YBs];omega)) ?_;refine G6 (t:={s with al:=k}) rfl (au rfl) bq6 ?_ λd hd=>⟨if_neg e,hd⟩;rw[pB];exact bp6
inductive Yd where
 |mark (x:Str)|hand (x:Str)|run (a b:Str) (r:Int) (h:Str)|strike (n:Int)|mend (n k:Int)|settle (x:Str)|aside (x:Str)|heed (x:Str)|allow (k:Int)
def Eu:Yd->Str
 |.mark _ => "mark"
 |.hand _ => "hand"
 |.run _ _ _ _ => "run"
 |.strike _ => "strike"
 |.mend _ _ => "mend"
 |.settle _ => "settle"
 |.aside _ => "aside"
 |.heed _ => "heed"
 |.allow _ => "allow"
def fC:Yd->List D
 |.mark x|.hand x|.settle x|.aside x|.heed x=>[.str x]
 |.run a b r h=>[.str a,.str b,.int r,.str h]
 |.strike n|.allow n=>[.int n]
 |.mend n k=>[.int n,.int k]
def yD(d:Yd):D:=.tup (.str (Eu d)::fC d)
def vo:Yd->Prop
 |.mark x|.hand x|.settle x|.aside x|.heed x=>Tx x
 |.run a b _ h=>Tx a/\Tx b/\Tx h
 |_=>True
noncomputable def why(s:Ya)(d:Yd):Option Str:=Yd.rec (motive:=λ_=>Option Str) (λx=>Iw s x) (λx=>KD s x) (λa b r h=>BW s a b r h) (λn=>Dt s n) (λn k=>Fi s n k) (λx=>Im s x) (λx=>Jg s x) (λx=>zkk s x) (λk=>Dv k) d
def tK(hs:List (Str×Bool))(x:Str)(b:Bool):List (Str×Bool):=hs.map λp=>if p.1=x then(p.1,b)else p
def yDo(s:Ya):Yd->Ya
 |.mark x|.settle x=>{s with pl:=s.pl++[rM s.pl x]}
 |.hand x=>{s with hs:=s.hs++[(x,true)]}
 |.run a b r h=>{s with en:=s.en+1,rs:=s.rs++[vJ s a b r h]}
 |.strike n=>{s with rs:=s.rs.filter λr=>!decide (r.n=n)}
 |.mend n k=>{s with rs:=s.rs.map (wC n k)}
 |.aside x=>{s with sd:=s.sd++[x],hs:=tK s.hs x false}
 |.heed x=>{s with sd:=s.sd.filter λy=>!decide (y=x),hs:=tK s.hs x true}
 |.allow k=>{s with al:=k}
def kh(s:Ya)(d:Yd):Ya:={yDo s d with ds:=s.ds++[yD d]}
def zrl(d:Yd):∀x∈fC d,x.old=x:=by cases d<;>simp[fC,cC,pB]
def pW(d:Yd):(yD d).old=yD d:=jB (by simpa[cC]using zrl d)
def zwq(d:Yd):bQ (Eu d)=true:=by cases d<;>(dsimp only[Eu];exact dX)
def Kl(hs:List (Str×Bool))(x:Str)(b:Bool):(tK hs x b).map (·.1)=hs.map (·.1):=by
 unfold tK;rw[YAL];exact Ie λp _=>by show(if p.1=x then(p.1,b)else p).1=p.1;split<;>rfl
structure fH(s:Ya):Prop where
 p:vA s.pl
 pt:Lst s.pl
 h:xm s
 ra:∀r∈s.rs,r.a<s.pl.length/\r.b<s.pl.length/\r.h∈bW s
 rl:s.rs.length<=40
 sn:∀x∈s.sd,x∈bW s
 sl:s.sd.length<=s.ds.length
 sh:∀p∈s.hs,p.2 = !decide (p.1∈s.sd)
 e0:0<=s.en
 el:s.en<=s.ds.length
 dd:∀d∈s.ds,d.old=d/\gq d 3=true
 dl:s.ds.length<=1000
 rn:∀r∈s.rs,r.n<=s.en
def fH.sok(ok:fH s):∀x∈s.sd,bQ x=true:=λx hx=>ok.h.bQ x (ok.sn x hx)
def fH.rab(ok:fH s):∀r∈s.rs,r.a<s.pl.length/\r.b<s.pl.length:=λr hr=>⟨(ok.ra r hr).1,(ok.ra r hr).2.1⟩
def zxg(h:t.pl=s.pl)(h1:bW t=bW s)(h2:t.sd=s.sd)(h3:t.rs=s.rs)(h4:t.en=s.en)(h5:t.al=s.al):aX t=aX s:=by
 unfold aX jn;rw[h,h1,h2,h3,h4,h5]
def wJ(ho:(D.tup (.str w::xs)).old=.tup (.str w::xs))(hl:(zm A).lookup w=some (.obj f))(hm:(f,F)∈jy A)(h:F [aX s,.tup (.str w::xs)] P qc):Fv A [aX s,.tup (.str w::xs)] P qc:=by
 refine pH (iG (n:=1) (lB s) ho) ?_;have ev:Ev (nP (zm A) (ak bC (vW 1) (kW (.int 0)))) (.val (aX s)::.val (.tup (.str w::xs))::List.replicate 1 Sl.un) (.obj f):=λP p=>by
  refine BP (d:=.str w) (au rfl) aF (wj (j:=0) rfl) _ ?_;show Br ((zm A).lookup w) P;rw[hl];exact p
 refine j7 ev ?_;exact⟨F,hm,rfl,vD h (λ_ z=>z) λ_ z=>z⟩
def zsK(ok:fH s)(hx:vo d):Fv A [aX s,yD d] (λv=>why s d=none/\v.old=aX (kh s d)) (λn=>why s d=some n):=by
 have sl:s.sd.length<=1000:=gJ ok.sl ok.dl;cases d with
 |mark x=>exact wJ (f:=A.mark_entered) (pW (.mark x)) (by left) (by unfold jy;simp) (zrX ok.p ok.rab hx)
 |hand x=>exact wJ (f:=A.hand_entered) (pW (.hand x)) (by left) (by unfold jy;simp) (zrY ok.h hx)
 |run a b r h=>exact wJ (f:=A.run_entered) (pW (.run a b r h)) (by left) (by unfold jy;simp) (zul ok.p ok.pt ok.h hx.1.ok hx.2.1.ok hx.2.2.ok ok.rl)
 |strike n=>exact wJ (f:=A.run_struck) (pW (.strike n)) (by left) (by unfold jy;simp) (zoO ok.rl)
 |mend n k=>exact wJ (f:=A.run_mended) (pW (.mend n k)) (by left) (by unfold jy;simp) (zse ok.rl)
 |settle x=>exact wJ (f:=A.mark_settled) (pW (.settle x)) (by left) (by unfold jy;simp) (zo6 ok.p ok.rab hx)
 |aside x=>
  rw[show aX (kh s (.aside x))=aX {s with sd:=s.sd++[x]}from zxg rfl (Kl _ _ _) rfl rfl rfl rfl];exact wJ (f:=A.hand_set_aside) (pW (.aside x)) (by left) (by unfold jy;simp) (zp3 ok.h ok.sok sl hx.ok)
 |heed x=>
  rw[show aX (kh s (.heed x))=aX {s with sd:=s.sd.filter λy=>!decide (y=x)}from zxg rfl (Kl _ _ _) rfl rfl rfl rfl];exact wJ (f:=A.hand_heeded) (pW (.heed x)) (by left) (by unfold jy;simp) (zrD ok.h ok.sok sl hx.ok)
 |allow k=>exact wJ (f:=A.number_allowed) (pW (.allow k)) (by left) (F:=zb0) (by unfold jy;simp) (zqc (s:=s))
def aQ(A:bN)(ks bs us:List D):Ob:=⟨A.fen,[("kept",.l ks),("books",.l bs),("undone",.l us)]⟩
def HW:lW (aQ A ks bs us) "kept" 0 ks:=⟨rfl,λi y hi=>by omega⟩
def Hj:lW (aQ A ks bs us) "books" 1 bs:=⟨rfl,λi y hi e=>by
 have:i=0:=by omega
 subst this;cases e;show("kept":Str)≠"books"; decide⟩
def JM:lW (aQ A ks bs us) "undone" 2 us:=⟨rfl,λi y hi e=>by
 match i,hi with
 |0,_=>cases e;show("kept":Str)≠"undone"; decide
 |1,_=>cases e;show("books":Str)≠"undone"; decide⟩
abbrev NF(m:Str):Prop:=m≠"kept" /\ m≠"books" /\ m≠"undone"
def Io{A:bN}{ks bs us:List D}{m:Str}(h:NF m):∀x∈(aQ A ks bs us).fs,x.1≠m:=λx hx=>by
 have hx:x∈[(("kept":Str),At.l ks),("books",.l bs),("undone",.l us)]:=hx;simp only[eX,jL,kZ]at hx;rcases hx with rfl|rfl|rfl
 .exact YAD h.1
 .exact YAD h.2.1
 .exact YAD h.2.2
def mK{A:bN}{S:aJ}{Z:Env}{i:Nat}{q:Addr}{m:Str}{F:aJ->Fn}{ks bs us:List D}{d:D}(hi:Z[i]?=some (.val (.obj q)))(hS:S q=some (aQ A ks bs us))(hm:NF m)(h:F S [.obj q] (·=d)):Ev (dB S i A.fen m 1 F (λ_ Q=>Q [])) Z d:=λP p=>by
 unfold dB;rw[hi];exact⟨⟨_,hS,rfl,Io hm⟩,rfl,pC h λe z=>by subst z;exact p⟩
def zsd:lE (bs++[x]) (-1)=some x:=by
 unfold lE xM;rw[if_neg (by decide),iB,if_pos (by simp;omega)];show(bs++[x])[(-1+((bs.length+1:Nat):Int)).toNat]?=some x;rw[show(-1+((bs.length+1:Nat):Int)).toNat=bs.length from by omega]
 simp
def zwJ:NF "now":=by decide
def ztO(hS:S q=some (aQ A ks (bs++[aX s]) us)):pq A S [.obj q] (·=aX s):=by
 refine fV (Z:=[.val (.obj q)]) (by unfold eU;simp[eG]) ?_;refine⟨_,1,bs++[aX s],hS,rfl,Hj,?_⟩;show(match lE (bs++[aX s]) (-1)with|some d=>d.old=aX s|none=>False);rw[zsd];exact lB s
def yV{A:bN}{S:aJ}{q:Addr}{s:Ya}{ks bs us:List D}{Z:Env}{i:Nat}(hi:Z[i]?=some (.val (.obj q)))(hS:S q=some (aQ A ks (bs++[aX s]) us)):Ev (dB S i A.fen "now" 1 (pq A) (λ_ Q=>Q [])) Z (aX s):=mK hi hS zwJ (ztO hS)
section
variable{E:iY}{S:aJ}{Z:Env}{B:WF}{q:Addr}{A:bN}{ks bs us:List D}{i:Nat}{d:D}{V:aJ->WE}
def zop(hi:Z[i]?=some (.val (.obj q)))(hS:S q=some (aQ A ks bs us))(hV:Ev (V S) Z d)(hl:ks.length<100000)(h:B E (cW S q (aQ A (ks++[d.old]) bs us)) Z):aN (jK i "kept" A.fen V) B E S Z:=by
 show jK i "kept" A.fen V _ S Z;unfold jK;rw[hi];exact⟨_,0,ks,hS,rfl,HW,hV _ ⟨hl,h⟩⟩
def zqI(hi:Z[i]?=some (.val (.obj q)))(hS:S q=some (aQ A ks bs us))(hV:Ev (V S) Z d)(hl:bs.length<100000)(h:B E (cW S q (aQ A ks (bs++[d.old]) us)) Z):aN (jK i "books" A.fen V) B E S Z:=by
 show jK i "books" A.fen V _ S Z;unfold jK;rw[hi];exact⟨_,1,bs,hS,rfl,Hj,hV _ ⟨hl,h⟩⟩
def zoI:g8 "undone" (.l []) (aQ A ks bs us).fs=(aQ A ks bs []).fs:=by unfold aQ;left
def zoG(hi:Z[i]?=some (.val (.obj q)))(hS:S q=some (aQ A ks bs us))(h:B E (cW S q (aQ A ks bs [])) Z):aN (gj i "undone" A.fen (λS=>dg aq)) B E S Z:=by
 show gj i "undone" A.fen _ _ S Z;unfold gj;rw[hi];refine⟨by decide,_,hS,rfl,by show 3<100;decide,?_⟩;show B E (cW S q ⟨A.fen,g8 "undone" (.l []) (aQ A ks bs us).fs⟩) Z;rw[zoI];exact h
end
def zsG:Yd->Bool
 |.run _ _ _ _=>true
 |_=>false
def zwT(d:Yd):decide (Eu d="run")=zsG d:=by cases d<;>left
def zvF(s:Ya)(d:Yd):D:=if zsG d=true then .int (s.en+1)else .non
def d0(hi:Z[i]?=some (.val (yD d))):Ev (ak bC (vW i) (kW (.int 0))) Z (.str (Eu d)):=BP (t:=.str (Eu d)::fC d) (au hi) aF (wj (j:=0) rfl)
def zsu(d:Yd)(hi:Z[i]?=some (.val (yD d))):Ev (ak gV (ak bC (vW i) (kW (.int 0))) (kW (.str "run"))) Z (.bl (zsG d)):=zsl (zN (d0 hi) aF (zwq d) dX) (congrArg D.bl (zwT d))
def six:∀{xs:List D},xs.length=6->∃a b c d e f,xs=[a,b,c,d,e,f]
 |[a,b,c,d,e,f],_=>⟨a,b,c,d,e,f,rfl⟩
def zvb(h:v.old=aX t)(hi:Z[i]?=some (.val v)):∃b:D,b.old=.int t.en/\Ev (ak fX (vW i) (kW (.str "entered"))) Z b:=by
 cases v with
 |dct n ks xs=>
  rw[D.old]at h;injection h with h1 h2 h3
  subst h2;obtain⟨a,b,c,d,e,f,rfl⟩:=six (xs:=xs) (by rw[<-cY (f:=D.old),h3];rfl);refine⟨e,?_,zud (au hi) bk5⟩
  have:=congrArg (λl:List D=>l[4]?) h3
  exact Option.some.inj this
 |_=>rw[D.old]at h;cases h
def znL(hS:S q=some (aQ A s.ds (bs++[aX s]) us))(ok:fH s)(hx:vo d)(hb:bs.length<=1000) :
  Iu A [.obj q,yD d] S (λv S'=>why s d=none/\v.old=zvF s d/\S'=cW S q (aQ A (s.ds++[yD d]) (bs++[aX s]++[aX (kh s d)]) [])) (λn S'=>why s d=some n/\S'=S):=by
 refine iJ (iG (n:=1) (eG q) (pW d)) ?_;show dB S 0 A.fen "now" 1 (pq A) (λ_ Q=>Q []) _ _;refine yV (ks:=s.ds) (us:=us) rfl hS _ ⟨rfl,vD (zsK ok hx) (λv hv=>?_) λ_ z=>⟨z,rfl⟩⟩;obtain⟨hw,hv⟩:=hv;unfold gD;show aN (jK 0 "kept" A.fen λ_=>vW 1) _ _ _ [.val (.obj q),.val (yD d),.val v];refine zop (V:=λ_=>vW 1) (d:=yD d) (q:=q) rfl hS (au rfl) (by have:=ok.dl;omega) ?_;rw[pW];refine zqI (V:=λ_=>vW 2) (d:=v) (q:=q) rfl gK (au rfl) (by rw[iB];show bs.length+1<100000;omega) ?_;rw[hv,qQ];refine zoG (q:=q) rfl gK ?_;rw[qQ];refine gZ (zsu d (i:=1) rfl) _ ?_;unfold zvF;cases e:zsG d with
 |false=>exact⟨hw,by rw[D.old];rfl,rfl⟩
 |true=>
  obtain⟨b,h1,h2⟩:=zvb hv (i:=2) (Z:=[.val (.obj q),.val (yD d),.val v]) rfl;refine h2 _ ⟨hw,?_,rfl⟩;rw[h1];cases d with
  |run a b r h=>rfl
  |_=>cases e
def zv2(h:∀x∈xs,gq x n=true)(hl:xs.length<=1000:=by simp):gq (.tup xs) (n+1)=true:=by
 rw[gq,iQ hl,Bool.true_and];clear hl
 induction xs with
 |nil=>rw[vq]
 |cons x xs ih=>rw[vq,h x lF,ih λy hy=>h y (fL _ hy)];rfl
def v7(h:bQ x=true):gq (.str x) n=true:=h
def znA:gq (.int i) n=true:=by rw[gq]
def rR[Decidable c](h:(if c then some x else o)=none):¬ c/\o=none:=by
 by_cases e:c
 .rw[if_pos e]at h;cases h
 .rw[if_neg e]at h;exact⟨e,h⟩
def zk2(pl:List (Str×Nat))(x y:Str):bu (pl++[rM pl x]) y=bu pl y+if x=y then 1 else 0:=by
 unfold bu;rw[List.filter_append,iB];congr 1;by_cases e:x=y
 .simp[rM,e]
 .simp[rM,e]
def Lst.snoc(h:Lst pl)(x:Str):Lst (pl++[rM pl x])where
 fin:=λy hy=>by
  rw[zk2]at hy ⊢;by_cases e:x=y
  .subst e;rw[if_pos rfl];exact sY _ (pI.mpr rfl)
  .rw[if_neg e]at hy ⊢;exact Ay _ (h.fin y hy)
 le:=λp hp=>by
  rw[zk2];rcases rJ.mp hp with z|z
  .exact gJ (h.le p z) (HJ _ _)
  .rw[pI.mp z];show bu pl x+1<=bu pl x+if x=x then 1 else 0;rw[if_pos rfl];exact d8 _
 nd:=List.nodup_append.mpr ⟨h.nd,by simp,λa ha b hb z=>by
  rw[pI.mp hb]at z
  have:=h.le a ha
  rw[z]at this;exact absurd this (Nat.not_succ_le_self _)⟩
 one:=λy hy=>by
  rw[zk2]at hy;by_cases e:0<bu pl y
  .exact Ay _ (h.one y e)
  .by_cases f:x=y
   .subst f
    have:bu pl x=0:=by omega
    refine sY _ (pI.mpr ?_);unfold rM;rw[this]
   .rw[if_neg f]at hy;exact absurd hy e
def zyd(hx:vo d):gq (yD d) 3=true:=by
 have w:=zwq d;refine zv2 ?_ (by cases d<;>simp[fC]);rw[La];refine⟨v7 w,?_⟩;cases d with
 |mark x=>simp[fC,v7 (Tx.ok hx)]
 |hand x=>simp[fC,v7 (Tx.ok hx)]
 |settle x=>simp[fC,v7 (Tx.ok hx)]
 |aside x=>simp[fC,v7 (Tx.ok hx)]
 |heed x=>simp[fC,v7 (Tx.ok hx)]
 |run a b r h=>simp[fC,znA,v7 hx.1.ok,v7 hx.2.1.ok,v7 hx.2.2.ok]
 |strike n=>simp[fC,znA]
 |allow n=>simp[fC,znA]
 |mend n k=>simp[fC,znA]
def zif(ok:fH s)(hx:vo d)(f:why s d=none)(hl:s.ds.length<1000):fH (kh s d):=by
 have dn:(kh s d).ds=s.ds++[yD d]:=rfl;have dd:∀y∈(kh s d).ds,y.old=y/\gq y 3=true:=λy hy=>by
  rw[dn]at hy;rcases rJ.mp hy with z|z
  .exact ok.dd y z
  .rw[pI.mp z];exact⟨pW d,zyd hx⟩
 have dm:(kh s d).ds.length=s.ds.length+1:=by rw[dn,iB];rfl
 have dl:(kh s d).ds.length<=1000:=by rw[dm];omega
 have sl:s.sd.length<=(kh s d).ds.length:=by rw[dm];have:=ok.sl;omega
 have el:s.en<=(kh s d).ds.length:=by rw[dm];have:=ok.el;omega
 have place:∀x,lR x=true->s.pl.length≠12->vA (s.pl++[rM s.pl x]):=λx hn hl=>⟨λp hp=>(rJ.mp hp).elim (ok.p.ok p) λz=>by rw[pI.mp z];exact hn,by rw[iB];have:=ok.p.ln;show s.pl.length+1<=12;omega⟩;have ra':∀x,∀r∈s.rs,r.a<(s.pl++[rM s.pl x]).length/\r.b<(s.pl++[rM s.pl x]).length/\r.h∈bW s:=λx r hr=>by
  have:=ok.ra r hr;rw[iB];exact⟨by omega,by omega,this.2.2⟩
 have lh:=ok.h.ln;have hp:∀(t:Ya)(x:Str)(b:Bool),t.hs=tK s.hs x b->xm t:=λt x b e=>by
  have en:bW t=bW s:=by show t.hs.map (·.1)=_;rw[e];exact Kl _ _ _
  exact⟨en▸ok.h.nd,en▸ok.h.ok,by rw[e];unfold tK;rw[cY];exact lh⟩
 cases d with
 |mark x=>
  obtain⟨f1,f⟩:=rR (show Iw s x=none from f);obtain⟨f2,f⟩:=rR f;exact⟨place x (by simpa using f1) (rR f).1,ok.pt.snoc x,⟨ok.h.nd,ok.h.ok,lh⟩,ra' x,ok.rl,ok.sn,sl,ok.sh,ok.e0,el,dd,dl,ok.rn⟩
 |settle x=>
  obtain⟨f1,g⟩:=rR (show Im s x=none from f);obtain⟨p,hp,rfl⟩:=rD.mp (xF.mp (Nat.pos_of_ne_zero f1));exact⟨place _ (ok.p.ok p hp) (rR g).1,ok.pt.snoc _,⟨ok.h.nd,ok.h.ok,lh⟩,ra' _,ok.rl,ok.sn,sl,ok.sh,ok.e0,el,dd,dl,ok.rn⟩
 |hand x=>
  obtain⟨f1,f⟩:=rR (show KD s x=none from f);obtain⟨f2,f⟩:=rR f;have f3:=(rR f).1;have en:bW (kh s (.hand x))=bW s++[x]:=by show(s.hs++[(x,true)]).map (·.1)=_;rw[lY];rfl
  refine⟨⟨ok.p.ok,ok.p.ln⟩,ok.pt,⟨?_,λy hy=>?_,?_⟩,λr hr=>⟨(ok.ra r hr).1,(ok.ra r hr).2.1,en▸Ay _ (ok.ra r hr).2.2⟩,ok.rl,λy hy=>en▸Ay _ (ok.sn y hy),sl,λp hp=>?_,ok.e0,el,dd,dl,ok.rn⟩
  .rw[en];exact List.nodup_append.mpr ⟨ok.h.nd,by simp,λa ha b hb z=>by rw[pI.mp hb]at z;exact f2 (z▸ha)⟩
  .rw[en]at hy;exact(rJ.mp hy).elim (ok.h.ok y) λz=>by rw[pI.mp z];simpa using f1
  .show(s.hs++[_]).length<=10;rw[iB];show s.hs.length+1<=10;omega
  .refine(rJ.mp hp).elim (ok.sh p) λz=>?_;rw[pI.mp z];show true = !decide (x∈s.sd);rw[jq λz=>f2 (ok.sn x z)];rfl
 |run a b r h=>
  obtain⟨f1,f⟩:=rR (show BW s a b r h=none from f);obtain⟨f2,f⟩:=rR f;obtain⟨f3,f⟩:=rR f;obtain⟨f4,f⟩:=rR f;have f5:=(rR f).1;have e0:=ok.e0;have rl:=ok.rl;have el2:=ok.el;refine⟨⟨ok.p.ok,ok.p.ln⟩,ok.pt,⟨ok.h.nd,ok.h.ok,lh⟩,λq hq=>?_,?_,ok.sn,sl,ok.sh,by show 0<=s.en+1;omega,by rw[dm];show s.en+1<=_;omega,dd,dl,λq hq=>by
   rcases rJ.mp hq with z|z
   .have:=ok.rn q z;show q.n<=s.en+1;omega
   .rw[pI.mp z];exact Int.le_refl _⟩
  .rcases rJ.mp hq with z|z
   .exact ok.ra q z
   .rw[pI.mp z];exact⟨zuJ ok.pt (by omega),zuJ ok.pt (by omega),Decidable.of_not_not f3⟩
  .show(s.rs++[_]).length<=40;rw[iB];show s.rs.length+1<=40;omega
 |strike n=>exact⟨⟨ok.p.ok,ok.p.ln⟩,ok.pt,⟨ok.h.nd,ok.h.ok,lh⟩,λq hq=>ok.ra q (v5.mp hq).1,gJ (YAT _ _) ok.rl,ok.sn,sl,ok.sh,ok.e0,el,dd,dl,λq hq=>ok.rn q (v5.mp hq).1⟩
 |mend n k=>
  refine⟨⟨ok.p.ok,ok.p.ln⟩,ok.pt,⟨ok.h.nd,ok.h.ok,lh⟩,λq hq=>?_,by show(s.rs.map _).length<=40;rw[cY];exact ok.rl,ok.sn,sl,ok.sh,ok.e0,el,dd,dl,λq hq=>by
   obtain⟨r,hr,rfl⟩:=rD.mp hq;unfold wC;split<;>exact ok.rn r hr⟩
  obtain⟨r,hr,rfl⟩:=rD.mp hq;unfold wC;split<;>exact ok.ra r hr
 |aside x=>
  obtain⟨f1,f⟩:=rR (show Jg s x=none from f);have en:bW (kh s (.aside x))=bW s:=Kl _ _ _;refine⟨⟨ok.p.ok,ok.p.ln⟩,ok.pt,hp _ x false rfl,λr hr=>⟨(ok.ra r hr).1,(ok.ra r hr).2.1,en▸(ok.ra r hr).2.2⟩,ok.rl,λy hy=>en▸(rJ.mp hy).elim (ok.sn y) λz=>by rw[pI.mp z];exact Decidable.of_not_not f1,?_,λp hp=>?_,ok.e0,el,dd,dl,ok.rn⟩
  .rw[dm];show(s.sd++[x]).length<=_;rw[iB];have:=ok.sl;show s.sd.length+1<=_;omega
  .obtain⟨q,hq,rfl⟩:=rD.mp hp;show _ = !decide (_∈s.sd++[x]);by_cases e:q.1=x
   .rw[if_pos e,iQ (sY _ (pI.mpr e))];rfl
   .rw[if_neg e,ok.sh q hq];simp[e]
 |heed x=>
  have en:bW (kh s (.heed x))=bW s:=Kl _ _ _;refine⟨⟨ok.p.ok,ok.p.ln⟩,ok.pt,hp _ x true rfl,λr hr=>⟨(ok.ra r hr).1,(ok.ra r hr).2.1,en▸(ok.ra r hr).2.2⟩,ok.rl,λy hy=>en▸ok.sn y (v5.mp hy).1,gJ (YAT _ _) sl,λp hp=>?_,ok.e0,el,dd,dl,ok.rn⟩;obtain⟨q,hq,rfl⟩:=rD.mp hp;show _ = !decide (_∈s.sd.filter λy=>!decide (y=x));by_cases e:q.1=x
  .rw[if_pos e];simp[e]
  .rw[if_neg e,ok.sh q hq];simp[e]
 |allow k=>exact⟨⟨ok.p.ok,ok.p.ln⟩,ok.pt,⟨ok.h.nd,ok.h.ok,lh⟩,ok.ra,ok.rl,ok.sn,sl,ok.sh,ok.e0,el,dd,dl,ok.rn⟩
def rG(R:WOA)(Z:Env)(S:aJ)(ds:List D):Prop:=∀K:List D->aJ->Prop,K ds S->R Z S K
def fP:rG aO Z S []:=λK k=>k
def dz{V:aJ->WE}{R:WOA}{Z:Env}{S:aJ}{d:D}{ds:List D}(h:Ev (V S) Z d)(hR:rG R Z S ds):rG (bF (bU V) R) Z S (d::ds):=λK k=>h _ (hR _ k)
def DG(h:gf (C S) Z false)(q:B E S Z):aN (ug C o9 nilF) B E S Z:=h _ q
def zsz{A:bN}{i n:Nat}{m:Str}{F:cD}{y:Str->aJ->Prop}{R:WOA}{Z:Env}{S:aJ}{Q P:D->aJ->Prop}{qc:Str->aJ->Prop}{q:Addr}{ks bs us ds:List D}(hi:Z[i]?=some (.val (.obj q)))(hS:S q=some (aQ A ks bs us))(hm:NF m)(hR:rG R Z S ds)(h:F (.obj q::ds) S P qc)(k:∀d S',P d S'->Q d S')(l:∀n S',qc n S'->y n S')(hl:ds.length+1=n:=by rfl):dC i A.fen m n F y R Z S Q:=by
 unfold dC;rw[hi];exact⟨⟨_,hS,rfl,Io hm⟩,hR _ ⟨hl,uz h k l⟩⟩
def zqY:NF "deed":=by decide
def yZ{i:Nat}{V:aJ->WE}{R:WF}{E:iY}{S:aJ}{Z:Env}{d:D}(h:Ev (V S) Z d)(q:R E S (Z.set i (.val d))):aN (ji λS=>bh (.nm i) (V S)) R E S Z:=h _ (q)
def fenB(A:bN)(s:Ya)(d:Yd)(bs:List D):Ob:=aQ A (s.ds++[yD d]) (bs++[aX s]++[aX (kh s d)]) []
def m8(ha:a.old=a):eU (n+1) [a]=.val a::List.replicate n .un:=by
 unfold eU;simp[ha]
def pU(pl:List (Str×Nat)):List D:=pl.filterMap λp=>if decide (((p.2:Nat):Int)=1)then some (.str p.1)else none
def zvi(pl:List (Str×Nat)):∀y∈pU pl,y.old=y:=λy hy=>by
 obtain⟨p,_,e⟩:=Hw.mp hy;split at e<;>cases e
 exact cC _
def zoJ(hI:iD I Z (pl.map gw))(hl:pl.length<=1000):iD (jD [none,none] I (.tp 2 (.cons (.nm 0) (.cons (.nm 1) .nil))) (b8 (ak gV (vW 1) (kW (.int 1)))) (vW 0)) Z (pU pl):=
 ym gw (λp=>if decide _ then some _ else none) pl hI (by omega) λp _=>by
  have ev:∀{Z:Env},Z[1]?=some _->gf _ Z (decide (((p.2:Nat):Int)=1)):=λh=>gZ (Do (au h) aF);cases e:decide (((p.2:Nat):Int)=1)with
  |true=>exact zw3 (e▸ev rfl) (au rfl)
  |false=>exact ztr (e▸ev rfl)
def zlU(hl:pl.length<=1000):zf1 [.tup (pl.map gw)] (·=.lst true (pU pl)):=by
 exact fV (m8 (n:=0) (jB (m7 zR _))) (m9 (iW (zoJ (wu (au rfl)) hl)) rfl)
theorem zne{α:Type}{p:α->Bool}{g:α->D}:∀xs:List α,(xs.filterMap λx=>if p x then some (g x)else none)=(xs.filter p).map g
 |[]=>rfl
 |x::xs=>by
  rw[YAN,YB7];cases p x
  .exact zne xs
  .exact congrArg _ (zne xs)
def znb{α:Type}{sub:List (Option Nat)}{I:WL}{C:WT}{Z:Env}{emb:α->D}(p:α->Bool){ys:List α}(hI:iD I Z (ys.map emb))(hl:ys.length<=100000)(h:∀x∈ys,gf C ((fY sub Z).set 0 (.val (emb x))) (p x))(h0:0<(fY sub Z).length:=by exact Nat.zero_lt_succ _):iD (jD sub I (.nm 0) C (vW 0)) Z ((ys.filter p).map emb):=by
 have:=ym (E:=vW 0) emb (λx=>if p x then some (emb x)else none) ys hI hl λx hx=>by
  have e:=h x hx;cases f:p x with
  |false=>exact zsP (ir e f)
  |true=>exact Eg (ir e f) (au (by simp[h0]))
 rw[zne]at this;exact this
def fW(s:Ya):List Str:=(bW s).filter λx=>decide (x∈s.sd)
def uY(s:Ya):List Yr:=s.rs.filter λr=>!decide (r.h∈s.sd)
def tU(s:Ya):List D:=[.lst false (pU s.pl),.lst false ((bW s).map D.str),.lst false ((fW s).map D.str),.lst false (s.pl.map gw),.int s.al,.lst false (s.rs.map (cH s.pl)),.lst false (((uY s).map (·.n)).map D.int),.lst false s.ds]
section
variable{A:bN}{S:aJ}{q:Addr}{s:Ya}{bs us:List D}
def Hz(hi:Z[i]?=some (.val (.obj q)))(hS:S q=some (aQ A s.ds (bs++[aX s]) us))(h:jO BK (jn s) z=some d):Ev (ak fX (dB S i A.fen "now" 1 (pq A) (λ_ Q=>Q [])) (kW (.str z))) Z d:=zud (yV hi hS) h
def sX(ok:fH s):(bW s).length<=10:=by rw[cY];exact ok.h.ln
def zfQ(hS:S q=some (aQ A s.ds (bs++[aX s]) us))(ok:fH s):xG A S [.obj q] (·=.lst true (pU s.pl)):=by
 refine fV (m8 (n:=0) (eG q)) ?_;exact m9 (sJ (aH (Hz rfl hS (b1 s)) bw) (zlU (by have:=ok.p.ln;omega))) rfl
def zhl(hS:S q=some (aQ A s.ds (bs++[aX s]) us)):DX A S [.obj q] (·=.lst true ((bW s).map D.str)):=by
 refine fV (m8 (n:=0) (eG q)) ?_;exact m9 (iW (zmO (Hz rfl hS (b2 s)))) rfl
def ziE(hS:S q=some (aQ A s.ds (bs++[aX s]) us)):Jc A S [.obj q] (·=.lst true (s.pl.map gw)):=by
 refine fV (m8 (n:=0) (eG q)) ?_;exact m9 (iW (zmO (Hz rfl hS (b1 s)))) rfl
def zd6(hS:S q=some (aQ A s.ds (bs++[aX s]) us)):Ag A S [.obj q] (·=.int s.al):=by
 refine fV (m8 (n:=0) (eG q)) ?_;exact m9 (Hz rfl hS (b6 s)) rfl
def ziM(hS:S q=some (aQ A s.ds (bs++[aX s]) us)):yu A S [.obj q] (·=.lst true (s.rs.map (cH s.pl))):=by
 refine fV (m8 (n:=0) (eG q)) ?_;exact m9 (iW (zmO (Hz rfl hS (b4 s)))) rfl
def zgj(hS:S q=some (aQ A s.ds (bs++[aX s]) us))(ok:fH s):yP A S [.obj q] (·=.lst true ((fW s).map D.str)):=by
 refine fV (m8 (n:=1) (eG q)) (j7 (yV rfl hS) ?_);exact m9 (iW (znb (λx=>decide _) (wu (dF rfl (b2 s))) (by have:=sX ok;omega) (λx hx=>gZ (BZ (au rfl) (dF rfl (b3 s)) (ok.h.bQ x hx) ok.sok)))) rfl
def zst(ok:fH s):zbX [aX s] (·=.lst true ((uY s).map (cH s.pl))):=by
 refine fV (m8 (lB s)) ?_;exact m9 (iW (znb (λr=>!decide _) (wu (dF rfl (b4 s))) (by have:=ok.rl;omega) (λr hr=>gZ (BZ (BP (au rfl) aF (wj rfl)) (dF rfl (b3 s)) (ok.h.bQ _ (ok.ra r hr).2.2) ok.sok)))) rfl
def zxO(ok:fH s):(uY s).length<=1000:=gJ (YAT _ _) (by have:=ok.rl;omega)
def zkj(hS:S q=some (aQ A s.ds (bs++[aX s]) us))(ok:fH s):zc6 A S [.obj q] (·=.lst true (((uY s).map (·.n)).map D.int)):=by
 refine fV (m8 (n:=0) (eG q)) ?_;exact m9 (zqt (emb:=cH s.pl) (zH (sJ (aH (yV rfl hS) bw) (zst ok))) (zxO ok) λr=>⟨_,rfl⟩) rfl
def zo9(hS:S q=some (aQ A s.ds (bs++[aX s]) us))(ok:fH s):zeW A S [.obj q] (·=.lst true s.ds):=by
 refine fV (m8 (n:=0) (eG q)) ?_;refine⟨_,0,s.ds,hS,rfl,HW,?_⟩;show D.lst true (s.ds.map D.old)=_;rw[CV λx hx=>(ok.dd x hx).1]
def zid:NF "marks":=by decide
def zk0:NF "hands":=by decide
def zjr:NF "asides":=by decide
def zlE:NF "stands":=by decide
def zfZ:NF "allowed":=by decide
def znq:NF "runs":=by decide
def zmC:NF "counting":=by decide
def zrR:NF "deeds":=by decide
def ztW(ok:fH s):[D.lst n1 (pU s.pl),.lst n2 ((bW s).map D.str),.lst n3 ((fW s).map D.str),.lst n4 (s.pl.map gw),.int s.al,.lst n5 (s.rs.map (cH s.pl)),.lst n6 (((uY s).map (·.n)).map D.int),.lst n7 s.ds].map D.old=tU s:=by
 simp only[fj,ue];rw[Bm (zvi _),Bm (m7 cC _),Bm (m7 cC _),Bm (m7 zR _),pB,Bm (m7 (G9 _) _),Bm (m7 pB _),Bm λx hx=>(ok.dd x hx).1];rfl
def zsL(hS:S q=some (aQ A s.ds (bs++[aX s]) us))(ok:fH s):Bv A S [.obj q] (λv=>v.old=.lst false (tU s)):=by
 refine fV (m8 (n:=1) (eG q)) ?_;refine j7 (iW (mX (aH (mK rfl hS zid (zfQ hS ok)) (aH (mK rfl hS zk0 (zhl hS)) (aH (mK rfl hS zjr (zgj hS ok)) (aH (mK rfl hS zlE (ziE hS)) (aH (mK rfl hS zfZ (zd6 hS)) (aH (mK rfl hS znq (ziM hS)) (aH (mK rfl hS zmC (zkj hS ok)) bw))))))))) ?_;refine m9 (pP (au rfl) (iW (mX (aH (mK rfl hS zrR (zo9 hS ok)) bw))) (by show 8<=100000;decide)) ?_;show(D.lst true _).old=_;rw[D.old];exact congrArg (D.lst false) (ztW ok)
end
def tk(hb:Z[b]?=some (.val .box))(hM:Ev M Z (.int m))(h0:0<m)(h1:m<2^64)(k:∀x:Int,0<=x->x<m->Q (.int x)):dZ 2 Av (aA (vW b) (aA M aq)) Z Q:=(aH (au hb) (aH hM bw)) _ ⟨rfl,zsE h0 h1 k⟩
def EvP(A:WE)(Z:Env)(P:D->Prop):Prop:=∀Q:D->Prop,(∀d,P d->Q d)->A Z Q
section
variable{Z:Env}{A B V:WE}{R:WL}{P P' T:D->Prop}{PL TL:List D->Prop}{d:D}{i:Nat}{E:En}{o9:WS}
def zsM(hb:Z[b]?=some (.val .box))(hM:Ev M Z (.int m))(h0:0<m)(h1:m<2^64):EvP (dZ 2 Av (aA (vW b) (aA M aq))) Z (λd=>∃x:Int,d=.int x/\0<=x/\x<m):=λQ q=>tk hb hM h0 h1 λx a b=>q _ ⟨x,rfl,a,b⟩
end
def zwm{α:Type}{xs:List α}{k:Nat}(h:k<=xs.length):cutD xs (some (k:Int)) none=xs.drop k:=by
 unfold cutD;rw[HT.jH,YCD h];show List.take (xs.length-k) _=_;exact Hc (by simp)
def fu:Ya:=⟨[],[],[],[],0,0,[]⟩
theorem zgH(I:List D->aJ->Env->Prop)
  (hs:∀x rest S Z (E':iY),(∀S Z,I rest S Z->E'.nx S Z)->(∀S Z,I rest S Z->E'.ct S Z)->(∀S d,E.rt S d->E'.rt S d)->(∀S Z,E.nx S Z->E'.bk S Z)->I (x::rest) S Z->gD t x Z λZ'=>B E' S Z') (hd:∀S Z,I [] S Z->E.nx S Z) :
  ∀(xs:List D)(S:aJ)(Z:Env),I xs S Z->mz t B E xs S Z
 |[],S,Z,h=>hd S Z h
 |x::xs,S,Z,h=>hs x xs S Z {nx:=mz t B E xs,ct:=mz t B E xs,bk:=E.nx,rt:=E.rt} (zgH I hs hd xs) (zgH I hs hd xs) (λS d z=>z) (λS Z z=>z) h
def zpL:Ec [] (·=.dct true BK (jn fu)):=by
 refine fV (Z:=[]) rfl ?_;exact⟨by decide,by decide,by decide,by decide,by decide,rfl⟩
def Gp(hi:Z[i]?=some (.val (.obj q)))(hF:iD (F S) Z xs)(hS:S q=some o)(hC:o.C=C)(hl:o.fs.length<100)(h:E.nx (cW S q ⟨o.C,g8 f (.l (xs.map D.old)) o.fs⟩) Z):gj i f C F E S Z:=by
 unfold gj;rw[hi];exact hF _ ⟨o,hS,hC,hl,h⟩
def zkh:Cz A [.obj a] (cW S a ⟨A.fen,[]⟩) (λd S'=>d=.non/\S'=cW S a (aQ A [] [aX fu] [])) (λ_ _=>False):=by
 refine iJ (m8 (n:=0) (eG a)) ?_;refine⟨by decide,⟨A.fen,[]⟩,gK,rfl,by show 0<100;decide,?_⟩;rw[qQ];have p1:g8 "kept" (.l ([].map D.old)) ([]:List (Str×At))=[(("kept":Str),At.l [])]:=by left
 rw[p1];have eb:iD (dg (aA (dZ 0 Ec aq) aq)) [.val (.obj a)] [.dct true BK (jn fu)]:=mX (aH (sJ bw zpL) bw);show aN (gj 0 "books" A.fen λS=>dg (aA (dZ 0 Ec aq) aq)) _ _ _ [.val (.obj a)];refine Gp (q:=a) (o:=⟨A.fen,[("kept",.l [])]⟩) rfl eb gK rfl (by show 1<100;decide) ?_;rw[qQ,YBW,zlk (yF fu)];have p2:g8 "books" (.l [D.dct false BK (jn fu)]) [(("kept":Str),At.l [])]=[(("kept":Str),.l []),("books",.l [D.dct false BK (jn fu)])]:=by left
 rw[p2];show gj 0 "undone" A.fen (λS=>dg aq) _ _ [.val (.obj a)];refine Gp (q:=a) (o:=⟨A.fen,[("kept",.l []),("books",.l [D.dct false BK (jn fu)])]⟩) rfl (mX bw) gK rfl (by show 2<100;decide) ?_;rw[qQ];have p3:g8 "undone" (.l ([].map D.old)) [(("kept":Str),At.l []),("books",.l [D.dct false BK (jn fu)])]=[(("kept":Str),.l []),("books",.l [D.dct false BK (jn fu)]),("undone",.l [])]:=by left
 rw[p3];exact⟨rfl,rfl⟩
def yC:fH fu:=by constructor<;>first|(constructor<;>simp[fu,bu,bW])|simp[fu]
def Fits:Ya->List Yd->Prop
 |_,[]=>True
 |s,d::r=>(why s d=none/\vo d)/\Fits (kh s d) r
def zyw{V:aJ->WE}{B:WF}{E:iY}{S:aJ}{Z:Env}{i:Nat}{P:D->Prop}(h:EvP (V S) Z P)(q:∀d,P d->B E S (Z.set i (.val d))):aN (ji λS=>bh (.nm i) (V S)) B E S Z:=h _ λd p=>by exact q d p
section
variable{Z:Env}{A B:WE}{P T:D->Prop}{R:WL}{ds:List D}{n:Nat}{F:Fn}
def zwW(hA:Ev A Z (.lst b t))(hL:Eb L Z l)(hU:Eb o9 Z u):Ev (nU A L o9) Z (.lst true (cutD t l u)):=λP p=>hA _ (hL _ (hU _ p))
end
def qt:Ya->List Yd->Option Str
 |_,[]=>none
 |s,d::r=>match why s d with
  |some n=>some n
  |none=>qt (kh s d) r
def iR(s:Ya)(zs:List Yd):Ya:=zs.foldl kh s
theorem zkN:∀{xs:List Yd}{s:Ya}{r:List Yd},Fits s (xs++r)->Fits s xs
 |[],_,_,_=>trivial
 |_::_,_,_,h=>⟨h.1,zkN h.2⟩
theorem Ks:∀{xs:List Yd}{s:Ya},Fits s xs->fH s->s.ds.length+xs.length<1000->fH (iR s xs)
 |[],_,_,ok,_=>ok
 |d::xs,s,h,ok,hl=>by
  rw[YAA]at hl;refine Ks (s:=kh s d) h.2 (zif ok h.1.2 h.1.1 (by omega)) ?_;show(s.ds++[_]).length+_<_;rw[iB];show s.ds.length+1+_<_;omega
def zxp{n:Nat}{B:WS}{ds ds':List D}{Q:D->Prop}(h:ds.map D.old=ds'.map D.old)(q:gC n B ds' Q):gC n B ds Q:=by
 have e:eU n ds=eU n ds':=by
  have l:ds.length=ds'.length:=by rw[<-cY,h,cY]
  unfold eU;rw[l,show ds.map (λd=>Sl.val d.old)=(ds.map D.old).map Sl.val by rw[YAL];rfl,h,YAL];rfl
 unfold gC at q ⊢;rw[e];exact q
def Er{C:aJ->WT}{o9 B:WF}{E:iY}{S:aJ}{Z:Env}(h:gf (C S) Z true)(q:o9 {E with nx:=B E} S Z):aN (ug C o9 nilF) B E S Z:=h _ q
def cA(A:bN)(fs:List (Str×Addr)):Ob:=⟨A.off,[("fens",.d (fs.map (·.1)) (fs.map λp=>.obj p.2))]⟩
def zh8{A:bN}{fs:List (Str×Addr)}:wz (cA A fs) "fens" 0 (.d (fs.map (·.1)) (fs.map λp=>.obj p.2)):=⟨rfl,λi y hi=>by omega⟩
theorem zp7{n:Str}:∀{fs:List (Str×Addr)},jO (fs.map (·.1)) (fs.map λp=>D.obj p.2) n=(fs.lookup n).map D.obj
 |[]=>rfl
 | (k,a)::fs=>by
  show(if k=n then some _ else jO _ _ n)=_;rw[pM];by_cases e:k=n
  .rw[if_pos e,e,beq_self_eq_true];rfl
  .rw[if_neg e,show(n==k)=false by rw[YAE];exact YAD e];exact zp7
theorem zqL{n:Str}:∀{fs:List (Str×Addr)},(fs.map (·.1)).contains n=(fs.lookup n).isSome
 |[]=>rfl
 | (k,a)::fs=>by
  rw[fj,List.contains_cons,pM];cases h:(n==k)with
  |true=>rfl
  |false=>exact zqL
abbrev NO(m:Str):Prop:=m≠"fens"
def zs6{A:bN}{fs:List (Str×Addr)}{m:Str}(h:NO m):∀x∈(cA A fs).fs,x.1≠m:=λx hx=>by
 rw[pI.mp hx];exact YAD h
section
variable{A:bN}{S:aJ}{q:Addr}{fs:List (Str×Addr)}{Z:Env}{i:Nat}{V:WE}{n:Str}
def zs1{neg:Bool}(hi:Z[i]?=some (.val (.obj q)))(hS:S q=some (cA A fs))(hV:Ev V Z (.str n)):gf (tY S neg i "fens" A.off V) Z (neg !=(fs.lookup n).isSome):=λP p=>by
 refine hV _ ?_;rw[hi];exact⟨_,0,_,_,hS,rfl,zh8,by rw[zqL];exact p⟩
def qi{m:Str}{k:Nat}{F:cD}{y:Str->aJ->Prop}{R:WOA}{Q P:D->aJ->Prop}{qc:Str->aJ->Prop}{ds:List D}(hi:Z[i]?=some (.val (.obj q)))(hS:S q=some (cA A fs))(hm:NO m)(hR:rG R Z S ds)(h:F (.obj q::ds) S P qc)(kk:∀d S',P d S'->Q d S')(l:∀n S',qc n S'->y n S')(hl:ds.length+1=k:=by rfl):dC i A.off m k F y R Z S Q:=by
 unfold dC;rw[hi];exact⟨⟨_,hS,rfl,zs6 hm⟩,hR _ ⟨hl,uz h kk l⟩⟩
def zhI(hS:S q=some (cA A fs)):tZ A [.obj q,.str n] S (λv S'=>S'=S/\∃a,fs.lookup n=some a/\v=.obj a) (λe S'=>e="NoFen" /\ S'=S/\fs.lookup n=none):=by
 refine iJ (iG (eG q) (cC n)) ?_;have ev:=zs1 (Z:=[.val _,.val (.str n)]) (neg:=true) (i:=0) (V:=vW 1) rfl hS (au rfl);cases e:fs.lookup n with
 |none=>
  rw[e]at ev;exact ev _ ⟨by decide,rfl,rfl,rfl⟩
 |some a=>
  rw[e]at ev;refine ev _ ?_;refine⟨_,0,_,_,hS,rfl,zh8,?_⟩;show qX _ _;rw[zp7,e];exact⟨rfl,a,rfl,eG a⟩
def zko(hS:S q=some (cA A fs))(hx:Tx n):yz A [.obj q,.str n] S (λv S'=>S'=S/\lR n=true/\fs.lookup n=none) (λe S'=>S'=S/\((lR n=false/\e="BadName")\/(lR n=true/\(fs.lookup n).isSome=true/\e="Known"))):=by
 refine iJ (iG (n:=0) (eG q) (cC n)) ?_;have e1:=K3 (Z:=[.val (.obj q),.val (.str n)]) (i:=1) rfl hx.ln;have e2:=zs1 (Z:=[.val (.obj q),.val (.str n)]) (neg:=false) (i:=0) (V:=vW 1) (n:=n) rfl hS (au rfl);cases hn:lR n with
 |false=>
  rw[hn]at e1;refine Er (C:=λ_=>lr (gU (dZ 1 vm (aA (vW 1) aq)))) e1 ?_;exact⟨by decide,rfl,.inl ⟨rfl,rfl⟩⟩
 |true=>
  rw[hn]at e1;refine DG (C:=λ_=>lr (gU (dZ 1 vm (aA (vW 1) aq)))) e1 ?_;cases e:fs.lookup n with
  |none=>rw[e]at e2;exact e2 _ ⟨rfl,rfl,rfl⟩
  |some a=>rw[e]at e2;exact e2 _ ⟨by decide,rfl,.inr ⟨rfl,rfl,rfl⟩⟩
def zjq:NO "fen_called":=by decide
def zm2:NO "need_free":=by decide
def G7{m:Str}{k:Nat}{F:cD}{y:Str->aJ->Prop}{R:WOA}{Q P:D->aJ->Prop}{qc:Str->aJ->Prop}{ds ks bs us:List D}{a:Addr}(hi:Z[i]?=some (.val (.obj q)))(hS:S q=some (cA A fs))(hV:Ev V Z (.str n))(ha:fs.lookup n=some a)(hA:S a=some (aQ A ks bs us))(hm:NF m)(hR:rG R Z S ds)(h:F (.obj a::ds) S P qc)(kk:∀d S',P d S'->Q d S')(l:∀n S',qc n S'->y n S')(hl:ds.length+1=k:=by rfl) :
  tu A.fen m k F y (dC i A.off "fen_called" 2 (tZ A) y (bF (bU λS=>V) aO)) R Z S Q:=by
 refine qi hi hS zjq (dz (V:=λ_=>V) hV fP) (zhI hS) (λv S' hv=>?_) λe S' z=>?_
 .obtain⟨rfl,b,h1,rfl⟩:=hv;rw[ha]at h1;cases h1;exact⟨⟨_,hA,rfl,Io hm⟩,hR _ ⟨hl,uz h kk l⟩⟩
 .rw[ha]at z;cases z.2.2
end
def dM(S S':aJ):Prop:=∀a o,S a=some o->S' a=some o
def dM.refl(S:aJ):dM S S:=λ_ _ h=>h
def dM.trans{S S1 S2:aJ}(h:dM S S1)(k:dM S1 S2):dM S S2:=λa o z=>k a o (h a o z)
def znf{S:aJ}{a:Addr}{o:Ob}(h:S a=none):dM S (cW S a o):=λb u z=>by
 rw[gQ (λe=>by rw[e,h]at z;cases z)];exact z
section
variable{A:bN}{S:aJ}{q a:Addr}{fs:List (Str×Addr)}{Z:Env}{i:Nat}{V:WE}{n:Str}{ks bs us:List D}
def zm0{f:Str}{j:Nat}{xs:List D}{o:Ob}(hi:Z[i]?=some (.val (.obj a)))(hS:S a=some o)(hC:o.C=A.fen)(hf:lW o f j xs):iD (lw S i f A.fen) Z (xs.map D.old):=λP p=>by
 unfold lw;rw[hi];exact⟨_,j,xs,hS,hC,hf,p⟩
def zr5(hS:S a=some (aQ A ks bs us))(hk:ks.map D.old=ks)(hb:bs.map D.old=bs)(hu:us.map D.old=us):Hg A [.obj a] S (λv S'=>∃b,v=.obj b/\S b=none/\S'=cW S b (aQ A ks bs us)) (λ_ _=>False):=by
 refine iJ (m8 (eG a)) ?_;intro b hb0;refine uz zkh (λd S' h=>?_) λ_ _ z=>z;obtain⟨rfl,rfl⟩:=h;refine⟨rfl,?_⟩;have ab:a≠b:=λe=>by rw[e,hb0]at hS;cases hS
 have at_:∀{o:Ob},cW S b o a=some _:=λ{o}=>by rw[gQ ab];exact hS
 have old:∀{xs:List D},xs.map D.old=xs->(xs.map D.old).map D.old=xs:=λh=>by rw[h,h]
 show aN (gj 1 "kept" A.fen λS=>lw S 0 "kept" A.fen) _ _ _ [.val (.obj a),.val (.obj b)];refine Gp rfl (zm0 rfl at_ rfl HW) gK rfl (by show 3<100;decide) ?_;rw[qQ,old hk];show aN (gj 1 "books" A.fen λS=>lw S 0 "books" A.fen) _ _ _ [.val (.obj a),.val (.obj b)];refine Gp (q:=b) rfl (zm0 rfl at_ rfl Hj) gK rfl (by show 3<100;decide) ?_;rw[qQ,old hb];show aN (gj 1 "undone" A.fen λS=>lw S 0 "undone" A.fen) _ _ _ [.val (.obj a),.val (.obj b)];refine Gp (q:=b) rfl (zm0 rfl at_ rfl JM) gK rfl (by show 3<100;decide) ?_;rw[qQ,old hu];exact⟨b,rfl,hb0,rfl⟩
def zuM:NF "twin":=by decide
def zkr(hS:S q=some (cA A fs))(hn:fs.lookup n=some a)(hA:S a=some (aQ A ks bs us))(hk:ks.map D.old=ks)(hb:bs.map D.old=bs)(hu:us.map D.old=us):uf A [.obj q,.str n] S (λv S'=>∃b,v=.obj b/\S b=none/\S'=cW S b (aQ A ks bs us)) (λ_ _=>False):=by
 refine iJ (iG (eG q) (cC n)) ?_;exact G7 rfl hS (au rfl) hn hA zuM fP (zr5 hA hk hb hu) (λd S' h=>h) λ_ _ z=>z
def zka(hS:S q=some (cA A fs))(hl:fs.length<=1000):Bp A S [.obj q] (·=.lst true ((fs.map (·.1)).map D.str)):=by
 refine fV (m8 (n:=0) (eG q)) ?_;show Eo S 0 "fens" A.off [.val (.obj q)] _;unfold Eo;exact⟨_,0,_,_,hS,rfl,zh8,by rw[cY];exact hl,rfl⟩
def zma{s:Ya}{d:Yd}(hS:S q=some (cA A fs))(hn:fs.lookup n=some a)(hA:S a=some (aQ A s.ds (bs++[aX s]) us))(ok:fH s)(hx:vo d)(hb:bs.length<=1000) :
  wZ A [.obj q,.str n,yD d] S (λv S'=>why s d=none/\S'=cW S a (fenB A s d bs)) (λe S'=>why s d=some e/\S'=S):=by
 refine iJ (Z:=[.val (.obj q),.val (.str n),.val (yD d)]) (by unfold eU;simp[eG,pW,cC]) ?_;exact G7 (Z:=[.val (.obj q),.val (.str n),.val (yD d)]) (i:=0) (V:=vW 1) (ds:=[yD d]) rfl hS (au rfl) hn hA zqY (dz (V:=λ_=>vW 2) (au rfl) fP) (znL hA ok hx hb) (λd S' h=>⟨h.1,h.2.2⟩) λ_ _ z=>z
def zsw(hS:S q=some (cA A fs))(hx:Tx n)(h1:lR n=true)(h2:fs.lookup n=none)(hl:fs.length<1000):xN A [.obj q,.str n] S (λv S'=>∃b,S b=none/\S'=cW (cW S b (aQ A [] [aX fu] [])) q (cA A (fs++[(n,b)]))) (λ_ _=>False):=by
 refine iJ (iG (n:=0) (eG q) (cC n)) ?_;show aN (jR (dC 0 A.off "need_free" 2 (yz A) (λ_ _=>False) (bF (bU λS=>vW 1) aO))) _ _ S [.val (.obj q),.val (.str n)];refine qi (Z:=[.val (.obj q),.val (.str n)]) (i:=0) rfl hS zm2 (dz (V:=λ_=>vW 1) (au rfl) fP) (zko hS hx) (λv S' hv=>?_) λe S' z=>?_
 .obtain⟨rfl,_⟩:=hv;intro b hb0;refine uz zkh (λd S2 h=>?_) λ_ _ z=>z;obtain⟨rfl,rfl⟩:=h;have qb:q≠b:=λe=>by rw[e,hb0]at hS;cases hS
  refine⟨rfl,_,0,_,_,by rw[gQ qb];exact hS,rfl,zh8,by rw[cY];exact hl,qF (d:=.str n) rfl ?_⟩;refine⟨b,hb0,?_⟩;congr 1;have hc:(fs.map (·.1)).contains n=false:=by rw[zqL,h2];rfl
  unfold qW cA pL j6;rw[hc];simp[eG]
 .rcases z.2 with⟨z1,_⟩|⟨_,z2,_⟩
  .rw[h1]at z1;cases z1
  .rw[h2]at z2;cases z2
end
section
variable{A:bN}{S:aJ}{q a:Addr}{fs:List (Str×Addr)}{Z:Env}{i:Nat}{n:Str}{ks bs us:List D}{x y z:D}
def ztT{f:Str}{j:Nat}{xs:List D}{o:Ob}(hi:Z[i]?=some (.val (.obj a)))(hS:S a=some o)(hC:o.C=A.fen)(hf:lW o f j xs):gf (pN S i f A.fen) Z (!xs.isEmpty):=λP p=>by
 unfold pN;rw[hi];exact⟨_,j,xs,hS,hC,hf,p⟩
def zpu{f:Str}{j:Nat}{xs:List D}{o:Ob}(hi:Z[i]?=some (.val (.obj a)))(hS:S a=some o)(hC:o.C=A.fen)(hf:lW o f j xs):gf (lr (pN S i f A.fen)) Z xs.isEmpty:=λP p=>by
 refine ztT hi hS hC hf _ ?_;rw[Bool.not_not];exact p
def zrN(hS:S a=some (aQ A (ks++[x]) (bs++[y]) us))(hx:x.old=x)(hy:y.old=y)(hu:us.length<=1000):zfT A [.obj a] S (λ_ S'=>S'=cW S a (aQ A ks bs (us++[.tup [x,y]]))) (λ_ _=>False):=by
 refine iJ (m8 (eG a)) ?_;have et:=zpu (i:=0) (Z:=[.val _]) rfl hS rfl HW;rw[show(ks++[x]).isEmpty=false by simp]at et;refine DG et ?_;refine⟨_,2,0,1,us,ks,bs,x,y,hS,rfl,JM,HW,Hj,by decide,by decide,by decide,by omega,?_⟩;rw[hx,hy];rfl
def zpo(hS:S a=some (aQ A ks bs [])):Gi A [.obj a] S (λ_ _=>False) (λe S'=>e="NothingLeft" /\ S'=S):=by
 refine iJ (m8 (eG a)) ?_;have et:=zpu (i:=0) (Z:=[.val _,.un,.un]) rfl hS rfl JM;exact Er et ⟨by decide,rfl,rfl⟩
def zqq(hS:S a=some (aQ A ks bs (us++[.tup [x,y]])))(hx:x.old=x)(hy:y.old=y)(hk:ks.length<=1000)(hb:bs.length<=1000):Gi A [.obj a] S (λ_ S'=>S'=cW S a (aQ A (ks++[x]) (bs++[y]) us)) (λ_ _=>False):=by
 refine iJ (m8 (eG a)) ?_;have et:=zpu (i:=0) (Z:=[.val _,.un,.un]) rfl hS rfl JM;rw[show(us++[D.tup [x,y]]).isEmpty=false by simp]at et;refine DG et ?_;refine⟨_,2,us,.tup [x,y],hS,rfl,JM,?_⟩;rw[jB (by simp[hx,hy])];dsimp only;unfold gD j9;refine⟨rfl,?_⟩;unfold gD j9 gD j9;refine zop rfl gK (au rfl) (by omega) ?_;rw[hx,qQ];refine⟨_,1,bs,gK,rfl,Hj,qF rfl ⟨by omega,?_⟩⟩;rw[hy,qQ];rfl
def zuf:NF "back":=by decide
def zn6:NF "again":=by decide
def zpF(hS:S q=some (cA A fs))(hn:fs.lookup n=some a)(hA:S a=some (aQ A (ks++[x]) (bs++[y]) us))(hx:x.old=x)(hy:y.old=y)(hu:us.length<=1000):zdw A [.obj q,.str n] S (λ_ S'=>S'=cW S a (aQ A ks bs (us++[.tup [x,y]]))) (λ_ _=>False):=by
 refine iJ (iG (n:=0) (eG q) (cC n)) ?_;exact G7 rfl hS (au rfl) hn hA zuf fP (zrN hA hx hy hu) (λd S' h=>h) λ_ _ z=>z
def zpm(hS:S q=some (cA A fs))(hn:fs.lookup n=some a)(hA:S a=some (aQ A ks bs (us++[.tup [x,y]])))(hx:x.old=x)(hy:y.old=y)(hk:ks.length<=1000)(hb:bs.length<=1000):Dg A [.obj q,.str n] S (λ_ S'=>S'=cW S a (aQ A (ks++[x]) (bs++[y]) us)) (λ_ _=>False):=by
 refine iJ (iG (n:=0) (eG q) (cC n)) ?_;exact G7 (Z:=[.val (.obj q),.val (.str n)]) (i:=0) (V:=vW 1) rfl hS (au rfl) hn hA zn6 fP (zqq hA hx hy hk hb) (λd S' h=>h) λ_ _ z=>z
end
abbrev Rf(F:cD)(ds:List D)(S:aJ)(z:Str):Prop:=F ds S (λ_ _=>False) λe S'=>e=z/\dM S S'
section
variable{A:bN}{S:aJ}{q a b:Addr}{fs:List (Str×Addr)}{Z:Env}{i:Nat}{V:WE}{n m k x y:Str}{ks bs us:List D}{s:Ya}{z:Str}
def zk1{n:Nat}{d e f:D}(hd:d.old=d)(he:e.old=e)(hf:f.old=f):eU (n+3) [d,e,f]=.val d::.val e::.val f::List.replicate n .un:=by
 unfold eU;simp[hd,he,hf]
def zm9{n:Nat}{d e f g:D}(hd:d.old=d)(he:e.old=e)(hf:f.old=f)(hg:g.old=g):eU (n+4) [d,e,f,g]=.val d::.val e::.val f::.val g::List.replicate n .un:=by
 unfold eU;simp[hd,he,hf,hg]
def zQ{j:Nat}{B:WF}{E:iY}{Y:Str->aJ->Prop}(hi:Z[i]?=some (.val (.obj q)))(hS:S q=some (cA A fs))(hV:Ev V Z (.str n))(h:∀a,fs.lookup n=some a->B E S (Z.set j (.val (.obj a))))(l:fs.lookup n=none->Y "NoFen" S) :
  aN (f9 (.nm j) (dC i A.off "fen_called" 2 (tZ A) Y (bF (bU λS=>V) aO))) B E S Z:=by
 refine qi hi hS zjq (dz hV fP) (zhI hS) (λv S' hv=>?_) λe S' z=>?_
 .obtain⟨rfl,a,h1,rfl⟩:=hv;exact h a h1
 .obtain⟨rfl,rfl,z⟩:=z;exact l z
def zpS{B:WF}{E:iY}{Y:Str->aJ->Prop}(hi:Z[i]?=some (.val (.obj q)))(hS:S q=some (cA A fs))(hV:Ev V Z (.str n))(hx:Tx n)(hb:lR n=true)(h:fs.lookup n=none->B E S Z)(l:(fs.lookup n).isSome=true->Y "Known" S) :
  aN (jR (dC i A.off "need_free" 2 (yz A) Y (bF (bU λS=>V) aO))) B E S Z:=by
 refine qi hi hS zm2 (dz hV fP) (zko hS hx) (λv S' hv=>?_) λe S' z=>?_
 .obtain⟨rfl,_,h1⟩:=hv;exact h h1
 .obtain⟨rfl,z⟩:=z;rcases z with⟨z,_⟩|⟨_,z,rfl⟩
  .rw[hb]at z;cases z
  .exact l z
def zuA(hS:S q=some (cA A fs))(hx:Tx n)(hb:lR n=false):Rf (xN A) [.obj q,.str n] S "BadName":=by
 refine iJ (iG (eG q) (cC n)) ?_;refine qi (Z:=[.val _,.val _]) (i:=0) rfl hS zm2 (dz (au rfl) fP) (zko hS hx) (λv S' hv=>?_) λe S' z=>?_
 .rw[hb]at hv;cases hv.2.1
 .obtain⟨rfl,z⟩:=z;rcases z with⟨_,rfl⟩|⟨z,_⟩
  .exact⟨rfl,dM.refl _⟩
  .rw[hb]at z;cases z
def zpf(hS:S q=some (cA A fs))(hn:fs.lookup n=some a)(hx:Tx m)(hb:lR m=true)(hm:fs.lookup m=some b):Rf (Jh A) [.obj q,.str n,.str m] S "Known":=by
 refine iJ (zk1 (eG q) (cC n) (cC m)) ?_;refine zQ rfl hS (au rfl) (λa' _=>?_) λz=>?_
 .refine zpS rfl hS (au rfl) hx hb (λz=>?_) λ_=>⟨rfl,dM.refl _⟩;rw[hm]at z;cases z
 .rw[hn]at z;cases z
def zrH(hS:S q=some (cA A fs))(hn:fs.lookup n=none):Rf (Ft A) [.obj q,.str n] S "NoFen":=by
 refine iJ (iG (n:=0) (eG q) (cC n)) ?_;refine qi (Z:=[.val (.obj q),.val (.str n)]) (i:=0) rfl hS zjq (dz (V:=λ_=>vW 1) (au rfl) fP) (zhI hS) (λv S' hv=>?_) λe S' z=>?_
 .obtain⟨_,a,h,_⟩:=hv;rw[hn]at h;cases h
 .obtain⟨rfl,rfl,_⟩:=z;exact⟨rfl,dM.refl _⟩
def znN{Y:Str->Prop}{Q:D->Prop}{P:D->Prop}{qc:Str->Prop}{s:Ya}{x:Str}(h:uB [aX s,.str x] P qc){i j:Nat}{Z:Env}(hi:Z[i]?=some (.val (aX s)))(hj:Z[j]?=some (.val (.str x)))(k:∀d,P d->Q d)(l:∀n,qc n->Y n):my 2 uB Y (aA (vW i) (aA (vW j) aq)) Z Q:=qF (d:=aX s) hi (qF (d:=.str x) hj ⟨rfl,vD h k l⟩)
def zhT(ok:fH s)(hk:bQ x=true)(h0:bu s.pl x=0):uB [aX s,.str x] (λ_=>False) (·="NoMark"):=by
 refine pH (iG (n:=1) (lB s) (cC x)) ?_;refine j7 (dF (i:=0) rfl (b1 s)) ?_;refine qF (d:=.tup (s.pl.map gw)) (i:=2) (Z:=[.val (aX s),.val (.str x),.val (.tup (s.pl.map gw))]) rfl ?_;show my 2 ww _ (aA (vW 2) (aA (vW 1) aq)) [.val (aX s),.val (.str x),.val (.tup (s.pl.map gw))] λy=>Ei (s.pl.map gw) y _;refine qF (d:=.tup (s.pl.map gw)) (i:=2) (Z:=[.val (aX s),.val (.str x),.val (.tup (s.pl.map gw))]) rfl ?_;refine qF (d:=.str x) (i:=1) (Z:=[.val (aX s),.val (.str x),.val (.tup (s.pl.map gw))]) rfl ⟨rfl,vD (zX ok.p hk) (λ_ z=>?_) λ_ z=>z.1⟩;rw[h0]at z;exact absurd z.2 (YAR _)
def zlr{r:List D}(ok:fH s)(hk:bQ x=true)(h0:0<bu s.pl x)(hp:s.pl.map gw=gw (x,bu s.pl x)::r)(hi:nY (gw (x,bu s.pl x)) (s.pl.map gw))(he:eqB (gw (x,bu s.pl x)) (gw (x,bu s.pl x))=true):uB [aX s,.str x] (λ_=>True) (λ_=>False):=by
 refine pH (iG (n:=1) (lB s) (cC x)) ?_;refine j7 (dF (i:=0) rfl (b1 s)) ?_;refine qF (d:=.tup (s.pl.map gw)) (i:=2) (Z:=[.val (aX s),.val (.str x),.val (.tup (s.pl.map gw))]) rfl ?_;show my 2 ww _ (aA (vW 2) (aA (vW 1) aq)) [.val (aX s),.val (.str x),.val (.tup (s.pl.map gw))] λy=>Ei (s.pl.map gw) y _;refine qF (d:=.tup (s.pl.map gw)) (i:=2) (Z:=[.val (aX s),.val (.str x),.val (.tup (s.pl.map gw))]) rfl ?_;refine qF (d:=.str x) (i:=1) (Z:=[.val (aX s),.val (.str x),.val (.tup (s.pl.map gw))]) rfl ⟨rfl,vD (zX ok.p hk) (λd z=>?_) λ_ z=>by rw[z.2]at h0;exact absurd h0 (YAR _)⟩;rw[z.1];show Ei (s.pl.map gw) _ _;rw[hp]at hi ⊢;exact⟨hi,he,trivial⟩
def zup{V W:WE}{Z:Env}{K:List D->Prop}(h:V Z λd=>W Z λe=>K [d,e]):aA V (aA W aq) Z K:=h
def zvs{V:WE}{R:WL}{Z:Env}{K:List D->Prop}{d:D}(hV:Ev V Z d)(h:R Z λds=>K (d::ds)):aA V R Z K:=hV _ h
def zsQ{n:Nat}{F:Fn}{R:WL}{E:En}{Z:Env}(h:R Z λds=>ds.length=n/\up F ds E.rt):aU (dZ n F R) E Z:=h
def znp(ok:fH s)(h:uB [aX s,.str x] (λ_=>True) (λ_=>False))(hy:bQ y=true)(h0:bu s.pl y=0):zf0 [aX s,.str x,.str y] (λ_=>False) (·="NoMark"):=by
 refine pH (zk1 (n:=0) (lB s) (cC x) (cC y)) (zsQ ?_);refine zvs (au rfl) (zup ?_);refine znN h rfl rfl (λd _=>?_) λ_ z=>z.elim;exact znN (zhT ok hy h0) rfl rfl (λ_ z=>z.elim) λ_ z=>z
def zlO{n:Nat}{F:Fn}{R:WOA}{E:iY}(h:R Z S λds S1=>ds.length=n/\up F ds λd=>E.rt S1 d):j5 (vd n F R) E S Z:=h
def co1{A:WOE}{K:List D->aJ->Prop}(h:A Z S λd S1=>K [d] S1):bF A aO Z S K:=h
def zpR{n:Nat}{F:ik}{Y:Str->aJ->Prop}{R:WOA}{Q:D->aJ->Prop}{P:D->Prop}{qc:Str->Prop}{ds:List D}(hR:rG R Z S ds)(h:F ds P qc)(k:∀d,P d->Q d S)(l:∀e,qc e->Y e S)(hl:ds.length=n:=by rfl):uO n F Y R Z S Q:=hR _ ⟨hl,vD h k l⟩
def ztn{t:Tg}{B:WF}{E:iY}{n:Nat}{F:ik}{Y:Str->aJ->Prop}{R:WOA}{P:D->Prop}{qc:Str->Prop}{ds:List D}(hR:rG R Z S ds)(h:F ds P qc)(k:∀d,P d->gD t d Z λZ'=>B E S Z')(l:∀e,qc e->Y e S)(hl:ds.length=n:=by rfl):aN (f9 t (uO n F Y R)) B E S Z:=hR _ ⟨hl,vD h k l⟩
def zxY{i j:Nat}{A B:WOE}{o9:WF}{E:iY}(h:A Z S λd S1=>B Z S1 λe S2=>o9 E S2 ((Z.set i (.val d)).set j (.val e))):aN (Bl i j (bF A (bF B aO))) o9 E S Z:=h
section
variable(hA:S a=some (aQ A s.ds (bs++[aX s]) us))(ok:fH s)
include hA ok
def zps(h:uB [aX s,.str x] (λ_=>True) (λ_=>False))(hy:bQ y=true)(h0:bu s.pl y=0):Rf (Ho A) [.obj a,.str x,.str y] S "NoMark":=by
 refine iJ (zk1 (eG a) (cC x) (cC y)) ?_;exact zpR (dz (yV rfl hA) (dz (au rfl) (dz (au rfl) fP))) (znp ok h hy h0) (λ_ z=>z.elim) λ_ z=>⟨z,dM.refl _⟩
def zoV(hy:bQ x=true)(h0:bu s.pl x=0):Rf (JG A) [.obj a,.str x,.str y] S "NoMark":=by
 refine iJ (zk1 (n:=4) (eG a) (cC x) (cC y)) ?_;refine yZ (yV (i:=0) rfl hA) ?_;refine zxY ?_;exact zpR (dz (V:=λ_=>vW 3) (au rfl) (dz (V:=λ_=>vW 1) (au rfl) fP)) (zhT ok hy h0) (λ_ z=>z.elim) λ_ z=>⟨z,dM.refl _⟩
def zt1(hy:bQ x=true)(h0:bu s.pl x=0):Rf (CZ A) [.obj a,.str x] S "NoMark":=by
 refine iJ (iG (n:=4) (eG a) (cC x)) ?_;refine yZ (V:=λS=>dB S 0 A.fen "now" 1 (pq A) λ_ Q=>Q []) (yV (i:=0) rfl hA) ?_;refine ztn (dz (V:=λ_=>ak fX (vW 2) (kW (.str "stands"))) (dF rfl (b1 s)) (dz (V:=λ_=>vW 1) (au rfl) fP)) (zX ok.p hy) (λd z=>?_) λ_ z=>⟨z.1,dM.refl _⟩;rw[h0]at z;exact absurd z.2 (YAR _)
def zmK(hy:bQ x=true)(h0:bu s.pl x=1):Rf (CZ A) [.obj a,.str x] S "Steady":=by
 refine iJ (iG (n:=4) (eG a) (cC x)) ?_;refine yZ (V:=λS=>dB S 0 A.fen "now" 1 (pq A) λ_ Q=>Q []) (yV (i:=0) rfl hA) ?_;refine ztn (dz (V:=λ_=>ak fX (vW 2) (kW (.str "stands"))) (dF rfl (b1 s)) (dz (V:=λ_=>vW 1) (au rfl) fP)) (zX ok.p hy) (λd z=>?_) λ_ z=>by rw[h0]at z;cases z.2
 rw[z.1,h0];unfold gw gD;refine⟨rfl,?_⟩;unfold j9 gD j9 gD j9;exact Er (C:=λ_=>b8 (ak gV (vW 4) (kW (.int 1)))) (gZ (Do (s:=1) (t:=1) (au rfl) aF)) ⟨by decide,rfl,dM.refl _⟩
end
end
def uZ(xs ys:List Str):List Str:=xs++ys.filter λy=>!decide (y∈xs)
def znz{neg m:Bool}{A B:WE}{Z:Env}{x:Str}{hs:List Str}(hA:Ev A Z (.str x))(hB:Ev B Z (.lst m (hs.map D.str)))(hx:bQ x=true)(h:∀y∈hs,bQ y=true):Ev (ak (d7 neg) A B) Z (.bl (if neg then !decide (x∈hs)else decide (x∈hs))):=pJ hA hB λP p=>by
 show nY _ _/\P _;rw[zkc];exact⟨zl4 hx h,p⟩
def zn1(ws:List Str)(m:Bool):(D.lst m (ws.map D.str)).old=.lst false (ws.map D.str):=by
 rw[D.old];congr 1;rw[YAL];exact Ie λx _=>cC x
def znE{xs ys:List Str}{m l:Bool}(hx:∀x∈xs,bQ x=true)(hy:∀x∈ys,bQ x=true)(h1:xs.length<=1000)(h2:ys.length<=1000):Ea [.lst m (xs.map D.str),.lst l (ys.map D.str)] (·=.lst true ((uZ xs ys).map D.str)):=by
 refine fV (Z:=[.val (.lst false (xs.map D.str)),.val (.lst false (ys.map D.str))]) (by unfold eU;simp[zn1]) ?_;have hc:=znb (sub:=[none,some 0]) (Z:=[.val (.lst false (xs.map D.str)),.val (.lst false (ys.map D.str))]) (I:=iM (vW 1)) (C:=b8 (ak (d7 true) (vW 0) (vW 1))) (λy=>!decide _) (zH (au rfl)) (by omega) λx hx'=>gZ (znz (au rfl) (au rfl) (hy x hx') hx);refine m9 (pP (au rfl) (iW hc) ?_) ?_
 .rw[cY,cY]
  have:=YAT (λy=>!decide (y∈xs)) ys
  omega
 .unfold uZ;rw[lY]
def lQ(pl:List (Str×Nat)):List Str:=pl.filterMap λp=>if decide (((p.2:Nat):Int)=1)then some p.1 else none
def zmF(pl:List (Str×Nat)):pU pl=(lQ pl).map D.str:=by
 unfold pU lQ;rw[List.map_filterMap];congr 1
 funext p
 split<;>rfl
def t7(pl:List (Str×Nat))(r:Yr):Yd:=.run (gY pl r.a).1 (gY pl r.b).1 r.r r.h
def vL(s t:Ya):Int:=if t.al>s.al then t.al else s.al
def qD(s t:Ya):List Str:=uZ (bW s) (bW t)
def Cg(s t:Ya):List Yd:=(uZ (lQ s.pl) (lQ t.pl)).map Yd.mark++(qD s t).map Yd.hand++(s.rs.map (t7 s.pl)++t.rs.map (t7 t.pl))++((qD s t).filter λx=>decide (x∈fW s++fW t)).map Yd.aside++if decide (0<vL s t)then [Yd.allow (vL s t)]else []
def zld{w:Str}{f:Str->Yd}{sub:List (Option Nat)}{I:WL}{C:WT}{Z:Env}{hs:List Str}(p:Str->Bool)(hI:iD I Z (hs.map D.str))(hl:hs.length<=1000)(hf:∀x,yD (f x)=.tup [.str w,.str x])(hC:∀x∈hs,gf C ((fY sub Z).set 0 (.val (.str x))) (p x))(h0:0<(fY sub Z).length:=by exact Nat.zero_lt_succ _):iD (jD sub I (.nm 0) C (aW (aA (kW (.str w)) (aA (vW 0) aq)))) Z (((hs.filter p).map f).map yD):=by
 have:=ym (E:=aW _) D.str (λx=>if p x then some (yD (f x))else none) hs hI (by omega) λx hx=>by
  have e:=hC x hx;cases z:p x with
  |false=>rw[z]at e;exact zsP e
  |true=>
   rw[z]at e;refine Eg e ?_;rw[hf];exact dU (aH aF (aH (au (by rw[pZ h0])) bw))
 rw[YAL];have q:hs.filterMap (λx=>if p x then some (yD (f x))else none)=(hs.filter p).map (yD∘f):=by
  rw[<-List.filterMap_eq_map,List.filterMap_filter];rfl
 rw[<-q];exact this
section
variable{A:bN}{S:aJ}{a b:Addr}{s t:Ya}{bs us cs vs:List D}{Z:Env}
def zxT{F:WL}{i:Nat}{R:WS}{E:En}{xs:List D}(h:iD F Z xs)(q:R E (Z.set i (.own xs))):aM (vH i F) R E Z:=h _ q
def zsZ{i:Nat}{V:WE}{R:WS}{E:En}{xs ys:List D}{m:Bool}(hi:Z[i]?=some (.own xs))(hV:Ev V Z (.lst m ys))(hl:xs.length+ys.length<=100000)(q:R E (Z.set i (.own (xs++ys)))):aM (pR i V) R E Z:=by
 show pR i V _ Z;unfold pR;rw[hi];exact hV _ ⟨hl,q⟩
def zw9{I:WL}{t:Tg}{B R:WS}{E:En}{xs:List D}(h:iD I Z xs)(q:rT t B {E with nx:=R E} xs Z):aM (Cr I t B) R E Z:=h _ q
def zyD{i:Nat}{V:WE}{E:En}{d:D}{xs:List D}(hi:Z[i]?=some (.own xs))(hV:Ev V Z d)(hl:xs.length<100000)(q:E.nx (Z.set i (.own (xs++[d])))):qu i V E Z:=by
 unfold qu;rw[hi];exact hV _ ⟨hl,q⟩
def Ah:WS:=qu 3 (aW (aA (kW (.str "run")) (aA (vW 5) (aA (vW 7) (aA (vW 9) (aA (vW 10) aq))))))
def zZ:Tg:=.tp 7 (.cons (.nm 4) (.cons (.nm 5) (.cons (.nm 6) (.cons (.nm 7) (.cons (.nm 8) (.cons (.nm 9) (.cons (.nm 10) .nil)))))))
theorem zoi{E:En}{x0 x1 x2 z1 z2:Sl}:∀(ps:List (List (Str×Nat)×Yr))(acc:List D)(y1 y2 y3 y4 y5 y6 y7:Sl),acc.length+ps.length<=5000->(∀y1 y2 y3 y4 y5 y6 y7,E.nx [x0,x1,x2,.own (acc++ps.map λp=>yD (t7 p.1 p.2)),y1,y2,y3,y4,y5,y6,y7,z1,z2])->rT zZ Ah E (ps.map λp=>cH p.1 p.2) [x0,x1,x2,.own acc,y1,y2,y3,y4,y5,y6,y7,z1,z2]
 |[],acc,y1,y2,y3,y4,y5,y6,y7,_,q=>by have:=q y1 y2 y3 y4 y5 y6 y7;rw[ue,YAF]at this;exact this
 |p::ps,acc,_,_,_,_,_,_,_,hl,q=>by
  rw[YAA]at hl;refine⟨rfl,?_⟩;have ev:Ev (aW (aA (kW (.str "run")) (aA (vW 5) (aA (vW 7) (aA (vW 9) (aA (vW 10) aq)))))) [x0,x1,x2,.own acc,.val (.int p.2.n),.val (.str (gY p.1 p.2.a).1),.val (.int (gY p.1 p.2.a).2),.val (.str (gY p.1 p.2.b).1),.val (.int (gY p.1 p.2.b).2),.val (.int p.2.r),.val (.str p.2.h),z1,z2] (yD (t7 p.1 p.2)):=dU (ds:=[.str "run",.str (gY p.1 p.2.a).1,.str (gY p.1 p.2.b).1,.int p.2.r,.str p.2.h]) (aH aF (aH (au rfl) (aH (au rfl) (aH (au rfl) (aH (au rfl) bw)))));refine ev (λd=>acc.length<100000/\rT zZ Ah E (ps.map λp=>cH p.1 p.2) [x0,x1,x2,.own (acc++[d]),.val (.int p.2.n),.val (.str (gY p.1 p.2.a).1),.val (.int (gY p.1 p.2.a).2),.val (.str (gY p.1 p.2.b).1),.val (.int (gY p.1 p.2.b).2),.val (.int p.2.r),.val (.str p.2.h),z1,z2]) ⟨by omega,?_⟩;refine zoi ps (acc++[yD (t7 p.1 p.2)]) _ _ _ _ _ _ _ (by rw[iB];show acc.length+1+_<=_;omega) λy1 y2 y3 y4 y5 y6 y7=>?_
  have:=q y1 y2 y3 y4 y5 y6 y7
  rw[fj]at this;rw[Fx];exact this
def zrz(zs:List Yd)(m:Bool):(D.lst m (zs.map yD)).old=.lst false (zs.map yD):=by
 rw[D.old];congr 1;rw[YAL];exact Ie λx _=>pW x
def ztE(pl:List (Str×Nat)):(lQ pl).length<=pl.length:=List.length_filterMap_le _ _
def zvH{s:Ya}(ok:fH s):∀x∈lQ s.pl,bQ x=true:=λx hx=>by
 obtain⟨p,hp,e⟩:=Hw.mp hx;split at e<;>cases e
 exact zkq (ok.p.ok p hp)
def znF(xs ys:List Str):(uZ xs ys).length<=xs.length+ys.length:=by
 unfold uZ;rw[iB]
 have:=YAT (λy=>!decide (y∈xs)) ys
 omega
def zuI{xs ys:List Str}(hx:∀x∈xs,bQ x=true)(hy:∀x∈ys,bQ x=true):∀x∈uZ xs ys,bQ x=true:=λx h=>by
 rcases rJ.mp h with h|h
 .exact hx x h
 .exact hy x (v5.mp h).1
def zkm(hs:List Str):hs.filter (λ_=>true)=hs:=by simp
def ztz{s:Ya}(ok:fH s):∀x∈fW s,bQ x=true:=λx hx=>ok.h.bQ x (v5.mp hx).1
def zqx(s:Ya)(ok:fH s):(fW s).length<=10:=gJ (YAT _ _) (sX ok)
variable(hA:S a=some (aQ A s.ds (bs++[aX s]) us))(hB:S b=some (aQ A t.ds (cs++[aX t]) vs))(ok:fH s)(ok':fH t)
include hA ok in
theorem zi1:wW A S [.obj a] (·=.bl (decide ((lQ s.pl).length<s.pl.length))):=by
 refine fV (m8 (eG a)) ?_;refine m9 (Dh (Lr (mK rfl hA zlE (ziE hA))) (Lr (mK (i:=0) rfl hA zid (zfQ hA ok)))) ?_;rw[zmF,cY,cY];congr 1;simp only[Int.ofNat_lt]
include hA hB ok ok' in
theorem zo2:zc5 A S [.obj a,.obj b] (λv=>v.old=.lst false ((Cg s t).map yD)):=by
 refine fV (iG (n:=11) (eG a) (eG b)) ?_;have l1:=sX ok;have l2:=sX ok';have k1:=ok.p.ln;have k2:=ok'.p.ln;have m1:=ztE s.pl;have m2:=ztE t.pl;have hn:=znF (bW s) (bW t);have hm:=znF (lQ s.pl) (lQ t.pl);refine j7 (sJ (aH (mK (i:=0) rfl hA zk0 (zhl hA)) (aH (mK (i:=1) rfl hB zk0 (zhl hB)) bw)) (znE ok.h.bQ ok'.h.bQ (by omega) (by omega))) ?_;have mk:Ev (dZ 2 Ea (aA (dB S 0 A.fen "marks" 1 (xG A) λ_ Q=>Q []) (aA (dB S 1 A.fen "marks" 1 (xG A) λ_ Q=>Q []) aq))) [.val (.obj a),.val (.obj b),.val (.lst true ((qD s t).map D.str)),.un,.un,.un,.un,.un,.un,.un,.un,.un,.un] (.lst true ((uZ (lQ s.pl) (lQ t.pl)).map D.str)):=sJ (aH (mK (i:=0) rfl hA zid (zfQ hA ok)) (aH (mK (i:=1) rfl hB zid (zfQ hB ok')) bw)) (by rw[zmF,zmF];exact znE (zvH ok) (zvH ok') (by omega) (by omega));refine zxT (zld (f:=Yd.mark) (λ_=>true) (zH mk) (by omega) (λ_=>rfl) λ_ _=>zkp) ?_;refine zsZ (i:=3) rfl (iW (zld (f:=Yd.hand) (hs:=qD s t) (λ_=>true) (zH (au (i:=2) rfl)) (gJ hn (by omega)) (λ_=>rfl) λ_ _=>zkp)) ?_ ?_
 .simp only[zkm,cY];exact gJ (Nat.add_le_add hm hn) (by omega)
 rw[zkm,zkm]
 let ps:=s.rs.map (λr=>(s.pl,r))++t.rs.map λr=>(t.pl,r)
 have hps:s.rs.map (cH s.pl)++t.rs.map (cH t.pl)=ps.map λp=>cH p.1 p.2:=by
  show _=List.map _ (_++_);rw[lY,YAL,YAL];rfl
 have hpd:(s.rs.map (t7 s.pl)++t.rs.map (t7 t.pl)).map yD=ps.map λp=>yD (t7 p.1 p.2):=by
  show _=List.map _ (_++_);rw[lY,lY,YAL,YAL,YAL,YAL];rfl
 have hpl:ps.length<=80:=by
  show(_++_:List _).length<=80;rw[iB,cY,cY]
  have:=ok.rl
  have:=ok'.rl
  omega
 have er:iD (iM (ak bM (dB S 0 A.fen "runs" 1 (yu A) λ_ Q=>Q []) (dB S 1 A.fen "runs" 1 (yu A) λ_ Q=>Q []))) [.val (.obj a),.val (.obj b),.val (.lst true ((qD s t).map D.str)),.own (((uZ (lQ s.pl) (lQ t.pl)).map Yd.mark).map yD++((qD s t).map Yd.hand).map yD),.un,.un,.un,.un,.un,.un,.un,.un,.un] (ps.map λp=>cH p.1 p.2):=by
  rw[<-hps];exact zH (pP (mK (i:=0) rfl hA znq (ziM hA)) (mK (i:=1) rfl hB znq (ziM hB)) (by rw[cY,cY];have:=ok.rl;have:=ok'.rl;omega))
 refine zw9 (t:=zZ) (B:=Ah) er (zoi ps _ _ _ _ _ _ _ _ ?_ λy1 y2 y3 y4 y5 y6 y7=>?_)
 .simp only[iB,cY]
  have:(qD s t).length<=20:=gJ hn (by omega)
  omega
 rw[<-hpd];dsimp only;have ea:∀ Z:Env,Z[0]?=some (.val (.obj a))->Z[1]?=some (.val (.obj b))->Ev (ak bM (dB S 0 A.fen "asides" 1 (yP A) λ_ Q=>Q []) (dB S 1 A.fen "asides" 1 (yP A) λ_ Q=>Q [])) Z (.lst true ((fW s++fW t).map D.str)):=λZ h1 h2=>by
  rw[lY];exact pP (mK h1 hA zjr (zgj hA ok)) (mK h2 hB zjr (zgj hB ok')) (by rw[cY,cY];have:=zqx s ok;have:=zqx t ok';omega)
 refine j7 (ea _ rfl rfl) ?_;refine zsZ (i:=3) rfl (iW (zld (f:=Yd.aside) (hs:=qD s t) (λx=>decide (x∈fW s++fW t)) (zH (au (i:=2) rfl)) (gJ hn (by omega)) (λ_=>rfl) λx hx=>gZ (znz (neg:=false) (m:=true) (hs:=fW s++fW t) (au rfl) (au rfl) (zuI ok.h.bQ ok'.h.bQ x hx) λy hy=>(rJ.mp hy).elim (ztz ok y) (ztz ok' y)))) ?_ ?_
 .simp only[iB,cY]
  have:(qD s t).length<=20:=gJ hn (by omega)
  have:=YAT (λx=>decide (x∈fW s++fW t)) (qD s t)
  have:=ok.rl
  have:=ok'.rl
  omega
 refine j7 (d:=.int (vL s t)) (yr (aH (mK (i:=0) rfl hA zfZ (zd6 hA)) (aH (mK (i:=1) rfl hB zfZ (zd6 hB)) bw)) λP p=>p) ?_;have et:∀ Z:Env,Z[12]?=some (.val (.int (vL s t)))->gf (b8 (ak wM (vW 12) (kW (.int 0)))) Z (decide (0<vL s t)):=λZ h=>gZ (Dh (au h) aF);refine et _ rfl _ ?_;cases e:decide (0<vL s t)with
 |false=>
  show(D.lst true (((uZ (lQ s.pl) (lQ t.pl)).map Yd.mark).map yD++((qD s t).map Yd.hand).map yD++(s.rs.map (t7 s.pl)++t.rs.map (t7 t.pl)).map yD++(((qD s t).filter λx=>decide (x∈fW s++fW t)).map Yd.aside).map yD)).old=_;unfold Cg;rw[e,if_neg (by decide),YAF,<-lY,<-lY,<-lY,zrz]
 |true=>
  have ev:∀ Z:Env,Z[12]?=some (.val (.int (vL s t)))->Ev (aW (aA (kW (.str "allow")) (aA (vW 12) aq))) Z (.tup [.str "allow",.int (vL s t)]):=λZ h=>dU (aH aF (aH (au h) bw));rw[if_pos rfl];refine zyD (i:=3) rfl (ev _ rfl) ?_ ?_
  .simp only[iB,cY]
   have:(qD s t).length<=20:=gJ hn (by omega)
   have:=YAT (λx=>decide (x∈fW s++fW t)) (qD s t)
   have:=ok.rl
   have:=ok'.rl
   omega
  .show(D.lst true (((uZ (lQ s.pl) (lQ t.pl)).map Yd.mark).map yD++((qD s t).map Yd.hand).map yD++(s.rs.map (t7 s.pl)++t.rs.map (t7 t.pl)).map yD++(((qD s t).filter λx=>decide (x∈fW s++fW t)).map Yd.aside).map yD++[yD (.allow (vL s t))])).old=_;unfold Cg;rw[e,if_pos rfl,<-lY,<-lY,<-lY,show [yD (.allow (vL s t))]=[Yd.allow (vL s t)].map yD from rfl,<-lY,zrz]
end
def zvV{S0 S:aJ}{q:Addr}{o:Ob}(h:dM S0 S)(hq:S0 q=none):dM S0 (cW S q o):=λa u z=>by
 rw[gQ (λe=>by rw[e,hq]at z;cases z)];exact h a u z
section
variable{A:bN}{S:aJ}{v:D}{zs:List Yd}{nm:Str}
def zoL(hv:v.old=.lst false (zs.map yD))(hx:∀d∈zs,vo d)(hl:zs.length<=800):zic A [v] S (λ_ _=>qt fu zs=none) (λn S'=>qt fu zs=some n/\dM S S'):=by
 refine iJ (Z:=[.val (.lst false (zs.map yD)),.un,.un]) (by unfold eU;simp[hv]) ?_;intro q hq;refine uz zkh (λd S' h=>?_) λ_ _ z=>z.elim;obtain⟨rfl,rfl⟩:=h;refine⟨rfl,?_⟩;refine zgH (λrest S1 Z=>∃zr s n x2 bs us,rest=zr.map yD/\Z=[.val _,.val _,x2]/\S1 q=some (aQ A s.ds (bs++[aX s]) us)/\fH s/\s.ds.length<=n/\bs.length<=n/\n+zr.length<=800/\(∀d∈zr,vo d)/\qt fu zs=qt s zr/\dM S S1) ?_ ?_ _ _ _ ⟨zs,fu,0,.un,[],[],rfl,rfl,gK,yC,by simp[fu],by simp,by omega,hx,rfl,znf hq⟩
 .rintro x rest S1 Z E' hnx _ _ _ ⟨zr,s,n,x2,bs,us,e,rfl,hS,ok,h1,h2,h3,h4,h5,h6⟩;cases zr with
  |nil=>cases e
  |cons d zr=>
   injection e with e1 e2
   subst e1;rw[YAA]at h3;unfold gD;refine zsz rfl hS zqY (dz (au rfl) fP) (znL hS ok (h4 d lF) (by omega)) (λv S' h=>?_) λn S' z=>by rw[h5,qt,z.1,z.2];exact⟨rfl,h6⟩
   obtain⟨hw,_,rfl⟩:=h;have tx:=h4 d lF;refine hnx _ _ ⟨zr,kh s d,n+1,.val _,bs++[aX s],[],e2,rfl,gK,zif ok tx hw (by omega),?_,?_,by omega,λy hy=>h4 y (fL _ hy),?_,zvV h6 hq⟩
   .show(s.ds++[_]).length<=_;rw[iB];show s.ds.length+1<=_;omega
   .rw[iB];show bs.length+1<=_;omega
   .rw[h5,qt,hw]
 .rintro S1 Z ⟨zr,s,n,x2,bs,us,e,rfl,hS,ok,_,_,_,_,h5,h6⟩;cases zr with
  |cons d zr=>cases e
  |nil=>exact h5
end
section
variable{A:bN}{S:aJ}{q a b:Addr}{fs:List (Str×Addr)}{n m k:Str}{s t:Ya}{bs us cs vs:List D}
def znM{F:aJ->Fn}{R:WL}{Z:Env}{ds:List D}{d:D}{n:Nat}(hR:iD R Z ds)(h:F S ds (·=d))(hl:ds.length=n:=by rfl):Ev (xR S n F R) Z d:=λP p=>hR _ ⟨hl,pC h λe z=>by subst z;exact p⟩
variable(hA:S a=some (aQ A s.ds (bs++[aX s]) us))(hB:S b=some (aQ A t.ds (cs++[aX t]) vs))(ok:fH s)(ok':fH t)
include hA hB ok ok'
def zqb:gf (um (gU (xR S 1 (wW A) (aA (vW 0) aq))) (gU (xR S 1 (wW A) (aA (vW 1) aq)))) [.val (.obj a),.val (.obj b)] (decide ((lQ s.pl).length<s.pl.length) || decide ((lQ t.pl).length<t.pl.length)):=zv4 (zpY (znM (aH (au rfl) bw) (zi1 hA ok))) λ_=>zpY (znM (aH (au rfl) bw) (zi1 hB ok'))
def znl(h:(decide ((lQ s.pl).length<s.pl.length) || decide ((lQ t.pl).length<t.pl.length))=true):Rf (Dq A) [.obj a,.obj b] S "Settled":=by
 refine iJ (iG (eG a) (eG b)) ?_;have e:=zqb hA hB ok ok';rw[h]at e;exact Er e ⟨by decide,rfl,dM.refl _⟩
def zqp{z:Str}(h:(decide ((lQ s.pl).length<s.pl.length) || decide ((lQ t.pl).length<t.pl.length))=false)(hx:∀d∈Cg s t,vo d)(hl:(Cg s t).length<=800)(hz:qt fu (Cg s t)=some z):Rf (Dq A) [.obj a,.obj b] S z:=by
 refine iJ (iG (n:=0) (eG a) (eG b)) ?_;have e:=zqb hA hB ok ok';rw[h]at e;refine DG (C:=λS=>um (gU (xR S 1 (wW A) (aA (vW 0) aq))) (gU (xR S 1 (wW A) (aA (vW 1) aq)))) e ?_;refine qF (d:=.obj a) (i:=0) (Z:=[.val (.obj a),.val (.obj b)]) rfl (qF (d:=.obj b) (i:=1) (Z:=[.val (.obj a),.val (.obj b)]) rfl ⟨rfl,pC (zo2 hA hB ok ok') λv hv=>?_⟩);refine⟨rfl,uz (zoL hv hx hl) (λd S' y=>?_) λe S' y=>?_⟩
 .rw[hz]at y;cases y
 .rw[hz]at y;exact⟨(Option.some.inj y.1).symm,y.2⟩
end
section
variable{A:bN}{S:aJ}{q a b:Addr}{fs:List (Str×Addr)}{n m k z:Str}{Z:Env}{i:Nat}{V:WE}{ks bs us:List D}
def Fw{c:Nat}{F:cD}{y qc:Str->aJ->Prop}{R:WOA}{Q P:D->aJ->Prop}{ds:List D}(hR:rG R Z S ds)(h:F ds S P qc)(k:∀d S',P d S'->Q d S')(l:∀e S',qc e S'->y e S')(hl:ds.length=c:=by rfl):wB c F y R Z S Q:=hR _ ⟨hl,uz h k l⟩
variable(hS:S q=some (cA A fs))
include hS
def zoZ(hm:fs.lookup m=none)(hn:fs.lookup n=some a):Rf (zV A) [.obj q,.str n,.str m,.str k] S "NoFen":=by
 refine iJ (zm9 (eG q) (cC n) (cC m) (cC k)) ?_;refine zQ rfl hS (au rfl) (λa' _=>?_) λz=>by rw[hn]at z;cases z
 refine zQ (i:=0) rfl hS (au rfl) (λb' e=>?_) λz=>⟨rfl,dM.refl _⟩;rw[hm]at e;cases e
def zqT(hn:fs.lookup n=some a)(hk:bQ n=true):Rf (zV A) [.obj q,.str n,.str n,.str k] S "Same":=by
 refine iJ (zm9 (eG q) (cC n) (cC n) (cC k)) ?_;refine zQ rfl hS (au rfl) (λa' _=>?_) λz=>by rw[hn]at z;cases z
 refine zQ (i:=0) rfl hS (au rfl) (λb' e=>?_) λz=>by rw[hn]at z;cases z
 have ev:gf (b8 (ak gV (vW 1) (vW 2))) [.val (.obj q),.val _,.val _,.val (.str k),.val (.obj a'),.val (.obj b')] _:=gZ (zN (au rfl) (au rfl) hk hk);rw[iQ rfl]at ev;exact Er ev ⟨by decide,rfl,dM.refl _⟩
def zqO(hn:fs.lookup n=some a)(hm:fs.lookup m=some b)(hnm:n≠m)(h1:bQ n=true)(h2:bQ m=true)(hx:Tx k)(hb:lR k=true)(hk:fs.lookup k=none)(h:Rf (Dq A) [.obj a,.obj b] S z):Rf (zV A) [.obj q,.str n,.str m,.str k] S z:=by
 refine iJ (zm9 (n:=2) (eG q) (cC n) (cC m) (cC k)) ?_;refine zQ (i:=0) (V:=vW 1) (n:=n) rfl hS (au rfl) (λa' e1=>?_) λz=>by rw[hn]at z;cases z
 rw[hn]at e1;cases e1;refine zQ (i:=0) (V:=vW 2) (n:=m) rfl hS (au rfl) (λb' e2=>?_) λz=>by rw[hm]at z;cases z
 rw[hm]at e2;cases e2;have ev:gf (b8 (ak gV (vW 1) (vW 2))) [.val (.obj q),.val (.str n),.val (.str m),.val (.str k),.val (.obj a),.val (.obj b)] (decide (n=m)):=gZ (zN (au rfl) (au rfl) h1 h2);rw[jq hnm]at ev;refine DG (C:=λ_=>b8 (ak gV (vW 1) (vW 2))) ev ?_;refine zpS (i:=0) (V:=vW 3) (n:=k) rfl hS (au rfl) hx hb (λ_=>?_) λy=>by rw[hk]at y;cases y
 unfold Ij;exact Fw (dz (V:=λ_=>vW 4) (au rfl) (dz (V:=λ_=>vW 5) (au rfl) fP)) h (λ_ _ y=>y.elim) λ_ _ y=>y
def zkv{M:Str}{c:Nat}{F:cD}{y:Str->aJ->Prop}{R:WOA}{Q:D->aJ->Prop}{ds:List D}(hi:Z[i]?=some (.val (.obj q)))(hV:Ev V Z (.str n))(hn:fs.lookup n=some a)(hA:S a=some (aQ A ks bs us))(hk:ks.map D.old=ks)(hb:bs.map D.old=bs)(hu:us.map D.old=us)(hm:NF M)(hR:∀S',rG R Z S' ds)(h:∀S' c,S' c=some (aQ A ks bs us)->Rf F (.obj c::ds) S' z)(l:∀S',dM S S'->y z S')(hl:ds.length+1=c:=by rfl) :
  tu A.fen M c F y (dC i A.off "view" 2 (uf A) y (bF (bU λS=>V) aO)) R Z S Q:=by
 refine qi hi hS (by decide) (dz (V:=λ_=>V) hV fP) (zkr hS hn hA hk hb hu) (λv S' hv=>?_) λe S' z=>z.elim;obtain⟨c,rfl,h0,rfl⟩:=hv;refine⟨⟨_,gK,rfl,Io hm⟩,hR _ _ ⟨hl,uz (h _ c gK) (λ_ _ y=>y.elim) λe S2 y=>?_⟩⟩;rw[y.1];exact l _ ((znf h0).trans y.2)
end
section
variable{A:bN}{S:aJ}{q a:Addr}{fs:List (Str×Addr)}{n m k x y z:Str}{Z:Env}{i:Nat}{ks bs us:List D}{ws:List Str}
def eQ{i j:Nat}{c:Bool}{w:Str}(hi:Z[i]?=some (.val (.lst c (ws.map D.str))))(h:ws[j]?=some w):Ev (ak bC (vW i) (kW (.int j))) Z (.str w):=zs2 (au hi) aF (wj (by rw[YAG,h];rfl))
def zow(c:Bool):(D.lst c (ws.map D.str)).old=.lst false (ws.map D.str):=zn1 ws c
def ut{c:Nat}{B:(Str->aJ->Prop)->WF}{Q:D->aJ->Prop}{Y:Str->aJ->Prop}(h:B Y {nx:=λS' _=>Q .non S',rt:=λS' d=>Q d S',bk:=λ_ _=>False,ct:=λ_ _=>False} S (.val (.obj q)::.val (.lst false (ws.map D.str))::List.replicate c .un)){b:Bool}:bY (c+2) B [.obj q,.lst b (ws.map D.str)] S Q Y:=iJ (by rw[zqi,eG,zow]) h
def Fl{M:Str}{c:Nat}{F:cD}{y:Str->aJ->Prop}{R:WOA}{Q:D->aJ->Prop}{ds:List D}(hS:S q=some (cA A fs))(hi:Z[i]?=some (.val (.obj q)))(hm:NO M)(hR:rG R Z S ds)(h:Rf F (.obj q::ds) S z)(l:∀S',dM S S'->y z S')(hl:ds.length+1=c:=by rfl):dC i A.off M c F y R Z S Q:=qi hi hS hm hR h (λ_ _ y=>y.elim) (λe S' y=>by rw[y.1];exact l _ y.2) hl
def Ce{A:WOE}{B:WF}{E:iY}(h:A Z S λ_ S'=>B E S' Z):aN (jR A) B E S Z:=h
def znY{t:Tg}{A:WOE}{B:WF}{E:iY}(h:A Z S λd S'=>gD t d Z λZ'=>B E S' Z'):aN (f9 t A) B E S Z:=h
abbrev Row(ws:List Str)(b:Bool):D:=.lst b (ws.map D.str)
variable(hS:S q=some (cA A fs)){b:Bool}
include hS
def zuc(h1:ws[1]?=some n)(h:Rf (xN A) [.obj q,.str n] S z):Rf (zdx A) [.obj q,Row ws b] S z:=by
 refine ut (c:=0) (Ce ?_);exact Fl hS rfl (by decide) (dz (eQ rfl h1) fP) h λ_ e=>⟨rfl,e⟩
def zun(h1:ws[1]?=some n)(h2:ws[2]?=some m)(h:Rf (Jh A) [.obj q,.str n,.str m] S z):Rf (zdB A) [.obj q,Row ws b] S z:=by
 refine ut (c:=0) (Ce ?_);exact Fl hS rfl (by decide) (dz (eQ rfl h1) (dz (eQ rfl h2) fP)) h λ_ e=>⟨rfl,e⟩
def zr6(h1:ws[1]?=some n)(h:Rf (Ft A) [.obj q,.str n] S z):Rf (zc4 A) [.obj q,Row ws b] S z:=by
 refine ut (c:=0) (Ce ?_);exact Fl hS rfl (by decide) (dz (eQ rfl h1) fP) h λ_ e=>⟨rfl,e⟩
def zkS(h1:ws[1]?=some n)(h2:ws[2]?=some m)(h3:ws[3]?=some k)(h:Rf (zV A) [.obj q,.str n,.str m,.str k] S z):Rf (Aw A) [.obj q,Row ws b] S z:=by
 refine ut (c:=0) (Ce ?_);exact Fl hS rfl (by decide) (dz (eQ rfl h1) (dz (eQ rfl h2) (dz (eQ rfl h3) fP))) h λ_ e=>⟨rfl,e⟩
def zsh(h1:ws[1]?=some n)(h:Rf (Dg A) [.obj q,.str n] S z):Rf (Jp A) [.obj q,Row ws b] S z:=by
 refine ut (c:=0) (Ce ?_);exact Fl hS rfl (by decide) (dz (eQ rfl h1) fP) h λ_ e=>⟨rfl,e⟩
variable(hn:fs.lookup n=some a)(hA:S a=some (aQ A ks bs us))(hk:ks.map D.old=ks)(hb:bs.map D.old=bs)(hu:us.map D.old=us)(h1:ws[1]?=some n)(h2:ws[2]?=some x)
include hn hA hk hb hu h1 h2
def zp1(h3:ws[3]?=some y)(h:∀S' c,S' c=some (aQ A ks bs us)->Rf (Ho A) [.obj c,.str x,.str y] S' z):Rf (zcK A) [.obj q,Row ws b] S z:=by
 refine ut (c:=0) ?_;exact zlO (co1 (zkv (i:=0) (ds:=[.str x,.str y]) hS rfl (eQ (j:=1) rfl h1) hn hA hk hb hu (by decide) (λS'=>dz (V:=λ_=>ak bC (vW 1) (kW (.int 2))) (eQ (j:=2) rfl h2) (dz (V:=λ_=>ak bC (vW 1) (kW (.int 3))) (eQ (j:=3) rfl h3) fP)) h λ_ e=>⟨rfl,e⟩))
def zqR(h:∀S' c,S' c=some (aQ A ks bs us)->Rf (CZ A) [.obj c,.str x] S' z):Rf (Km A) [.obj q,Row ws b] S z:=by
 refine ut ?_;exact zlO (co1 (zkv hS rfl (eQ rfl h1) hn hA hk hb hu (by decide) (λS'=>dz (eQ rfl h2) fP) h λ_ e=>⟨rfl,e⟩))
def zoQ(h3:ws[3]?=some y)(h:∀S' c,S' c=some (aQ A ks bs us)->Rf (JG A) [.obj c,.str x,.str y] S' z):Rf (zcg A) [.obj q,Row ws b] S z:=by
 refine ut (c:=1) (znY ?_);exact zkv hS rfl (eQ rfl h1) hn hA hk hb hu (by decide) (λS'=>dz (eQ rfl h2) (dz (eQ rfl h3) fP)) h λ_ e=>⟨rfl,e⟩
end
def GK{x w:Str}{ts ks:List Str}(hx:x.length<=100000)(hs:Txt.split x sB=w::ts)(h:ni w ts ks):vp [.str x] (·=.tup (.str w::(ks.zip ts).map jt)) (λ_=>False):=by
 unfold vp eZ;rw[zxf];have hf:=h.few;have hzl:(ks.zip ts).length<=100000:=by rw[Bf];omega
 have hkl:=h.len;refine⟨⟨by decide,hx⟩,?_⟩;rw[hs];refine⟨by rw[cY];omega,?_⟩;dsimp only[aM,iI,um,List.set];refine in_G (i:=1) ?_ h.form ?_
 .rfl
 refine zwP (x:=.int ks.length) (y:=.int ts.length) (λP q=>?_) (λP q=>?_) (Du _ _) ?_
 .refine Gh (i:=1) ?_ h.form ?_
  .rfl
  show P (.int (ks.map D.str).length);rw[cY];exact q
 .show P (.int (ts.map D.str).length);rw[cY];exact q
 rw[Ih,hkl,iQ rfl];rw[if_neg (by decide)];dsimp only[cX,aM,bh];refine Gh (i:=1) ?_ h.form ?_
 .rfl
 refine⟨by rw[K7,cY];exact hzl,zoh (λp=>.tup [.str p.1,.str p.2]) (λp=>.bl (Ae p.1 p.2)) (ks.zip ts) (K7 ks ts) (λp hp Y N y=>⟨rfl,rfl,pC (zhs p.1 p.2 (h.oks _ (GF hp).1) (by have:=(h.okt _ (GF hp).2).2;omega) (h.okt _ (GF hp).2).1) λd hd=>by subst hd;exact y⟩) ?_⟩;refine zia (f:=λp:Str×Str=>Ae p.1 p.2) (xs:=ks.zip ts) (n:=true) ?_;rw[show((ks.zip ts).all λp=>Ae p.1 p.2)=true from YAH.mpr h.writ];refine⟨by rw[K7,cY];exact hzl,zoh (λp=>.tup [.str p.1,.str p.2]) jt (ks.zip ts) (K7 ks ts) (λp hp Y N y=>⟨rfl,BR (h.oks _ (GF hp).1) dX,?_⟩) ?_⟩
 .show if eqB (.str p.1) (.str kN)=true then Y (.str p.2)else _;rw[yS];have y:Y (jt p):=y;unfold jt at y;by_cases hk:p.1=kN
  .rw[if_pos (iQ hk)];rw[if_pos hk]at y;exact y
  .rw[if_neg (by rw[jq hk];decide)];rw[if_neg hk]at y;obtain⟨n,hn⟩:=h.num p hp hk;rw[hn]at y;refine⟨(h.okt _ (GF hp).2).2,?_⟩;rw[hn];exact y
 .refine⟨by show 1<=100000;decide,by show 1+((ks.zip ts).map jt).length<=100000;rw[cY,Bf];omega,?_⟩;rfl
section
variable{A:bN}{S:aJ}{q a:Addr}{fs:List (Str×Addr)}{n m k x y z w:Str}{Z:Env}{i:Nat}{bs us:List D}{ws ts:List Str}{b:Bool}{s:Ya}{d:Yd}
def zyR{c:Nat}{F:ik}{Y:Str->aJ->Prop}{R R':WOA}{ds ds':List D}{e:D}(hR:rG R Z S ds)(h:F ds (·=e) λ_=>False)(hR':rG R' Z S ds')(hl:ds.length=c:=by rfl):rG (bF (uO c F Y R) R') Z S (e::ds'):=λK k=>hR _ ⟨hl,vD h (λ_ z=>by subst z;exact hR' _ k) λ_ z=>z.elim⟩
def zq0{V:WE}(hV:Ev V Z (.lst b (ts.map D.str)))(h:∀t∈ts,t.length<=2000)(hl:ts.length<=2000):Ev (uI CK (kW (.str " ")) V) Z (.str (Str.join sB ts)):=λP p=>hV _ ⟨ts,rfl,h,hl,by decide,p⟩
def zqC{i:Nat}{w n:Str}(hi:Z[i]?=some (.val (.lst b ((w::n::ts).map D.str)))):Ev (nU (vW i) (yH (kW (.int 2))) yL) Z (.lst true (ts.map D.str)):=λP p=>by
 refine zwW (au hi) (znZ aF) ztg _ ?_;have e:cutD ((w::n::ts).map D.str) (some 2) none=ts.map D.str:=zwm (by simp);rw[e];exact p
def zyi(hS:S q=some (cA A fs))(hn:fs.lookup n=some a)(hA:S a=some (aQ A s.ds (bs++[aX s]) us))(ok:fH s)(hx:vo d)(hb:bs.length<=1000)(h1:∀t∈ts,t.length<=2000)(h2:ts.length<=2000)(hd:vp [.str (Str.join sB ts)] (·=yD d) λ_=>False)(hw:why s d=some z):Rf (zgv A) [.obj q,Row (w::n::ts) b] S z:=by
 refine ut (c:=1) (znY ?_);refine qi rfl hS (by decide) (dz (eQ rfl rfl) (zyR (dz (zq0 (zqC rfl) h1 h2) fP) hd fP)) (zma hS hn hA ok hx hb) (λv S' h=>?_) λe S' y=>?_
 .rw[hw]at h;cases h.1
 .obtain⟨y1,rfl⟩:=y;rw[hw]at y1;exact⟨(Option.some.inj y1).symm,dM.refl _⟩
def ztf{F:cD}{f:Addr}{P:D->aJ->Prop}{zz:Str}(h0:ws[0]?=some w)(hl:(vQ A).lookup w=some (.obj f))(hm:(f,F)∈fK A)(h:F [.obj q,Row ws false] S P λe S'=>e=z/\dM S S')(hz:[(("BadName":Str),("no BadName":Str)),("Taken","no Taken"),("Full","no Full"),("NoMark","no NoMark"),("NoHand","no NoHand"),("Same","no Same"),("BadRise","no BadRise"),("NoRun","no NoRun"),("Aside","no Aside"),("NotAside","no NotAside"),("BadNumber","no BadNumber"),("NothingLeft","no NothingLeft"),("Steady","no Steady"),("Known","no Known"),("NoFen","no NoFen"),("Settled","no Settled")].lookup z=some zz) :
  Em A [.obj q,Row ws b] S (λv S'=>P v S'\/v=.str zz/\dM S S') λ_ _=>False:=by
 refine ut ?_;refine yZ (λP p=>eQ rfl h0 _ (by show Br _ P;rw[hl];exact p)) ?_;refine⟨λe S'=>e=z/\dM S S',?_,λnm S' y=>⟨zz,by rw[y.1];exact hz,.inr ⟨rfl,y.2⟩⟩⟩;refine⟨F,hm,?_⟩;exact dz (au rfl) (dz (au rfl) fP) _ ⟨rfl,uz h (λd S' y=>.inl y) λ_ _ y=>y⟩
def zoq(h0:ws[0]?=some w)(he:("":Str)∉ws)(hk:∀t∈ws,bQ t=true)(hin:w≠"in")(hl:b7.lookup w=some (.int ws.length)):DR A [Row ws b] S (λv S'=>v=.bl true/\S'=S) λ_ _=>False:=by
 refine iJ (Z:=[.val (Row ws false)]) (by unfold eU;simp[zow]) ?_;have e1:gf (b8 (ak (d7 false) (kW (.str "")) (vW 0))) [.val (Row ws false)] _:=gZ (znz (neg:=false) aF (au rfl) dX hk);rw[jq he]at e1;refine e1 _ ?_;have e2:gf (b8 (ak gV (ak bC (vW 0) (kW (.int 0))) (kW (.str "in")))) [.val (Row ws false)] _:=gZ (zN (eQ (j:=0) rfl h0) aF (hk w (YBH h0)) dX);rw[jq hin]at e2;refine DG (C:=λ_=>b8 (ak gV (ak bC (vW 0) (kW (.int 0))) (kW (.str "in")))) e2 ?_;have e3:Ev (zr1 b7 (ak bC (vW 0) (kW (.int 0)))) [.val (Row ws false)] (.int ws.length):=λP p=>eQ rfl h0 _ (by show P _;rw[hl];exact p);have e4:Ev (ak gV (zr1 b7 (ak bC (vW 0) (kW (.int 0)))) (cbW mj (aA (vW 0) aq))) [.val (Row ws false)] _:=Do e3 (Lr (au rfl));rw[cY,iQ rfl]at e4;exact e4 _ ⟨rfl,rfl⟩
def zpe{e:D}(h1:∀t∈ts,t.length<=2000)(h2:ts.length<=2000)(hd:vp [.str (Str.join sB ts)] (·=e) λ_=>False):zgQ A [Row ts b] S (λv S'=>v=.bl true/\S'=S) λ_ _=>False:=by
 refine iJ (Z:=[.val (Row ts false)]) (by unfold eU;simp[zow]) (⟨λ_ _=>False,?_,λ_ _ z=>z.elim⟩);exact zpR (dz (zq0 (au rfl) h1 h2) fP) hd (λ_ _=>⟨rfl,rfl⟩) λ_ z=>z
def znh{e:D}{n:Str}(he:("":Str)∉("in"::n::ts:List Str))(hk:∀t∈("in"::n::ts:List Str),bQ t=true)(h1:∀t∈ts,t.length<=2000)(h2:ts.length<=2000)(hd:vp [.str (Str.join sB ts)] (·=e) λ_=>False):DR A [Row ("in"::n::ts) b] S (λv S'=>v=.bl true/\S'=S) λ_ _=>False:=by
 refine iJ (Z:=[.val (Row ("in"::n::ts) false)]) (by unfold eU;simp[zow]) ?_;have e1:gf (b8 (ak (d7 false) (kW (.str "")) (vW 0))) [.val (Row ("in"::n::ts) false)] _:=gZ (znz aF (au rfl) dX hk);rw[jq he]at e1;refine e1 _ ?_;have e2:gf (b8 (ak gV (ak bC (vW 0) _) (kW (.str "in")))) [.val (Row ("in"::n::ts) false)] _:=gZ (zN (eQ (j:=0) rfl rfl) aF dX dX);refine Er (C:=λ_=>b8 _) e2 ?_;exact Fw (dz (zqC rfl) fP) (zpe h1 h2 hd) (λ_ _ y=>y) λ_ _ y=>y
def zvI{C:WOE}{o9 V B:WF}{E:iY}(h:C Z S λd S1=>lH d λt=>if t=true then V {E with nx:=B E} S1 Z else o9 {E with nx:=B E} S1 Z):aN (pX C o9 V) B E S Z:=h
def zmx{x:Str}{P:D->aJ->Prop}(hs:Txt.split x sB=ws)(hx:x.length<=100000)(hf:DR A [Row ws true] S (λv S'=>v=.bl true/\S'=S) λ_ _=>False)(ho:Em A [.obj q,Row ws true] S P λ_ _=>False):Bh A [.obj q,.str x] S P λ_ _=>False:=by
 refine iJ (iG (n:=0) (eG q) (cC x)) ?_;refine Fw (dz (V:=λ_=>vW 0) (au rfl) (dz (V:=λ_=>vW 1) (au rfl) fP)) ?_ (λ_ _ y=>y) λ_ _ y=>y;refine iJ (iG (n:=1) (eG q) (cC x)) ?_;refine yZ (λP p=>qF rfl ⟨⟨by decide,hx⟩,by rw[hs];exact p⟩) ?_;refine zvI (Fw (dz (V:=λ_=>vW 2) (au rfl) fP) hf (λd S' y=>?_) λ_ _ y=>y);obtain⟨rfl,rfl⟩:=y;show wB 2 _ (λ_ _=>False) (bF (bU λ_=>vW 0) (bF (bU λ_=>vW 2) aO)) [.val _,.val (.str x),.val _] _ _;exact Fw (dz (V:=λ_=>vW 0) (au rfl) (dz (V:=λ_=>vW 2) (au rfl) fP)) ho (λ_ _ y=>y) λ_ _ y=>y
end
def rZ:List Str:=["a","b","c","d","e","f","g","h","i","j","k","l"]
def dsF:List Yd:=rZ.map Yd.mark++(rZ.take 10).map Yd.hand
def ur:List Yd:=[.mark "a",.mark "b",.mark "y",.hand "h",.hand "g",.run "a" "b" 4 "h",.aside "g"]
def Fb:List Yd:=[.mark "a",.settle "a"]
def rm{x:Str}(h:(decide (x.length<=100000)&&bQ x)=true):Tx x:=by
 rw[jT,YAK]at h;exact⟨h.2,h.1⟩
def txB:Yd->Bool
 |.mark x|.hand x|.settle x|.aside x|.heed x=>decide (x.length<=100000)&&bQ x
 |.run a b _ h=>(decide (a.length<=100000)&&bQ a)&&((decide (b.length<=100000)&&bQ b)&&(decide (h.length<=100000)&&bQ h))
 |_=>true
def zuT{d:Yd}(h:txB d=true):vo d:=by
 cases d with
 |run a b r h'=>
  have h:=KH.mp h;have h2:=KH.mp h.2;exact⟨rm h.1,rm h2.1,rm h2.2⟩
 |mark x=>exact rm h
 |hand x=>exact rm h
 |settle x=>exact rm h
 |aside x=>exact rm h
 |heed x=>exact rm h
 |_=>trivial
def Ac(s:Ya):List Yd->Bool
 |[]=>true
 |d::r=>(why s d).isNone&&txB d&&Ac (kh s d) r
theorem K4:∀{zs:List Yd}{s:Ya},Ac s zs=true->Fits s zs
 |[],_,_=>trivial
 |d::r,s,h=>by
  unfold Ac at h;rw[jT,jT]at h;exact⟨⟨Option.isNone_iff_eq_none.mp h.1.1,zuT h.1.2⟩,K4 h.2⟩
def Gr:Fits fu Fb:=K4 (by decide)
def fitH:Fits fu ur:=K4 (by decide)
def wG:Fits fu dsF:=K4 (by decide)
def sF:Ya:=iR fu dsF
def sH:Ya:=iR fu ur
def sS:Ya:=iR fu Fb
def JC:fH sF:=Ks wG yC (by decide)
def mH:fH sH:=Ks fitH yC (by decide)
def JT:fH sS:=Ks Gr yC (by decide)
structure Off(A:bN)(S:aJ)(q a1 a2 a3:Addr)(b1 b2 b3 u:List D):Prop where
 o:S q=some (cA A [("here",a1),("full",a2),("sunk",a3)])
 h:S a1=some (aQ A sH.ds (b1++[aX sH]) u)
 f:S a2=some (aQ A sF.ds (b2++[aX sF]) [])
 s:S a3=some (aQ A sS.ds (b3++[aX sS]) [])
 l1:b1.length<=100/\b1.map D.old=b1
 l2:b2.length<=100/\b2.map D.old=b2
 l3:b3.length<=100/\b3.map D.old=b3
 lu:u.map D.old=u
def Off.ext{A:bN}{S S':aJ}{q a1 a2 a3:Addr}{b1 b2 b3 u:List D}(O:Off A S q a1 a2 a3 b1 b2 b3 u)(e:dM S S'):Off A S' q a1 a2 a3 b1 b2 b3 u:=⟨e _ _ O.o,e _ _ O.h,e _ _ O.f,e _ _ O.s,O.l1,O.l2,O.l3,O.lu⟩
abbrev cZ(A:bN)(q:Addr)(S:aJ)(x zz:Str):Prop:=Bh A [.obj q,.str x] S (λv S'=>False\/v=.str zz/\dM S S') λ_ _=>False
def yx(ws:List Str):Bool:=!decide (("":Str)∈ws)&&ws.all bQ&&ws.all λt=>decide (t.length<=2000)
section
variable{A:bN}{S:aJ}{q a1 a2 a3:Addr}{b1 b2 b3 u:List D}(O:Off A S q a1 a2 a3 b1 b2 b3 u)
include O
theorem ul{x w z zz:Str}{ws:List Str}{F:cD}{f:Addr}(hs:Txt.split x sB=ws)(hx:x.length<=100000)(hr:yx ws=true)(h0:ws[0]?=some w)(hin:w≠"in")(hl:b7.lookup w=some (.int ws.length))(hk:(vQ A).lookup w=some (.obj f))(hm:(f,F)∈fK A)(h:Rf F [.obj q,Row ws false] S z)(hz:[(("BadName":Str),("no BadName":Str)),("Taken","no Taken"),("Full","no Full"),("NoMark","no NoMark"),("NoHand","no NoHand"),("Same","no Same"),("BadRise","no BadRise"),("NoRun","no NoRun"),("Aside","no Aside"),("NotAside","no NotAside"),("BadNumber","no BadNumber"),("NothingLeft","no NothingLeft"),("Steady","no Steady"),("Known","no Known"),("NoFen","no NoFen"),("Settled","no Settled")].lookup z=some zz):cZ A q S x zz:=by
 unfold yx at hr;rw[jT,jT]at hr;exact zmx hs hx (zoq h0 (by simpa using hr.1.1) (YAH.mp hr.1.2) hin hl) (ztf h0 hk hm h hz)
def rO{x n z zz:Str}{ts:List Str}{a:Addr}{s:Ya}{d:Yd}{bs us:List D}(hs:Txt.split x sB=("in":Str)::n::ts)(hx:x.length<=100000)(hr:yx (("in":Str)::n::ts)=true)(hl:ts.length<=2000)(hn:[(("here":Str),a1),("full",a2),("sunk",a3)].lookup n=some a)(hA:S a=some (aQ A s.ds (bs++[aX s]) us))(ok:fH s)(hd:txB d=true)(hb:bs.length<=100)(hdd:vp [.str (Str.join sB ts)] (·=yD d) λ_=>False)(hw:why s d=some z)(hz:[(("BadName":Str),("no BadName":Str)),("Taken","no Taken"),("Full","no Full"),("NoMark","no NoMark"),("NoHand","no NoHand"),("Same","no Same"),("BadRise","no BadRise"),("NoRun","no NoRun"),("Aside","no Aside"),("NotAside","no NotAside"),("BadNumber","no BadNumber"),("NothingLeft","no NothingLeft"),("Steady","no Steady"),("Known","no Known"),("NoFen","no NoFen"),("Settled","no Settled")].lookup z=some zz):cZ A q S x zz:=by
 unfold yx at hr;rw[jT,jT]at hr;have h1:=λt ht=>YAJ (YAH.mp hr.2 t (fL _ (fL _ ht)));exact zmx hs hx (znh (by simpa using hr.1.1) (YAH.mp hr.1.2) h1 hl hdd) (ztf (f:=A.answer_in) rfl (by left) (by unfold fK;simp) (zyi O.o hn hA ok (zuT hd) (by omega) h1 hl hdd hw) hz)
def zsk:cZ A q S "open Here" "no BadName":=ul O (ws:=["open","Here"]) (f:=A.answer_open) (F:=zdx A) (z:="BadName") (w:="open") (by decide) (by decide) (by decide) rfl (by decide) (by left) (by left) (by unfold fK;simp) (zuc O.o rfl (zuA O.o (rm (by decide)) (by decide))) (by left)
def zrF:cZ A q S "copy here full" "no Known":=ul O (ws:=["copy","here","full"]) (f:=A.answer_copy) (F:=zdB A) (z:="Known") (w:="copy") (by decide) (by decide) (by decide) rfl (by decide) (by left) (by left) (by unfold fK;simp) (zun O.o rfl rfl (zpf (a:=a1) (b:=a2) O.o (by left) (rm (by decide)) (by decide) (by left))) (by left)
end
def Ck(ts ks:List Str):Bool:=decide (ks.length=ts.length)&&(ks.all bQ&&(ts.all (λt=>bQ t&&decide (t.length<=640))&&(decide (ts.length<=1000)&&((ks.zip ts).all (λp=>Ae p.1 p.2)&&(ks.zip ts).all λp=>decide (p.1=kN) || (PySem.intText? p.2).isSome))))
def zvR{w:Str}{ts ks:List Str}(h1:cR.lookup w=some (.tup (ks.map D.str)))(h:Ck ts ks=true):ni w ts ks:=by
 unfold Ck at h;simp only[jT,YAK,YAH,YCB]at h;refine⟨h1,h.1,h.2.1,h.2.2.1,h.2.2.2.1,h.2.2.2.2.1,λp hp hn=>?_⟩;rcases h.2.2.2.2.2 p hp with e|e
 .exact absurd e hn
 .exact Option.isSome_iff_exists.mp e
def v9{w:Str}{ts ks:List Str}{d:Yd}{x:Str}(h1:cR.lookup w=some (.tup (ks.map D.str)))(h:Ck ts ks=true)(hs:Txt.split x sB=w::ts)(hl:x.length<=100000)(hy:.tup (.str w::(ks.zip ts).map jt)=yD d):vp [.str x] (·=yD d) λ_=>False:=hy▸GK hl hs (zvR h1 h)
def zsf{A:bN}{S:aJ}{q a:Addr}{fs:List (Str×Addr)}{n:Str}{ks bs:List D}(hS:S q=some (cA A fs))(hn:fs.lookup n=some a)(hA:S a=some (aQ A ks bs [])):Rf (Dg A) [.obj q,.str n] S "NothingLeft":=by
 refine iJ (iG (n:=0) (eG q) (cC n)) ?_;exact G7 (Z:=[.val (.obj q),.val (.str n)]) (i:=0) (V:=vW 1) rfl hS (au rfl) hn hA zn6 fP (zpo hA) (λd S' h=>h) λ_ _ z=>⟨z.1,by rw[z.2];exact dM.refl _⟩
section
variable{A:bN}{S:aJ}{q a1 a2 a3:Addr}{b1 b2 b3 u:List D}(O:Off A S q a1 a2 a3 b1 b2 b3 u)
include O
def zwc:cZ A q S "in here mark a" "no Taken":=rO O (n:="here") (ts:=["mark","a"]) (a:=a1) (s:=sH) (d:=.mark "a") (z:="Taken") (by decide) (by decide) (by decide) (by decide) (by left) O.h mH (by decide) O.l1.1 (v9 (w:="mark") (ts:=["a"]) (ks:=["name"]) (by left) (by decide) (by decide) (by decide) (by left)) (by left) (by left)
def zw8:cZ A q S "in here hand h" "no Taken":=rO O (n:="here") (ts:=["hand","h"]) (a:=a1) (s:=sH) (d:=.hand "h") (z:="Taken") (by decide) (by decide) (by decide) (by decide) (by left) O.h mH (by decide) O.l1.1 (v9 (w:="hand") (ts:=["h"]) (ks:=["name"]) (by left) (by decide) (by decide) (by decide) (by left)) (by left) (by left)
def zxB:cZ A q S "in full mark z" "no Full":=rO O (n:="full") (ts:=["mark","z"]) (a:=a2) (s:=sF) (d:=.mark "z") (z:="Full") (by decide) (by decide) (by decide) (by decide) (by left) O.f JC (by decide) O.l2.1 (v9 (w:="mark") (ts:=["z"]) (ks:=["name"]) (by left) (by decide) (by decide) (by decide) (by left)) (by left) (by left)
def zwZ:cZ A q S "in full hand z" "no Full":=rO O (n:="full") (ts:=["hand","z"]) (a:=a2) (s:=sF) (d:=.hand "z") (z:="Full") (by decide) (by decide) (by decide) (by decide) (by left) O.f JC (by decide) O.l2.1 (v9 (w:="hand") (ts:=["z"]) (ks:=["name"]) (by left) (by decide) (by decide) (by decide) (by left)) (by left) (by left)
def zxj:cZ A q S "in full settle a" "no Full":=rO O (n:="full") (ts:=["settle","a"]) (a:=a2) (s:=sF) (d:=.settle "a") (z:="Full") (by decide) (by decide) (by decide) (by decide) (by left) O.f JC (by decide) O.l2.1 (v9 (w:="settle") (ts:=["a"]) (ks:=["name"]) (by left) (by decide) (by decide) (by decide) (by left)) (by left) (by left)
def zwt:cZ A q S "in here run a b 1 nobody" "no NoHand":=rO O (n:="here") (ts:=["run","a","b","1","nobody"]) (a:=a1) (s:=sH) (d:=.run "a" "b" 1 "nobody") (z:="NoHand") (by decide) (by decide) (by decide) (by decide) (by left) O.h mH (by decide) O.l1.1 (v9 (w:="run") (ts:=["a","b","1","nobody"]) (ks:=["name","name","rise","name"]) (by left) (by decide) (by decide) (by decide) (by left)) (by left) (by left)
def zxo:cZ A q S "in here run a a 1 h" "no Same":=rO O (n:="here") (ts:=["run","a","a","1","h"]) (a:=a1) (s:=sH) (d:=.run "a" "a" 1 "h") (z:="Same") (by decide) (by decide) (by decide) (by decide) (by left) O.h mH (by decide) O.l1.1 (v9 (w:="run") (ts:=["a","a","1","h"]) (ks:=["name","name","rise","name"]) (by left) (by decide) (by decide) (by decide) (by left)) (by left) (by left)
def zwU:cZ A q S "in here aside nobody" "no NoHand":=rO O (n:="here") (ts:=["aside","nobody"]) (a:=a1) (s:=sH) (d:=.aside "nobody") (z:="NoHand") (by decide) (by decide) (by decide) (by decide) (by left) O.h mH (by decide) O.l1.1 (v9 (w:="aside") (ts:=["nobody"]) (ks:=["name"]) (by left) (by decide) (by decide) (by decide) (by left)) (by left) (by left)
def zxh:cZ A q S "in here aside g" "no Aside":=rO O (n:="here") (ts:=["aside","g"]) (a:=a1) (s:=sH) (d:=.aside "g") (z:="Aside") (by decide) (by decide) (by decide) (by decide) (by left) O.h mH (by decide) O.l1.1 (v9 (w:="aside") (ts:=["g"]) (ks:=["name"]) (by left) (by decide) (by decide) (by decide) (by left)) (by left) (by left)
def zxe:cZ A q S "in here heed h" "no NotAside":=rO O (n:="here") (ts:=["heed","h"]) (a:=a1) (s:=sH) (d:=.heed "h") (z:="NotAside") (by decide) (by decide) (by decide) (by decide) (by left) O.h mH (by decide) O.l1.1 (v9 (w:="heed") (ts:=["h"]) (ks:=["name"]) (by left) (by decide) (by decide) (by decide) (by left)) (by left) (by left)
theorem wV:sH.ds.map D.old=sH.ds:=CV λd hd=>(mH.dd d hd).1
def w6:(b1++[aX sH]).map D.old=b1++[aX sH]:=by rw[lY,O.l1.2,fj,lB];rfl
def zwA:cZ A q S "height here a nobody" "no NoMark":=ul O (ws:=["height","here","a","nobody"]) (f:=A.answer_height) (F:=zcK A) (z:="NoMark") (w:="height") (by decide) (by decide) (by decide) rfl (by decide) (by left) (by left) (by unfold fK;simp) (zp1 O.o (a:=a1) (by left) O.h (wV O) (w6 O) O.lu rfl rfl rfl λS' c hc=>zps hc mH (zlr (r:=(sH.pl.map gw).tail) mH (by decide) (by decide) (by left) ⟨by decide,by decide,by decide⟩ (by decide)) (by decide) (by decide)) (by left)
def zxn:cZ A q S "sank here nobody" "no NoMark":=ul O (ws:=["sank","here","nobody"]) (f:=A.answer_sank) (F:=Km A) (z:="NoMark") (w:="sank") (by decide) (by decide) (by decide) rfl (by decide) (by left) (by left) (by unfold fK;simp) (zqR O.o (a:=a1) (by left) O.h (wV O) (w6 O) O.lu rfl rfl λS' c hc=>zt1 hc mH (by decide) (by decide)) (by left)
def zvQ:cZ A q S "sank here a" "no Steady":=ul O (ws:=["sank","here","a"]) (f:=A.answer_sank) (F:=Km A) (z:="Steady") (w:="sank") (by decide) (by decide) (by decide) rfl (by decide) (by left) (by left) (by unfold fK;simp) (zqR O.o (a:=a1) (by left) O.h (wV O) (w6 O) O.lu rfl rfl λS' c hc=>zmK hc mH (by decide) (by decide)) (by left)
def zw7:cZ A q S "parting here Q a" "no NoMark":=ul O (ws:=["parting","here","Q","a"]) (f:=A.answer_parting) (F:=zcg A) (z:="NoMark") (w:="parting") (by decide) (by decide) (by decide) rfl (by decide) (by left) (by left) (by unfold fK;simp) (zoQ O.o (a:=a1) (by left) O.h (wV O) (w6 O) O.lu rfl rfl rfl λS' c hc=>zoV hc mH (by decide) (by decide)) (by left)
def zxH:cZ A q S "close nobody" "no NoFen":=ul O (ws:=["close","nobody"]) (f:=A.answer_close) (F:=zc4 A) (z:="NoFen") (w:="close") (by decide) (by decide) (by decide) rfl (by decide) (by left) (by left) (by unfold fK;simp) (zr6 O.o rfl (zrH O.o (by left))) (by left)
def zwL:cZ A q S "again full" "no NothingLeft":=ul O (ws:=["again","full"]) (f:=A.answer_again) (F:=Jp A) (z:="NothingLeft") (w:="again") (by decide) (by decide) (by decide) rfl (by decide) (by left) (by left) (by unfold fK;simp) (zsh O.o rfl (zsf O.o (a:=a2) (by left) O.f)) (by left)
def zxl:cZ A q S "join here here new" "no Same":=ul O (ws:=["join","here","here","new"]) (f:=A.answer_join) (F:=Aw A) (z:="Same") (w:="join") (by decide) (by decide) (by decide) rfl (by decide) (by left) (by left) (by unfold fK;simp) (zkS O.o rfl rfl rfl (zqT O.o (a:=a1) (by left) (by decide))) (by left)
def zvN:cZ A q S "join here nobody new" "no NoFen":=ul O (ws:=["join","here","nobody","new"]) (f:=A.answer_join) (F:=Aw A) (z:="NoFen") (w:="join") (by decide) (by decide) (by decide) rfl (by decide) (by left) (by left) (by unfold fK;simp) (zkS O.o rfl rfl rfl (zoZ O.o (a:=a1) (by left) (by left))) (by left)
def zxL:cZ A q S "join here sunk new" "no Settled":=ul O (ws:=["join","here","sunk","new"]) (f:=A.answer_join) (F:=Aw A) (z:="Settled") (w:="join") (by decide) (by decide) (by decide) rfl (by decide) (by left) (by left) (by unfold fK;simp) (zkS O.o rfl rfl rfl (zqO O.o (a:=a1) (b:=a3) (by left) (by left) (by decide) (by decide) (by decide) (rm (by decide)) (by decide) (by left) (znl O.h O.s mH JT (by decide)))) (by left)
def zwH:cZ A q S "join here full new" "no Full":=ul O (ws:=["join","here","full","new"]) (f:=A.answer_join) (F:=Aw A) (z:="Full") (w:="join") (by decide) (by decide) (by decide) rfl (by decide) (by left) (by left) (by unfold fK;simp) (zkS O.o rfl rfl rfl (zqO O.o (a:=a1) (b:=a2) (by left) (by left) (by decide) (by decide) (by decide) (rm (by decide)) (by decide) (by left) (zqp O.h O.f mH JC (by decide) (λd hd=>zuT (YAH.mp (show(Cg sH sF).all txB=true by decide) d hd)) (by decide) (by left)))) (by left)
end
def zob{x y:Str}(h:sg x=sg y):x=y:=by
 cases x;cases y;congr 1;exact Array.toList_inj.mp h
def zoj{p r:List Str}{w:Str}(hp:yx p=true)(hr:yx r=true)(h1:w≠"")(h2:bQ w=true)(h3:w.length<=2000):yx (p++w::r)=true:=by
 unfold yx at *;simp only[jT,YCr,YBs,YAH,YAK,rJ,eX]at *;refine⟨⟨λh=>?_,λt h=>?_⟩,λt h=>?_⟩
 .rcases h with h|h|h
  .exact hp.1.1 h
  .exact h1 h.symm
  .exact hr.1.1 h
 .rcases h with h|h|h
  .exact hp.1.2 t h
  .rw[h];exact h2
  .exact hr.1.2 t h
 .rcases h with h|h|h
  .exact hp.2 t h
  .rw[h];exact h3
  .exact hr.2 t h
structure NsW(w:Str)(n:Int):Prop where
 ne:w≠""
 ok:bQ w=true
 ln:w.length<=11
 sp:32∉sg w
 rd:PySem.intText? w=some n
def wQ{n:Int}(h:n.natAbs<10^10):NsW (nS n) n:=⟨λe=>(by have:=znv h;rw[e,show PySem.intText? ("":Str)=none by decide]at this;cases this),nQ λch hc=>by have:=ztq hc;omega,Cv h,λhc=>by have:=ztq hc;omega,znv h⟩
section
variable{A:bN}{S:aJ}{q a1 a2 a3:Addr}{b1 b2 b3 u:List D}(O:Off A S q a1 a2 a3 b1 b2 b3 u)
include O
def ztU{n:Int}(h:n.natAbs<10^10)(hw:why sH (.run "a" "b" n "h")=some ("BadRise":Str)):cZ A q S ("in here run a b "++nS n++" h") "no BadRise":=by
 have W:=wQ h;have l:=W.ln;have e:("in here run a b ":Str)++nS n++" h"=Str.join sB ["in","here","run","a","b",nS n,"h"]:=zob (by
  rw[v8,v8,mD,mD,mD,mD,mD,mD,show Str.join sB ["h"]="h" by decide,show sg "in here run a b "=sg "in"++32::(sg "here"++32::(sg "run"++32::(sg "a"++32::(sg "b"++[32])))) by decide,show sg " h"=32::sg "h" by decide]
  simp)
 have sp:∀w∈(["in","here","run","a","b",nS n,"h"]:List Str),32∉sg w:=by
  intro w hw;simp only[eX,jL,kZ]at hw;rcases hw with rfl|rfl|rfl|rfl|rfl|rfl|rfl
  all_goals first|exact W.sp|decide
 have ln:∀w∈(["in","here","run","a","b",nS n,"h"]:List Str),w.length<=11:=by
  intro w hw;simp only[eX,jL,kZ]at hw;rcases hw with rfl|rfl|rfl|rfl|rfl|rfl|rfl
  all_goals first|exact l|decide
 have row:ni "run" ["a","b",nS n,"h"] ["name","name","rise","name"]:=by
  refine⟨by left,rfl,by decide,?_,by simp,?_,?_⟩
  .intro t ht;simp only[eX,jL,kZ]at ht;rcases ht with rfl|rfl|rfl|rfl
   all_goals first|exact⟨W.ok,by omega⟩|decide
  .intro p hp;simp only[YAY,wL,eX,jL,kZ]at hp;rcases hp with rfl|rfl|rfl|rfl
   all_goals first|decide|exact zqK h
  .intro p hp hn;simp only[YAY,wL,eX,jL,kZ]at hp;rcases hp with rfl|rfl|rfl|rfl
   all_goals first|exact⟨n,W.rd⟩|exact absurd rfl hn
 rw[e];have jl:=xZ ["run","a","b",nS n,"h"] 11 λw hw=>ln w (fL _ (fL _ hw));refine rO O (n:="here") (ts:=["run","a","b",nS n,"h"]) (a:=a1) (s:=sH) (d:=.run "a" "b" n "h") (z:="BadRise") (yQ _ (by simp) sp) ?_ (zoj (p:=["in","here","run","a","b"]) (r:=["h"]) (by decide) (by decide) W.ne W.ok (by omega)) (by simp) (by left) O.h mH (by left) O.l1.1 ?_ hw (by left)
 .have:=xZ _ 11 ln
  exact gJ this (by simp)
 .have hy:D.tup (.str "run"::((["name","name","rise","name"]:List Str).zip (["a","b",nS n,"h"]:List Str)).map jt)=yD (.run "a" "b" n "h"):=by
   show D.tup [.str "run",jt ("name","a"),jt ("name","b"),jt ("rise",nS n),jt ("name","h")]=D.tup [.str "run",.str "a",.str "b",.int n,.str "h"]
   have:jt ("rise",nS n)=.int n:=by unfold jt;rw[if_neg (show ¬("rise":Str)=kN by decide),W.rd];rfl
   rw[this,show jt ("name","a")=.str "a" by left,show jt ("name","b")=.str "b" by left,show jt ("name","h")=.str "h" by left]
  exact hy▸GK (gJ jl (by simp)) (yQ _ (by simp) λw hw=>sp w (fL _ (fL _ hw))) row
def zvv{n:Nat}(h:n<10^10)(hw:why sH (.strike n)=some ("NoRun":Str)):cZ A q S ("in here strike "++nS (n:Int)) "no NoRun":=by
 have W:=wQ (n:=(n:Int)) (by omega);have l:=W.ln;have e:("in here strike ":Str)++nS (n:Int)=Str.join sB ["in","here","strike",nS n]:=zob (by
  rw[v8,mD,mD,mD,show ∀x:Str,Str.join sB [x]=x from λ_=>rfl,show sg "in here strike "=sg "in"++32::(sg "here"++32::(sg "strike"++[32])) by decide]
  simp)
 have sp:∀w∈(["in","here","strike",nS n]:List Str),32∉sg w:=by
  intro w hw;simp only[eX,jL,kZ]at hw;rcases hw with rfl|rfl|rfl|rfl
  all_goals first|exact W.sp|decide
 have ln:∀w∈(["in","here","strike",nS n]:List Str),w.length<=11:=by
  intro w hw;simp only[eX,jL,kZ]at hw;rcases hw with rfl|rfl|rfl|rfl
  all_goals first|exact l|decide
 have row:ni "strike" [nS n] ["number"]:=by
  refine⟨by left,rfl,by decide,?_,by simp,?_,?_⟩
  .intro t ht;rw[pI.mp ht];exact⟨W.ok,by omega⟩
  .intro p hp;simp only[YAY,wL,eX,jL,kZ]at hp;subst hp;exact zon h
  .intro p hp hn;simp only[YAY,wL,eX,jL,kZ]at hp;subst hp;exact⟨_,W.rd⟩
 rw[e];have jl:=xZ ["strike",nS n] 11 λw hw=>ln w (fL _ (fL _ hw));refine rO O (n:="here") (ts:=["strike",nS n]) (a:=a1) (s:=sH) (d:=.strike n) (z:="NoRun") (yQ _ (by simp) sp) ?_ (zoj (p:=["in","here","strike"]) (r:=[]) (by decide) (by decide) W.ne W.ok (by omega)) (by simp) (by left) O.h mH (by left) O.l1.1 ?_ hw (by left)
 .have:=xZ _ 11 ln
  exact gJ this (by simp)
 .have hy:D.tup (.str "strike"::((["number"]:List Str).zip ([nS (n:Int)]:List Str)).map jt)=yD (.strike n):=by
   show D.tup [.str "strike",jt ("number",nS n)]=D.tup [.str "strike",.int n]
   have:jt ("number",nS n)=.int n:=by unfold jt;rw[if_neg (show ¬("number":Str)=kN by decide),W.rd];rfl
   rw[this]
  exact hy▸GK (gJ jl (by simp)) (yQ _ (by simp) λw hw=>sp w (fL _ (fL _ hw))) row
def zvU{n:Nat}(h:n<10^10)(hw:why sH (.allow n)=some ("BadNumber":Str)):cZ A q S ("in here allow "++nS (n:Int)) "no BadNumber":=by
 have W:=wQ (n:=(n:Int)) (by omega);have l:=W.ln;have e:("in here allow ":Str)++nS (n:Int)=Str.join sB ["in","here","allow",nS n]:=zob (by
  rw[v8,mD,mD,mD,show ∀x:Str,Str.join sB [x]=x from λ_=>rfl,show sg "in here allow "=sg "in"++32::(sg "here"++32::(sg "allow"++[32])) by decide]
  simp)
 have sp:∀w∈(["in","here","allow",nS n]:List Str),32∉sg w:=by
  intro w hw;simp only[eX,jL,kZ]at hw;rcases hw with rfl|rfl|rfl|rfl
  all_goals first|exact W.sp|decide
 have ln:∀w∈(["in","here","allow",nS n]:List Str),w.length<=11:=by
  intro w hw;simp only[eX,jL,kZ]at hw;rcases hw with rfl|rfl|rfl|rfl
  all_goals first|exact l|decide
 have row:ni "allow" [nS n] ["number"]:=by
  refine⟨by left,rfl,by decide,?_,by simp,?_,?_⟩
  .intro t ht;rw[pI.mp ht];exact⟨W.ok,by omega⟩
  .intro p hp;simp only[YAY,wL,eX,jL,kZ]at hp;subst hp;exact zon h
  .intro p hp hn;simp only[YAY,wL,eX,jL,kZ]at hp;subst hp;exact⟨_,W.rd⟩
 rw[e];have jl:=xZ ["allow",nS n] 11 λw hw=>ln w (fL _ (fL _ hw));refine rO O (n:="here") (ts:=["allow",nS n]) (a:=a1) (s:=sH) (d:=.allow n) (z:="BadNumber") (yQ _ (by simp) sp) ?_ (zoj (p:=["in","here","allow"]) (r:=[]) (by decide) (by decide) W.ne W.ok (by omega)) (by simp) (by left) O.h mH (by left) O.l1.1 ?_ hw (by left)
 .have:=xZ _ 11 ln
  exact gJ this (by simp)
 .have hy:D.tup (.str "allow"::((["number"]:List Str).zip ([nS (n:Int)]:List Str)).map jt)=yD (.allow n):=by
   show D.tup [.str "allow",jt ("number",nS n)]=D.tup [.str "allow",.int n]
   have:jt ("number",nS n)=.int n:=by unfold jt;rw[if_neg (show ¬("number":Str)=kN by decide),W.rd];rfl
   rw[this]
  exact hy▸GK (gJ jl (by simp)) (yQ _ (by simp) λw hw=>sp w (fL _ (fL _ hw))) row
def zvA{k:Nat}(h:k+1<10^10)(hw:why sH (.mend 1 (-((k+1:Nat):Int)))=some ("BadRise":Str)):cZ A q S ("in here mend 1 -"++nS ((k+1:Nat):Int)) "no BadRise":=by
 have hk:(-((k+1:Nat):Int)).natAbs<10^10:=by omega
 have W:=wQ hk;have l:=W.ln;have e:("in here mend 1 -":Str)++nS ((k+1:Nat):Int)=Str.join sB ["in","here","mend","1",nS (-((k+1:Nat):Int))]:=zob (by
  rw[v8,mD,mD,mD,mD,show ∀x:Str,Str.join sB [x]=x from λ_=>rfl,yj,show sg "in here mend 1 -"=sg "in"++32::(sg "here"++32::(sg "mend"++32::(sg "1"++[32,45]))) by decide]
  simp)
 have hr:=zqK hk;generalize nS (-((k+1:Nat):Int))=v at W l e hr;generalize -((k+1:Nat):Int)=n at W hw;have sp:∀w∈(["in","here","mend","1",v]:List Str),32∉sg w:=by
  intro w hw;simp only[eX,jL,kZ]at hw;rcases hw with rfl|rfl|rfl|rfl|rfl
  all_goals first|exact W.sp|decide
 have ln:∀w∈(["in","here","mend","1",v]:List Str),w.length<=11:=by
  intro w hw;simp only[eX,jL,kZ]at hw;rcases hw with rfl|rfl|rfl|rfl|rfl
  all_goals first|exact l|decide
 have row:ni "mend" ["1",v] ["number","rise"]:=by
  refine⟨by left,rfl,by decide,?_,by simp,?_,?_⟩
  .intro t ht;simp only[eX,jL,kZ]at ht;rcases ht with rfl|rfl
   all_goals first|exact⟨W.ok,by omega⟩|decide
  .intro p hp;simp only[YAY,wL,eX,jL,kZ]at hp;rcases hp with rfl|rfl
   all_goals first|exact hr|decide
  .intro p hp hn;simp only[YAY,wL,eX,jL,kZ]at hp;rcases hp with rfl|rfl
   .exact⟨1,by decide⟩
   .exact⟨_,W.rd⟩
 rw[e];have jl:=xZ ["mend","1",v] 11 λw hw=>ln w (fL _ (fL _ hw));refine rO O (n:="here") (ts:=["mend","1",v]) (a:=a1) (s:=sH) (d:=.mend 1 n) (z:="BadRise") (yQ _ (by simp) sp) ?_ (zoj (p:=["in","here","mend","1"]) (r:=[]) (by decide) (by decide) W.ne W.ok (by omega)) (by simp) (by left) O.h mH (by left) O.l1.1 ?_ hw (by left)
 .have:=xZ _ 11 ln
  exact gJ this (by simp)
 .have hy:D.tup (.str "mend"::((["number","rise"]:List Str).zip (["1",v]:List Str)).map jt)=yD (.mend 1 n):=by
   show D.tup [.str "mend",jt ("number","1"),jt ("rise",v)]=D.tup [.str "mend",.int 1,.int n]
   have:jt ("rise",v)=.int n:=by unfold jt;rw[if_neg (show ¬("rise":Str)=kN by decide),W.rd];rfl
   rw[this,show jt ("number","1")=.int 1 by left]
  exact hy▸GK (gJ jl (by simp)) (yQ _ (by simp) λw hw=>sp w (fL _ (fL _ hw))) row
end
def zs4{r:Int}(h:1000000000<r\/r < -1000000000):okR r=false:=by
 unfold okR;simp;omega
def zum{r:Int}(h:1000000000<r):why sH (.run "a" "b" r "h")=some ("BadRise":Str):=by
 show BW sH "a" "b" r "h"=_;unfold BW;rw[if_neg (show ¬(bu sH.pl "a"=0\/bu sH.pl "b"=0) by decide),if_neg (show ¬("a":Str)="b" by decide),if_neg (show ¬("h":Str)∉bW sH by decide),if_pos (zs4 (.inl h))]
def zvS{r:Int}(h:r < -1000000000):why sH (.mend 1 r)=some ("BadRise":Str):=by
 show Fi sH 1 r=_;unfold Fi;rw[if_neg (show ¬(1:Int)∉sH.rs.map (·.n) by decide),if_pos (zs4 (.inr h))]
def zw0{n:Int}(h:2<=n):why sH (.strike n)=some ("NoRun":Str):=by
 show Dt sH n=_;unfold Dt;rw[if_pos (λhm=>by
  rw[show sH.rs.map (·.n)=[1] by decide]at hm
  have:=pI.mp hm
  omega)]
def zxU{n:Int}(h:4<=n):why sH (.allow n)=some ("BadNumber":Str):=by
 show Dv n=_;unfold Dv;rw[if_pos (by omega)]
def lN(m:Int):List D:=[.tup [.str ("open Here":Str),.str ("BadName":Str)],
 .tup [.str ("in here mark a":Str),.str ("Taken":Str)],
 .tup [.str ("in here hand h":Str),.str ("Taken":Str)],
 .tup [.str ("in full mark z":Str),.str ("Full":Str)],
 .tup [.str ("in full hand z":Str),.str ("Full":Str)],
 .tup [.str ("in full settle a":Str),.str ("Full":Str)],
 .tup [.str ("height here a nobody":Str),.str ("NoMark":Str)],
 .tup [.str ("sank here nobody":Str),.str ("NoMark":Str)],
 .tup [.str ("in here run a b 1 nobody":Str),.str ("NoHand":Str)],
 .tup [.str ("in here run a a 1 h":Str),.str ("Same":Str)],
 .tup [.str ((("in here run a b "++nS (1000000001+m))++" h"):Str),.str ("BadRise":Str)],
 .tup [.str ("in here aside nobody":Str),.str ("NoHand":Str)],
 .tup [.str ("in here aside g":Str),.str ("Aside":Str)],
 .tup [.str (("in here mend 1 -"++nS (1000000001+m)):Str),.str ("BadRise":Str)],
 .tup [.str (("in here strike "++nS (2+m)):Str),.str ("NoRun":Str)],
 .tup [.str ("in here heed h":Str),.str ("NotAside":Str)],
 .tup [.str (("in here allow "++nS (4+m)):Str),.str ("BadNumber":Str)],
 .tup [.str ("again full":Str),.str ("NothingLeft":Str)],
 .tup [.str ("sank here a":Str),.str ("Steady":Str)],
 .tup [.str ("copy here full":Str),.str ("Known":Str)],
 .tup [.str ("close nobody":Str),.str ("NoFen":Str)],
 .tup [.str ("join here here new":Str),.str ("Same":Str)],
 .tup [.str ("join here sunk new":Str),.str ("Settled":Str)],
 .tup [.str ("join here full new":Str),.str ("Full":Str)],
 .tup [.str ("join here nobody new":Str),.str ("NoFen":Str)],
 .tup [.str ("parting here Q a":Str),.str ("NoMark":Str)]]
def zyq{n:Int}(h:n.natAbs<10^10):n.natAbs.log2<1920:=by
 have:n.natAbs<2^1920:=Nat.lt_trans h (by decide)
 by_cases z:n.natAbs=0
 .rw[z];decide
 .exact(Nat.log2_lt z).mpr this
def zos{c m:Int}{Z:Env}(h:Z[0]?=some (.val (.int m)))(hl:(c+m).natAbs<10^10):Ev (cbW mG (aA (ak bM (kW (.int c)) (vW 0)) aq)) Z (.str (nS (c+m))):=yr (aH (zkL aF (au h)) bw) λP p=>⟨zyq hl,p⟩
def zwa{x y:Str}{i j:Nat}(h:x.length<=i)(k:y.length<=j):(x++y).length<=i+j:=by
 rw[sr,v8,iB,<-sr,<-sr];omega
def zqr{m:Int}(h0:0<=m)(h1:m<=1000):zd5 [.int m] (·=.lst true (lN m)):=by
 refine fV (m8 (n:=1) (pB m)) ?_;refine j7 (iW (mX (aH (dU (aH aF (aH aF bw))) (aH (dU (aH aF (aH aF bw))) (aH (dU (aH aF (aH aF bw))) bw))))) ?_;refine j7 (pP (au (i:=1) rfl) (iW (mX (aH (dU (aH aF (aH aF bw))) (aH (dU (aH aF (aH aF bw))) (aH (dU (aH aF (aH aF bw))) bw))))) (by simp)) ?_;refine j7 (pP (au (i:=1) rfl) (iW (mX (aH (dU (aH aF (aH aF bw))) (aH (dU (aH aF (aH aF bw))) bw)))) (by simp)) ?_;refine j7 (pP (au (i:=1) rfl) (iW (mX (aH (dU (aH aF (aH aF bw))) (aH (dU (aH aF (aH aF bw))) bw)))) (by simp)) ?_;refine j7 (pP (au (i:=1) rfl) (iW (mX (aH (dU (aH (Ew (Ew aF (zos (c:=1000000001) rfl (by omega)) (by have:=(show("in here run a b ":Str).length<=100 by decide);have:=(Cv (n:=1000000001+m) (by omega));omega)) aF (by have:=(zwa (show("in here run a b ":Str).length<=100 by decide) (Cv (n:=1000000001+m) (by omega)));have:=(show(" h":Str).length<=100 by decide);omega)) (aH aF bw))) bw))) (by simp)) ?_;refine j7 (pP (au (i:=1) rfl) (iW (mX (aH (dU (aH aF (aH aF bw))) (aH (dU (aH aF (aH aF bw))) bw)))) (by simp)) ?_;refine j7 (pP (au (i:=1) rfl) (iW (mX (aH (dU (aH (Ew aF (zos (c:=1000000001) rfl (by omega)) (by have:=(show("in here mend 1 -":Str).length<=100 by decide);have:=(Cv (n:=1000000001+m) (by omega));omega)) (aH aF bw))) bw))) (by simp)) ?_;refine j7 (pP (au (i:=1) rfl) (iW (mX (aH (dU (aH (Ew aF (zos (c:=2) rfl (by omega)) (by have:=(show("in here strike ":Str).length<=100 by decide);have:=(Cv (n:=2+m) (by omega));omega)) (aH aF bw))) (aH (dU (aH aF (aH aF bw))) bw)))) (by simp)) ?_;refine j7 (pP (au (i:=1) rfl) (iW (mX (aH (dU (aH (Ew aF (zos (c:=4) rfl (by omega)) (by have:=(show("in here allow ":Str).length<=100 by decide);have:=(Cv (n:=4+m) (by omega));omega)) (aH aF bw))) (aH (dU (aH aF (aH aF bw))) bw)))) (by simp)) ?_;refine j7 (pP (au (i:=1) rfl) (iW (mX (aH (dU (aH aF (aH aF bw))) (aH (dU (aH aF (aH aF bw))) (aH (dU (aH aF (aH aF bw))) bw))))) (by simp)) ?_;refine j7 (pP (au (i:=1) rfl) (iW (mX (aH (dU (aH aF (aH aF bw))) (aH (dU (aH aF (aH aF bw))) bw)))) (by simp)) ?_;refine j7 (pP (au (i:=1) rfl) (iW (mX (aH (dU (aH aF (aH aF bw))) (aH (dU (aH aF (aH aF bw))) bw)))) (by simp)) ?_;exact m9 (pP (au (i:=1) rfl) (iW (mX (aH (dU (aH aF (aH aF bw))) bw))) (by simp)) rfl
def sA:Ya:=kh sH (.allow 2)
def uA:List D:=[.tup [yD (.allow 2),aX sA]]
def wA:why sH (.allow 2)=none:=by left
def okA:fH sA:=zif mH trivial wA (by decide)
def zs8{s:Ya}(ok:fH s):s.ds.map D.old=s.ds:=CV λd hd=>(ok.dd d hd).1
def zuy{s:Ya}{bs:List D}(h:bs.map D.old=bs):(bs++[aX s]).map D.old=bs++[aX s]:=by rw[lY,h,fj,lB];rfl
def duL:List D:=[.lst false (tU sH),.lst false (tU sF),.lst false (tU sS)]
def zqy:NO "view":=by decide
def zlI:NO "names":=by decide
def ztk:NO "say":=by decide
def zqu:NO "again":=by decide
section
variable{A:bN}{S:aJ}{q a:Addr}{fs:List (Str×Addr)}{n z w:Str}{Z:Env}{i:Nat}{bs us:List D}{ws:List Str}{b:Bool}{s:Ya}{Q:D->aJ->Prop}
def zlP{m:Str}{F:aJ->Fn}{d:D}(hi:Z[i]?=some (.val (.obj q)))(hS:S q=some (cA A fs))(hm:NO m)(h:F S [.obj q] (·=d)):Ev (dB S i A.off m 1 F (λ_ Q=>Q [])) Z d:=λP p=>by
 unfold dB;rw[hi];exact⟨⟨_,hS,rfl,zs6 hm⟩,rfl,pC h λe z=>by subst z;exact p⟩
def zxz{c:Nat}{F:aJ->Fn}{R:WOA}(h:R Z S λds S1=>ds.length=c/\up (F S1) ds λd=>Q d S1):Cy c F R Z S Q:=h
def zkV(hi:Z[1]?=some (.val (.obj q)))(h0:Z[0]?=some (.val (.str n)))(hS:S q=some (cA A fs))(hn:fs.lookup n=some a)(hA:S a=some (aQ A s.ds (bs++[aX s]) us))(ok:fH s)(hb:bs.map D.old=bs)(hu:us.map D.old=us)(k:∀v S',v.old=.lst false (tU s)->dM S S'->Q v S') :
  Cy 1 (Bv A) (bF (dC 1 A.off "view" 2 (uf A) (λ_ _=>False) (bF (bU λS=>(vW 0)) aO)) aO) Z S Q:=by
 refine zxz (co1 (qi hi hS zqy (dz (au h0) fP) (zkr hS hn hA (zs8 ok) (zuy hb) hu) (λv S' h=>?_) λ_ _ z=>z));obtain⟨b,rfl,h1,rfl⟩:=h;exact⟨rfl,pC (zsL gK ok) λv hv=>k v _ hv (znf h1)⟩
def zns{c:Nat}{E:WOE}{Zc:Env}{T:List D->aJ->Prop}{x:D}{xs acc:List D}(h:E (Zc.set c (.val x)) S λd S'=>zu c E Zc T xs (acc++[d]) S'):zu c E Zc T (x::xs) acc S:=h
def zlH{a1 a2 a3:Addr}{b1 b2 b3 u:List D}(O:Off A S q a1 a2 a3 b1 b2 b3 u)(hv:nq Z=true)(hi:Z[3]?=some (.val (.obj q)))(k:∀v S',v.old=.lst false duL->dM S S'->Q v S') :
  De [none,some 3] (λS=>(iM (dB S 3 A.off "names" 1 (Bp A) (λ_ Q=>Q [])))) 0 (Cy 1 (Bv A) (bF (dC 1 A.off "view" 2 (uf A) (λ_ _=>False) (bF (bU λS=>(vW 0)) aO)) aO)) Z S Q:=by
 have e:fY [none,some 3] Z=[.un,.val (.obj q)]:=by
  unfold fY;rw[fj,fj,ue];dsimp only;rw[hi]
 refine⟨hv,zH (zlP hi O.o zlI (zka O.o (by show 3<=1000;decide))) _ ⟨by show 3<=100000;decide,?_⟩⟩;rw[e];refine zns (zkV rfl rfl O.o (by left) O.h mH O.l1.2 O.lu λv1 S1 h1 e1=>?_);have O1:=O.ext e1;refine zns (zkV rfl rfl O1.o (by left) O1.f JC O.l2.2 rfl λv2 S2 h2 e2=>?_);have O2:=O1.ext e2;refine zns (zkV rfl rfl O2.o (by left) O2.s JT O.l3.2 rfl λv3 S3 h3 e3=>?_);refine k _ _ ?_ ((e1.trans e2).trans e3);rw[D.old];show D.lst false [v1.old,v2.old,v3.old]=_;rw[h1,h2,h3];rfl
def zuN{F:cD}{f:Addr}{P:D->aJ->Prop}(h0:ws[0]?=some w)(hl:(vQ A).lookup w=some (.obj f))(hm:(f,F)∈fK A)(h:F [.obj q,Row ws false] S P λ_ _=>False) :
  Em A [.obj q,Row ws b] S P λ_ _=>False:=by
 refine ut (c:=1) ?_;refine yZ (V:=λ_=>nP (vQ A) (ak bC (vW 1) (kW (.int 0)))) (d:=.obj f) (λP p=>eQ (j:=0) rfl h0 _ (by show Br ((vQ A).lookup w) P;rw[hl];exact p)) ?_;refine⟨λ_ _=>False,?_,λnm S' y=>y.elim⟩;refine⟨F,hm,?_⟩;exact dz (V:=λ_=>vW 0) (ds:=[Row ws false]) (d:=.obj q) (au rfl) (dz (V:=λ_=>vW 1) (au rfl) fP) _ ⟨rfl,uz h (λd S' y=>y) λ_ _ y=>y⟩
end
section
variable{A:bN}{S:aJ}{q a1 a2 a3:Addr}{b1 b2 b3 u:List D}
def Off.ne1(O:Off A S q a1 a2 a3 b1 b2 b3 u):q≠a1:=λe=>by
 have h:=O.h;rw[<-e,O.o]at h
 have:=congrArg (λo:Option Ob=>o.map λo=>o.fs.length) h
 exact absurd this (by show ¬some 1=some 3;decide)
def stA(A:bN)(S:aJ)(a1:Addr)(b1:List D):aJ:=cW S a1 (aQ A sA.ds ((b1++[aX sH])++[aX sA]) [])
def zrq(O:Off A S q a1 a2 a3 b1 b2 b3 uA):Bh A [.obj q,.str "again here"] S (λv S'=>v=.str "again" /\ S'=stA A S a1 b1) λ_ _=>False:=by
 refine zmx (ws:=["again","here"]) (by decide) (by decide) (zoq rfl (by decide) (by decide) (by decide) (by left)) (zuN (w:="again") (f:=A.answer_again) (F:=Jp A) rfl (by left) (by unfold fK;simp) ?_);refine ut (c:=0) ?_;have l:=O.l1.1;refine Ce (qi (i:=0) (ds:=[.str "here"]) rfl O.o zqu (dz (V:=λ_=>ak bC (vW 1) (kW (.int 1))) (eQ (j:=1) rfl rfl) fP) (zpm (us:=[]) (a:=a1) O.o (by left) O.h (pW _) (lB _) (by decide) (by rw[iB];show _+1<=_;omega)) (λv S' h=>?_) λ_ _ z=>z);exact⟨rfl,h⟩
end
def Ps(A:bN)(q:Addr)(S:aJ)(p:D):Prop:=∃x w zz:Str,p=.tup [.str x,.str w]/\("no ":Str)++w=zz/\bQ zz=true/\w.length<=100/\cZ A q S x zz
section
variable{A:bN}{S:aJ}{q a1 a2 a3:Addr}{b1 b2 b3 u:List D}
def ps{x w zz:Str}(hs:cZ A q S x zz)(h:(decide (("no ":Str)++w=zz)&&(bQ zz&&decide (w.length<=100)))=true):Ps A q S (.tup [.str x,.str w]):=by
 rw[jT,jT,YAK,YAK]at h;exact⟨x,w,zz,rfl,h.1,h.2.1,h.2.2,hs⟩
def zsq(O:Off A S q a1 a2 a3 b1 b2 b3 u){m:Nat}(h:m<=1000):∀p∈lN (m:Int),Ps A q S p:=by
 have e1:(1000000001:Int)+(m:Int)=((1000000000+m+1:Nat):Int):=by omega
 have e2:(2:Int)+(m:Int)=((2+m:Nat):Int):=by omega
 have e4:(4:Int)+(m:Int)=((4+m:Nat):Int):=by omega
 unfold lN;simp only[La,jL,YCu,YCF,and_true];rw[e1,e2,e4];exact⟨ps (zsk O) (by decide),ps (zwc O) (by decide),ps (zw8 O) (by decide),ps (zxB O) (by decide),ps (zwZ O) (by decide),ps (zxj O) (by decide),ps (zwA O) (by decide),ps (zxn O) (by decide),ps (zwt O) (by decide),ps (zxo O) (by decide),ps (ztU O (by omega) (zum (by omega))) (by decide),ps (zwU O) (by decide),ps (zxh O) (by decide),ps (zvA O (by omega) (zvS (by omega))) (by decide),ps (zvv O (by omega) (zw0 (by omega))) (by decide),ps (zxe O) (by decide),ps (zvU O (by omega) (zxU (by omega))) (by decide),ps (zwL O) (by decide),ps (zvQ O) (by decide),ps (zrF O) (by decide),ps (zxH O) (by decide),ps (zxl O) (by decide),ps (zxL O) (by decide),ps (zwH O) (by decide),ps (zvN O) (by decide),ps (zw7 O) (by decide)⟩
end
def EY{I:aJ->WL}{t:Tg}{B R:WF}{E:iY}{S:aJ}{Z:Env}{xs:List D}(h:iD (I S) Z xs)(k:mz t B {E with nx:=R E} xs S Z):aN (mJ I t B) R E S Z:=h _ k
def zxv{S:aJ}{a:Addr}{o:Ob}(h:S a=some o):cW S a o=S:=by
 funext b
 by_cases e:b=a
 .rw[e,gK,h]
 .rw[gQ e]
def zvc{i:Nat}{B:WF}{E:iY}{x:D}{xs:List D}{S:aJ}{Z:Env}(h:B {nx:=mz (.nm i) B E xs,ct:=mz (.nm i) B E xs,bk:=E.nx,rt:=E.rt} S (Z.set i (.val x))):mz (.nm i) B E (x::xs) S Z:=h
def ex_{A:WOE}{E:iY}{S:aJ}{Z:Env}(h:A Z S λ_ S'=>E.nx S' Z):jR A E S Z:=h
def iC:Ya->List Yd->List D
 |_,[]=>[]
 |s,d::r=>aX s::iC (kh s d) r
theorem CT:∀(s:Ya)(zs:List Yd),(iC s zs).length=zs.length
 |_,[]=>rfl
 |s,d::r=>congrArg (·+1) (CT (kh s d) r)
theorem Fj:∀(s:Ya)(zs:List Yd),(iC s zs).map D.old=iC s zs
 |_,[]=>rfl
 |s,d::r=>by rw[iC,fj,lB,Fj]
theorem zj3:∀{xs:List Yd}{s:Ya}{r:List Yd},Fits s (xs++r)->Fits (iR s xs) r
 |[],_,_,h=>h
 |d::xs,s,r,h=>zj3 (xs:=xs) (s:=kh s d) (r:=r) h.2
def zr0(s:Ya)(xs ys:List Yd):iR (iR s xs) ys=iR s (xs++ys):=by unfold iR;rw[List.foldl_append]
section
variable{A:bN}{q a:Addr}{fs:List (Str×Addr)}{n:Str}{E:iY}
theorem J7{α:Type}(f:α->D)(g:α->Yd){V:WE}{i:Nat}{R:Sl->Env}(hV:∀y Z,Z[i]?=some (.val (f y))->Ev V Z (yD (g y)))(hR:∀x d,(R x).set i (.val d)=R (.val d))(h3:∀x,(R x)[3]?=some (.val (.obj q)))(hi:∀d,(R (.val d))[i]?=some (.val d))(hn:fs.lookup n=some a)(qa:q≠a) :
  ∀(ys:List α)(s:Ya)(bs:List D)(S:aJ)(x:Sl),S q=some (cA A fs)->S a=some (aQ A s.ds (bs++[aX s]) [])->fH s->Fits s (ys.map g)->s.ds.length+ys.length<500->bs.length+ys.length<500->nq [x]=true ->
  (∀x,nq [x]=true->E.nx (cW S a (aQ A (iR s (ys.map g)).ds ((bs++iC s (ys.map g))++[aX (iR s (ys.map g))]) [])) (R x)) ->
  mz (.nm i) (jR (dC 3 A.off "deed" 3 (wZ A) (λ_ _=>False) (bF (bU λS=>(kW (.str n))) (bF (bU λS=>V) aO)))) E (ys.map f) S (R x)
 |[],s,bs,S,x,hS,hA,ok,_,_,_,hv,k=>by
  have k:=k x hv;rw[show(bs++iC s (([]:List α).map g))=bs from YAF _,show iR s (([]:List α).map g)=s from rfl,zxv hA]at k;exact k
 |y::ys,s,bs,S,x,hS,hA,ok,hf,l1,l2,_,k=>by
  rw[YAA]at l1 l2;refine zvc (ex_ ?_);rw[hR];refine qi (ds:=[.str n,yD (g y)]) (h3 _) hS (by decide) (dz (V:=λ_=>kW (.str n)) aF (dz (V:=λ_=>V) (hV y _ (hi _)) fP)) (zma hS hn hA ok hf.1.2 (by omega)) (λv S' h=>?_) λe S' z=>by rw[hf.1.1]at z;cases z.1
  obtain⟨_,rfl⟩:=h;refine J7 f g hV hR h3 hi hn qa ys (kh s (g y)) (bs++[aX s]) _ _ (by rw[gQ qa];exact hS) gK (zif ok hf.1.2 hf.1.1 (by omega)) hf.2 ?_ ?_ rfl λx hv=>?_
  .show(s.ds++[_]).length+_<_;rw[iB];show s.ds.length+1+_<_;omega
  .rw[iB];show bs.length+1+_<_;omega
  .have k:=k x hv;rw[qQ,Fx bs];exact k
def zqa{S:aJ}{b:Addr}:zbY A [.obj b] (cW S b ⟨A.off,[]⟩) (λd S'=>d=.non/\S'=cW S b (cA A [])) (λ_ _=>False):=by
 refine iJ (m8 (n:=0) (eG b)) ?_;refine⟨⟨A.off,[]⟩,gK,rfl,by show 0<100;decide,?_⟩;exact⟨rfl,by rw[qQ];rfl⟩
def ziP{xs:List D}{S:aJ}{Z:Env}(hS:S q=some (cA A fs))(hx:Tx n)(h1:lR n=true)(h2:fs.lookup n=none)(hl:fs.length<1000)(k:∀b S',(∀c o,S c=some o->c≠b)->S' q=some (cA A (fs++[(n,b)]))->S' b=some (aQ A [] [aX fu] [])->(∀c o,c≠q->S c=some o->S' c=some o)->mz (.nm 4) (jR (dC 3 A.off "open_one" 2 (xN A) (λ_ _=>False) (bF (bU λS=>(vW 4)) aO))) E xs S' (Z.set 4 (.val (.str n))))(h3:(Z.set 4 (.val (.str n)))[3]?=some (.val (.obj q)))(h4:4<Z.length) :
  mz (.nm 4) (jR (dC 3 A.off "open_one" 2 (xN A) (λ_ _=>False) (bF (bU λS=>(vW 4)) aO))) E (.str n::xs) S Z:=by
 refine qi h3 hS (by decide) (dz (au (by simp[h4])) fP) (zsw hS hx h1 h2 hl) (λv S' h=>?_) λ_ _ z=>z;obtain⟨b,hb,rfl⟩:=h;have nb:∀c o,S c=some o->c≠b:=λc o h e=>by rw[e,hb]at h;cases h
 refine k b _ nb gK ?_ λc o h1 h2=>?_
 .rw[gQ (YAD (nb q _ hS)),gK]
 .rw[gQ h1,gQ (nb c o h2)];exact h2
end
abbrev uG(q:Addr)(m:Int)(x4 x5 x6 x7 x8 x9 x10 x11:Sl):Env:=[.un,.val .box,.val (.int m),.val (.obj q),x4,x5,x6,x7,x8,x9,x10,x11]
def zlc{d e d':D}{T:D->Prop}(h:d.old=d')(h2:e.old=d')(ok:gq d' 5=true)(k:T (.bl true)):up (rE 6) [d,e] T:=by
 refine pC (P:=(·=.bl true)) ?_ λx hx=>by subst hx;exact k
 have h3:d'.old=d':=by rw[<-h,zmQ]
 exact zxp (ds':=[d',d']) (by simp[h,h2,h3]) (zis 5 d' d' rfl ok)
def zu8{X Y:Prop}(h:X):lH (.bl true) λt=>if t=true then X else Y:=by
 show(if true=true then X else Y);rw[if_pos rfl];exact h
def zvx:gq (.lst false duL) 5=true:=by decide
section
variable{A:bN}{S:aJ}{q a1 a2 a3:Addr}{b1 b2 b3 u:List D}{Z:Env}{E:iY}
def znK{x4 x5 x6:Sl}{m:Int}{r:Env}(h:nq [x4,x5,x6]=true)(k:nq r=true):nq (.un::.val .box::.val (.int m)::.val (.obj q)::x4::x5::x6::r)=true:=by
 have t:∀(a:Sl)(r:Env),nq (a::r)=true->nq r=true/\∀r',nq r'=true->nq (a::r')=true:=by
  intro a r h;cases a with
  |un=>exact⟨h,λ_ z=>z⟩
  |val d=>exact⟨h,λ_ z=>z⟩
  |_=>cases h
 obtain⟨h5,k4⟩:=t _ _ h;obtain⟨h6,k5⟩:=t _ _ h5;exact k4 _ (k5 _ ((t _ _ h6).2 _ k))
def zti{R:WOA}{o9 B:WF}(h:R Z S λds S1=>ds.length=2/\up (rE 6) ds λd=>lH d λt=>if t=true then nilF {E with nx:=B E} S1 Z else o9 {E with nx:=B E} S1 Z):aN (pX (vd 2 (rE 6) R) o9 nilF) B E S Z:=h
def nf{B:WF}(h:B E S Z):nilF {E with nx:=B E} S Z:=h
def zw1{R:WOA}{o9:WF}(h:R Z S λds S1=>ds.length=2/\up (rE 6) ds λd=>lH d λt=>if t=true then nilF E S1 Z else o9 E S1 Z):pX (vd 2 (rE 6) R) o9 nilF E S Z:=h
def Aj{C:WOE}{V:aJ->WE}{K:List D->aJ->Prop}(h:C Z S λd S1=>V S1 Z λe=>K [d,e] S1):bF C (bF (bU V) aO) Z S K:=h
def zuL{m:Int}{x4 x5 x6 x8 x9 x10 x11:Sl}{v:D}(O:Off A S q a1 a2 a3 b1 b2 b3 uA)(hv:v.old=.lst false duL)(hx:nq (uG q m x4 x5 x6 (.val v) x8 x9 x10 x11)=true)(hE:∀S d,d=.bl true->E.rt S d):Ig A E S (uG q m x4 x5 x6 (.val v) x8 x9 x10 x11):=by
 refine zti (Aj (zlH O hx rfl λw S1 hw e1=>qF rfl ⟨rfl,zlc hw hv zvx (zu8 (nf ?_))⟩));have O1:=O.ext e1;refine zti (Aj ?_);refine zlP rfl O1.o zlI (zka O1.o (by show 3<=1000;decide)) _ ?_;refine qi rfl O1.o ztk (dz aF fP) (zrq O1) (λd S2 h=>?_) λ_ _ z=>z;obtain⟨rfl,rfl⟩:=h;refine⟨by show 2<=100000;decide,?_⟩;refine iW (mX (aH (iW (mX (aH aF (aH aF (aH aF bw))))) (aH aF bw))) _ ⟨rfl,zlc (d':=.lst false [.lst false [.str "here",.str "full",.str "sunk"],.str "again"]) (by simp[D.old]) (by simp[D.old]) (by decide) (zu8 (nf ?_))⟩;have h1:stA A S1 a1 b1 q=some (cA A [("here",a1),("full",a2),("sunk",a3)]):=by unfold stA;rw[gQ O.ne1];exact O1.o
 refine qi (i:=3) (Z:=uG q m x4 x5 x6 (.val v) x8 x9 x10 x11) rfl h1 zqy (dz aF fP) (zkr h1 (by left) gK (zs8 okA) (zuy (zuy O.l1.2)) rfl) (λd S2 h=>?_) λ_ _ z=>z;obtain⟨b,rfl,_,rfl⟩:=h;refine⟨⟨_,gK,rfl,Io zfZ⟩,pC (zd6 (s:=sA) gK) λd hd=>?_⟩;subst hd;exact⟨rfl,zlc (d':=.int 2) (by exact pB 2) (pB 2) (by decide) (hE _ _ rfl)⟩
def zvk{V:aJ->WE}{i j:Nat}{x y:D}{B:WF}(h:Ev (V S) Z (.tup [x,y]))(k:B E S ((Z.set i (.val x)).set j (.val y))):aN (ji λS=>bh (.tp 2 (.cons (.nm i) (.cons (.nm j) .nil))) (V S)) B E S Z:=h _ ⟨rfl,k⟩
def zxq{I:aJ->WL}{t:Tg}{B R:WF}(J:List D->aJ->Env->Prop){xs:List D}(h:iD (I S) Z xs)
  (hs:∀x rest S Z (E':iY),(∀S Z,J rest S Z->E'.nx S Z)->J (x::rest) S Z->gD t x Z λZ'=>B E' S Z') (hd:∀S Z,J [] S Z->R E S Z) (h0:J xs S Z):aN (mJ I t B) R E S Z:=
 EY h (zgH J (λx rest S Z E' h1 _ _ _ h5=>hs x rest S Z E' h1 h5) hd xs S Z h0)
def zrm{m:Nat}{x4 x5 x6:Sl}{v:D}(O:Off A S q a1 a2 a3 b1 b2 b3 uA)(hv:v.old=.lst false duL)(hx:nq [x4,x5,x6]=true)(hm:m<=1000)(hE:∀S d,d=.bl true->E.rt S d):Kz A E S (uG q m x4 x5 x6 (.val v) (.val (.lst true (lN m))) .un .un .un):=by
 have ll:(lN m).length=26:=rfl;refine zxq (λrest S Z=>∃x9 x10 x11,Off A S q a1 a2 a3 b1 b2 b3 uA/\(∀d∈rest,∃k:Int,d=.int k)/\nq [x9,x10,x11]=true/\Z=uG q m x4 x5 x6 (.val v) (.val (.lst true (lN m))) x9 x10 x11) (xs:=qL 0 26) (λP p=>⟨by show -(2^62)<=((26:Nat):Int)/\((26:Nat):Int)<2^62;decide,p⟩) ?_ ?_ ⟨.un,.un,.un,O,λd hd=>?_,rfl,rfl⟩
 .rintro x rest S Z E' hnx ⟨x9,x10,x11,O,hr,hw,rfl⟩;obtain⟨k,rfl⟩:=hr x lF;unfold gD;have r0:0<=(k+(m:Int)) % 26:=zA _ (by decide);have r1:(k+(m:Int)) % 26<26:=yt _ (by decide);obtain⟨j,hj⟩:=Fp r0;have jl:j<(lN (m:Int)).length:=by rw[ll];omega
  obtain⟨y,w,zz,hp,e1,e2,e3,hs⟩:=zsq O hm _ (List.getElem_mem jl);refine zvk (x:=.str y) (y:=.str w) (zs2 (m:=true) (t:=lN m) (k:=(k+(m:Int)) % 26) (au (i:=8) rfl) (zt0 (zkL (au (i:=9) rfl) (au (i:=2) rfl)) (zsl (Lr (m:=true) (t:=lN m) (au (i:=8) rfl)) (by rw[ll];rfl))) (by rw[hj];exact wj (by rw[YAB jl,hp]))) ?_;refine zw1 (Aj (V:=λ_=>ak bM (kW (.str "no ")) (vW 11)) ?_);have ea:Ev (ak bM (kW (.str "no ")) (vW 11)) (uG q m x4 x5 x6 (.val v) (.val (.lst true (lN m))) (.val (.int k)) (.val (.str y)) (.val (.str w))) (.str zz):=by
   have:("no ":Str).length<=100:=by decide
   exact e1▸Ew aF (au rfl) (by omega)
  .refine qi (i:=3) (Z:=uG q m x4 x5 x6 (.val v) (.val (.lst true (lN m))) (.val (.int k)) (.val (.str y)) (.val (.str w))) (ds:=[.str y]) rfl O.o ztk (dz (V:=λ_=>vW 10) (au rfl) fP) hs (λd S2 h=>?_) λ_ _ z=>z;rcases h with h|⟨rfl,h⟩
   .exact h.elim
   .exact ea _ ⟨rfl,zlc (d':=.str zz) (cC _) (cC _) (v7 e2) (zu8 (hnx _ _ ⟨_,_,_,O.ext h,λd hd=>hr d (fL _ hd),rfl,rfl⟩))⟩
 .rintro S Z ⟨x9,x10,x11,O,_,hw,rfl⟩;exact zuL O hv (znK hx hw) hE
 .obtain⟨k,e,_⟩:=zsI hd;exact⟨k,e⟩
end
def hv0{x y:Sl}{d:D}(hx:nq [x]=true)(hy:nq [y]=true):nq [x,.val d,y]=true:=by
 cases x with
 |un=>exact hy
 |val d=>exact hy
 |_=>cases hx
def zxQ{t:Tg}{B R:WF}{E:iY}{S:aJ}{Z:Env}(h:R E S Z):mz t B {E with nx:=R E} [] S Z:=h
def ch12:yM "abcdefghijkl"=rZ.map D.str:=by left
def ch10:yM "abcdefghij"=(rZ.take 10).map D.str:=by left
def fitA:Fits fu (ur++[.allow 2]):=K4 (by decide)
def ztD{Z:Env}{z:Str}:iD (iM (kW (.str z))) Z (yM z):=λP p=>p
def zt8(A:bN):wI 10 (zgO A):=by
 unfold wI zgO;refine zyw (zsM (b:=1) rfl aF (by decide) (by decide)) ?_;rintro _ ⟨m',rfl,m0,m1⟩;obtain⟨m,rfl⟩:=Fp m0;refine znY ?_;intro q _;refine uz zqa (λd S' h=>?_) λ_ _ z=>z;obtain⟨rfl,rfl⟩:=h;refine⟨rfl,?_⟩;unfold gD;refine EY (Z:=uG q m .un .un .un .un .un .un .un .un) (wu (dU (aH aF (aH aF (aH aF bw))))) ?_;refine ziP (fs:=[]) (q:=q) (Z:=uG q m .un .un .un .un .un .un .un .un) gK (rm (by decide)) (by decide) rfl (by decide) (λa1 S1 n1 hq1 h11 _=>?_) rfl (by simp);have q1:q≠a1:=n1 q _ gK;refine ziP (fs:=[("here",a1)]) (q:=q) hq1 (rm (by decide)) (by decide) (by left) (by simp) (λa2 S2 n2 hq2 h22 k2=>?_) rfl (by simp);have q2:q≠a2:=n2 q _ hq1;have h12:=k2 a1 _ (YAD q1) h11;have a12:a1≠a2:=n2 a1 _ h11;refine ziP (fs:=[("here",a1),("full",a2)]) (q:=q) hq2 (rm (by decide)) (by decide) (by left) (by simp) (λa3 S3 n3 hq3 h33 k3=>?_) rfl (by simp);have q3:q≠a3:=n3 q _ hq2;have h13:=k3 a1 _ (YAD q1) h12;have h23:=k3 a2 _ (YAD q2) h22;have a13:a1≠a3:=n3 a1 _ h12;have a23:a2≠a3:=n3 a2 _ h22;clear k2 k3 n1 n2 n3 h11 h12 h22 hq1 hq2;refine zxQ ?_;refine EY ztD ?_;rw[ch12];refine J7 (a:=a2) D.str Yd.mark (i:=4) (λy Z h=>dU (ds:=[.str "mark",.str y]) (aH aF (aH (au h) bw))) (λ_ _=>rfl) (λ_=>rfl) (λ_=>rfl) (by left) q2 rZ fu [] S3 _ hq3 h23 yC (zkN wG) (by decide) (by decide) rfl λx hx=>?_;have ok1:fH (iR fu (rZ.map Yd.mark)):=Ks (zkN wG) yC (by decide);dsimp only;refine EY ztD ?_;rw[ch10];refine J7 (a:=a2) D.str Yd.hand (i:=4) (λy Z h=>dU (ds:=[.str "hand",.str y]) (aH aF (aH (au h) bw))) (λ_ _=>rfl) (λ_=>rfl) (λ_=>rfl) (by left) q2 (rZ.take 10) (iR fu (rZ.map Yd.mark)) _ _ _ (by rw[gQ q2];exact hq3) gK ok1 (zj3 wG) (by decide) (by rw[iB,CT];decide) hx λx hx=>?_;rw[qQ,zr0,YCH];have hq4:∀{o:Ob},cW S3 a2 o q=some (cA A [("here",a1),("full",a2),("sunk",a3)]):=λ{o}=>by rw[gQ q2];exact hq3
 have h14:∀{o:Ob},cW S3 a2 o a1=some (aQ A [] [aX fu] []):=λ{o}=>by rw[gQ a12];exact h13
 have h34:∀{o:Ob},cW S3 a2 o a3=some (aQ A [] [aX fu] []):=λ{o}=>by rw[gQ (YAD a23)];exact h33
 dsimp only;refine yZ (iW (mX (aH (dU (aH aF (aH aF bw))) (aH (dU (aH aF (aH aF bw))) (aH (dU (aH aF (aH aF bw))) (aH (dU (aH aF (aH aF bw))) (aH (dU (aH aF (aH aF bw))) (aH (dU (aH aF (aH aF (aH aF (aH aF (aH aF bw)))))) bw)))))))) ?_;refine EY (xs:=(ur++[Yd.allow 2]).map yD) (zH (pP (s:=(ur.take 6).map yD) (t:=[.tup [.str "aside",.str "g"],.tup [.str "allow",.int 2]]) (au (i:=5) rfl) (iW (mX (aH (dU (aH aF (aH aF bw))) (aH (dU (aH aF (aH aF bw))) bw)))) (by decide))) ?_;refine J7 (a:=a1) yD id (i:=6) (R:=λy=>uG q m x (.val (.lst true (ur.take 6 |>.map yD))) y .un .un .un .un .un) (λy Z h=>au h) (λ_ _=>rfl) (λ_=>rfl) (λ_=>rfl) (by left) q1 (ur++[.allow 2]) fu [] _ .un hq4 h14 yC (by rw[YCK];exact fitA) (by decide) (by decide) rfl λy hy=>?_;dsimp only;refine EY (xs:=Fb.map yD) (wu (dU (ds:=[.tup [.str "mark",.str "a"],.tup [.str "settle",.str "a"]]) (aH (dU (aH aF (aH aF bw))) (aH (dU (aH aF (aH aF bw))) bw)))) ?_;refine J7 (a:=a3) yD id (i:=6) (R:=λy=>uG q m x (.val (.lst true (ur.take 6 |>.map yD))) y .un .un .un .un .un) (λy Z h=>au h) (λ_ _=>rfl) (λ_=>rfl) (λ_=>rfl) (by left) q3 Fb fu [] _ _ (by rw[gQ q1];exact hq4) (by rw[gQ (YAD a13)];exact h34) yC (by rw[YCK];exact Gr) (by decide) (by decide) hy λy hy=>?_;rw[YCK,YCH];dsimp only;have hq6:∀{o u w:Ob},cW (cW (cW S3 a2 o) a1 u) a3 w q=some (cA A [("here",a1),("full",a2),("sunk",a3)]):=λ{o u w}=>by rw[gQ q3,gQ q1];exact hq4
 refine Ce (qi (i:=3) (ds:=[.str "here"]) rfl hq6 (by decide) (dz (V:=λ_=>kW (.str "here")) aF fP) (zpF (a:=a1) (ks:=sH.ds) (bs:=iC fu ur++[aX sH]) (x:=yD (.allow 2)) (y:=aX sA) (us:=[]) hq6 (by left) (by rw[gQ a13,gK];rfl) (pW _) (lB _) (by simp)) (λd S' h=>?_) λ_ _ z=>z);subst h;have O:Off A (cW (cW (cW (cW S3 a2 (aQ A sF.ds ((iC fu (rZ.map Yd.mark)++iC (iR fu (rZ.map Yd.mark)) ((rZ.take 10).map Yd.hand))++[aX sF]) [])) a1 (aQ A sA.ds ((iC fu ur++[aX sH])++[aX sA]) [])) a3 (aQ A sS.ds (iC fu Fb++[aX sS]) [])) a1 (aQ A sH.ds (iC fu ur++[aX sH]) uA)) q a1 a2 a3 (iC fu ur) (iC fu (rZ.map Yd.mark)++iC (iR fu (rZ.map Yd.mark)) ((rZ.take 10).map Yd.hand)) (iC fu Fb) uA:=by
  refine⟨by rw[gQ q1];exact hq6,gK,by rw[gQ (YAD a12),gQ a23,gQ (YAD a12),gK],by rw[gQ (YAD a13),gK],⟨by rw[CT];decide,Fj _ _⟩,⟨by rw[iB,CT,CT];decide,by rw[lY,Fj,Fj]⟩,⟨by rw[CT];decide,Fj _ _⟩,?_⟩;show [D.old _]=_;rw[jB (by simp[pW,lB])];rfl
 refine znY (zlH O (znK (hv0 hx hy) rfl) rfl λv S' hv e=>?_);unfold gD;refine yZ (i:=8) (sJ (aH (au (i:=2) rfl) bw) (zqr (by omega) (by omega))) ?_;exact zrm (O.ext e) hv (hv0 hx hy) (by omega) λ_ _ h=>h
end Fd
namespace Fen
open PySem L2
section
variable{P:Program}{w:PySem.World}{K:qd}{mg:Str->Option Value}{base:Heap}
def zyc:dj ["_law_script"] ["_law_script"] (gB sI):=⟨rfl,rfl,rfl,by decide,rfl,by decide,by decide⟩
def zvG{f:Addr}{fd:FuncData}(F:bD K "_law_box" "_law_box" sI f fd)(T:Txt K mg):aG P w K mg base dh 1 f fd ["_law_script"] (zuX K):=by
 refine F.ok zyc (λvs H Q E h=>?_) (λcdv A outer s H vs Q E hr h=>?_)
 .obtain⟨a,ns,rfl,_⟩:=h;rfl
 .obtain⟨a,ns,rfl,hS,hl,k⟩:=h;refine⟨_,vO (yq (zre (kj (Es zff rfl T.list Ma (kj (znX rH (pv 0) zqj (zp8 jM)) nF)) (kj jM (kj jM (kj jM nF)))))),?_⟩;refine⟨_,rfl,_,rfl,a,_,rfl,hS,λp hp=>?_⟩;rw[zyM hl];refine⟨p,_,rfl,.inl (cg.of cG),λc hc=>⟨by show 4<=sizeLine;decide,λb hb=>?_⟩⟩;have hcp:c≠p:=λz=>by rw[z,cG]at hc;cases hc
  have hbc:b≠c:=λz=>by rw[z,cG]at hb;cases hb
  have hb1:upd H p (.lst (ns.map V.int)) b=none:=by rw[ao hbc]at hb;exact hb
  have hbp:b≠p:=λz=>by rw[z,cG]at hb1;cases hb1
  have hc0:H c=none:=by rw[ao hcp]at hc;exact hc
  have hb0:H b=none:=by rw[ao hbp]at hb1;exact hb1
  refine k b c _ hb0 ⟨⟨0,0,17,cG,by decide,by decide,by decide,by decide⟩,by rw[ao hbc.symm,cG],hl⟩ λx o e=>?_;rw[ao (mW e hb0),ao (mW e hc0),ao (mW e hp)];exact e
def j0:dj ["_law_box_here","_law_many","_law_rest","_law_cell","_law_seed"] ["_law_box_here","_law_many"] (gB Ab):=⟨rfl,rfl,rfl,by decide,rfl,by decide,by decide⟩
def zmL{f:Addr}{fd:FuncData}(F:bD K "_law_take" "_law_take" Ab f fd)(T:Txt K mg):aG P w K mg base dh 1 f fd ["_law_box_here","_law_many"] zwD:=by
 refine F.ok j0 (λvs H Q E h=>?_) (λcdv A outer s H vs Q E hr h=>?_)
 .obtain⟨b,c,ns,m,rfl,_⟩:=h;rfl
 .obtain⟨b,c,ns,m,rfl,B,m0,m1,k⟩:=h;refine⟨_,pD (Dj (zks zub (uN dD (pv 0) jM (λ_ _=>rfl)) jM (uR _))
    (pD (xJ (i:=2) j0.nd rfl (Or.inl rfl) (uN dD (pv 0) jM (λ_ _=>rfl)))
    (pD (CG (qG zn9 (pv 2) (pv 1)) (zpx (pv 0) jM zh7))
    (vO (yq (qG Dn (pv 2) (pv 1)))))) LQ)
   (pD (xJ (i:=3) j0.nd rfl (Or.inl rfl) jM)
   (pD (Dj (zks zwE (uN dD (pv 0) jM (λ_ _=>rfl)) (zlb jC rfl T.len PySem.boot_len (kj (uN dD (pv 0) jM (λ_ _=>rfl)) nF)) (uR _))
    (pD (xJ (i:=3) j0.nd rfl (Or.inl rfl) (uN dD (uN dD (pv 0) jM (λ_ _=>rfl)) (uN dD (pv 0) jM (λ_ _=>rfl)) (λ_ _=>rfl)))
    (vO (zt3 (pv 0) jM zsg jM zvW zh7))) LQ)
   (pD (Dj (zks zvP (pv 3) (qG ztj jM jM) (uR _))
    (pD (CG (qG zn9 (pv 3) (pv 1)) (zpx (pv 0) jM zh7))
    (vO (yq (qG Dn (pv 3) (pv 1))))) LQ)
   (pD (xJ (i:=4) j0.nd rfl (Or.inl rfl) (uN dD (pv 0) jM (λ_ _=>rfl)))
   (pD (xJ (i:=4) j0.nd rfl (Or.inl rfl) (qG nM (qG nM (qG ztj (pv 4) jM) (qG zts jM (pv 4))) (qG zts jM (qG Dn (pv 3) jM))))
   (pD (CG (qG Dn (qG nM (pv 4) jM) jM) (zpx (pv 0) jM zh7))
   (vO (yq (qG Dn (qG zuR (uN dD (pv 0) jM (λ_ _=>rfl)) jM) (pv 1)))))))))),?_⟩
  obtain⟨p,r,d,e,hp0,hr0,hd0,hd1⟩:=B.ex;refine⟨_,rfl,b,_,_,.int r,rfl,rfl,cg.of e,rfl,_,_,rfl,rfl,_,rfl,?_⟩;refine yc (λh0=>?_) (λh0=>?_)
  .refine⟨_,rfl,b,_,_,.int r,rfl,rfl,cg.of e,rfl,?_⟩;refine⟨_,rfl,_,rfl,_,_,rfl,rfl,⟨m0,m1⟩,_,rfl,b,_,_,2,rfl,rfl,e,rfl,?_⟩;refine⟨_,rfl,_,rfl,_,_,rfl,rfl,m0,?_⟩;exact k _ _ (zA _ (by omega)) (yt _ m0) (B.put hp0 (YCI hr0 (by omega)) hd0 hd1) dM.upd
  refine⟨_,rfl,b,_,_,.int p,rfl,rfl,cg.of e,rfl,_,rfl,b,_,_,.ref c,rfl,rfl,cg.of e,rfl,c,_,rfl,.inl (cg.of B.cells),_,_,rfl,rfl,_,rfl,?_⟩;refine yc (λh1=>?_) (λh1=>?_)
  .have hlt:=YAJ h1;rw[cY]at hlt;obtain⟨z,hz⟩:∃z,ns[p.toNat]?=some z:=⟨_,YAB (by omega)⟩;have hat:lE (ns.map V.int) p=some (.int z):=by
    have q:=wj (xs:=ns.map V.int) (j:=p.toNat) (v:=.int z) (by rw[YAG,hz];rfl)
    rwa[Int.toNat_of_nonneg hp0]at q
   refine⟨_,rfl,b,_,_,.ref c,rfl,rfl,cg.of e,rfl,_,rfl,b,_,_,.int p,rfl,rfl,cg.of e,rfl,c,_,_,.int z,rfl,rfl,cg.of B.cells,hat,?_⟩;refine⟨_,rfl,b,_,1,.int p,rfl,rfl,cg.of e,rfl,_,_,rfl,rfl,b,_,_,1,rfl,rfl,e,rfl,?_⟩;have e1:upd H b (uE c (p+1) r d) b=some (uE c (p+1) r d):=cG;have hp1:0<=p+1:=by omega
   have B1:=B.put hp1 hr0 hd0 hd1;have X1:dM b H (upd H b (uE c (p+1) r d)):=dM.upd;refine⟨_,rfl,_,_,rfl,rfl,⟨by decide,by decide,by decide⟩,_,_,rfl,rfl,_,rfl,?_⟩;refine yc (λh2=>?_) (λh2=>?_)
   .refine⟨_,rfl,_,rfl,_,_,rfl,rfl,⟨m0,m1⟩,_,rfl,b,_,_,2,rfl,rfl,e1,rfl,_,rfl,_,rfl,_,_,rfl,rfl,m0,?_⟩;have hz0:(0:Int)<=z:=by
     have:=YAJ h2
     exact Int.le_trans (by decide) this
    exact k _ _ (zA _ (by omega)) (yt _ m0) (B1.put hp1 (YCI hz0 (by omega)) hd0 hd1) (X1.trans dM.upd)
   .refine⟨_,rfl,b,_,_,.int d,rfl,rfl,cg.of e1,rfl,?_⟩;refine⟨_,rfl,_,_,rfl,rfl,⟨by decide,by decide,by omega⟩,_,rfl,_,_,rfl,rfl,.inl ⟨by decide,by decide⟩,_,_,rfl,rfl,_,rfl,_,_,rfl,rfl,(by show(0:Int)<2147483629;decide),_,_,rfl,rfl,.inl ⟨by decide,by decide⟩,_,_,rfl,rfl,?_⟩;refine⟨_,rfl,_,_,rfl,rfl,_,_,rfl,rfl,(by show(0:Int)<2147483629;decide),_,rfl,b,_,_,3,rfl,rfl,e1,rfl,?_⟩;refine⟨_,rfl,b,_,_,_,rfl,rfl,cg.of cG,rfl,_,_,rfl,rfl,⟨by decide,by decide⟩,_,rfl,_,_,rfl,rfl,m0,?_⟩;exact k _ _ (zA _ (by omega)) (yt _ m0) (B1.put hp1 hr0 (zA _ (by decide)) (yt _ (by decide))) (X1.trans dM.upd)
  .have e1:=e;have hp1:=hp0;have B1:=B;have X1:dM b H H:=dM.refl _ _;refine⟨_,rfl,_,_,rfl,rfl,⟨by decide,by decide,by decide⟩,_,_,rfl,rfl,_,rfl,?_⟩;refine yc (λh2=>?_) (λh2=>?_)
   .refine⟨_,rfl,_,rfl,_,_,rfl,rfl,⟨m0,m1⟩,_,rfl,b,_,_,2,rfl,rfl,e1,rfl,_,rfl,_,rfl,_,_,rfl,rfl,m0,?_⟩;have hz0:(0:Int)<=0:=Int.le_refl _;exact k _ _ (zA _ (by omega)) (yt _ m0) (B1.put hp1 (YCI hz0 (by omega)) hd0 hd1) (X1.trans dM.upd)
   .refine⟨_,rfl,b,_,_,.int d,rfl,rfl,cg.of e1,rfl,?_⟩;refine⟨_,rfl,_,_,rfl,rfl,⟨by decide,by decide,by omega⟩,_,rfl,_,_,rfl,rfl,.inl ⟨by decide,by decide⟩,_,_,rfl,rfl,_,rfl,_,_,rfl,rfl,(by show(0:Int)<2147483629;decide),_,_,rfl,rfl,.inl ⟨by decide,by decide⟩,_,_,rfl,rfl,?_⟩;refine⟨_,rfl,_,_,rfl,rfl,_,_,rfl,rfl,(by show(0:Int)<2147483629;decide),_,rfl,b,_,_,3,rfl,rfl,e1,rfl,?_⟩;refine⟨_,rfl,b,_,_,_,rfl,rfl,cg.of cG,rfl,_,_,rfl,rfl,⟨by decide,by decide⟩,_,rfl,_,_,rfl,rfl,m0,?_⟩;exact k _ _ (zA _ (by omega)) (yt _ m0) (B1.put hp1 hr0 (zA _ (by decide)) (yt _ (by decide))) (X1.trans dM.upd)
end
end Fen
namespace Fd
open PySem L2
section
variable{P:Program}{w:World}{K:qd}{mg:Str->Option Value}{base:Heap}
theorem zmL{f:Addr}{fd:FuncData}(F:bD K "_law_take" "_law_take" Fen.Ab f fd)(T:Bt mg):aG P w K mg base dh 1 f fd ["_law_box_here","_law_many"] (eV K 2 Av):=by
 refine(Fen.zmL F ⟨T.list,T.len,T.range⟩).imp λvs H Q E ⟨β,G,ds,gh,bx,hv,hl,P',q,hP⟩=>?_;unfold Av at q;split at q
 .rename_i m
  obtain⟨v1,v2,rfl,e1,e2⟩:=zyu hv;cases e1;cases e2;obtain⟨cc,p,r,d,ns,hb,p0,r0,d0,d1,hc,hn⟩:=bx.ex;refine⟨β,cc,ns,m,rfl,⟨⟨p,r,d,hb,p0,r0,d0,d1⟩,gh _ _ hc,hn⟩,q.1.1,q.1.2,λx H' x0 x1 B X=>?_⟩;refine hP _ (q.2 x x0 x1) _ H' G ⟨Same.refl _,λa o e=>?_,λa o n e=>X a o n e,λa e=>.inl e,⟨?_,bx.still⟩,λz=>by(rw[hb]at z;cases z),λcc2 p2 r2 d2 h2=>by
   rw[hb]at h2;cases h2;obtain⟨p',r',d',e',_⟩:=B.ex;exact⟨p',r',d',e'⟩⟩ rfl
  .have na:a≠β:=λz=>by rw[z,bx.still]at e;cases e
   exact X a o na (gh a o e)
  .obtain⟨p',r',d',e',q'⟩:=B.ex;exact⟨cc,p',r',d',ns,e',q'.1,q'.2.1,q'.2.2.1,q'.2.2.2,hc,hn⟩
 .exact q.elim
def K6(K:qd):Sp:=λvs H Q _=>∃(a:Addr)(ns:List Int),vs=[.ref a]/\cg K H a (ns.map V.int)/\ns.length<=63/\∀H',Q (.bl true) H'
def zug{f:Addr}{fd:FuncData}{st:Stmt}{rest:List Stmt}{N:List Str}{n k:Nat}{B:WF}{p1 p2 p3 p4 p5:Pos}(F:bD K "law" "law" st f fd)
  (hbd:nD st=.Assign [.Name "_law_box_here" p1] (.Call (.Name "_law_box" p2) [.Name "_law_script" p3] [] p4) p5::rest)
  (cB:gG P w K mg base "_law_box" 1 ["_law_script"] (Fen.zuX K))
  (hB:∀{cdv:Value}{A:Around}{outer:List PySem.Env}{s:Shared}{H:Hp}{E:XK}{β:Addr}{H1 G1:Hp},(("_law_script"::"_law_box_here"::N:List Str)).Nodup->bA k (A.deeper (PyProof.Rows.envOfC "law" (gB st) s.heap.objs.size f cdv)) ->
   mQ (dI dh P w K mg base ("_law_script"::"_law_box_here"::N) "law" (gB st) f cdv A outer s H E).nox ⟨K,β,H1,G1,λ_=>none⟩ rest B)
  (h:wI n B) (hN:N.length=n:=by rfl) (S:dj ("_law_script"::"_law_box_here"::N) ["_law_script"] (gB st):=by exact⟨rfl,rfl,rfl,by decide,rfl,by decide,by decide⟩)
  (hgl:(gB st).names.lookup ("_law_box":Str)=some .globalImplicit:=by decide) (hs0:(gB st).names.lookup ("_law_script":Str)=some .local:=by decide) (hs1:(gB st).names.lookup ("_law_box_here":Str)=some .local\/(gB st).names.lookup ("_law_box_here":Str)=some .cell:=by decide) (hk:1<=k:=by decide):aG P w K mg base dh (k+1) f fd ["_law_script"] (K6 K):=by
 refine F.ok S (λvs H Q E ⟨a,ns,e,_⟩=>by rw[e];rfl) (λcdv A outer s H vs Q E hr ⟨a,ns,e,hS,hl,q⟩=>?_);subst e;have hrest:mq (dI dh P w K mg base ("_law_script"::"_law_box_here"::N) "law" (gB st) f cdv A outer s H E).nox rest (λD U H'=>∃ β H1 G1,tOS ⟨K,β,H1,G1,λ_=>none⟩ B D U H'):=λaa s' U H' D I ⟨β,H1,G1,z⟩=>(@hB cdv A outer s H E β H1 G1 S.nd hr).pss aa s' U H' D I z;rw[hbd];obtain⟨fB,fdB,FB,mB,kB,bB⟩:=cB.ex;refine⟨_,pD (xJ (i:=1) S.nd rfl hs1 (zq FB (hr.mono hk) hgl mB kB bB .nil zc (kj (kY (i:=0) rfl (.inl hs0)) nF)) rfl (.inl rfl)) hrest,?_⟩;refine⟨.ref a,rfl,a,ns,rfl,hS,hl,λb cc H1 hb Bx Sm=>?_⟩;obtain⟨p,r,d,e,p0,r0,d0,d1⟩:=Bx.ex;have hcc:=Bx.cells;have nb:b≠cc:=Bx.ne
 let G1:Hp:=λx=>if x=cc then some (.lst (ns.map V.int))else none
 have gcc:G1 cc=some (.lst (ns.map V.int)):=by show(if cc=cc then _ else _)=_;rw[if_pos rfl]
 have gb:G1 b=none:=by show(if b=cc then _ else _)=_;rw[if_neg nb]
 have gh:Same G1 H1:=λx o ex=>by
  have ex':(if x=cc then some (HO.lst (ns.map V.int))else none)=some o:=ex;split at ex'
  .rename_i z;rw[z,hcc];exact ex'
  .cases ex'
 have bx:fU b H1 G1:=⟨⟨cc,p,r,d,ns,e,p0,r0,d0,d1,gcc,Bx.few⟩,gb⟩;have kn:∃ad,Kn K b G1 (λ_=>none) (λ_=>none) ad:=⟨λ_=>[],λp o z=>(by cases z),λp o i a x z=>(by cases z),λp q i j a z=>absurd rfl z,λa o z=>(by cases z),λa z=>absurd rfl z⟩;have ou:Out ⟨K,b,H1,G1,λ_=>none⟩ (λ_=>none) G1:=⟨λa z=>absurd rfl z,Same.refl _,λa z=>.inl z,gh,Dm.refl _⟩;refine⟨b,H1,G1,.un::.val .box::List.replicate n .un,G1,λ_=>none,λ_=>none,⟨G1,ou,⟨?_,aY.refl gh bx,λi sl ei=>?_,λi j x xs ys ei=>?_,kn⟩⟩,(@hB cdv A outer s H E b H1 G1 S.nd hr).mono {nx:=λ_ _=>False,rt:=λ_ d=>d=.bl true,bk:=λ_ _=>False,ct:=λ_ _=>False} _ _ _ ⟨λ_ Z z=>z.elim,λ_ d z v H' G' M' G2 _ _ t _ ev=>?_,λ_ Z z=>z.elim,λ_ Z z=>z.elim⟩ h⟩
 .simp[L2.uC,hN]
 .match i with
  |0=>cases ei;trivial
  |1=>cases ei;exact⟨.ref b,rfl,rfl⟩
  |i+2=>
   rw[YBu,YBu,CP]at ei;split at ei<;>cases ei
   trivial
 .match i with
  |0=>cases ei
  |1=>cases ei
  |i+2=>
   rw[YBu,YBu,CP]at ei;split at ei<;>cases ei
 .subst z;cases ev;exact q H'
end
end Fd
namespace Fd
open PySem L2 Fen
section
variable{P:Program}{w:World}{K:qd}{mg:Str->Option Value}{base:Heap}
local macro_rules|`(tactic| decreasing_trivial)=>`(tactic| first|exact Nk.mk rfl (by first|exact Or.inl rfl|exact Or.inr (Or.inl rfl)|exact Or.inr (Or.inr rfl)) (by decide) (by decide)|assumption|exact Bt.len ‹_›|exact Bd.dict ‹_›|exact Bd.abs ‹_›|exact zxa ‹_›|exact Bt.range ‹_›|exact Bt.list ‹_›|exact Bt.isinstance ‹_›|exact Bt.all ‹_›|exact Bt.tuple ‹_›|exact Bt.sorted ‹_›|exact Bt.set ‹_›|exact Bt.zip ‹_›|exact Bt.enumerate ‹_›|exact Bt.any ‹_›|exact Bt.min ‹_›|exact Bt.max ‹_›|exact Bt.int ‹_›|exact Bt.bool ‹_›|exact Bt.str ‹_›|exact bA.mono ‹_› (by first|decide|omega)|exact bA.units ‹_›|exact Ma|exact PyProof.Rows.boot_tuple|exact PyProof.Rows.boot_int|exact PyProof.Rows.boot_bool|exact PyProof.Rows.boot_str|decide|exact uQ (by left))
structure Xa where
 (aBadName aTaken aFull aNoMark aNoHand aSame aBadRise aNoRun aAside aNotAside aBadNumber aNothingLeft aSteady aNoDeed aKnown aNoFen aSettled:Addr)
structure Xh(K:qd)(mg:Str->Option Value)(a:Xa):Prop where
 vaX:mg "BadName"=some (.ref a.aBadName)
 vbo:mg "Taken"=some (.ref a.aTaken)
 vbb:mg "Full"=some (.ref a.aFull)
 vbg:mg "NoMark"=some (.ref a.aNoMark)
 vbf:mg "NoHand"=some (.ref a.aNoHand)
 vbl:mg "Same"=some (.ref a.aSame)
 vaZ:mg "BadRise"=some (.ref a.aBadRise)
 vbh:mg "NoRun"=some (.ref a.aNoRun)
 vaW:mg "Aside"=some (.ref a.aAside)
 vbi:mg "NotAside"=some (.ref a.aNotAside)
 vaY:mg "BadNumber"=some (.ref a.aBadNumber)
 vbj:mg "NothingLeft"=some (.ref a.aNothingLeft)
 vbn:mg "Steady"=some (.ref a.aSteady)
 vbd:mg "NoDeed"=some (.ref a.aNoDeed)
 vbc:mg "Known"=some (.ref a.aKnown)
 vbe:mg "NoFen"=some (.ref a.aNoFen)
 vbm:mg "Settled"=some (.ref a.aSettled)
 vbq:PySem.W.excIn K a.aBadName nC "ValueError.__new__"=true
 vbF:PySem.W.excIn K a.aTaken nC "ValueError.__new__"=true
 vbt:PySem.W.excIn K a.aFull nC "ValueError.__new__"=true
 vby:PySem.W.excIn K a.aNoMark nC "ValueError.__new__"=true
 vbx:PySem.W.excIn K a.aNoHand nC "ValueError.__new__"=true
 vbC:PySem.W.excIn K a.aSame nC "ValueError.__new__"=true
 vbs:PySem.W.excIn K a.aBadRise nC "ValueError.__new__"=true
 vbz:PySem.W.excIn K a.aNoRun nC "ValueError.__new__"=true
 vbp:PySem.W.excIn K a.aAside nC "ValueError.__new__"=true
 vbA:PySem.W.excIn K a.aNotAside nC "ValueError.__new__"=true
 vbr:PySem.W.excIn K a.aBadNumber nC "ValueError.__new__"=true
 vbB:PySem.W.excIn K a.aNothingLeft nC "ValueError.__new__"=true
 vbE:PySem.W.excIn K a.aSteady nC "ValueError.__new__"=true
 vbv:PySem.W.excIn K a.aNoDeed nC "ValueError.__new__"=true
 vbu:PySem.W.excIn K a.aKnown nC "ValueError.__new__"=true
 vbw:PySem.W.excIn K a.aNoFen nC "ValueError.__new__"=true
 vbD:PySem.W.excIn K a.aSettled nC "ValueError.__new__"=true
 vbG:PySem.W.exmOne K (.ref a.aNoDeed) (.ref a.aNoDeed)=some true
structure Fc(K:qd)(mg:Str->Option Value)(A:bN):Prop where
 cls:jN K A.fen
 n_kept:bH K A.fen "kept"
 n_books:bH K A.fen "books"
 n_undone:bH K A.fen "undone"
 vba:mg "Fen"=some (.ref A.fen)
structure Fo(K:qd)(mg:Str->Option Value)(A:bN):Prop where
 cls:jN K A.off
 n_fens:bH K A.off "fens"
 vbk:mg "Office"=some (.ref A.off)
theorem zhL(F:bD K "_law_same" "_law_same" GC f fd)(hm:mg "_law_same"=some (.ref f))(hb:Binds K fd ["_law_found","_law_due"] [])(T:Bt mg) :∀n,aG P w K mg base dh (1+n) f fd ["_law_found","_law_due"] (eV K 2 (rE n))
 |0=>⟨λvs H Q E ⟨β,G,ds,_,_,_,h,_⟩=>h,λA outer s H args us vs Q E _ _ _ _ ⟨β,G,ds,_,_,_,_,P,z,_⟩=>z.elim⟩
 |n+1=>by
  have cSelf:gG P w K mg base "_law_same" (1+n) ["_law_found","_law_due"] (eV K 2 (rE n)):=gG.of F (zhL F hm hb T n) hm hb;exact rW (N:=["_law_found","_law_due"]) (k:=1+n) F λ_ _=>
   (cu (du (DW.dt (w_or (wU (uq (dv 1))) (Ba (wU (uq (dv 1)))))) (cu (du (DW.dt (w_or (rC (uq (dv 0)) (uq (dv 1))) (Ba (rC (uq (dv 0)) (uq (dv 1)))))) (cz (cI yp)) jQ)
  (cz (cI (Dp (uF (rP (aB (dv 0) aK)) (rP (aB (dv 1) aK))) (BV (zvh (aB (DF.de (rN (Nc:=["_law_one","_law_other"]) (.tp 2 (.cons (.nm 0) (.cons (.nm 1) .nil))) (zqS (dv 0) (dv 1)) (mO (n:=2) rfl (dY (gn 0) (dY (gn 1) mU))) xf (iT cSelf (aB (dv 0) (aB (dv 1) aK))))) aK))))))) jQ)
  (cu (du (DW.dt (w_or (zuP (dv 0)) (Ba (zuP (dv 1))))) (cz (cI (Dp (zwi (dv 0)) (BV (zwi (dv 1)))))) jQ)
  (cu (du (DW.dt (w_or (rC (uq (dv 0)) (uq (dv 1))) (Ba (rC (uq (dv 0)) (uq (dv 1)))))) (cz (cI yp)) jQ)
  (cz (cI (Dp (uF (uq (dv 0)) (uq (dv 1))) (BV (uF (dv 0) (dv 1)))))))))
variable{f:Addr}{fd:FuncData}
variable(A:bN)(T:Bt mg)(T2:Bd mg)(fc:Fc K mg A)(fo:Fo K mg A)(xl:xr K mg NLx)(gA:gM P w K mg "ACTIONS" (zm A))(tb:jW P w K mg base 4 2 (jy A))(gO:gM P w K mg "ANSWERS" (vQ A))(to:jY P w K mg base 10 2 (fK A)){fI:Addr}{fdI:FuncData}(mkI:Mk K A.fen fI)(okI:aG P w K mg base (aZ P w) 2 fI fdI ["self"] (bZ K mg 1 (Cz A)))(bI:Binds K fdI ["self"] []){fJ:Addr}{fdJ:FuncData}(mkJ:Mk K A.off fJ)(okJ:aG P w K mg base (aZ P w) 1 fJ fdJ ["self"] (bZ K mg 1 (zbY A)))(bJ:Binds K fdJ ["self"] []){vaN:Tok}{vaO:Tok}{vaP:Tok}{vaQ:Tok}{vaR:Tok}{vaS:Tok}{vaT:Tok}{vaU:Tok}{vaV:Tok}(vaa:mg "FIGURES"=some (.str "0123456789" vaN))(vab:gM P w K mg "FORMS" cR)(vac:mg "HIGHEST_RISE"=some (.int 1000000000 vaO))(vad:gM P w K mg "LENGTHS" b7)(vae:mg "LETTERS"=some (.str "abcdefghijklmnopqrstuvwxyz" vaP))(vaf:mg "LONGEST_NAME"=some (.int 8 vaQ))(vag:mg "LONGEST_NUMBER"=some (.int 10 vaR))(vah:mg "MOST_FALSE"=some (.int 3 vaS))(vai:mg "MOST_HANDS"=some (.int 10 vaT))(vaj:mg "MOST_RUNS"=some (.int 40 vaU))(vak:mg "MOST_STANDS"=some (.int 12 vaV)){xa:Xa}(xh:Xh K mg xa)(oW:gG P w K mg base "_law_take" 1 ["_law_box_here","_law_many"] (eV K 2 Av))(vaA:Met P w K mg base (aZ P w) A.fen "back" 1 ["self"] (bZ K mg 1 (zfT A)))(vaq:Met P w K mg base (aZ P w) A.off "fen_called" 1 ["self","name"] (bZ K mg 2 (tZ A)))(vam:Met P w K mg base (aZ P w) A.off "back" 2 ["self","name"] (bZ K mg 2 (zdw A)))(oR:gG P w K mg base "_law_lines" 1 ["_law_many"] (eV K 1 zd5))(oM:gG P w K mg base "_law_same" (1+6) ["_law_found","_law_due"] (eV K 2 (rE 6)))(oy:gG P w K mg base "is_made_of" 1 ["text","signs","longest"] (eV K 3 Dw))(om:gG P w K mg base "is_name" 2 ["text"] (eV K 1 vm))(vat:Met P w K mg base (aZ P w) A.off "need_free" 3 ["self","name"] (bZ K mg 2 (yz A)))(oS:gG P w K mg base "empty_book" 1 [] (eV K 0 Ec))(vau:Met P w K mg base (aZ P w) A.off "open_one" 4 ["self","name"] (bZ K mg 2 (xN A)))(og:gG P w K mg base "with_entry" 1 ["book","word","value"] (eV K 3 qH))(oq:gG P w K mg base "turns_of" 1 ["stands","name"] (eV K 2 Cq))(oU:gG P w K mg base "next_stand" 2 ["stands","name"] (eV K 2 zd2))(oj:eY P w K mg base "with_new_stand" 3 ["book","name"] (cj K mg 2 JL))(oh:eY P w K mg base "last_stand" 2 ["stands","name"] (cj K mg 2 ww))(oo:eY P w K mg base "need_hand" 1 ["book","name"] (cj K mg 2 Df))(oE:eY P w K mg base "need_rise" 1 ["rise"] (cj K mg 1 JX))(oG:eY P w K mg base "need_run" 1 ["book","number"] (cj K mg 2 Mj))(oQ:eY P w K mg base "book_behind" 5 ["book","row"] (cj K mg 2 (Fv A)))(vaH:Met P w K mg base dh A.fen "now" 1 ["self"] (gR K 1 (pq A)))(vaC:Met P w K mg base (aZ P w) A.fen "deed" 6 ["self","row"] (bZ K mg 2 (Iu A)))(vap:Met P w K mg base (aZ P w) A.off "deed" 7 ["self","name","row"] (bZ K mg 3 (wZ A)))(oX:gG P w K mg base "marks_of" 1 ["stands"] (eV K 1 zf1))(vaG:Met P w K mg base dh A.fen "marks" 2 ["self"] (gR K 1 (xG A)))(vaE:Met P w K mg base dh A.fen "hands" 2 ["self"] (gR K 1 (DX A)))(vaz:Met P w K mg base dh A.fen "asides" 2 ["self"] (gR K 1 (yP A)))(vaL:Met P w K mg base dh A.fen "stands" 2 ["self"] (gR K 1 (Jc A)))(vay:Met P w K mg base dh A.fen "allowed" 2 ["self"] (gR K 1 (Ag A)))(vaJ:Met P w K mg base dh A.fen "runs" 2 ["self"] (gR K 1 (yu A)))(oA:gG P w K mg base "rows_that_count" 1 ["book"] (eV K 1 zbX))(vaB:Met P w K mg base dh A.fen "counting" 2 ["self"] (gR K 1 (zc6 A)))(vaD:Met P w K mg base dh A.fen "deeds" 1 ["self"] (gR K 1 (zeW A)))(oN:gG P w K mg base "_law_seen" 3 ["_law_fen"] (gR K 1 (Bv A)))(vaM:Met P w K mg base (aZ P w) A.fen "twin" 4 ["self"] (bZ K mg 1 (Hg A)))(vaw:Met P w K mg base (aZ P w) A.off "view" 5 ["self","name"] (bZ K mg 2 (uf A)))(vas:Met P w K mg base dh A.off "names" 1 ["self"] (gR K 1 (Bp A)))(vao:Met P w K mg base (aZ P w) A.off "copy_one" 5 ["self","name","other"] (bZ K mg 3 (Jh A)))(van:Met P w K mg base (aZ P w) A.off "close" 2 ["self","name"] (bZ K mg 2 (Ft A)))(o4:eY P w K mg base "fen_of" 7 ["deeds"] (bZ K mg 1 (zic A)))(oF:gG P w K mg base "has_settled" 3 ["fen"] (gR K 1 (wW A)))(oO:gG P w K mg base "each_once" 1 ["names","others"] (eV K 2 Ea))(oJ:gG P w K mg base "joined_deeds" 3 ["first","second"] (gR K 2 (zc5 A)))(o6:eY P w K mg base "joined" 8 ["first","second"] (bZ K mg 2 (Dq A)))(var:Met P w K mg base (aZ P w) A.off "join" 9 ["self","name","other","new"] (bZ K mg 4 (zV A)))(ow:gG P w K mg base "is_number" 2 ["text"] (eV K 1 Ai))(oY:gG P w K mg base "is_rise" 3 ["text"] (eV K 1 Ke))(oH:gG P w K mg base "is_written_as" 4 ["kind","text"] (eV K 2 HR))(oP:eY P w K mg base "deed_of" 5 ["text"] (cj K mg 1 vp))(vax:Met P w K mg base (aZ P w) A.fen "again" 1 ["self"] (bZ K mg 1 (Gi A)))(val:Met P w K mg base (aZ P w) A.off "again" 2 ["self","name"] (bZ K mg 2 (Dg A)))(oz:gG P w K mg base "parts_text" 1 ["parts"] (eV K 1 rK))(oI:gG P w K mg base "without_proof" 1 ["answer"] (eV K 1 rK))(oK:gG P w K mg base "told_between" 1 ["book","one","other"] (eV K 3 rK))(ot:eY P w K mg base "place_of" 3 ["book","name"] (cj K mg 2 uB))(oZ:eY P w K mg base "told_of" 4 ["book","one","other"] (cj K mg 3 zf0))(vaF:Met P w K mg base (aZ P w) A.fen "height" 5 ["self","one","other"] (bZ K mg 3 (Ho A)))(vaK:Met P w K mg base (aZ P w) A.fen "sank" 3 ["self","name"] (bZ K mg 2 (CZ A)))(vaI:Met P w K mg base (aZ P w) A.fen "parting" 4 ["self","one","other"] (bZ K mg 3 (JG A)))(oV:gG P w K mg base "hands_text" 1 ["hands"] (eV K 1 rK))(ox:eY P w K mg base "answer_or_refusal" 11 ["office","words"] (bZ K mg 2 (Em A)))(o0:eY P w K mg base "is_deed" 6 ["words"] (bZ K mg 1 (zgQ A)))(o3:eY P w K mg base "is_form" 7 ["words"] (bZ K mg 1 (DR A)))(o7:eY P w K mg base "answer" 12 ["office","line"] (bZ K mg 2 (zkI A)))(vav:Met P w K mg base (aZ P w) A.off "say" 13 ["self","line"] (bZ K mg 2 (Bh A)))
def zgz(F:bD K "__init__" "Office.__init__" Je f fd):aG P w K mg base (aZ P w) 1 f fd ["self"] (bZ K mg 1 (zbY A)):=
 iZ (N:=["self"]) F λY hY _ _=>
 (dH (ztI 0 fo.cls fo.n_fens))
def zmw(F:bD K "back" "Fen.back" J0 f fd):aG P w K mg base (aZ P w) 1 f fd ["self"] (bZ K mg 1 (zfT A)):=
 iZ (N:=["self"]) F λY hY _ _=>
 (di (yf (λS M G1=>(DT.nox (Fe (zxy 0 mZ fc.cls fc.n_kept)))) (dH (yN (λS M G1=>(aB aL aK)) (λ_ _ _ _ _ _ _ _ _ _ _ I r m y=>lq I m (by obtain⟨G1,o,r⟩:=r;exact hY _ _ _ _ _ _ _ y xh.vbj r.kn o r.stp)) xh.vbB xh.vbj)) rQ)
  (dH (zrP 0 fc.cls fc.n_undone fc.n_kept fc.n_books)))
def zf8(F:bD K "fen_called" "Office.fen_called" HH f fd):aG P w K mg base (aZ P w) 1 f fd ["self","name"] (bZ K mg 2 (tZ A)):=
 iZ (N:=["self","name"]) F λY hY _ _=>
 (di (yf (λS M G1=>(DT.nox (zrI 0 (dv 1) mZ fo.cls fo.n_fens))) (dH (yN (λS M G1=>(aB aL aK)) (λ_ _ _ _ _ _ _ _ _ _ _ I r m y=>lq I m (by obtain⟨G1,o,r⟩:=r;exact hY _ _ _ _ _ _ _ y xh.vbe r.kn o r.stp)) xh.vbw xh.vbe)) rQ)
  (dH (jP λS M G1=>(DS.nox (cI (zwB 0 (dv 1) mZ fo.cls fo.n_fens))))))
def zjJ(F:bD K "back" "Office.back" Ja f fd):aG P w K mg base (aZ P w) 2 f fd ["self","name"] (bZ K mg 2 (zdw A)):=
 iZ (N:=["self","name"]) F λY hY _ _=>
 (dH (nH (zkd vaA (jd vaq (λS M G1=>dv 0) (bV (aR λS M G1=>(DE.nox (dv 1))) cU) (fZ hY)) (fZ hY))))
def zle(F:bD K "_law_lines" "_law_lines" Jl f fd):aG P w K mg base dh 1 f fd ["_law_many"] (eV K 1 zd5):=
 rW (N:=["_law_many","_law_some"]) F λ_ _=>
 (cu (jc 1 (DF.de (lA (aB (dq (aB aL (aB aL aK))) (aB (dq (aB aL (aB aL aK))) (aB (dq (aB aL (aB aL aK))) aK))))))
  (cu (jc 1 (iu (dv 1) (DF.de (lA (aB (dq (aB aL (aB aL aK))) (aB (dq (aB aL (aB aL aK))) (aB (dq (aB aL (aB aL aK))) aK)))))))
  (cu (jc 1 (iu (dv 1) (DF.de (lA (aB (dq (aB aL (aB aL aK))) (aB (dq (aB aL (aB aL aK))) aK))))))
  (cu (jc 1 (iu (dv 1) (DF.de (lA (aB (dq (aB aL (aB aL aK))) (aB (dq (aB aL (aB aL aK))) aK))))))
  (cu (jc 1 (iu (dv 1) (DF.de (lA (aB (dq (aB (iu (iu aL (zrK (aB (iu dJ (dv 0)) aK))) aL) (aB aL aK))) aK)))))
  (cu (jc 1 (iu (dv 1) (DF.de (lA (aB (dq (aB aL (aB aL aK))) (aB (dq (aB aL (aB aL aK))) aK))))))
  (cu (jc 1 (iu (dv 1) (DF.de (lA (aB (dq (aB (iu aL (zrK (aB (iu dJ (dv 0)) aK))) (aB aL aK))) aK)))))
  (cu (jc 1 (iu (dv 1) (DF.de (lA (aB (dq (aB (iu aL (zrK (aB (iu dJ (dv 0)) aK))) (aB aL aK))) (aB (dq (aB aL (aB aL aK))) aK))))))
  (cu (jc 1 (iu (dv 1) (DF.de (lA (aB (dq (aB (iu aL (zrK (aB (iu dJ (dv 0)) aK))) (aB aL aK))) (aB (dq (aB aL (aB aL aK))) aK))))))
  (cu (jc 1 (iu (dv 1) (DF.de (lA (aB (dq (aB aL (aB aL aK))) (aB (dq (aB aL (aB aL aK))) (aB (dq (aB aL (aB aL aK))) aK)))))))
  (cu (jc 1 (iu (dv 1) (DF.de (lA (aB (dq (aB aL (aB aL aK))) (aB (dq (aB aL (aB aL aK))) aK))))))
  (cu (jc 1 (iu (dv 1) (DF.de (lA (aB (dq (aB aL (aB aL aK))) (aB (dq (aB aL (aB aL aK))) aK))))))
  (cz (cI (iu (dv 1) (DF.de (lA (aB (dq (aB aL (aB aL aK))) aK))))))))))))))))))
def zkK(F:bD K "is_made_of" "is_made_of" JB f fd):aG P w K mg base dh 1 f fd ["text","signs","longest"] (eV K 3 Dw):=
 rW (N:=["text","signs","longest"]) F λ_ _=>
 (cz (cI (Dp (zv0 dJ (rP (aB (dv 0) aK)) (dv 2)) (BV (zvh (aB (DF.de (rN (Nc:=["sign","signs"]) (.nm 0) (lL (dv 0)) (gn 0) xf (zyv (dv 0) (dv 1)))) aK))))))
def zoF(F:bD K "is_name" "is_name" GP f fd):aG P w K mg base dh 2 f fd ["text"] (eV K 1 vm):=
 rW (N:=["text"]) F λ_ _=>
 (cz (cI (iT oy (aB (dv 0) (aB (zs0 vae) (aB (zT vaf) aK))))))
def zgk(F:bD K "need_free" "Office.need_free" Hk f fd):aG P w K mg base (aZ P w) 3 f fd ["self","name"] (bZ K mg 2 (yz A)):=
 iZ (N:=["self","name"]) F λY hY _ _=>
 (di (yf (λS M G1=>(DT.nox (Fe (wU (iT om (aB (dv 1) aK)))))) (dH (yN (λS M G1=>(aB aL aK)) (λ_ _ _ _ _ _ _ _ _ _ _ I r m y=>lq I m (by obtain⟨G1,o,r⟩:=r;exact hY _ _ _ _ _ _ _ y xh.vaX r.kn o r.stp)) xh.vbq xh.vaX)) rQ)
  (dH (yf (λS M G1=>(DT.nox (zyY 0 (dv 1) mZ fo.cls fo.n_fens))) (dH (yN (λS M G1=>(aB aL aK)) (λ_ _ _ _ _ _ _ _ _ _ _ I r m y=>lq I m (by obtain⟨G1,o,r⟩:=r;exact hY _ _ _ _ _ _ _ y xh.vbc r.kn o r.stp)) xh.vbu xh.vbc)) rQ)))
def zkY(F:bD K "empty_book" "empty_book" GJ f fd):aG P w K mg base dh 1 f fd [] (eV K 0 Ec):=
 rW (N:=[]) F λ_ _=>
 (cz (cI (zxd (CW (dq aK) (CW (dq aK) (CW (dq aK) (CW (dq aK) (CW dJ (CW dJ zwz)))))))))
def ziX(F:bD K "__init__" "Fen.__init__" IV f fd):aG P w K mg base (aZ P w) 2 f fd ["self"] (bZ K mg 1 (Cz A)):=
 iZ (N:=["self"]) F λY hY _ _=>
 (di (zO 0 (λS M G1=>(lA aK)) fc.cls fc.n_kept)
  (di (zO 0 (λS M G1=>(lA (aB (zuU oS) aK))) fc.cls fc.n_books)
  (dH (zO 0 (λS M G1=>(lA aK)) fc.cls fc.n_undone))))
def zg6(F:bD K "open_one" "Office.open_one" HX f fd):aG P w K mg base (aZ P w) 4 f fd ["self","name"] (bZ K mg 2 (xN A)):=
 iZ (N:=["self","name"]) F λY hY _ _=>
 (di (nH (jd vat (λS M G1=>dv 0) (bV (aR λS M G1=>(DE.nox (dv 1))) cU) (fZ hY)))
  (dH (zmB 0 (znB mkI okI fc.vba bI (fZ hY)) (λS M G1=>(DE.nox (dv 1))) fo.cls fo.n_fens)))
def zkE(F:bD K "with_entry" "with_entry" Hf f fd):aG P w K mg base dh 1 f fd ["book","word","value"] (eV K 3 qH):=
 rW (N:=["book","word","value","fresh"]) F λ_ _=>
 (zw5 0 1 2 3 (x:="fresh") (nb:="book") (nw:="word") (nv:="value") (hb:=(kY (i:=0) (x:="book") rfl (.inl rfl))) (hw:=(kY (i:=1) (x:="word") rfl (.inl rfl))) (hv:=(kY (i:=2) (x:="value") rfl (.inl rfl))))
def znc(F:bD K "turns_of" "turns_of" JS f fd):aG P w K mg base dh 1 f fd ["stands","name"] (eV K 2 Cq):=
 rW (N:=["stands","name"]) F λ_ _=>
 (cz (cI (rP (aB (DF.de (rN (Nc:=["each","turn","name"]) (.tp 2 (.cons (.nm 0) (.cons (.nm 1) .nil))) (lL (dv 0)) (mO (n:=2) rfl (dY (gn 0) (dY (gn 1) mU))) (yW (kJ (dv 0) (dv 2))) (dv 1))) aK))))
def zkZ(F:bD K "next_stand" "next_stand" FN f fd):aG P w K mg base dh 2 f fd ["stands","name"] (eV K 2 zd2):=
 rW (N:=["stands","name"]) F λ_ _=>
 (cz (cI (dq (aB (dv 1) (aB (iu (iT oq (aB (dv 0) (aB (dv 1) aK))) dJ) aK)))))
def zhn(F:bD K "with_new_stand" "with_new_stand" Ky f fd):aG P w K mg base (aZ P w) 3 f fd ["book","name"] (cj K mg 2 JL):=
 pK (N:=["book","name","stands"]) F λY hY _ _=>
 (cu (DS.nox (jc 2 (jA (dv 0) aL)))
  (cu (du (DT.nox (zP (rP (aB (dv 2) aK)) (zT vak))) (cz (qe (aB aL aK) (λ_ _ _ _ _ _ _ _ I t m y=>lq I m (hY _ _ _ _ y xh.vbb t)) xh.vbt xh.vbb)) jQ)
  (cz (DS.nox (cI (iT og (aB (dv 0) (aB aL (aB (iu (dv 2) (dq (aB (iT oU (aB (dv 2) (aB (dv 1) aK))) aK))) aK)))))))))
def ziI(F:bD K "mark_entered" "mark_entered" Jf f fd):aG P w K mg base (aZ P w) 4 f fd ["book","row"] (cj K mg 2 zdP):=
 pK (N:=["book","row","word","name"]) F λY hY _ _=>
 (cu (DS.nox (tX (.tp 2 (.cons (.nm 2) (.cons (.nm 3) .nil))) (dv 1) (mO (n:=2) rfl (dY (gn 2) (dY (gn 3) mU)))))
  (cu (du (DT.nox (Fe (wU (iT om (aB (dv 3) aK))))) (cz (qe (aB aL aK) (λ_ _ _ _ _ _ _ _ I t m y=>lq I m (hY _ _ _ _ y xh.vaX t)) xh.vbq xh.vaX)) jQ)
  (cu (du (DT.nox (wN (iT oq (aB (jA (dv 0) aL) (aB (dv 3) aK))) dJ)) (cz (qe (aB aL aK) (λ_ _ _ _ _ _ _ _ I t m y=>lq I m (hY _ _ _ _ y xh.vbo t)) xh.vbF xh.vbo)) jQ)
  (cz (cI (qR oj (DA.nox (aB (dv 0) (aB (dv 3) aK))) (qy hY)))))))
def ziw(F:bD K "hand_entered" "hand_entered" IK f fd):aG P w K mg base (aZ P w) 3 f fd ["book","row"] (cj K mg 2 zdS):=
 pK (N:=["book","row","word","name","hands"]) F λY hY _ _=>
 (cu (DS.nox (tX (.tp 2 (.cons (.nm 2) (.cons (.nm 3) .nil))) (dv 1) (mO (n:=2) rfl (dY (gn 2) (dY (gn 3) mU)))))
  (cu (DS.nox (jc 4 (jA (dv 0) aL)))
  (cu (du (DT.nox (Fe (wU (iT om (aB (dv 3) aK))))) (cz (qe (aB aL aK) (λ_ _ _ _ _ _ _ _ I t m y=>lq I m (hY _ _ _ _ y xh.vaX t)) xh.vbq xh.vaX)) jQ)
  (cu (du (DT.nox (GX (dv 3) (dv 4))) (cz (qe (aB aL aK) (λ_ _ _ _ _ _ _ _ I t m y=>lq I m (hY _ _ _ _ y xh.vbo t)) xh.vbF xh.vbo)) jQ)
  (cu (du (DT.nox (zP (rP (aB (dv 4) aK)) (zT vai))) (cz (qe (aB aL aK) (λ_ _ _ _ _ _ _ _ I t m y=>lq I m (hY _ _ _ _ y xh.vbb t)) xh.vbt xh.vbb)) jQ)
  (cz (DS.nox (cI (iT og (aB (dv 0) (aB aL (aB (iu (dv 4) (dq (aB (dv 3) aK))) aK))))))))))))
def zkB(F:bD K "last_stand" "last_stand" Jy f fd):aG P w K mg base (aZ P w) 2 f fd ["stands","name"] (cj K mg 2 ww):=
 pK (N:=["stands","name","turns"]) F λY hY _ _=>
 (cu (DS.nox (jc 2 (iT oq (aB (dv 0) (aB (dv 1) aK)))))
  (cu (du (DT.nox (kJ (dv 2) dJ)) (cz (qe (aB aL aK) (λ_ _ _ _ _ _ _ _ I t m y=>lq I m (hY _ _ _ _ y xh.vbg t)) xh.vby xh.vbg)) jQ)
  (cz (DS.nox (cI (dq (aB (dv 1) (aB (dv 2) aK))))))))
def zlN(F:bD K "need_hand" "need_hand" Ii f fd):aG P w K mg base (aZ P w) 1 f fd ["book","name"] (cj K mg 2 Df):=
 pK (N:=["book","name"]) F λY hY _ _=>
 (cz (du (DT.nox (Ha (dv 1) (jA (dv 0) aL))) (cz (qe (aB aL aK) (λ_ _ _ _ _ _ _ _ I t m y=>lq I m (hY _ _ _ _ y xh.vbf t)) xh.vbx xh.vbf)) jQ))
def zmf(F:bD K "need_rise" "need_rise" Gy f fd):aG P w K mg base (aZ P w) 1 f fd ["rise"] (cj K mg 1 JX):=
 pK (N:=["rise"]) F λY hY _ _=>
 (cz (du (DT.nox (wN (zyH (aB (dv 0) aK)) (zT vac))) (cz (qe (aB aL aK) (λ_ _ _ _ _ _ _ _ I t m y=>lq I m (hY _ _ _ _ y xh.vaZ t)) xh.vbs xh.vaZ)) jQ))
def zjL(F:bD K "run_entered" "run_entered" KC f fd):aG P w K mg base (aZ P w) 3 f fd ["book","row"] (cj K mg 2 zei):=
 pK (N:=["book","row","word","one","other","rise","hand","start","start_turn","end","end_turn","number","run"]) F λY hY _ _=>
 (cu (DS.nox (tX (.tp 5 (.cons (.nm 2) (.cons (.nm 3) (.cons (.nm 4) (.cons (.nm 5) (.cons (.nm 6) .nil)))))) (dv 1) (mO (n:=5) rfl (dY (gn 2) (dY (gn 3) (dY (gn 4) (dY (gn 5) (dY (gn 6) mU))))))))
  (cu (tX (.tp 2 (.cons (.nm 7) (.cons (.nm 8) .nil))) (qR oh (DA.nox (aB (jA (dv 0) aL) (aB (dv 3) aK))) (qy hY)) (mO (n:=2) rfl (dY (gn 7) (dY (gn 8) mU))))
  (cu (tX (.tp 2 (.cons (.nm 9) (.cons (.nm 10) .nil))) (qR oh (DA.nox (aB (jA (dv 0) aL) (aB (dv 4) aK))) (qy hY)) (mO (n:=2) rfl (dY (gn 9) (dY (gn 10) mU))))
  (cu (du (DT.nox (kJ (dv 3) (dv 4))) (cz (qe (aB aL aK) (λ_ _ _ _ _ _ _ _ I t m y=>lq I m (hY _ _ _ _ y xh.vbl t)) xh.vbC xh.vbl)) jQ)
  (cu (By (qR oo (DA.nox (aB (dv 0) (aB (dv 6) aK))) (qy hY)))
  (cu (By (qR oE (DA.nox (aB (dv 5) aK)) (qy hY)))
  (cu (du (DT.nox (zP (rP (aB (jA (dv 0) aL) aK)) (zT vaj))) (cz (qe (aB aL aK) (λ_ _ _ _ _ _ _ _ I t m y=>lq I m (hY _ _ _ _ y xh.vbb t)) xh.vbt xh.vbb)) jQ)
  (cu (DS.nox (jc 11 (iu (jA (dv 0) aL) dJ)))
  (cu (DS.nox (jc 12 (dq (aB (dv 11) (aB (dv 7) (aB (dv 8) (aB (dv 9) (aB (dv 10) (aB (dv 5) (aB (dv 6) aK))))))))))
  (cz (DS.nox (cI (iT og (aB (iT og (aB (dv 0) (aB aL (aB (dv 11) aK)))) (aB aL (aB (iu (jA (dv 0) aL) (dq (aB (dv 12) aK))) aK))))))))))))))))
def zm3(F:bD K "need_run" "need_run" KR f fd):aG P w K mg base (aZ P w) 1 f fd ["book","number"] (cj K mg 2 Mj):=
 pK (N:=["book","number"]) F λY hY _ _=>
 (cz (du (DT.nox (Ha (dv 1) (DF.de (rN (Nc:=["run"]) (.nm 0) (lL (jA (dv 0) aL)) (gn 0) xf (jJ (dv 0) dJ))))) (cz (qe (aB aL aK) (λ_ _ _ _ _ _ _ _ I t m y=>lq I m (hY _ _ _ _ y xh.vbh t)) xh.vbz xh.vbh)) jQ))
def zk8(F:bD K "run_struck" "run_struck" Kf f fd):aG P w K mg base (aZ P w) 2 f fd ["book","row"] (cj K mg 2 zeN):=
 pK (N:=["book","row","word","number"]) F λY hY _ _=>
 (cu (DS.nox (tX (.tp 2 (.cons (.nm 2) (.cons (.nm 3) .nil))) (dv 1) (mO (n:=2) rfl (dY (gn 2) (dY (gn 3) mU)))))
  (cu (By (qR oG (DA.nox (aB (dv 0) (aB (dv 3) aK))) (qy hY)))
  (cz (DS.nox (cI (iT og (aB (dv 0) (aB aL (aB (zkQ (aB (DF.de (rN (Nc:=["run","number"]) (.nm 0) (lL (jA (dv 0) aL)) (gn 0) (yW (rC (jJ (dv 0) dJ) (dv 1))) (dv 0))) aK)) aK)))))))))
def zkn(F:bD K "run_mended" "run_mended" Hu f fd):aG P w K mg base (aZ P w) 2 f fd ["book","row"] (cj K mg 2 zeO):=
 pK (N:=["book","row","word","number","rise","mended"]) F λY hY _ _=>
 (cu (DS.nox (tX (.tp 3 (.cons (.nm 2) (.cons (.nm 3) (.cons (.nm 4) .nil)))) (dv 1) (mO (n:=3) rfl (dY (gn 2) (dY (gn 3) (dY (gn 4) mU))))))
  (cu (By (qR oG (DA.nox (aB (dv 0) (aB (dv 3) aK))) (qy hY)))
  (cu (By (qR oE (DA.nox (aB (dv 4) aK)) (qy hY)))
  (cu (DS.nox (ztb 5 (Nc:=["run","number","rise"]) (.nm 0) (lL (jA (dv 0) aL)) (gn 0) xf (Gn (kJ (jJ (dv 0) dJ) (dv 1)) (iu (zrU (dv 0) znU (zn5 dJ)) (dq (aB (dv 2) (aB (jJ (dv 0) dJ) aK)))) (dv 0))))
  (cz (DS.nox (cI (iT og (aB (dv 0) (aB aL (aB (zkQ (aB (dv 5) aK)) aK)))))))))))
def zjk(F:bD K "mark_settled" "mark_settled" Lw f fd):aG P w K mg base (aZ P w) 4 f fd ["book","row"] (cj K mg 2 zdJ):=
 pK (N:=["book","row","word","name","settling","turn"]) F λY hY _ _=>
 (cu (DS.nox (tX (.tp 2 (.cons (.nm 2) (.cons (.nm 3) .nil))) (dv 1) (mO (n:=2) rfl (dY (gn 2) (dY (gn 3) mU)))))
  (cu (tX (.tp 2 (.cons (.nm 4) (.cons (.nm 5) .nil))) (qR oh (DA.nox (aB (jA (dv 0) aL) (aB (dv 3) aK))) (qy hY)) (mO (n:=2) rfl (dY (gn 4) (dY (gn 5) mU))))
  (cz (cI (qR oj (DA.nox (aB (dv 0) (aB (dv 4) aK))) (qy hY))))))
def zhm(F:bD K "hand_set_aside" "hand_set_aside" Iz f fd):aG P w K mg base (aZ P w) 2 f fd ["book","row"] (cj K mg 2 zcZ):=
 pK (N:=["book","row","word","hand"]) F λY hY _ _=>
 (cu (DS.nox (tX (.tp 2 (.cons (.nm 2) (.cons (.nm 3) .nil))) (dv 1) (mO (n:=2) rfl (dY (gn 2) (dY (gn 3) mU)))))
  (cu (By (qR oo (DA.nox (aB (dv 0) (aB (dv 3) aK))) (qy hY)))
  (cu (du (DT.nox (GX (dv 3) (jA (dv 0) aL))) (cz (qe (aB aL aK) (λ_ _ _ _ _ _ _ _ I t m y=>lq I m (hY _ _ _ _ y xh.vaW t)) xh.vbp xh.vaW)) jQ)
  (cz (DS.nox (cI (iT og (aB (dv 0) (aB aL (aB (iu (jA (dv 0) aL) (dq (aB (dv 3) aK))) aK))))))))))
def zjI(F:bD K "hand_heeded" "hand_heeded" FW f fd):aG P w K mg base (aZ P w) 2 f fd ["book","row"] (cj K mg 2 zek):=
 pK (N:=["book","row","word","hand"]) F λY hY _ _=>
 (cu (DS.nox (tX (.tp 2 (.cons (.nm 2) (.cons (.nm 3) .nil))) (dv 1) (mO (n:=2) rfl (dY (gn 2) (dY (gn 3) mU)))))
  (cu (By (qR oo (DA.nox (aB (dv 0) (aB (dv 3) aK))) (qy hY)))
  (cu (du (DT.nox (Ha (dv 3) (jA (dv 0) aL))) (cz (qe (aB aL aK) (λ_ _ _ _ _ _ _ _ I t m y=>lq I m (hY _ _ _ _ y xh.vbi t)) xh.vbA xh.vbi)) jQ)
  (cz (DS.nox (cI (iT og (aB (dv 0) (aB aL (aB (zkQ (aB (DF.de (rN (Nc:=["each","hand"]) (.nm 0) (lL (jA (dv 0) aL)) (gn 0) (yW (rC (dv 0) (dv 1))) (dv 0))) aK)) aK))))))))))
def zhJ(F:bD K "number_allowed" "number_allowed" Mh f fd):aG P w K mg base (aZ P w) 2 f fd ["book","row"] (cj K mg 2 zb0):=
 pK (N:=["book","row","word","many"]) F λY hY _ _=>
 (cu (DS.nox (tX (.tp 2 (.cons (.nm 2) (.cons (.nm 3) .nil))) (dv 1) (mO (n:=2) rfl (dY (gn 2) (dY (gn 3) mU)))))
  (cu (du (DT.nox (DW.dt (w_or (t_lt (dv 3) dJ) (Ba (wN (dv 3) (zT vah)))))) (cz (qe (aB aL aK) (λ_ _ _ _ _ _ _ _ I t m y=>lq I m (hY _ _ _ _ y xh.vaY t)) xh.vbr xh.vaY)) jQ)
  (cz (DS.nox (cI (iT og (aB (dv 0) (aB aL (aB (dv 3) aK)))))))))
def zjy(F:bD K "book_behind" "book_behind" Ld f fd):aG P w K mg base (aZ P w) 5 f fd ["book","row"] (cj K mg 2 (Fv A)):=
 pK (N:=["book","row","action"]) F λY hY _ _=>
 (cu (DS.nox (jc 2 (zsR gA (jJ (dv 1) dJ))))
  (cz (cI (zut (tb.at ‹_›) (DA.nox (aB (dv 0) (aB (dv 1) aK))) (qy hY)))))
def zpa(F:bD K "now" "Fen.now" J3 f fd):aG P w K mg base dh 1 f fd ["self"] (gR K 1 (pq A)):=
 t6 (N:=["self"]) F λS _ _=>
 (cz (cI (zyX 0 (zyA dJ) ju fc.cls fc.n_books)))
def zmJ(F:bD K "deed" "Fen.deed" Ge f fd):aG P w K mg base (aZ P w) 6 f fd ["self","row"] (bZ K mg 2 (Iu A)):=
 iZ (N:=["self","row","book"]) F λY hY _ _=>
 (di (wY 2 (Cm oQ (bV (aR λS M G1=>(DE.nox (iK vaH mZ))) (bV (aR λS M G1=>(DE.nox (dv 1))) cU)) (fZ hY)))
  (di (znW 0 (λS M G1=>(dv 1)) fc.cls fc.n_kept)
  (di (znW 0 (λS M G1=>(dv 2)) fc.cls fc.n_books)
  (di (zO 0 (λS M G1=>(lA aK)) fc.cls fc.n_undone)
  (di (jP λS M G1=>(DS.nox (du (kJ (jJ (dv 1) dJ) aL) (cz (cI (jA (dv 2) aL))) jQ)))
  (dH (jP λS M G1=>(DS.nox (cI zvX)))))))))
def zjA(F:bD K "deed" "Office.deed" Jv f fd):aG P w K mg base (aZ P w) 7 f fd ["self","name","row"] (bZ K mg 3 (wZ A)):=
 iZ (N:=["self","name","row"]) F λY hY _ _=>
 (dH (uJ (zkW vaC (jd vaq (λS M G1=>dv 0) (bV (aR λS M G1=>(DE.nox (dv 1))) cU) (fZ hY)) (bV (aR λS M G1=>(DE.nox (dv 2))) cU) (fZ hY))))
def zmM(F:bD K "marks_of" "marks_of" Lj f fd):aG P w K mg base dh 1 f fd ["stands"] (eV K 1 zf1):=
 rW (N:=["stands"]) F λ_ _=>
 (cz (cI (DF.de (rN (Nc:=["name","turn"]) (.tp 2 (.cons (.nm 0) (.cons (.nm 1) .nil))) (lL (dv 0)) (mO (n:=2) rfl (dY (gn 0) (dY (gn 1) mU))) (yW (kJ (dv 1) dJ)) (dv 0)))))
def zlB(F:bD K "marks" "Fen.marks" KJ f fd):aG P w K mg base dh 2 f fd ["self"] (gR K 1 (xG A)):=
 t6 (N:=["self"]) F λS _ _=>
 (cz (cI (iT oX (aB (jA (iK vaH ju) aL) aK))))
def zlt(F:bD K "hands" "Fen.hands" Lh f fd):aG P w K mg base dh 2 f fd ["self"] (gR K 1 (DX A)):=
 t6 (N:=["self"]) F λS _ _=>
 (cz (cI (DF.de (zru (jA (iK vaH ju) aL)))))
def zkC(F:bD K "asides" "Fen.asides" FT f fd):aG P w K mg base dh 2 f fd ["self"] (gR K 1 (yP A)):=
 t6 (N:=["self","book"]) F λS _ _=>
 (cu (jc 1 (iK vaH ju))
  (cz (cI (DF.de (rN (Nc:=["hand","book"]) (.nm 0) (lL (jA (dv 1) aL)) (gn 0) (yW (GX (dv 0) (jA (dv 1) aL))) (dv 0))))))
def zkg(F:bD K "stands" "Fen.stands" Gx f fd):aG P w K mg base dh 2 f fd ["self"] (gR K 1 (Jc A)):=
 t6 (N:=["self"]) F λS _ _=>
 (cz (cI (DF.de (zru (jA (iK vaH ju) aL)))))
def zjG(F:bD K "allowed" "Fen.allowed" HF f fd):aG P w K mg base dh 2 f fd ["self"] (gR K 1 (Ag A)):=
 t6 (N:=["self"]) F λS _ _=>
 (cz (cI (jA (iK vaH ju) aL)))
def zmY(F:bD K "runs" "Fen.runs" Jk f fd):aG P w K mg base dh 2 f fd ["self"] (gR K 1 (yu A)):=
 t6 (N:=["self"]) F λS _ _=>
 (cz (cI (DF.de (zru (jA (iK vaH ju) aL)))))
def zgR(F:bD K "rows_that_count" "rows_that_count" LR f fd):aG P w K mg base dh 1 f fd ["book"] (eV K 1 zbX):=
 rW (N:=["book"]) F λ_ _=>
 (cz (cI (DF.de (rN (Nc:=["run","book"]) (.nm 0) (lL (jA (dv 0) aL)) (gn 0) (yW (Ha (jJ (dv 0) dJ) (jA (dv 1) aL))) (dv 0)))))
def ziW(F:bD K "counting" "Fen.counting" Ku f fd):aG P w K mg base dh 2 f fd ["self"] (gR K 1 (zc6 A)):=
 t6 (N:=["self"]) F λS _ _=>
 (cz (cI (DF.de (rN (Nc:=["run"]) (.nm 0) (lL (iT oA (aB (iK vaH ju) aK))) (gn 0) xf (jJ (dv 0) dJ)))))
def zlQ(F:bD K "deeds" "Fen.deeds" Gm f fd):aG P w K mg base dh 1 f fd ["self"] (gR K 1 (zeW A)):=
 t6 (N:=["self"]) F λS _ _=>
 (cz (cI (DF.de (zrJ 0 ju fc.cls fc.n_kept))))
def zlA(F:bD K "_law_seen" "_law_seen" J4 f fd):aG P w K mg base dh 3 f fd ["_law_fen"] (gR K 1 (Bv A)):=
 t6 (N:=["_law_fen","_law_found"]) F λS _ _=>
 (cu (jc 1 (DF.de (lA (aB (iK vaG ju) (aB (iK vaE ju) (aB (iK vaz ju) (aB (iK vaL ju) (aB (iK vay ju) (aB (iK vaJ ju) (aB (iK vaB ju) aK))))))))))
  (cz (cI (iu (dv 1) (DF.de (lA (aB (iK vaD ju) aK)))))))
def znk(F:bD K "twin" "Fen.twin" Kc f fd):aG P w K mg base (aZ P w) 4 f fd ["self"] (bZ K mg 1 (Hg A)):=
 iZ (N:=["self","other"]) F λY hY _ _=>
 (di (wY 1 (znB mkI okI fc.vba bI (fZ hY)))
  (di (zO 1 (λS M G1=>(zrJ 0 mZ fc.cls fc.n_kept)) fc.cls fc.n_kept)
  (di (zO 1 (λS M G1=>(zrJ 0 mZ fc.cls fc.n_books)) fc.cls fc.n_books)
  (di (zO 1 (λS M G1=>(zrJ 0 mZ fc.cls fc.n_undone)) fc.cls fc.n_undone)
  (dH (jP λS M G1=>(DS.nox (cI (dv 1)))))))))
def zjB(F:bD K "view" "Office.view" Hq f fd):aG P w K mg base (aZ P w) 5 f fd ["self","name"] (bZ K mg 2 (uf A)):=
 iZ (N:=["self","name"]) F λY hY _ _=>
 (dH (uJ (zkd vaM (jd vaq (λS M G1=>dv 0) (bV (aR λS M G1=>(DE.nox (dv 1))) cU) (fZ hY)) (fZ hY))))
def zij(F:bD K "names" "Office.names" JZ f fd):aG P w K mg base dh 1 f fd ["self"] (gR K 1 (Bp A)):=
 t6 (N:=["self"]) F λS _ _=>
 (cz (cI (DF.de (zt9 0 ju fo.cls fo.n_fens))))
def zjE(F:bD K "answer_open" "answer_open" Hb f fd):aG P w K mg base (aZ P w) 5 f fd ["office","words"] (bZ K mg 2 (zdx A)):=
 iZ (N:=["office","words"]) F λY hY _ _=>
 (di (nH (jd vau (λS M G1=>dv 0) (bV (aR λS M G1=>(DE.nox (jJ (dv 1) dJ))) cU) (fZ hY)))
  (dH (jP λS M G1=>(DS.nox (cI aL)))))
def zg2(F:bD K "copy_one" "Office.copy_one" Lq f fd):aG P w K mg base (aZ P w) 5 f fd ["self","name","other"] (bZ K mg 3 (Jh A)):=
 iZ (N:=["self","name","other","fen"]) F λY hY _ _=>
 (di (wY 3 (jd vaq (λS M G1=>dv 0) (bV (aR λS M G1=>(DE.nox (dv 1))) cU) (fZ hY)))
  (di (nH (jd vat (λS M G1=>dv 0) (bV (aR λS M G1=>(DE.nox (dv 2))) cU) (fZ hY)))
  (dH (zmB 0 (ztP vaM (λS M G1=>dv 3) (fZ hY)) (λS M G1=>(DE.nox (dv 2))) fo.cls fo.n_fens))))
def zjN(F:bD K "answer_copy" "answer_copy" Jd f fd):aG P w K mg base (aZ P w) 6 f fd ["office","words"] (bZ K mg 2 (zdB A)):=
 iZ (N:=["office","words"]) F λY hY _ _=>
 (di (nH (jd vao (λS M G1=>dv 0) (bV (aR λS M G1=>(DE.nox (jJ (dv 1) dJ))) (bV (aR λS M G1=>(DE.nox (jJ (dv 1) dJ))) cU)) (fZ hY)))
  (dH (jP λS M G1=>(DS.nox (cI aL)))))
def ziZ(F:bD K "close" "Office.close" GQ f fd):aG P w K mg base (aZ P w) 2 f fd ["self","name"] (bZ K mg 2 (Ft A)):=
 iZ (N:=["self","name"]) F λY hY _ _=>
 (di (nH (jd vaq (λS M G1=>dv 0) (bV (aR λS M G1=>(DE.nox (dv 1))) cU) (fZ hY)))
  zh2)
def zjh(F:bD K "answer_close" "answer_close" Fz f fd):aG P w K mg base (aZ P w) 3 f fd ["office","words"] (bZ K mg 2 (zc4 A)):=
 iZ (N:=["office","words"]) F λY hY _ _=>
 (di (nH (jd van (λS M G1=>dv 0) (bV (aR λS M G1=>(DE.nox (jJ (dv 1) dJ))) cU) (fZ hY)))
  (dH (jP λS M G1=>(DS.nox (cI aL)))))
def zqz(F:bD K "fen_of" "fen_of" JK f fd):aG P w K mg base (aZ P w) 7 f fd ["deeds"] (bZ K mg 1 (zic A)):=
 iZ (N:=["deeds","fen","row"]) F λY hY _ _=>
 (di (wY 1 (znB mkI okI fc.vba bI (fZ hY)))
  (di (zK (.nm 2) (λS M G1=>(lL (dv 0))) (gn 2) (dH (nH (jd vaC (λS M G1=>dv 1) (bV (aR λS M G1=>(DE.nox (dv 2))) cU) (fZ hY)))) (hp:=PassesOwn.leaving))
  (dH (jP λS M G1=>(DS.nox (cI (dv 1)))))))
def zjH(F:bD K "has_settled" "has_settled" JP f fd):aG P w K mg base dh 3 f fd ["fen"] (gR K 1 (wW A)):=
 t6 (N:=["fen"]) F λS _ _=>
 (cz (cI (d_gt (rP (aB (iK vaL ju) aK)) (rP (aB (iK vaG ju) aK)))))
def zl8(F:bD K "each_once" "each_once" Hm f fd):aG P w K mg base dh 1 f fd ["names","others"] (eV K 2 Ea):=
 rW (N:=["names","others"]) F λ_ _=>
 (cz (cI (iu (dv 0) (DF.de (rN (Nc:=["name","names"]) (.nm 0) (lL (dv 1)) (gn 0) (yW (Ha (dv 0) (dv 1))) (dv 0))))))
def zjm(F:bD K "joined_deeds" "joined_deeds" Ko f fd):aG P w K mg base dh 3 f fd ["first","second"] (gR K 2 (zc5 A)):=
 t6 (N:=["first","second","hands","deeds","number","one","turn","other","other_turn","rise","hand","asides","many"]) F λS _ _=>
 (cu (jc 2 (iT oO (aB (iK vaE ju) (aB (iK vaE ju) aK))))
  (cu (zwu 3 (Nc:=["name"]) (.nm 0) (lL (iT oO (aB (iK vaG ju) (aB (iK vaG ju) aK)))) (gn 0) xf (dq (aB aL (aB (dv 0) aK))))
  (cu (zxS 3 (DF.de (rN (Nc:=["name"]) (.nm 0) (lL (dv 2)) (gn 0) xf (dq (aB aL (aB (dv 0) aK))))))
  (cu (zx3 (.tp 7 (.cons (.nm 4) (.cons (.nm 5) (.cons (.nm 6) (.cons (.nm 7) (.cons (.nm 8) (.cons (.nm 9) (.cons (.nm 10) .nil)))))))) (lL (iu (iK vaJ ju) (iK vaJ ju))) (mO (n:=7) rfl (dY (gn 4) (dY (gn 5) (dY (gn 6) (dY (gn 7) (dY (gn 8) (dY (gn 9) (dY (gn 10) mU)))))))) (cz (zwG 3 (dq (aB aL (aB (dv 5) (aB (dv 7) (aB (dv 9) (aB (dv 10) aK)))))))))
  (cu (jc 11 (iu (iK vaz ju) (iK vaz ju)))
  (cu (zxS 3 (DF.de (rN (Nc:=["hand","asides"]) (.nm 0) (lL (dv 2)) (gn 0) (yW (GX (dv 0) (dv 1))) (dq (aB aL (aB (dv 0) aK))))))
  (cu (jc 12 (zxP (aB (iK vay ju) (aB (iK vay ju) aK))))
  (cu (du (wN (dv 12) dJ) (cz (zwG 3 (dq (aB aL (aB (dv 12) aK))))) jQ)
  (cz (zyN 3 (cI (dv 3))))))))))))
def zqJ(F:bD K "joined" "joined" HY f fd):aG P w K mg base (aZ P w) 8 f fd ["first","second"] (bZ K mg 2 (Dq A)):=
 iZ (N:=["first","second"]) F λY hY _ _=>
 (di (yf (λS M G1=>(DT.nox (DW.dt (w_or (wU (znm oF (aB (dv 0) aK) mZ)) (Ba (wU (znm oF (aB (dv 1) aK) mZ))))))) (dH (yN (λS M G1=>(aB aL aK)) (λ_ _ _ _ _ _ _ _ _ _ _ I r m y=>lq I m (by obtain⟨G1,o,r⟩:=r;exact hY _ _ _ _ _ _ _ y xh.vbm r.kn o r.stp)) xh.vbD xh.vbm)) rQ)
  (dH (uJ (Ff o4 (bV (aR λS M G1=>(DE.nox (znm oJ (aB (dv 0) (aB (dv 1) aK)) mZ))) cU) (fZ hY)))))
def zjK(F:bD K "join" "Office.join" JF f fd):aG P w K mg base (aZ P w) 9 f fd ["self","name","other","new"] (bZ K mg 4 (zV A)):=
 iZ (N:=["self","name","other","new","first","second"]) F λY hY _ _=>
 (di (wY 4 (jd vaq (λS M G1=>dv 0) (bV (aR λS M G1=>(DE.nox (dv 1))) cU) (fZ hY)))
  (di (wY 5 (jd vaq (λS M G1=>dv 0) (bV (aR λS M G1=>(DE.nox (dv 2))) cU) (fZ hY)))
  (di (yf (λS M G1=>(DT.nox (kJ (dv 1) (dv 2)))) (dH (yN (λS M G1=>(aB aL aK)) (λ_ _ _ _ _ _ _ _ _ _ _ I r m y=>lq I m (by obtain⟨G1,o,r⟩:=r;exact hY _ _ _ _ _ _ _ y xh.vbl r.kn o r.stp)) xh.vbC xh.vbl)) rQ)
  (di (nH (jd vat (λS M G1=>dv 0) (bV (aR λS M G1=>(DE.nox (dv 3))) cU) (fZ hY)))
  (dH (zmB 0 (Ff o6 (bV (aR λS M G1=>(DE.nox (dv 4))) (bV (aR λS M G1=>(DE.nox (dv 5))) cU)) (fZ hY)) (λS M G1=>(DE.nox (dv 3))) fo.cls fo.n_fens))))))
def zjD(F:bD K "answer_join" "answer_join" Jb f fd):aG P w K mg base (aZ P w) 10 f fd ["office","words"] (bZ K mg 2 (Aw A)):=
 iZ (N:=["office","words"]) F λY hY _ _=>
 (di (nH (jd var (λS M G1=>dv 0) (bV (aR λS M G1=>(DE.nox (jJ (dv 1) dJ))) (bV (aR λS M G1=>(DE.nox (jJ (dv 1) dJ))) (bV (aR λS M G1=>(DE.nox (jJ (dv 1) dJ))) cU))) (fZ hY)))
  (dH (jP λS M G1=>(DS.nox (cI aL)))))
def zl5(F:bD K "is_number" "is_number" Jj f fd):aG P w K mg base dh 2 f fd ["text"] (eV K 1 Ai):=
 rW (N:=["text"]) F λ_ _=>
 (cz (cI (Dp (iT oy (aB (dv 0) (aB (zs0 vaa) (aB (zT vag) aK)))) (BV (d_or (uF (dv 0) aL) (BV (zyJ (Il (dv 0) aL))))))))
def zoK(F:bD K "is_rise" "is_rise" Hh f fd):aG P w K mg base dh 3 f fd ["text"] (eV K 1 Ke):=
 rW (N:=["text"]) F λ_ _=>
 (cu (du (wU (Il (dv 0) aL)) (cz (cI (Dp (d_ne (dv 0) aL) (BV (iT ow (aB (zrU (dv 0) (zn5 dJ) znU) aK)))))) jQ)
  (cz (cI (iT ow (aB (dv 0) aK)))))
def zhX(F:bD K "is_written_as" "is_written_as" Mg f fd):aG P w K mg base dh 4 f fd ["kind","text"] (eV K 2 HR):=
 rW (N:=["kind","text"]) F λ_ _=>
 (cu (du (kJ (dv 0) aL) (cz (cI (iT om (aB (dv 1) aK)))) jQ)
  (cu (du (kJ (dv 0) aL) (cz (cI (iT ow (aB (dv 1) aK)))) jQ)
  (cz (cI (iT oY (aB (dv 1) aK))))))
def zoX(F:bD K "deed_of" "deed_of" KY f fd):aG P w K mg base (aZ P w) 5 f fd ["text"] (cj K mg 1 vp):=
 pK (N:=["text","word","texts","kinds","parts"]) F λY hY _ _=>
 (cu (DS.nox (zw4 1 2 (zrs (dv 0) aL)))
  (cu (du (DT.nox (DW.dt (w_or (zrQ vab (dv 1)) (Ba (rC (rP (aB (zsR vab (dv 1)) aK)) (rP (aB (dv 2) aK))))))) (cz (qe (aB aL aK) (λ_ _ _ _ _ _ _ _ I t m y=>lq I m (hY _ _ _ _ y xh.vbd t)) xh.vbv xh.vbd)) jQ)
  (cu (DS.nox (jc 3 (zsR vab (dv 1))))
  (cu (du (DT.nox (Fe (wU (zvh (aB (DF.de (rN (Nc:=["kind","part"]) (.tp 2 (.cons (.nm 0) (.cons (.nm 1) .nil))) (zqS (dv 3) (dv 2)) (mO (n:=2) rfl (dY (gn 0) (dY (gn 1) mU))) xf (iT oH (aB (dv 0) (aB (dv 1) aK))))) aK))))) (cz (qe (aB aL aK) (λ_ _ _ _ _ _ _ _ I t m y=>lq I m (hY _ _ _ _ y xh.vbd t)) xh.vbv xh.vbd)) jQ)
  (cu (DS.nox (ztb 4 (Nc:=["kind","part"]) (.tp 2 (.cons (.nm 0) (.cons (.nm 1) .nil))) (zqS (dv 3) (dv 2)) (mO (n:=2) rfl (dY (gn 0) (dY (gn 1) mU))) xf (Gn (kJ (dv 0) aL) (dv 1) (zwf (aB (dv 1) aK)))))
  (cz (DS.nox (cI (zkQ (aB (iu (DF.de (lA (aB (dv 1) aK))) (dv 4)) aK))))))))))
def zmn(F:bD K "answer_in" "answer_in" Lg f fd):aG P w K mg base (aZ P w) 8 f fd ["office","words"] (bZ K mg 2 (zgv A)):=
 iZ (N:=["office","words","number"]) F λY hY _ _=>
 (di (wY 2 (jd vap (λS M G1=>dv 0) (bV (aR λS M G1=>(DE.nox (jJ (dv 1) dJ))) (bV (Cm oP (bV (aR λS M G1=>(DE.nox (zto aL (zrU (dv 1) (zn5 dJ) znU)))) cU) (fZ hY)) cU)) (fZ hY)))
  zh2)
def zlY(F:bD K "again" "Fen.again" zev f fd):aG P w K mg base (aZ P w) 1 f fd ["self"] (bZ K mg 1 (Gi A)):=
 iZ (N:=["self","row","book"]) F λY hY _ _=>
 (di (yf (λS M G1=>(DT.nox (Fe (zxy 0 mZ fc.cls fc.n_undone)))) (dH (yN (λS M G1=>(aB aL aK)) (λ_ _ _ _ _ _ _ _ _ _ _ I r m y=>lq I m (by obtain⟨G1,o,r⟩:=r;exact hY _ _ _ _ _ _ _ y xh.vbj r.kn o r.stp)) xh.vbB xh.vbj)) rQ)
  (di (zte (.tp 2 (.cons (.nm 1) (.cons (.nm 2) .nil))) (zy3 0 fc.cls fc.n_undone) (mO (n:=2) rfl (dY (gn 1) (dY (gn 2) mU))))
  (di (znW 0 (λS M G1=>(dv 1)) fc.cls fc.n_kept)
  (dH (znW 0 (λS M G1=>(dv 2)) fc.cls fc.n_books)))))
def ziQ(F:bD K "again" "Office.again" Hi f fd):aG P w K mg base (aZ P w) 2 f fd ["self","name"] (bZ K mg 2 (Dg A)):=
 iZ (N:=["self","name"]) F λY hY _ _=>
 (dH (nH (zkd vax (jd vaq (λS M G1=>dv 0) (bV (aR λS M G1=>(DE.nox (dv 1))) cU) (fZ hY)) (fZ hY))))
def zi9(F:bD K "answer_again" "answer_again" Lx f fd):aG P w K mg base (aZ P w) 3 f fd ["office","words"] (bZ K mg 2 (Jp A)):=
 iZ (N:=["office","words"]) F λY hY _ _=>
 (di (nH (jd val (λS M G1=>dv 0) (bV (aR λS M G1=>(DE.nox (jJ (dv 1) dJ))) cU) (fZ hY)))
  (dH (jP λS M G1=>(DS.nox (cI aL)))))
def zmv(F:bD K "place_of" "place_of" Gs f fd):aG P w K mg base (aZ P w) 3 f fd ["book","name"] (cj K mg 2 uB):=
 pK (N:=["book","name","stands"]) F λY hY _ _=>
 (cu (DS.nox (jc 2 (jA (dv 0) aL)))
  (cz (cI (zwR (dv 2) (qR oh (DA.nox (aB (dv 2) (aB (dv 1) aK))) (qy hY))))))
def zpn(F:bD K "told_of" "told_of" Ka f fd):aG P w K mg base (aZ P w) 4 f fd ["book","one","other"] (cj K mg 3 zf0):=
 pK (N:=["book","one","other"]) F λY hY _ _=>
 (cz (cI (iT oK (aB (dv 0) (aB (qR ot (DA.nox (aB (dv 0) (aB (dv 1) aK))) (qy hY)) (aB (qR ot (DA.nox (aB (dv 0) (aB (dv 2) aK))) (qy hY)) aK))))))
def zk6(F:bD K "height" "Fen.height" Hr f fd):aG P w K mg base (aZ P w) 5 f fd ["self","one","other"] (bZ K mg 3 (Ho A)):=
 iZ (N:=["self","one","other"]) F λY hY _ _=>
 (dH (uJ (Cd oI (bV (Cm oZ (bV (aR λS M G1=>(DE.nox (iK vaH mZ))) (bV (aR λS M G1=>(DE.nox (dv 1))) (bV (aR λS M G1=>(DE.nox (dv 2))) cU))) (fZ hY)) cU))))
def zhY(F:bD K "answer_height" "answer_height" J6 f fd):aG P w K mg base (aZ P w) 6 f fd ["office","words"] (bZ K mg 2 (zcK A)):=
 iZ (N:=["office","words"]) F λY hY _ _=>
 (dH (uJ (Cd oz (bV (zkW vaF (jd vaw (λS M G1=>dv 0) (bV (aR λS M G1=>(DE.nox (jJ (dv 1) dJ))) cU) (fZ hY)) (bV (aR λS M G1=>(DE.nox (jJ (dv 1) dJ))) (bV (aR λS M G1=>(DE.nox (jJ (dv 1) dJ))) cU)) (fZ hY)) cU))))
def zmy(F:bD K "sank" "Fen.sank" Jx f fd):aG P w K mg base (aZ P w) 3 f fd ["self","name"] (bZ K mg 2 (CZ A)):=
 iZ (N:=["self","name","book","same","turn","elder"]) F λY hY _ _=>
 (di (jP λS M G1=>(DS.nox (jc 2 (iK vaH mZ))))
  (di (zte (.tp 2 (.cons (.nm 3) (.cons (.nm 4) .nil))) (Cm oh (bV (aR λS M G1=>(DE.nox (jA (dv 2) aL))) (bV (aR λS M G1=>(DE.nox (dv 1))) cU)) (fZ hY)) (mO (n:=2) rfl (dY (gn 3) (dY (gn 4) mU))))
  (di (yf (λS M G1=>(DT.nox (kJ (dv 4) dJ))) (dH (yN (λS M G1=>(aB aL aK)) (λ_ _ _ _ _ _ _ _ _ _ _ I r m y=>lq I m (by obtain⟨G1,o,r⟩:=r;exact hY _ _ _ _ _ _ _ y xh.vbn r.kn o r.stp)) xh.vbE xh.vbn)) rQ)
  zh2)))
def zjO(F:bD K "answer_sank" "answer_sank" Ju f fd):aG P w K mg base (aZ P w) 6 f fd ["office","words"] (bZ K mg 2 (Km A)):=
 iZ (N:=["office","words"]) F λY hY _ _=>
 (dH (uJ (Cd oz (bV (zkW vaK (jd vaw (λS M G1=>dv 0) (bV (aR λS M G1=>(DE.nox (jJ (dv 1) dJ))) cU) (fZ hY)) (bV (aR λS M G1=>(DE.nox (jJ (dv 1) dJ))) cU) (fZ hY)) cU))))
def zjC(F:bD K "parting" "Fen.parting" Hv f fd):aG P w K mg base (aZ P w) 4 f fd ["self","one","other"] (bZ K mg 3 (JG A)):=
 iZ (N:=["self","one","other","book","start","end","numbers"]) F λY hY _ _=>
 (di (jP λS M G1=>(DS.nox (jc 3 (iK vaH mZ))))
  (di (zv3 4 5 (bV (Cm ot (bV (aR λS M G1=>(DE.nox (dv 3))) (bV (aR λS M G1=>(DE.nox (dv 1))) cU)) (fZ hY)) (bV (Cm ot (bV (aR λS M G1=>(DE.nox (dv 3))) (bV (aR λS M G1=>(DE.nox (dv 2))) cU)) (fZ hY)) cU)))
  zh2))
def zho(F:bD K "answer_parting" "answer_parting" GZ f fd):aG P w K mg base (aZ P w) 6 f fd ["office","words"] (bZ K mg 2 (zcg A)):=
 iZ (N:=["office","words","hands"]) F λY hY _ _=>
 (di (wY 2 (zkW vaI (jd vaw (λS M G1=>dv 0) (bV (aR λS M G1=>(DE.nox (jJ (dv 1) dJ))) cU) (fZ hY)) (bV (aR λS M G1=>(DE.nox (jJ (dv 1) dJ))) (bV (aR λS M G1=>(DE.nox (jJ (dv 1) dJ))) cU)) (fZ hY)))
  (di (jP λS M G1=>(DS.nox (du (zuP (dv 2)) (cz (cI aL)) jQ)))
  (dH (jP λS M G1=>(DS.nox (cI (iT oV (aB (dv 2) aK))))))))
def zf6(F:bD K "answer_or_refusal" "answer_or_refusal" Ip f fd):aG P w K mg base (aZ P w) 11 f fd ["office","words"] (bZ K mg 2 (Em A)):=
 ztu (N:=["office","words","action"]) F λY hY _ _=>
 (zpB (jP λS M G1=>(DS.nox (jc 2 (zsR gO (jJ (dv 1) dJ)))))
  (zuo (λY1 pn xe hp=>(dH (uJ (ztS (to.at ‹_›) (bV (aR λS M G1=>(dv 0)) (bV (aR λS M G1=>(dv 1)) cU)) hp)))) xl))
def zpd(F:bD K "is_deed" "is_deed" GR f fd):aG P w K mg base (aZ P w) 6 f fd ["words"] (bZ K mg 1 (zgQ A)):=
 ztu (N:=["words"]) F λY hY _ _=>
 (ztM (λY1 pn xe hp=>(dH (nH (Cm oP (bV (aR λS M G1=>(zto aL (dv 0))) cU) hp)))) (λea oe=>(dH (jP λS M G1=>(cI yp))))
  (zpB (jP λS M G1=>(DS.nox (cI yp)))
  (zx8 rQ)) xh.vbd xh.vbG)
def zoM(F:bD K "is_form" "is_form" Jo f fd):aG P w K mg base (aZ P w) 7 f fd ["words"] (bZ K mg 1 (DR A)):=
 iZ (N:=["words"]) F λY hY _ _=>
 (mQ.nox (di (jP λS M G1=>(du (GX aL (dv 0)) (cz (cI yp)) jQ))
  (di (yf (λS M G1=>(kJ (jJ (dv 0) dJ) aL)) (dH (uJ (Ff o0 (bV (aR λS M G1=>(zrU (dv 0) (zn5 dJ) znU)) cU) qO))) rQ)
  (dH (jP λS M G1=>(cI (uF (zvY vad (jJ (dv 0) dJ)) (rP (aB (dv 0) aK)))))))))
def zq3(F:bD K "answer" "answer" Jr f fd):aG P w K mg base (aZ P w) 12 f fd ["office","line"] (bZ K mg 2 (zkI A)):=
 iZ (N:=["office","line","words"]) F λY hY _ _=>
 (mQ.nox (di (jP λS M G1=>(jc 2 (zrs (dv 1) aL)))
  (di (znS (Ff o3 (bV (aR λS M G1=>(dv 2)) cU) qO) (dH (jP λS M G1=>(cI aL))) rQ)
  (dH (uJ (Ff ox (bV (aR λS M G1=>(dv 0)) (bV (aR λS M G1=>(dv 2)) cU)) qO))))))
def zkX(F:bD K "say" "Office.say" Js f fd):aG P w K mg base (aZ P w) 13 f fd ["self","line"] (bZ K mg 2 (Bh A)):=
 iZ (N:=["self","line"]) F λY hY _ _=>
 (dH (uJ (Ff o7 (bV (aR λS M G1=>(DE.nox (dv 0))) (bV (aR λS M G1=>(DE.nox (dv 1))) cU)) (fZ hY))))
def zwh(F:bD K "law" "law" sG f fd)(cB:gG P w K mg base "_law_box" 1 ["_law_script"] (Fen.zuX K))(hw:wI 10 (zgO A)):aG P w K mg base dh 14 f fd ["_law_script"] (K6 K):=by
 refine zug (N:=["_law_many","_law_office","_law_name","_law_deeds","_law_deed","_law_kept","_law_rows","_law_k","_law_line","_law_word"]) (k:=13) F rfl cB (λ_ _=>?_) hw;unfold zgO;exact(di (jP λS M G1=>(jc 2 (iT oW (aB (dv 1) (aB dJ aK)))))
  (di (wY 3 (znB mkJ okJ fo.vbk bJ qO))
  (di (zK (.nm 4) (λS M G1=>(lL (dq (aB aL (aB aL (aB aL aK)))))) (gn 4) (dH (nH (jd vau (λS M G1=>dv 3) (bV (aR λS M G1=>(dv 4)) cU) qO))))
  (di (zK (.nm 4) (λS M G1=>(lL aL)) (gn 4) (dH (nH (jd vap (λS M G1=>dv 3) (bV (aR λS M G1=>aL) (bV (aR λS M G1=>(dq (aB aL (aB (dv 4) aK)))) cU)) qO))))
  (di (zK (.nm 4) (λS M G1=>(lL aL)) (gn 4) (dH (nH (jd vap (λS M G1=>dv 3) (bV (aR λS M G1=>aL) (bV (aR λS M G1=>(dq (aB aL (aB (dv 4) aK)))) cU)) qO))))
  (di (jP λS M G1=>(jc 5 (DF.de (lA (aB (dq (aB aL (aB aL aK))) (aB (dq (aB aL (aB aL aK))) (aB (dq (aB aL (aB aL aK))) (aB (dq (aB aL (aB aL aK))) (aB (dq (aB aL (aB aL aK))) (aB (dq (aB aL (aB aL (aB aL (aB dJ (aB aL aK)))))) aK))))))))))
  (di (zK (.nm 6) (λS M G1=>(lL (iu (dv 5) (DF.de (lA (aB (dq (aB aL (aB aL aK))) (aB (dq (aB aL (aB dJ aK))) aK))))))) (gn 6) (dH (nH (jd vap (λS M G1=>dv 3) (bV (aR λS M G1=>aL) (bV (aR λS M G1=>(dv 6)) cU)) qO))))
  (di (zK (.nm 6) (λS M G1=>(lL (dq (aB (dq (aB aL (aB aL aK))) (aB (dq (aB aL (aB aL aK))) aK))))) (gn 6) (dH (nH (jd vap (λS M G1=>dv 3) (bV (aR λS M G1=>aL) (bV (aR λS M G1=>(dv 6)) cU)) qO))))
  (di (nH (jd vam (λS M G1=>dv 3) (bV (aR λS M G1=>aL) cU) qO))
  (di (zsm 7 0 (Nc:=["_law_name","_law_office"]) (λS M G1=>(lL (iK vas mZ))) (gn 0) (λh0=>(zqX oN (bV (jd vaw (λS M G1=>dv 1) (bV (aR λS M G1=>(dv 0)) cU) qO) cU))))
  (di (jP λS M G1=>(jc 8 (iT oR (aB (dv 2) aK))))
  (di (zK (.nm 9) (λS M G1=>(zwp (rP (aB (dv 8) aK)))) (gn 9) (di (jP λS M G1=>(tX (.tp 2 (.cons (.nm 10) (.cons (.nm 11) .nil))) (jJ (dv 8) (zyI (iu (dv 9) (dv 2)) (rP (aB (dv 8) aK)))) (mO (n:=2) rfl (dY (gn 10) (dY (gn 11) mU)))))
  (dH (znS (Cd oM (bV (jd vav (λS M G1=>dv 3) (bV (aR λS M G1=>(dv 10)) cU) qO) (bV (aR λS M G1=>(iu aL (dv 11))) cU))) (dH (jP λS M G1=>(cI yp))) rQ))))
  (di (znS (Cd oM (bV (zkP 0 (Nc:=["_law_name","_law_office"]) (λS M G1=>(lL (iK vas mZ))) (gn 0) (λh0=>(zqX oN (bV (jd vaw (λS M G1=>dv 1) (bV (aR λS M G1=>(dv 0)) cU) qO) cU)))) (bV (aR λS M G1=>(dv 7)) cU))) (dH (jP λS M G1=>(cI yp))) rQ)
  (di (znS (Cd oM (bV (zyk (bV (aR λS M G1=>(iK vas mZ)) (bV (jd vav (λS M G1=>dv 3) (bV (aR λS M G1=>aL) cU) qO) cU))) (bV (aR λS M G1=>(DF.de (lA (aB (DF.de (lA (aB aL (aB aL (aB aL aK))))) (aB aL aK))))) cU))) (dH (jP λS M G1=>(cI yp))) rQ)
  (dH (uJ (Cd oM (bV (zuH vay (jd vaw (λS M G1=>dv 3) (bV (aR λS M G1=>aL) cU) qO)) (bV (aR λS M G1=>dJ) cU)))))))))))))))))))
end
end Fd
namespace Fd
open PySem L2 Fen Hd
def CQ{p:List Value->Prop}(k:p []):∀us:List Value,us.length=0->p us
 |[],_=>k
def DY{p:List Value->Prop}{n:Nat}(k:∀(a:Value) (us:List Value),us.length=n->p (a::us)):∀us:List Value,us.length=n+1->p us
 |a::us,h=>k a us (Nat.succ.inj h)
def fdOf(P:Params)(f:Addr):FuncData:=match List.lookup f (hK P)with
 |some ⟨_,_,.func d,_⟩=>d
 |_=>fD "" (.Pass ⟨0,0,0,0⟩) "" 0 0
def HQ(P:Params)(f:Addr):Addr:=match (fdOf P f).code with
 |.ref c=>c
 |_=>0
def fmOf(P:Params)(f:Addr):Value:=(fdOf P f).pyModule
noncomputable abbrev fE(P:Params)(x u:Str)(s:Stmt)(f:Addr):FuncData:=PySem.W.fnOf x u (tH s) (nD s) (gB s) .none .none .none (fmOf P f) none (.ref (HQ P f)) .none
def fF{P:Params}(x u:Str)(s:Stmt)(f:Addr)(l:List.lookup f (hK P)=some ⟨.type "function",none,.func (fE P x u s f),#[]⟩:=by left)(y:PySem.W.codeIn (hK P) (.ref (HQ P f)) u=true:=by left):bD (hK P) x u s f (fE P x u s f):=⟨⟨_,_,_,_,_,_,_,_,_,rfl,l,y⟩,by simp only[PySem.W.keepIn,l]⟩
def mkB{w:PySem.World}{x u:Str}{s:Stmt}{f:Addr}{ps:List Str}(F:bD (hK w.params) x u s f (fE w.params x u s f))(b:∀(kV doc pm:Value) (an:Option Addr) (cdv ct:Value) (us:List Value),us.length=ps.length->bindArgs (PySem.W.fnOf x u (tH s) (nD s) (gB s) .none kV doc pm an cdv ct) ⟨us,[]⟩=pure (ps.zip us):=by(intro _ _ _ _ _ _;repeat (first|exact CQ rfl|refine DY λ_=>?_))):Binds (hK w.params) (fE w.params x u s f) ps []:=F.binds b
def mkC{P:Program}{w:PySem.World}{base h:Heap}{mg:Str->Option Value}(X:PySem.W.Frag.In (hK w.params) h)(G:h.Ns mainGlobals mg){k:Nat}{ps:List Str}{sp:Sp}(x:Str)(s:Stmt)(f:Addr)(ok:∀{fd:FuncData},bD (hK w.params) x x s f fd->aG P w (hK w.params) mg base dh k f fd ps sp)
  (F:bD (hK w.params) x x s f (fE w.params x x s f):=by exact fF _ _ _ _) (m:PySem.W.nsIn (hK w.params) mainGlobals x=some (some (.ref f)):=by left)
  (b:∀(kV doc pm:Value)(an:Option Addr)(cdv ct:Value)(us:List Value),us.length=ps.length->bindArgs (PySem.W.fnOf x x (tH s) (nD s) (gB s) .none kV doc pm an cdv ct) ⟨us,[]⟩=pure (ps.zip us):=by(intro _ _ _ _ _ _;repeat (first|exact CQ rfl|refine DY λ_=>?_))):gG P w (hK w.params) mg base x k ps sp:=
 gG.of F (ok F) (YAM X G m) (F.binds b)
def mkX{P:Program}{w:PySem.World}{base h:Heap}{mg:Str->Option Value}(X:PySem.W.Frag.In (hK w.params) h)(G:h.Ns mainGlobals mg){k:Nat}{ps:List Str}{sp:Sp}(x:Str)(s:Stmt)(f:Addr)(ok:∀{fd:FuncData},bD (hK w.params) x x s f fd->aG P w (hK w.params) mg base (aZ P w) k f fd ps sp)
  (F:bD (hK w.params) x x s f (fE w.params x x s f):=by exact fF _ _ _ _) (m:PySem.W.nsIn (hK w.params) mainGlobals x=some (some (.ref f)):=by left)
  (b:∀(kV doc pm:Value)(an:Option Addr)(cdv ct:Value)(us:List Value),us.length=ps.length->bindArgs (PySem.W.fnOf x x (tH s) (nD s) (gB s) .none kV doc pm an cdv ct) ⟨us,[]⟩=pure (ps.zip us):=by(intro _ _ _ _ _ _;repeat (first|exact CQ rfl|refine DY λ_=>?_))):eY P w (hK w.params) mg base x k ps sp:=
 eY.of F (ok F) (YAM X G m) (F.binds b)
def mkM{P:Program}{w:PySem.World}{base:Heap}{mg:Str->Option Value}{CX:qC}{C:Addr}(c:jN (hK w.params) C){k:Nat}{ps:List Str}{sp:Sp}(x u:Str)(s:Stmt)(f:Addr)(ok:∀{fd:FuncData},bD (hK w.params) x u s f fd->aG P w (hK w.params) mg base CX k f fd ps sp)
  (m:PySem.W.findIn (hK w.params) (.ref C) x=some (some (.ref f)):=by left) (i:PySem.W.isFn (hK w.params) (.ref f)=true:=by left) (F:bD (hK w.params) x u s f (fE w.params x u s f):=by exact fF _ _ _ _)
  (b:∀(kV doc pm:Value)(an:Option Addr)(cdv ct:Value)(us:List Value),us.length=ps.length->bindArgs (PySem.W.fnOf x u (tH s) (nD s) (gB s) .none kV doc pm an cdv ct) ⟨us,[]⟩=pure (ps.zip us):=by(intro _ _ _ _ _ _;repeat (first|exact CQ rfl|refine DY λ_=>?_))):Met P w (hK w.params) mg base CX C x k ps sp:=
 ⟨f,_,ok F,c,⟨m,i,F.kp⟩,F.binds b⟩
abbrev aD:bN:=⟨878,1244,383,390,397,402,407,414,421,426,433,976,983,990,997,1004,1011,1018,1025,1032,1039,1046,1051,1058,1065,1072,1077,1082,1089⟩
def tP{P:Program}{w:PySem.World}{base:Heap}{mg:Str->Option Value}{lv n k:Nat}{T:List (Addr×ik)}{ps:List Str}{F:ik}(x:Str)(s:Stmt)(f:Addr)(ok:∀{fd:FuncData},bD (hK w.params) x x s f fd->aG P w (hK w.params) mg base (aZ P w) k f fd ps (cj (hK w.params) mg n F))(r:jW P w (hK w.params) mg base lv n T)(hk:k<=lv:=by decide)(Fu:bD (hK w.params) x x s f (fE w.params x x s f):=by exact fF _ _ _ _)(b:∀(kV doc pm:Value) (an:Option Addr) (cdv ct:Value) (us:List Value),us.length=ps.length->bindArgs (PySem.W.fnOf x x (tH s) (nD s) (gB s) .none kV doc pm an cdv ct) ⟨us,[]⟩=pure (ps.zip us):=by(intro _ _ _ _ _ _;repeat (first|exact CQ rfl|refine DY λ_=>?_))):jW P w (hK w.params) mg base lv n ((f,F)::T):=jW.cons Fu (ok Fu) (Fu.binds b) r hk
def tO{P:Program}{w:PySem.World}{base:Heap}{mg:Str->Option Value}{lv n k:Nat}{T:List (Addr×cD)}{ps:List Str}{F:cD}(x:Str)(s:Stmt)(f:Addr)(ok:∀{fd:FuncData},bD (hK w.params) x x s f fd->aG P w (hK w.params) mg base (aZ P w) k f fd ps (bZ (hK w.params) mg n F))(r:jY P w (hK w.params) mg base lv n T)(hk:k<=lv:=by decide)(Fu:bD (hK w.params) x x s f (fE w.params x x s f):=by exact fF _ _ _ _)(b:∀(kV doc pm:Value) (an:Option Addr) (cdv ct:Value) (us:List Value),us.length=ps.length->bindArgs (PySem.W.fnOf x x (tH s) (nD s) (gB s) .none kV doc pm an cdv ct) ⟨us,[]⟩=pure (ps.zip us):=by(intro _ _ _ _ _ _;repeat (first|exact CQ rfl|refine DY λ_=>?_))):jY P w (hK w.params) mg base lv n ((f,F)::T):=jY.cons Fu (ok Fu) (Fu.binds b) r hk
def gS{K:qd}{x:Str}{t:Tok}(a:Addr)(its:List (Str×Tok))(hl:K.lookup a=some ⟨.type "tuple",none,.seq (its.map λp=>Value.str p.1 p.2).toArray 0,#[]⟩:=by left)(hz:its.length<=1000:=by simp):vK K (x,t,.ref a) (x,.tup ((its.map (·.1)).map D.str)):=zqh hl hz
def pY{K:qd}{x:Str}{t k:Tok}{i:Int}:vK K (x,t,.int i k) (x,.int i):=⟨rfl,.int i,⟨k,rfl⟩,λc G hK=>rfl⟩
def zu7{K:qd}{mg:Str->Option Value}(l:List (Str×Addr)){ns:List Str}(h:l.map (·.1)=ns)(hm:∀p∈l,mg p.1=some (.ref p.2))(hx:(l.all λp=>l.all λq=>PySem.W.exmOne K (.ref p.2) (.ref q.2)==some (decide (p.1=q.1)))=true):xr K mg ns:=⟨λx hx'=>by
 subst h;obtain⟨q,hq,rfl⟩:=rD.mp hx';refine⟨q.2,hm q hq,λnm hn C hC=>?_⟩;obtain⟨p,hp,rfl⟩:=rD.mp hn;rw[hm p hp]at hC;cases hC;exact eq_of_beq (YAH.mp (YAH.mp hx p hp) q hq)⟩
def all_mk{l:PySem.W.OpenLaw}{w:PySem.World}{h:Heap}{mg:Str->Option Value}{fa:Addr}(X:PySem.W.Frag.In (hK w.params) h)(G:h.Ns mainGlobals mg)(hfa:mg "law"=some (.ref fa)) :
  ∃fd:FuncData,(∀(s:Shared)(v:Value),BindsTo s fd ⟨[v],[]⟩ [("_law_script",v)])/\∀base:Heap,PySem.W.Frag.In (hK w.params) base->base.Ns mainGlobals mg->aG l.prog w (hK w.params) mg base dh 14 fa fd ["_law_script"] (K6 (hK w.params)):=by
 have e:=hfa.symm.trans (YAM X G (v:=.ref 1286) (by left));cases e;have qc:∀{x:Str},PySem.W.nsIn (hK w.params) mainGlobals x=some none->mg x=none:=PySem.W.mg_none_of X G;have T:Bt mg:=by constructor<;>exact qc (by left)
 have T2:Bd mg:=by constructor<;>exact qc (by left)
 have cls:jN (hK w.params) aD.fen:=⟨by left,by left,by left,by left⟩;have fc:Fc (hK w.params) mg aD:=⟨cls,(show PySem.W.findIn (hK w.params) (.ref 878) "kept"=some none by left),(show PySem.W.findIn (hK w.params) (.ref 878) "books"=some none by left),(show PySem.W.findIn (hK w.params) (.ref 878) "undone"=some none by left),YAM X G (by left)⟩;have clo:jN (hK w.params) aD.off:=⟨by left,by left,by left,by left⟩;have fo:Fo (hK w.params) mg aD:=⟨clo,(show PySem.W.findIn (hK w.params) (.ref 1244) "fens"=some none by left),YAM X G (by left)⟩;have mgo:∀{x:Str}{v:Value},PySem.W.nsIn (hK w.params) mainGlobals x=some (some v)->mg x=some v:=YAM X G;have xl:xr (hK w.params) mg NLx:=zu7 [("BadName",44),("Taken",56),("Full",68),("NoMark",80),("NoHand",92),("Same",104),("BadRise",116),("NoRun",128),("Aside",140),("NotAside",152),("BadNumber",164),("NothingLeft",176),("Steady",188),("Known",212),("NoFen",224),("Settled",236)] rfl (by simp only[La,jL,YCu,YCF,and_true];and_intros<;>exact mgo (by left)) (by left);have xh:Xh (hK w.params) mg ⟨44,56,68,80,92,104,116,128,140,152,164,176,188,200,212,224,236⟩:=by constructor<;>first|exact YAM X G (by left)|left
 have vaf:mg "LONGEST_NAME"=some (.int 8 517):=YAM X G (by left);have vae:mg "LETTERS"=some (.str "abcdefghijklmnopqrstuvwxyz" 513):=YAM X G (by left);have vak:mg "MOST_STANDS"=some (.int 12 626):=YAM X G (by left);have vai:mg "MOST_HANDS"=some (.int 10 628):=YAM X G (by left);have vac:mg "HIGHEST_RISE"=some (.int 1000000000 634):=YAM X G (by left);have vaj:mg "MOST_RUNS"=some (.int 40 630):=YAM X G (by left);have vah:mg "MOST_FALSE"=some (.int 3 632):=YAM X G (by left);have vag:mg "LONGEST_NUMBER"=some (.int 10 519):=YAM X G (by left);have vaa:mg "FIGURES"=some (.str "0123456789" 515):=YAM X G (by left);have vab:gM l.prog w (hK w.params) mg "FORMS" cR:=zrM (ps:=[("mark",1448,.ref 891),("hand",1450,.ref 892),("run",1452,.ref 893),("strike",1457,.ref 894),("mend",1459,.ref 895),("settle",1462,.ref 896),("aside",1464,.ref 897),("heed",1466,.ref 898),("allow",1468,.ref 899)]) (a:=890) (n:=9) X G (by left) (show List.lookup 890 (hK w.params)=_ by left) (show je (hK w.params) _ cR by unfold cR;exact(.cons (gS 891 [("name",1449)]) (.cons (gS 892 [("name",1451)]) (.cons (gS 893 [("name",1453),("name",1454),("rise",1455),("name",1456)]) (.cons (gS 894 [("number",1458)]) (.cons (gS 895 [("number",1460),("rise",1461)]) (.cons (gS 896 [("name",1463)]) (.cons (gS 897 [("name",1465)]) (.cons (gS 898 [("name",1467)]) (.cons (gS 899 [("number",1469)]) .nil)))))))))) (by decide) (by simp only[fj,ue];decide);have vad:gM l.prog w (hK w.params) mg "LENGTHS" b7:=zrM (ps:=[("open",1520,.int 2 1521),("copy",1523,.int 3 1524),("close",1526,.int 2 1527),("join",1529,.int 4 1530),("names",1532,.int 1 1533),("back",1535,.int 2 1536),("again",1538,.int 2 1539),("marks",1541,.int 2 1542),("hands",1544,.int 2 1545),("asides",1547,.int 2 1548),("runs",1550,.int 2 1551),("least",1553,.int 2 1554),("height",1556,.int 4 1557),("sank",1559,.int 3 1560),("false",1562,.int 2 1563),("groups",1565,.int 2 1566),("parting",1568,.int 4 1569)]) (a:=929) (n:=17) X G (by left) (show List.lookup 929 (hK w.params)=_ by left) (show je (hK w.params) _ b7 by unfold b7;exact(.cons pY (.cons pY (.cons pY (.cons pY (.cons pY (.cons pY (.cons pY (.cons pY (.cons pY (.cons pY (.cons pY (.cons pY (.cons pY (.cons pY (.cons pY (.cons pY (.cons pY .nil)))))))))))))))))) (by decide) (by simp only[fj,ue];decide);have gA:gM l.prog w (hK w.params) mg "ACTIONS" (zm aD):=zrM (ps:=[("mark",772,.ref 383),("hand",773,.ref 390),("run",774,.ref 397),("strike",775,.ref 402),("mend",776,.ref 407),("settle",777,.ref 414),("aside",778,.ref 421),("heed",779,.ref 426),("allow",780,.ref 433)]) (a:=434) (n:=9) X G (by left) (show List.lookup 434 (hK w.params)=_ by left) (show je (hK w.params) _ (zm aD) by unfold zm;exact(.cons jU (.cons jU (.cons jU (.cons jU (.cons jU (.cons jU (.cons jU (.cons jU (.cons jU .nil)))))))))) (by decide) (by simp only[fj,ue];decide);have gO:gM l.prog w (hK w.params) mg "ANSWERS" (vQ aD):=zrM (ps:=[("open",1753,.ref 976),("copy",1755,.ref 983),("close",1757,.ref 990),("join",1759,.ref 997),("names",1761,.ref 1004),("in",1763,.ref 1011),("back",1765,.ref 1018),("again",1767,.ref 1025),("marks",1769,.ref 1032),("hands",1771,.ref 1039),("asides",1773,.ref 1046),("runs",1775,.ref 1051),("least",1777,.ref 1058),("height",1779,.ref 1065),("sank",1781,.ref 1072),("false",1783,.ref 1077),("groups",1785,.ref 1082),("parting",1787,.ref 1089)]) (a:=1090) (n:=18) X G (by left) (show List.lookup 1090 (hK w.params)=_ by left) (show je (hK w.params) _ (vQ aD) by unfold vQ;exact(.cons jU (.cons jU (.cons jU (.cons jU (.cons jU (.cons jU (.cons jU (.cons jU (.cons jU (.cons jU (.cons jU (.cons jU (.cons jU (.cons jU (.cons jU (.cons jU (.cons jU (.cons jU .nil))))))))))))))))))) (by decide) (by simp only[fj,ue];decide);have F:=fF (P:=w.params) "law" "law" sG 1286;refine⟨fE w.params "law" "law" sG 1286,λs v=>.of_eq rfl,λbase _ _=>?_⟩;have M:=@mkC l.prog w base h mg X G;have MX:=@mkX l.prog w base h mg X G;have MM:=@mkM l.prog w base mg;have cB:=M "_law_box" sI 1255 λF=>Fen.zvG F ⟨T.list,T.len,T.range⟩;have oW:=M "_law_take" Ab 1262 λF=>zmL F T;have FJ:=fF (P:=w.params) "__init__" "Office.__init__" Je 1143;have okJ:=zgz (P:=l.prog) (w:=w) (base:=base) aD fo FJ;have bJ:=mkB (ps:=["self"]) FJ;have mkJ:Mk (hK w.params) aD.off 1143:=⟨by left,by left,by left,by left⟩;have vaA:=MM (C:=aD.fen) cls "back" "Fen.back" J0 748 λF=>zmw aD fc xh F;have vaq:=MM (C:=aD.off) clo "fen_called" "Office.fen_called" HH 1150 λF=>zf8 aD fo xh F;have vam:=MM (C:=aD.off) clo "back" "Office.back" Ja 1227 λF=>zjJ aD vaA vaq F;have oR:=M "_law_lines" Jl 1281 λF=>zle T F;have F__law_same:=fF (P:=w.params) "_law_same" "_law_same" GC 1267;have b__law_same:=mkB (ps:=["_law_found","_law_due"]) F__law_same;have m__law_same:mg "_law_same"=_:=YAM X G (v:=.ref 1267) (by left);have r__law_same:=zhL (P:=l.prog) (w:=w) (base:=base) F__law_same m__law_same b__law_same T;have oy:=M "is_made_of" JB 262 λF=>zkK T F;have om:=M "is_name" GP 269 λF=>zoF vae vaf oy F;have vat:=MM (C:=aD.off) clo "need_free" "Office.need_free" Hk 1157 λF=>zgk aD fo xh om F;have oS:=M "empty_book" GJ 343 λF=>zkY F;have FI:=fF (P:=w.params) "__init__" "Fen.__init__" IV 664;have okI:=ziX (P:=l.prog) (w:=w) (base:=base) aD fc oS FI;have bI:=mkB (ps:=["self"]) FI;have mkI:Mk (hK w.params) aD.fen 664:=⟨by left,by left,by left,by left⟩;have vau:=MM (C:=aD.off) clo "open_one" "Office.open_one" HX 1164 λF=>zg6 aD fc fo mkI okI bI vat F;have og:=M "with_entry" Hf 350 λF=>zkE T2 F;have oq:=M "turns_of" JS 293 λF=>znc T F;have oU:=M "next_stand" FN 300 λF=>zkZ oq F;have oj:=MX "with_new_stand" Ky 357 λF=>zhn T vak xh og oU F;have oh:=MX "last_stand" Jy 307 λF=>zkB xh oq F;have oo:=MX "need_hand" Ii 364 λF=>zlN xh F;have oE:=MX "need_rise" Gy 371 λF=>zmf T2 vac xh F;have oG:=MX "need_run" KR 376 λF=>zm3 xh F;have tb:jW l.prog w (hK w.params) mg base 4 2 (jy aD):=by unfold jy;exact(tP "mark_entered" Jf 383 (λF=>ziI xh om oq oj F) (tP "hand_entered" IK 390 (λF=>ziw T vai xh om og F) (tP "run_entered" KC 397 (λF=>zjL T vaj xh og oh oo oE F) (tP "run_struck" Kf 402 (λF=>zk8 T og oG F) (tP "run_mended" Hu 407 (λF=>zkn T og oE oG F) (tP "mark_settled" Lw 414 (λF=>zjk oj oh F) (tP "hand_set_aside" Iz 421 (λF=>zhm xh og oo F) (tP "hand_heeded" FW 426 (λF=>zjI T xh og oo F) (tP "number_allowed" Mh 433 (λF=>zhJ vah xh og F) jW.nil)))))))))
 have oQ:=MX "book_behind" Ld 441 λF=>zjy aD gA tb F;have vaH:=MM (C:=aD.fen) cls "now" "Fen.now" J3 671 λF=>zpa aD fc F;have vaC:=MM (C:=aD.fen) cls "deed" "Fen.deed" Ge 741 λF=>zmJ aD fc oQ vaH F;have vap:=MM (C:=aD.off) clo "deed" "Office.deed" Jv 1220 λF=>zjA aD vaq vaC F;have oX:=M "marks_of" Lj 288 λF=>zmM F;have vaG:=MM (C:=aD.fen) cls "marks" "Fen.marks" KJ 776 λF=>zlB aD vaH oX F;have vaE:=MM (C:=aD.fen) cls "hands" "Fen.hands" Lh 783 λF=>zlt aD T vaH F;have vaz:=MM (C:=aD.fen) cls "asides" "Fen.asides" FT 788 λF=>zkC aD vaH F;have vaL:=MM (C:=aD.fen) cls "stands" "Fen.stands" Gx 795 λF=>zkg aD T vaH F;have vay:=MM (C:=aD.fen) cls "allowed" "Fen.allowed" HF 802 λF=>zjG aD vaH F;have vaJ:=MM (C:=aD.fen) cls "runs" "Fen.runs" Jk 809 λF=>zmY aD T vaH F;have oA:=M "rows_that_count" LR 615 λF=>zgR F;have vaB:=MM (C:=aD.fen) cls "counting" "Fen.counting" Ku 814 λF=>ziW aD vaH oA F;have vaD:=MM (C:=aD.fen) cls "deeds" "Fen.deeds" Gm 762 λF=>zlQ aD T fc F;have oN:=M "_law_seen" J4 1274 λF=>zlA aD vaG vaE vaz vaL vay vaJ vaB vaD F;have vaM:=MM (C:=aD.fen) cls "twin" "Fen.twin" Kc 769 λF=>znk aD T fc mkI okI bI F;have vaw:=MM (C:=aD.off) clo "view" "Office.view" Hq 1206 λF=>zjB aD vaq vaM F;have vas:=MM (C:=aD.off) clo "names" "Office.names" JZ 1199 λF=>zij aD T fo F;have vao:=MM (C:=aD.off) clo "copy_one" "Office.copy_one" Lq 1178 λF=>zg2 aD fo vaq vat vaM F;have van:=MM (C:=aD.off) clo "close" "Office.close" GQ 1185 λF=>ziZ aD vaq F;have o4:=MX "fen_of" JK 889 λF=>zqz aD fc mkI okI bI vaC F;have oF:=M "has_settled" JP 1112 λF=>zjH aD T vaG vaL F;have oO:=M "each_once" Hm 1117 λF=>zl8 F;have oJ:=M "joined_deeds" Ko 1122 λF=>zjm aD T vaG vaE vaz vay vaJ oO F;have o6:=MX "joined" HY 1129 λF=>zqJ aD xh o4 oF oJ F;have var:=MM (C:=aD.off) clo "join" "Office.join" JF 1192 λF=>zjK aD fo xh vaq vat o6 F;have ow:=M "is_number" Jj 276 λF=>zl5 vaa vag oy F;have oY:=M "is_rise" Hh 283 λF=>zoK ow F;have oH:=M "is_written_as" Mg 911 λF=>zhX om ow oY F;have oP:=MX "deed_of" KY 916 λF=>zoX T vab xh oH F;have vax:=MM (C:=aD.fen) cls "again" "Fen.again" zev 755 λF=>zlY aD fc xh F;have val:=MM (C:=aD.off) clo "again" "Office.again" Hi 1234 λF=>ziQ aD vaq vax F;have oz:gG l.prog w (hK w.params) mg base "parts_text" 1 ["parts"] (eV (hK w.params) 1 rK):=M "parts_text" zfX 948 λF=>zk5;have oI:gG l.prog w (hK w.params) mg base "without_proof" 1 ["answer"] (eV (hK w.params) 1 rK):=M "without_proof" zdz 650 λF=>zk5;have oK:gG l.prog w (hK w.params) mg base "told_between" 1 ["book","one","other"] (eV (hK w.params) 3 rK):=M "told_between" zd4 636 λF=>zk5;have ot:=MX "place_of" Gs 629 λF=>zmv oh F;have oZ:=MX "told_of" Ka 643 λF=>zpn oK ot F;have vaF:=MM (C:=aD.fen) cls "height" "Fen.height" Hr 821 λF=>zk6 aD vaH oI oZ F;have vaK:=MM (C:=aD.fen) cls "sank" "Fen.sank" Jx 842 λF=>zmy aD xh oh vaH F;have vaI:=MM (C:=aD.fen) cls "parting" "Fen.parting" Hv 868 λF=>zjC aD vaH ot F;have oV:gG l.prog w (hK w.params) mg base "hands_text" 1 ["hands"] (eV (hK w.params) 1 rK):=M "hands_text" zfN 969 λF=>zk5;have to:jY l.prog w (hK w.params) mg base 10 2 (fK aD):=by unfold fK;exact(tO "answer_open" Hb 976 (λF=>zjE aD vau F) (tO "answer_copy" Jd 983 (λF=>zjN aD vao F) (tO "answer_close" Fz 990 (λF=>zjh aD van F) (tO "answer_join" Jb 997 (λF=>zjD aD var F) (tO "answer_in" Lg 1011 (λF=>zmn aD vap oP F) (tO "answer_again" Lx 1025 (λF=>zi9 aD val F) (tO "answer_height" J6 1065 (λF=>zhY aD vaw oz vaF F) (tO "answer_sank" Ju 1072 (λF=>zjO aD vaw oz vaK F) (tO "answer_parting" GZ 1089 (λF=>zho aD vaw vaI oV F) jY.nil)))))))))
 have ox:=MX "answer_or_refusal" Ip 1098 λF=>zf6 aD xl gO to F;have o0:=MX "is_deed" GR 936 λF=>zpd aD xh oP F;have o3:=MX "is_form" Jo 943 λF=>zoM aD T vad o0 F;have o7:=MX "answer" Jr 1105 λF=>zq3 aD ox o3 F;have vav:=MM (C:=aD.off) clo "say" "Office.say" Js 1241 λF=>zkX aD o7 F;exact zwh aD T fo mkJ okJ bJ oW vam oR (gG.of F__law_same (r__law_same 6) m__law_same b__law_same) vau vap vay oN vaw vas vav F cB (zt8 aD)
def walk{l:PySem.W.OpenLaw}{q:Program}{loose:List Str}{XP:(Str->Option Value)->Heap->Prop}{YP:PySem.World->Heap->Prop}{d:DefRec}{K:Params->qd}(hn:l.most=some 63)(hdf:d.params.defaults=[])
  (hY:∀(w:PySem.World)(h:Heap),YP w h->(K w.params).In h)
  (F:∀(w:PySem.World)(mg:Str->Option Value)(fa:Addr)(h:Heap),(K w.params).In h->h.Ns mainGlobals mg->mg d.name=some (.ref fa) ->
   ∃fd:FuncData,(∀(s:Shared)(u:Value),BindsTo s fd ⟨[u],[]⟩ [("_law_script",u)])/\∀base:Heap,(K w.params).In base->base.Ns mainGlobals mg->aG l.prog w (K w.params) mg base dh 14 fa fd ["_law_script"] (K6 (K w.params))) :
  PySem.W.WalkO q loose XP YP l.row.toRowW d [] (λf vs=>PySem.call f vs):=
 L2.zuS (n:=63) (k:=14) (x:="_law_script") (CX:=λ_=>dh) (sp:=λw=>K6 (K w.params)) hn (by decide) hdf ⟨rfl,by decide,by decide⟩ hY F (λ_ _ a ns hl _ hS=>⟨a,ns,rfl,hS,hl,λ_=>rfl⟩) λ_ _ _ _ _ z=>z
end Fd
open PySem PySem.W PyProof.Rows
set_option maxRecDepth 100000 in
theorem PySem.Challenge.cw_fenlevel_k52_refusals_in_words_holds : PySem.Challenge.rw_fenlevel_k52_refusals_in_words.Holds := by
 w_on;o_law
 refine holds_open (q:=Hd.vw) (loose:=["ACTIONS","false_sets_readings","least_readings","parting_parting","FORMS","page_pages","LENGTHS","ANSWERS"]) (Xt:=Hd.xT) (XP:=XL Hd.vw []) (Yf:=Hd.hH.obs) (Ya:=Hd.hH.val) (YP:=Hd.hH.says) (N:=20654) Hd.Az Hd.hH.of Hd.hH.keeps (λs e=>xl_of s (KH.mp e).1) XL.keeps (by rfl) (by rfl) (by rfl) (λs e=>recFacts_of (KH.mp e).2) (by rfl) (by first|assumption|decide) (by decide) ⟨rfl,rfl,rfl,rfl,rfl,by decide⟩ ?hw ?hc
 (case hw=>w_witness2)
 exact Fd.walk (l:=PySem.Challenge.rw_fenlevel_k52_refusals_in_words) rfl rfl (λw h Y=>PySem.W.kIn_of Y) (λw mg fa h KX G hmg=>Fd.all_mk KX G hmg)
