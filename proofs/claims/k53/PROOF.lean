import PyProof.Rows.All
import Wide.All
import OpenK.AllK
import Wide.FinOn
import Lean
import PyProof.EqAt
import PyProof.EqKinds
import PyProof.TupleCall
import PyProof.StationsW
import PyProof.RulesAs
import PyProof.ExcClass2
import PyProof.Rows.Exc
import OpenK.KMake
import PyProof.InstStoreFacts
import OpenK.KCls
import PyProof.ExcArgsOwn
import PyProof.ExcAttrAll.ValueError
import PyProof.FitsInt
import PyProof.FString
import PyProof.FString4
import PyProof.StrLawsRepr
import PyProof.NsDelKeeps
import PyProof.NoPylong
import PyProof.FitsBits
import PyProof.Rows.RuleM_int
import PyProof.P3In
import PyProof.NeData
import PyProof.Draws
import PyProof.ZipIter
import PyProof.EnumMake
import PyProof.ListMulAny
import PySem.SetOps
import PyProof.SetScanFacts
import PyProof.WalksMore
import PyProof.SetNew
import PyProof.SetKind
import PyProof.Rows.SetFrom
import PyProof.TupleKey
import PyProof.IsRules
import PyProof.SetRoads
import PyProof.ListMulRoad
import PyProof.Rows.ListMulArg
import PyProof.Rows.SumAny
import PyProof.AttrMissHeap
import PyProof.FactsAll.zip_1
import Wide.Seal
import PyProof.P3Eq
import PyProof.WalkInts
import PyProof.SeqI3
import PyProof.Rows.CallKwBuiltin
import PyProof.DictRoadsH
import PySem.Challenge.RW_mostrows_k53_houses_thinned
set_option compiler.extract_closed false
set_option Elab.async false
set_option linter.all false
set_option maxRecDepth 100000
set_option maxHeartbeats 4000000
set_option bootstrap.genMatcherCode false
set_option genSizeOf false
set_option genSizeOfSpec false
set_option tactic.hygienic false
open List(length_map mem_singleton mem_append mem_cons map_cons size_toArray length_cons range of_mem_zip replicate take_sublist forIn_cons lookup_cons append_assoc length_range drop_eq_getElem_cons drop_zero find?_cons drop_length length_singleton nil_append not_mem_nil map_take pairwise_singleton range' map_map length_zip take_append_drop take_add drop_drop mem_of_mem_drop take_length getElem?_of_mem getElem?_take getElem?_drop foldl_cons take_append take_take length_reverse toArray map_snd_zip foldl_append length_filter_le take_left eq_nil_or_concat concat_eq_append mem_filter getElem_map ext_getElem getElem_zip map_congr_left getElem_idxOf)
open Nat(zero_le le_succ succ_le_succ le_of_eq add_le_add_left lt_of_not_le le_succ_of_le mul_assoc one_mul add_comm mod_lt succ_pos lt_of_le_of_ne lt_succ_of_le sub_lt_of_lt sub_add_cancel le_add_right exists_eq_add_of_le add_assoc add_sub_cancel_left sub_lt one_pos pos_of_ne_zero add_zero lt_or_ge)
open PySem.Value(isInt_shape float type builtin)
open PySem.Heap(SameBut ExtBut IsTuple IsList)
open False(elim)
open PySem.Builtin.Str(occurrences glued)
open PySem.Builtin.Slice(sliceAdjust slicePlaces)
open PySem.Str(ofString)
open PySem.Builtin.Tuple(tupleItemsOf tupleExact)
open PySem.Obj(mapSeq putSet)
open Option(getD_none getD_some isSome_map)
open PySem.Builtin.List(listTooLong listLengthHint listSameRef)
open PySem.Txt(slice)
open PySem.Builtin.SmallTypes(ownedTupleIsFree nextOf ownedTupleHandOut)
open Array(size_push toList_append size_map size_append toList_reverse)
open PySem.PyData(canLayAll0 depthAll depth eqvAll)
open Int(toNat_natCast emod_nonneg)
open PySem.Shared(TypeIs)
open Bool(false_eq_true)
open List.Perm(append_left)
open PySem.Builtin.Dict(pairItems selfAndRest updateFrom)
noncomputable section
def dV:=@PySem.wpAny_bind
def gV:=@PySem.wpAny_pure
def fI:=@if_pos
def gX:=@if_neg
def AE:=@PySem.wpAny_holding
def Co:=@decide_eq_true_eq
def AW:=@PySem.wpAny_field
def Cp:=@PySem.wpAny_call_entry
def CB:=@PySem.wpAny_seqItems
def CV:=@PySem.codeAny_builtin
def BJ:=@PySem.wpAny_rule
def BL:=@PySem.call_meets
def Dm:=@decide_eq_true
def Ca:=@PySem.wpAny_mono
def Fq:=@PySem.builtinLookup_eq_fast
def Dp:=@PySem.plainId_quiet
def EG:=@PySem.wpAny_newObj_type
def JU:=@PySem.wpAny_loadPart'
def Fs:=@PySem.wpAny_Call_Name_kw
def DK:=@PySem.wpAny_typeOf
def Ee:=@PySem.wpAny_attempt
def Cq:=@congrArg
def DL:=@PySem.sizeLine_eq
def Ft:=@decide_eq_false
def Fu:=@PySem.wpAny_passesOwn
def R5:=@bne_self_eq_false
def Ef:=@beq_iff_eq
def R6:=@if_false
def IM:=@PySem.wpAny_getItem_str_slice
def R7:=@if_true
def Hv:=@PySem.wpAny_pyIter_tuple
def Gh:=@PySem.wpAny_specialOf
def Hw:=@PySem.wpAny_truthy_bool
def Hx:=@PySem.wpAny_askSetting
def Hz:=@PySem.wpAny_setField
def HA:=@PySem.wpAny_standAt
def HB:=@PySem.codeAny_mono
def JV:=@PySem.wpAny_setEntries_of
def Gi:=@PySem.putSet_of
def JW:=@PySem.wpAny_updateSeq
def nL:=@List.getElem?_eq_getElem
def sS:=@List.getElem?_eq_some_iff
def hB:=@length_map
def sU:=@PySem.Heap.get?_push_of_some
def sT:=@List.mem_cons_self
def Ac:=@List.getElem?_set_ne
def hF:=@Nat.le_refl
def Ah:=@List.mem_cons_of_mem
def Ad:=@PySem.Heap.get?_push_size
def kN:=@PySem.Heap.lt_size
def AU:=@Classical.byContradiction
def oT:=@Nat.le_trans
def Aq:=@mem_singleton
def Ax:=@Nat.lt_of_lt_of_le
def Ar:=@List.getElem?_map
def Ap:=@Option.some.inj
def AV:=@List.mem_of_getElem?
def Bf:=@Option.map_eq_some_iff
def Au:=@mem_append
def Aj:=@mem_cons
def Bg:=@Array.getElem?_toList
def AO:=@List.length_append
def sY:=@zero_le
def Bo:=@List.getElem?_set_self
def BG:=@Array.getElem?_eq_getElem
def BM:=@List.getElem?_append_left
def An:=@Nat.ne_of_lt
def BH:=@List.mem_append_right
def iA:=@Ne.symm
def DM:=@List.eq_nil_of_length_eq_zero
def BX:=@Array.length_toList
def BY:=@List.getElem_of_mem
def Dq:=@List.getD_eq_getElem?_getD
def Bp:=@List.map_append
def CC:=@List.take_of_length_le
def AQ:=@Nat.le_of_lt
def DN:=@List.getElem?_append_right
def Bm:=@map_cons
def Bc:=@List.mem_map
def Eg:=@List.nodup_iff_pairwise_ne
def CW:=@List.mem_of_mem_take
def Dr:=@List.getElem?_toArray
def EH:=@PyProof.Rows.callWith_type1
def DP:=@PySem.Heap.get?_update_other
def Bq:=@Nat.zero_add
def DQ:=@PySem.Heap.get?_update_self
def EI:=@List.getElem?_eq_none_iff
def DR:=@PySem.Around.under_plainId
def CY:=@size_toArray
def Gj:=@PyProof.Rows.slot_tuple_getitem
def EJ:=@List.getElem?_cons_succ
def CD:=@List.nodup_cons
def Cr:=@List.mem_range
def BN:=@Nat.lt_trans
def Cb:=@Nat.lt_irrefl
def DU:=@Nat.lt_of_le_of_lt
def Ds:=@List.all_eq_true
def DV:=@Nat.le_of_lt_succ
def Fv:=@PySem.F.plainAttrs_list
def Gk:=@Array.getElem?_eq_some_iff
def Eh:=@List.pairwise_cons
def Du:=@PySem.W.kia_one
def Dw:=@List.append_nil
def Dx:=@List.length_set
def DW:=@List.getElem_mem
def EK:=@PySem.Heap.SameBut.update
def Fw:=@List.mem_append_left
def CF:=@Nat.ne_of_gt
def Ei:=@List.length_take
def Ej:=@Bool.and_eq_true
def Ek:=@length_cons
def Em:=@Nat.le_of_not_lt
def EL:=@Array.toList_push
def Gn:=@PySem.F.slot_int_rmul
def Fx:=@Bool.false_ne_true
def EM:=@List.length_drop
def JX:=@PyProof.Rows.F.plain_set_update_loop
def Fy:=@List.ext_getElem?
def HC:=@PySem.F.slot_tuple_mul
def IP:=@PySem.F.slot_tuple_iterator_next
def FA:=@Bool.eq_iff_iff
def FC:=@Nat.not_lt_zero
def HD:=@PySem.mem_of_lookup
def HE:=@PySem.F.plain_extend_loop
def HF:=@Nat.lt_succ_self
def FD:=@PySem.Heap.size_push
def IQ:=@Array.getElem?_eq_none
def HG:=@Int.emod_lt_of_pos
def EN:=@Nat.mul_comm
def EO:=@Nat.pow_succ
def Gp:=@PySem.PassesOwn.never
def HH:=@List.take_add_one
def HI:=@List.length_nil
def ER:=@Nat.not_lt
namespace PySem
section
open W
noncomputable def RG(s:Stmt)(i:Nat):Stmt:=match s with
 |.ClassDef _ _ _ b _ _ _ _ _ _ _=>b.getD i (.Pass ⟨0,0,0,0⟩)
 |_=>.Pass ⟨0,0,0,0⟩
noncomputable def Ae(i:Nat):Stmt:=PySem.Challenge.pw_mostrows_k53_houses_thinned.main.body.getD i (.Pass ⟨0,0,0,0⟩)
noncomputable def kG(x q:Str)(s:Stmt)(m:Value)(c:Addr):FuncData:=match s with
 |.FunctionDef _ a b _ _ _ e _ _ _=>fnOf x q a b e .none .none .none m none (.ref c) .none
 |_=>default
def dP0:DefRec:=match Ae 54 with
 |.FunctionDef n a b _ _ _ e _ _ p=>⟨n,a,b,e,p⟩
 |_=>⟨"",default,[],default,default⟩
noncomputable def kE(P:Params)(x:Str)(t:Tok)(v:Value):DictEntry:=⟨PyData.keyHash P x,.str x t,v⟩
noncomputable def kT(l:List Value):Obj:=⟨.type "tuple",none,.seq l.toArray 0,#[]⟩
noncomputable def kF(f:FuncData):Obj:=⟨.type "function",none,.func f,#[]⟩
def RH:=kG "__init__" "NoEars.__init__" (RG (Ae 2) 0) (.str "mostrows.errors" 187) 40
def cW9:=kG "names_of" "names_of" (Ae 4) (.str "mostrows.questions" 230) 50
def cX0:=kG "columns_of" "columns_of" (Ae 5) (.str "mostrows.questions" 230) 55
def RJ:=kG "all_parts" "all_parts" (Ae 7) (.str "mostrows.parts" 244) 60
def En:Value:=.str "mostrows.rings" 252
def RK:=kG "sets_in" "sets_in" (Ae 10) En 65
def RL:=kG "lies_within" "lies_within" (Ae 11) En 70
def RM:=kG "widest_sets" "widest_sets" (Ae 12) En 75
def RN:=kG "neighbours" "neighbours" (Ae 13) En 80
def RP:=kG "all_but_one" "all_but_one" (Ae 14) En 85
def RQ:=kG "is_ring" "is_ring" (Ae 15) En 92
def RR:=kG "stand_together" "stand_together" (Ae 16) En 97
def RU:=kG "walked" "walked" (Ae 17) En 102
def RV:=kG "ring_of" "ring_of" (Ae 18) En 109
def FE:Value:=.str "mostrows.ears" 316
def bV2:=kG "without" "without" (Ae 20) FE 114
def bV3:=kG "has_all" "has_all" (Ae 21) FE 119
def bV4:=kG "holders_of" "holders_of" (Ae 22) FE 124
def bV5:=kG "ears_in" "ears_in" (Ae 23) FE 129
def bV6:=kG "taken_off" "taken_off" (Ae 24) FE 136
def bV7:=kG "ears" "ears" (Ae 25) FE 143
def bV8:=kG "list_of_ears" "list_of_ears" (Ae 26) FE 150
def HJ:Value:=.str "mostrows.tables" 368
def bV9:=kG "places_of" "places_of" (Ae 28) HJ 155
def bW0:=kG "picked" "picked" (Ae 29) HJ 160
def bW1:=kG "common_columns" "common_columns" (Ae 30) HJ 165
def bW2:=kG "grouped" "grouped" (Ae 31) HJ 172
def bW3:=kG "thinned_by" "thinned_by" (Ae 32) HJ 177
def bW4:=kG "tables_of" "tables_of" (Ae 34) (.str "mostrows.houses" 407) 182
def bW5:=kG "named_tables" "named_tables" (Ae 35) (.str "mostrows.houses" 407) 189
def bW6:=kG "thinned" "thinned" (Ae 37) (.str "mostrows.thinning" 423) 194
def mN:Value:=.str "law_mostrows_k53_houses_thinned" 431
def bW7:=kG "_law_box" "_law_box" (Ae 39) mN 201
def bW8:=kG "_law_take" "_law_take" (Ae 40) mN 208
def bW9:=kG "_law_order" "_law_order" (Ae 41) mN 215
def bX0:=kG "_law_names" "_law_names" (Ae 42) mN 220
def bX1:=kG "_law_some_columns" "_law_some_columns" (Ae 43) mN 227
def RW:=kG "_law_any_tables" "_law_any_tables" (Ae 44) mN 234
def bX2:=kG "_law_ear_tables" "_law_ear_tables" (Ae 45) mN 241
def RY:=kG "_law_ring_tables" "_law_ring_tables" (Ae 46) mN 246
def bX3:=kG "_law_question" "_law_question" (Ae 47) mN 253
def bX4:=kG "_law_columns" "_law_columns" (Ae 48) mN 258
def bX5:=kG "_law_value" "_law_value" (Ae 49) mN 265
def bX6:=kG "_law_house" "_law_house" (Ae 50) mN 270
def bX7:=kG "_law_answers" "_law_answers" (Ae 51) mN 275
def bX8:=kG "_law_cut_row" "_law_cut_row" (Ae 52) mN 280
def bX9:=kG "_law_due" "_law_due" (Ae 53) mN 285
def zD:=kG "law" "law" (Ae 54) mN 292
noncomputable def kC(x:Str)(a:Tok)(q:Str)(b c:Tok)(d e f:Int)(g:Addr)(h:Int)(i j k l:Addr)(m n:Int)(o:Tok):Obj:=⟨.type "code",none,.fields #[.str x a,.str q b,.str "/claim/cut.py" c,.int d 0,.int e 0,.int 0 0,.int 0 0,.int f 0,.ref g,.bool true,.int h 0,.ref i,.none,.ref j,.ref k,.ref l,.int m 0,.int n 0,.str "/claim/cut.py" o],#[]⟩
noncomputable def KF(P:Params):W.Frag:=[
(2,⟨.none,none,(.dict #[] 0),#[]⟩),
(3,⟨(.type "dict"),none,(.dict #[kE P "__name__" 165 (.str "law_mostrows_k53_houses_thinned" 431),kE P "__doc__" 166 .none,kE P "__package__" 167 .none,kE P "__loader__" 168 (.builtin "__main__.__loader__#opaque"),kE P "__spec__" 169 .none,kE P "__annotations__" 170 (.ref 6),kE P "__builtins__" 171 (.ref 4),kE P "__file__" 173 (.str "/claim/cut.py" 172),kE P "__cached__" 174 .none,kE P "RowsError" 206 (.ref 24),kE P "NoEars" 229 (.ref 44),kE P "names_of" 237 (.ref 51),kE P "columns_of" 243 (.ref 56),kE P "all_parts" 251 (.ref 61),kE P "FEWEST" 255 (.int 3 254),kE P "sets_in" 261 (.ref 66),kE P "lies_within" 267 (.ref 71),kE P "widest_sets" 273 (.ref 76),kE P "neighbours" 279 (.ref 81),kE P "all_but_one" 285 (.ref 86),kE P "is_ring" 294 (.ref 93),kE P "stand_together" 300 (.ref 98),kE P "walked" 306 (.ref 103),kE P "ring_of" 315 (.ref 110),kE P "without" 323 (.ref 115),kE P "has_all" 329 (.ref 120),kE P "holders_of" 335 (.ref 125),kE P "ears_in" 341 (.ref 130),kE P "taken_off" 351 (.ref 137),kE P "ears" 359 (.ref 144),kE P "list_of_ears" 367 (.ref 151),kE P "places_of" 375 (.ref 156),kE P "picked" 381 (.ref 161),kE P "common_columns" 387 (.ref 166),kE P "grouped" 400 (.ref 173),kE P "thinned_by" 406 (.ref 178),kE P "tables_of" 414 (.ref 183),kE P "named_tables" 422 (.ref 190),kE P "thinned" 430 (.ref 195),kE P "_law_box" 442 (.ref 202),kE P "_law_take" 452 (.ref 209),kE P "_law_order" 462 (.ref 216),kE P "_law_names" 468 (.ref 221),kE P "_law_some_columns" 477 (.ref 228),kE P "_law_any_tables" 488 (.ref 235),kE P "_law_ear_tables" 502 (.ref 242),kE P "_law_ring_tables" 508 (.ref 247),kE P "_law_question" 520 (.ref 254),kE P "_law_columns" 526 (.ref 259),kE P "_law_value" 535 (.ref 266),kE P "_law_house" 541 (.ref 271),kE P "_law_answers" 547 (.ref 276),kE P "_law_cut_row" 553 (.ref 281),kE P "_law_due" 559 (.ref 286),kE P "law" 572 (.ref 293)] 55),#[]⟩),
(15,kT [(.type "ValueError")]),
(22,kT []),
(23,⟨(.type "dict"),none,(.dict #[kE P "__module__" 196 (.str "mostrows.errors" 187),kE P "__firstlineno__" 200 (.int 2 199),kE P "__static_attributes__" 201 (.ref 22),kE P "__weakref__" 203 (.ref 25),kE P "__doc__" 204 .none] 3),#[]⟩),
(24,⟨(.type "type"),none,(.cls ⟨"RowsError",[(.type "ValueError")],[(.ref 24),(.type "ValueError"),(.type "Exception"),(.type "BaseException"),(.type "object")],23,"RowsError",true,[],[(.ref 44)],false,none,false⟩),#[(some (.ref 15)),none,(some (.str "RowsError" 189)),(some (.str "RowsError" 197)),(some (.builtin "ValueError.__new__")),(some (.bool true))]⟩),
(25,⟨(.type "getset_descriptor"),none,(.fields #[(.str "__weakref__" 202),(.ref 24),(.builtin "ExceptionGroup.__weakref__"),.none]),#[]⟩),
(28,kT [(.ref 24)]),
(35,kT []),
(37,kT [(.str "self" 222)]),
(38,kT []),
(40,kC "__init__" 219 "NoEars.__init__" 220 221 6 1 3 35 181 36 37 38 39 223 6 224),
(41,kF RH),
(42,kT []),
(43,⟨(.type "dict"),none,(.dict #[kE P "__module__" 214 (.str "mostrows.errors" 187),kE P "__firstlineno__" 218 (.int 4 217),kE P "__init__" 225 (.ref 41),kE P "__static_attributes__" 226 (.ref 42),kE P "__doc__" 227 .none] 2),#[]⟩),
(44,⟨(.type "type"),none,(.cls ⟨"NoEars",[(.ref 24)],[(.ref 44),(.ref 24),(.type "ValueError"),(.type "Exception"),(.type "BaseException"),(.type "object")],43,"NoEars",true,[],[],false,none,false⟩),#[(some (.ref 28)),none,(some (.str "NoEars" 207)),(some (.str "NoEars" 215)),(some (.builtin "ValueError.__new__")),(some (.bool true))]⟩),
(47,kT []),
(50,⟨(.type "code"),none,(.fields #[(.str "names_of" 232),(.str "names_of" 233),(.str "/claim/cut.py" 234),(.int 9 0),(.int 1 0),(.int 0 0),(.int 0 0),(.int 3 0),(.ref 47),(.bool true),(.int 181 0),(.ref 48),.none,.none,.none,(.ref 49),(.int 235 0),(.int 9 0),(.str "/claim/cut.py" 236)]),#[]⟩),
(51,kF cW9),
(52,kT []),
(55,⟨(.type "code"),none,(.fields #[(.str "columns_of" 238),(.str "columns_of" 239),(.str "/claim/cut.py" 240),(.int 11 0),(.int 1 0),(.int 0 0),(.int 0 0),(.int 3 0),(.ref 52),(.bool true),(.int 181 0),(.ref 53),.none,.none,.none,(.ref 54),(.int 241 0),(.int 11 0),(.str "/claim/cut.py" 242)]),#[]⟩),
(56,kF cX0),
(57,kT []),
(60,⟨(.type "code"),none,(.fields #[(.str "all_parts" 246),(.str "all_parts" 247),(.str "/claim/cut.py" 248),(.int 17 0),(.int 1 0),(.int 0 0),(.int 0 0),(.int 3 0),(.ref 57),(.bool true),(.int 181 0),(.ref 58),.none,.none,.none,(.ref 59),(.int 249 0),(.int 17 0),(.str "/claim/cut.py" 250)]),#[]⟩),
(61,kF RJ),
(62,kT []),
(65,⟨(.type "code"),none,(.fields #[(.str "sets_in" 256),(.str "sets_in" 257),(.str "/claim/cut.py" 258),(.int 24 0),(.int 2 0),(.int 0 0),(.int 0 0),(.int 3 0),(.ref 62),(.bool true),(.int 181 0),(.ref 63),.none,.none,.none,(.ref 64),(.int 259 0),(.int 24 0),(.str "/claim/cut.py" 260)]),#[]⟩),
(66,kF RK),
(67,kT []),
(70,⟨(.type "code"),none,(.fields #[(.str "lies_within" 262),(.str "lies_within" 263),(.str "/claim/cut.py" 264),(.int 31 0),(.int 2 0),(.int 0 0),(.int 0 0),(.int 3 0),(.ref 67),(.bool true),(.int 181 0),(.ref 68),.none,.none,.none,(.ref 69),(.int 265 0),(.int 31 0),(.str "/claim/cut.py" 266)]),#[]⟩),
(71,kF RL),
(72,kT []),
(75,⟨(.type "code"),none,(.fields #[(.str "widest_sets" 268),(.str "widest_sets" 269),(.str "/claim/cut.py" 270),(.int 33 0),(.int 2 0),(.int 0 0),(.int 0 0),(.int 3 0),(.ref 72),(.bool true),(.int 181 0),(.ref 73),.none,.none,.none,(.ref 74),(.int 271 0),(.int 33 0),(.str "/claim/cut.py" 272)]),#[]⟩),
(76,kF RM),
(77,kT []),
(80,⟨(.type "code"),none,(.fields #[(.str "neighbours" 274),(.str "neighbours" 275),(.str "/claim/cut.py" 276),(.int 36 0),(.int 1 0),(.int 0 0),(.int 0 0),(.int 3 0),(.ref 77),(.bool true),(.int 181 0),(.ref 78),.none,.none,.none,(.ref 79),(.int 277 0),(.int 36 0),(.str "/claim/cut.py" 278)]),#[]⟩),
(81,kF RN),
(82,kT []),
(85,⟨(.type "code"),none,(.fields #[(.str "all_but_one" 280),(.str "all_but_one" 281),(.str "/claim/cut.py" 282),(.int 39 0),(.int 1 0),(.int 0 0),(.int 0 0),(.int 3 0),(.ref 82),(.bool true),(.int 181 0),(.ref 83),.none,.none,.none,(.ref 84),(.int 283 0),(.int 39 0),(.str "/claim/cut.py" 284)]),#[]⟩),
(86,kF RP),
(87,kT []),
(89,kT [(.str "question" 289),(.str "columns" 290),(.str "found" 291)]),
(90,kT []),
(92,kC "is_ring" 286 "is_ring" 287 288 41 2 3 87 181 88 89 90 91 292 41 293),
(93,kF RQ),
(94,kT []),
(97,⟨(.type "code"),none,(.fields #[(.str "stand_together" 295),(.str "stand_together" 296),(.str "/claim/cut.py" 297),(.int 46 0),(.int 3 0),(.int 0 0),(.int 0 0),(.int 3 0),(.ref 94),(.bool true),(.int 181 0),(.ref 95),.none,.none,.none,(.ref 96),(.int 298 0),(.int 46 0),(.str "/claim/cut.py" 299)]),#[]⟩),
(98,kF RR),
(99,kT []),
(102,⟨(.type "code"),none,(.fields #[(.str "walked" 301),(.str "walked" 302),(.str "/claim/cut.py" 303),(.int 48 0),(.int 2 0),(.int 0 0),(.int 0 0),(.int 3 0),(.ref 99),(.bool true),(.int 181 0),(.ref 100),.none,.none,.none,(.ref 101),(.int 304 0),(.int 48 0),(.str "/claim/cut.py" 305)]),#[]⟩),
(103,kF RU),
(104,kT []),
(106,kT [(.str "question" 310),(.str "columns" 311),(.str "way" 312)]),
(107,kT []),
(109,kC "ring_of" 307 "ring_of" 308 309 54 1 3 104 181 105 106 107 108 313 54 314),
(110,kF RV),
(111,kT []),
(114,⟨(.type "code"),none,(.fields #[(.str "without" 318),(.str "without" 319),(.str "/claim/cut.py" 320),(.int 61 0),(.int 2 0),(.int 0 0),(.int 0 0),(.int 3 0),(.ref 111),(.bool true),(.int 181 0),(.ref 112),.none,.none,.none,(.ref 113),(.int 321 0),(.int 61 0),(.str "/claim/cut.py" 322)]),#[]⟩),
(115,kF bV2),
(116,kT []),
(119,⟨(.type "code"),none,(.fields #[(.str "has_all" 324),(.str "has_all" 325),(.str "/claim/cut.py" 326),(.int 63 0),(.int 2 0),(.int 0 0),(.int 0 0),(.int 3 0),(.ref 116),(.bool true),(.int 181 0),(.ref 117),.none,.none,.none,(.ref 118),(.int 327 0),(.int 63 0),(.str "/claim/cut.py" 328)]),#[]⟩),
(120,kF bV3),
(121,kT []),
(124,⟨(.type "code"),none,(.fields #[(.str "holders_of" 330),(.str "holders_of" 331),(.str "/claim/cut.py" 332),(.int 65 0),(.int 3 0),(.int 0 0),(.int 0 0),(.int 3 0),(.ref 121),(.bool true),(.int 181 0),(.ref 122),.none,.none,.none,(.ref 123),(.int 333 0),(.int 65 0),(.str "/claim/cut.py" 334)]),#[]⟩),
(125,kF bV4),
(126,kT []),
(129,⟨(.type "code"),none,(.fields #[(.str "ears_in" 336),(.str "ears_in" 337),(.str "/claim/cut.py" 338),(.int 71 0),(.int 1 0),(.int 0 0),(.int 0 0),(.int 3 0),(.ref 126),(.bool true),(.int 181 0),(.ref 127),.none,.none,.none,(.ref 128),(.int 339 0),(.int 71 0),(.str "/claim/cut.py" 340)]),#[]⟩),
(130,kF bV5),
(131,kT []),
(133,kT [(.str "question" 345),(.str "left" 346),(.str "taken" 347),(.str "found" 348)]),
(134,kT []),
(136,kC "taken_off" 342 "taken_off" 343 344 76 1 3 131 181 132 133 134 135 349 76 350),
(137,kF bV6),
(138,kT []),
(140,kT [(.str "question" 355),(.str "taken" 356)]),
(141,kT []),
(143,kC "ears" 352 "ears" 353 354 85 1 3 138 181 139 140 141 142 357 85 358),
(144,kF bV7),
(145,kT []),
(147,kT [(.str "question" 363),(.str "told" 364)]),
(148,kT []),
(150,kC "list_of_ears" 360 "list_of_ears" 361 362 90 1 3 145 181 146 147 148 149 365 90 366),
(151,kF bV8),
(152,kT []),
(155,⟨(.type "code"),none,(.fields #[(.str "places_of" 370),(.str "places_of" 371),(.str "/claim/cut.py" 372),(.int 96 0),(.int 2 0),(.int 0 0),(.int 0 0),(.int 3 0),(.ref 152),(.bool true),(.int 181 0),(.ref 153),.none,.none,.none,(.ref 154),(.int 373 0),(.int 96 0),(.str "/claim/cut.py" 374)]),#[]⟩),
(156,kF bV9),
(157,kT []),
(160,⟨(.type "code"),none,(.fields #[(.str "picked" 376),(.str "picked" 377),(.str "/claim/cut.py" 378),(.int 98 0),(.int 2 0),(.int 0 0),(.int 0 0),(.int 3 0),(.ref 157),(.bool true),(.int 181 0),(.ref 158),.none,.none,.none,(.ref 159),(.int 379 0),(.int 98 0),(.str "/claim/cut.py" 380)]),#[]⟩),
(161,kF bW0),
(162,kT []),
(165,⟨(.type "code"),none,(.fields #[(.str "common_columns" 382),(.str "common_columns" 383),(.str "/claim/cut.py" 384),(.int 100 0),(.int 2 0),(.int 0 0),(.int 0 0),(.int 3 0),(.ref 162),(.bool true),(.int 181 0),(.ref 163),.none,.none,.none,(.ref 164),(.int 385 0),(.int 100 0),(.str "/claim/cut.py" 386)]),#[]⟩),
(166,kF bW1),
(167,kT []),
(169,kT [(.str "table" 391),(.str "columns" 392),(.str "others" 393),(.str "places" 394),(.str "other_places" 395),(.str "groups" 396),(.str "row" 397)]),
(170,kT []),
(172,kC "grouped" 388 "grouped" 389 390 102 3 3 167 181 168 169 170 171 398 102 399),
(173,kF bW2),
(174,kT []),
(177,⟨(.type "code"),none,(.fields #[(.str "thinned_by" 401),(.str "thinned_by" 402),(.str "/claim/cut.py" 403),(.int 109 0),(.int 2 0),(.int 0 0),(.int 0 0),(.int 3 0),(.ref 174),(.bool true),(.int 181 0),(.ref 175),.none,.none,.none,(.ref 176),(.int 404 0),(.int 109 0),(.str "/claim/cut.py" 405)]),#[]⟩),
(178,kF bW3),
(179,kT []),
(182,⟨(.type "code"),none,(.fields #[(.str "tables_of" 409),(.str "tables_of" 410),(.str "/claim/cut.py" 411),(.int 115 0),(.int 2 0),(.int 0 0),(.int 0 0),(.int 3 0),(.ref 179),(.bool true),(.int 181 0),(.ref 180),.none,.none,.none,(.ref 181),(.int 412 0),(.int 115 0),(.str "/claim/cut.py" 413)]),#[]⟩),
(183,kF bW4),
(184,kT []),
(186,kT [(.str "question" 418),(.str "house" 419)]),
(187,kT []),
(189,kC "named_tables" 415 "named_tables" 416 417 117 2 3 184 181 185 186 187 188 420 117 421),
(190,kF bW5),
(191,kT []),
(194,⟨(.type "code"),none,(.fields #[(.str "thinned" 425),(.str "thinned" 426),(.str "/claim/cut.py" 427),(.int 120 0),(.int 2 0),(.int 0 0),(.int 0 0),(.int 3 0),(.ref 191),(.bool true),(.int 181 0),(.ref 192),.none,.none,.none,(.ref 193),(.int 428 0),(.int 120 0),(.str "/claim/cut.py" 429)]),#[]⟩),
(195,kF bW6),
(196,kT []),
(198,kT [(.str "_law_script" 436),(.str "_law_k" 437),(.str "_law_cell" 438),(.str "_law_seed" 439)]),
(199,kT []),
(201,kC "_law_box" 433 "_law_box" 434 435 129 2 3 196 181 197 198 199 200 440 129 441),
(202,kF bW7),
(203,kT []),
(205,kT [(.str "_law_box_here" 446),(.str "_law_many" 447),(.str "_law_digit" 448),(.str "_law_one" 449)]),
(206,kT []),
(208,kC "_law_take" 443 "_law_take" 444 445 137 2 3 203 181 204 205 206 207 450 137 451),
(209,kF bW8),
(210,kT []),
(212,kT [(.str "_law_box_here" 456),(.str "_law_things" 457),(.str "_law_left" 458),(.str "_law_found" 459)]),
(213,kT []),
(215,kC "_law_order" 453 "_law_order" 454 455 145 2 3 210 181 211 212 213 214 460 145 461),
(216,kF bW9),
(217,kT []),
(220,⟨(.type "code"),none,(.fields #[(.str "_law_names" 463),(.str "_law_names" 464),(.str "/claim/cut.py" 465),(.int 151 0),(.int 2 0),(.int 0 0),(.int 0 0),(.int 3 0),(.ref 217),(.bool true),(.int 181 0),(.ref 218),.none,.none,.none,(.ref 219),(.int 466 0),(.int 151 0),(.str "/claim/cut.py" 467)]),#[]⟩),
(221,kF bX0),
(222,kT []),
(224,kT [(.str "_law_box_here" 472),(.str "_law_names_here" 473),(.str "_law_many" 474)]),
(225,kT []),
(227,kC "_law_some_columns" 469 "_law_some_columns" 470 471 171 3 3 222 181 223 224 225 226 475 171 476),
(228,kF bX1),
(229,kT []),
(231,kT [(.str "_law_box_here" 481),(.str "_law_names_here" 482),(.str "_law_pool" 483),(.str "_law_found" 484),(.str "_law_k" 485)]),
(232,kT []),
(234,kC "_law_any_tables" 478 "_law_any_tables" 479 480 173 2 3 229 181 230 231 232 233 486 173 487),
(235,kF RW),
(236,kT []),
(238,kT [(.str "_law_box_here" 492),(.str "_law_names_here" 493),(.str "_law_left" 494),(.str "_law_found" 495),(.str "_law_k" 496),(.str "_law_own" 497),(.str "_law_one" 498),(.str "_law_j" 499)]),
(239,kT []),
(241,kC "_law_ear_tables" 489 "_law_ear_tables" 490 491 179 2 3 236 181 237 238 239 240 500 179 501),
(242,kF bX2),
(243,kT []),
(246,⟨(.type "code"),none,(.fields #[(.str "_law_ring_tables" 503),(.str "_law_ring_tables" 504),(.str "/claim/cut.py" 505),(.int 196 0),(.int 2 0),(.int 0 0),(.int 0 0),(.int 3 0),(.ref 243),(.bool true),(.int 181 0),(.ref 244),.none,.none,.none,(.ref 245),(.int 506 0),(.int 196 0),(.str "/claim/cut.py" 507)]),#[]⟩),
(247,kF RY),
(248,kT []),
(250,kT [(.str "_law_box_here" 512),(.str "_law_kind" 513),(.str "_law_columns_here" 514),(.str "_law_tables" 515),(.str "_law_way" 516),(.str "_law_sets" 517)]),
(251,kT []),
(253,kC "_law_question" 509 "_law_question" 510 511 209 2 3 248 181 249 250 251 252 518 209 519),
(254,kF bX3),
(255,kT []),
(258,⟨(.type "code"),none,(.fields #[(.str "_law_columns" 521),(.str "_law_columns" 522),(.str "/claim/cut.py" 523),(.int 223 0),(.int 1 0),(.int 0 0),(.int 0 0),(.int 3 0),(.ref 255),(.bool true),(.int 181 0),(.ref 256),.none,.none,.none,(.ref 257),(.int 524 0),(.int 223 0),(.str "/claim/cut.py" 525)]),#[]⟩),
(259,kF bX4),
(260,kT []),
(262,kT [(.str "_law_box_here" 530),(.str "_law_span" 531),(.str "_law_value_here" 532)]),
(263,kT []),
(265,kC "_law_value" 527 "_law_value" 528 529 228 2 3 260 181 261 262 263 264 533 228 534),
(266,kF bX5),
(267,kT []),
(270,⟨(.type "code"),none,(.fields #[(.str "_law_house" 536),(.str "_law_house" 537),(.str "/claim/cut.py" 538),(.int 233 0),(.int 3 0),(.int 0 0),(.int 0 0),(.int 3 0),(.ref 267),(.bool true),(.int 181 0),(.ref 268),.none,.none,.none,(.ref 269),(.int 539 0),(.int 233 0),(.str "/claim/cut.py" 540)]),#[]⟩),
(271,kF bX6),
(272,kT []),
(275,⟨(.type "code"),none,(.fields #[(.str "_law_answers" 542),(.str "_law_answers" 543),(.str "/claim/cut.py" 544),(.int 256 0),(.int 2 0),(.int 0 0),(.int 0 0),(.int 3 0),(.ref 272),(.bool true),(.int 181 0),(.ref 273),.none,.none,.none,(.ref 274),(.int 545 0),(.int 256 0),(.str "/claim/cut.py" 546)]),#[]⟩),
(276,kF bX7),
(277,kT []),
(280,⟨(.type "code"),none,(.fields #[(.str "_law_cut_row" 548),(.str "_law_cut_row" 549),(.str "/claim/cut.py" 550),(.int 269 0),(.int 3 0),(.int 0 0),(.int 0 0),(.int 3 0),(.ref 277),(.bool true),(.int 181 0),(.ref 278),.none,.none,.none,(.ref 279),(.int 551 0),(.int 269 0),(.str "/claim/cut.py" 552)]),#[]⟩),
(281,kF bX8),
(282,kT []),
(285,⟨(.type "code"),none,(.fields #[(.str "_law_due" 554),(.str "_law_due" 555),(.str "/claim/cut.py" 556),(.int 272 0),(.int 2 0),(.int 0 0),(.int 0 0),(.int 3 0),(.ref 282),(.bool true),(.int 181 0),(.ref 283),.none,.none,.none,(.ref 284),(.int 557 0),(.int 272 0),(.str "/claim/cut.py" 558)]),#[]⟩),
(286,kF bX9),
(287,kT []),
(289,kT [(.str "_law_script" 563),(.str "_law_asked" 564),(.str "_law_k" 565),(.str "_law_question_here" 566),(.str "_law_house_here" 567),(.str "_law_due_here" 568),(.str "_law_found" 569)]),
(290,kT []),
(292,kC "law" 560 "law" 561 562 275 1 3 287 181 288 289 290 291 570 275 571),
(293,kF zD)]
noncomputable def Vw:Program:=view PySem.Challenge.pw_mostrows_k53_houses_thinned [1,2,4,5,7,9,10,11,12,13,14,15,16,17,18,20,21,22,23,24,25,26,28,29,30,31,32,34,35,37,39,40,41,42,43,44,45,46,47,48,49,50,51,52,53,54]
def RZ:PySem.Challenge.rw_mostrows_k53_houses_thinned.wellSaid=true:=by kernel_rfl
def Sa:LeftO PySem.Challenge.rw_mostrows_k53_houses_thinned.row.prog Vw [] (λs=>xlAt Vw [] s&&recOk (RowW.records PySem.Challenge.rw_mostrows_k53_houses_thinned.row.toRowW) s) (λs=>[2,3,15,22,23,24,25,28,35,37,38,40,41,42,43,44,47,50,51,52,55,56,57,60,61,62,65,66,67,70,71,72,75,76,77,80,81,82,85,86,87,89,90,92,93,94,97,98,99,102,103,104,106,107,109,110,111,114,115,116,119,120,121,124,125,126,129,130,131,133,134,136,137,138,140,141,143,144,145,147,148,150,151,152,155,156,157,160,161,162,165,166,167,169,170,172,173,174,177,178,179,182,183,184,186,187,189,190,191,194,195,196,198,199,201,202,203,205,206,208,209,210,212,213,215,216,217,220,221,222,224,225,227,228,229,231,232,234,235,236,238,239,241,242,243,246,247,248,250,251,253,254,255,258,259,260,262,263,265,266,267,270,271,272,275,276,277,280,281,282,285,286,287,289,290,292,293].map s.heap.get?) (λw=>(KF w.params).map λp=>some p.2) 3598:=λw=>by kernel_rfl
def dZ1(h:WalkO Vw [] (XL Vw []) (InK KF) PySem.Challenge.rw_mostrows_k53_houses_thinned.row.toRowW dP0 [] (λf vs=>PySem.call f vs)):PySem.Challenge.rw_mostrows_k53_houses_thinned.Holds:=
 holds_law RZ λe=>holds_open (d:=dP0) (kwd:=[]) Sa (InK.of λ_=>by kernel_rfl) InK.keeps (λs e=>xl_of s (Bool.and_eq_true_iff.mp e).1) XL.keeps (by kernel_rfl) (by kernel_rfl) (by kernel_rfl) (λs e=>recFacts_of (Bool.and_eq_true_iff.mp e).2) (by kernel_rfl) e (by kernel_rfl) ⟨rfl,rfl,rfl,rfl,rfl,by decide +kernel⟩ (by w_witness2) h
end
section
open PyProof.Rows Spec
abbrev Key:=Sum Int Str
noncomputable def Gq:Key->Value->Bool
 |.inl k,v=>Value.isInt k v
 |.inr x,v=>Value.isStrOf x v
noncomputable def Sb(w:World):Key->Int
 |.inl k=>hashInt k
 |.inr x=>hashStr w x
def bU:∀{k:Key} {v:Value},Gq k v=true->(∃i t,k=Sum.inl i/\v=Value.int i t)\/(∃x t,k=Sum.inr x/\v=Value.str x t)
 | .inl i,v,h=>by
   obtain⟨t,e⟩:=isInt_shape (k:=i) (v:=v) h;exact .inl ⟨i,t,rfl,e⟩
 | .inr x,v,h=>by
   obtain⟨t,e⟩:=Value.isStrOf_shape (x:=x) (v:=v) h;exact .inr ⟨x,t,rfl,e⟩
def Sd(i:Int)(t:Tok):Gq (.inl i) (.int i t)=true:=by simp[Gq,Value.isInt]
def Se(x:Str)(t:Tok):Gq (.inr x) (.str x t)=true:=by simp[Gq,Value.isStrOf]
def Sf(a b:Int):decide ((Sum.inl a:Key)=Sum.inl b)=(a==b):=by lia
def Sh(a b:Str):decide ((Sum.inr a:Key)=Sum.inr b)=decide (a=b):=by simp
def Si(a:Int)(b:Str):decide ((Sum.inl a:Key)=Sum.inr b)=false:=Ft (λq=>nomatch q)
def Sj(a:Str)(b:Int):decide ((Sum.inr a:Key)=Sum.inl b)=false:=Ft (λq=>nomatch q)
def bA(prog:Program)(w:World):PySem.KeyKind prog w Key where
 is:=Gq
 hash:=Sb w
 inj:=λv a b ha hb=>by
  rcases bU ha with⟨i,t,rfl,rfl⟩|⟨x,t,rfl,rfl⟩
  ·rcases bU hb with⟨j,u,rfl,e⟩|⟨y,u,rfl,e⟩
   ·injection e with c _;rw[c]
   ·exact nomatch e
  ·rcases bU hb with⟨j,u,rfl,e⟩|⟨y,u,rfl,e⟩;exact nomatch e;injection e with c _;rw[c]
 byValue:=λk v h=>by
  rcases bU h with⟨i,t,rfl,rfl⟩|⟨x,t,rfl,rfl⟩<;>rfl
 pyHash:=λd h=>by
  rcases bU d with⟨i,t,rfl,rfl⟩|⟨x,t,rfl,rfl⟩;exact wpAny_pyHash_int h;exact wpAny_pyHash_str h
 eqBool:=λf d h=>by
  rcases bU f with⟨i,t,rfl,rfl⟩|⟨x,t,rfl,rfl⟩;rcases bU d with⟨j,u,rfl,rfl⟩|⟨y,u,rfl,rfl⟩;rw[Sf]at h;exact wpAny_eqBool_int h;rw[Si]at h;exact SeqAt.EqAt.int_str i t y u _ _ _ _ h;rcases bU d with⟨j,u,rfl,rfl⟩|⟨y,u,rfl,rfl⟩;rw[Sj]at h;exact SeqAt.EqAt.str_int x t j u _ _ _ _ h;rw[Sh]at h;exact wpAny_eqBool_str h
 «strs»:=λk x t v h=>by
  rcases bU h with⟨i,u,rfl,e⟩|⟨y,u,rfl,e⟩;exact nomatch e;injection e with c _
  subst c;cases v<;>rfl
def wH(prog:Program)(w:World)(i:Int)(t:Tok):(bA prog w).is (.inl i) (.int i t)=true:=Sd i t
def wI(prog:Program)(w:World)(x:Str)(t:Tok):(bA prog w).is (.inr x) (.str x t)=true:=Se x t
inductive V where
 |non|bl (b:Bool)|int (i:Int)|str (x:Str)|byt (b:Array UInt8)|flt (b:UInt64)|ref (a:Addr)|ty (n:String)
 deriving DecidableEq
def cE:V->Value->Prop
 |.non,u=>u=Value.none
 |.bl b,u=>u=Value.bool b
 |.int i,u=>∃t,u=Value.int i t
 |.str x,u=>∃t,u=Value.str x t
 |.byt b,u=>∃t,u=Value.bytes b t
 |.flt b,u=>∃t,u=float b t
 |.ref a,u=>u=Value.ref a
 |.ty n,u=>u=type n
abbrev bJ:List V->List Value->Prop:=Paired cE
theorem bJ.length{xs:List V}{us:List Value}(r:bJ xs us):xs.length=us.length:=Paired.length r
def bJ.get{i:Nat}(r:bJ xs us)(e:xs[i]?=some x):∃u,us[i]?=some u/\cE x u:=by
 induction r generalizing i with
 |nil=>cases e
 | cons r _ j=>
   cases i with
   |zero=>obtain rfl:=Ap e;exact⟨_,rfl,r⟩
   |succ i=>exact j e
theorem bJ.set(r:cE x u):∀{xs:List V} {us:List Value} (i:Nat),bJ xs us->bJ (xs.set i x) (us.set i u)
 |_,_,_,.nil=>.nil
 |_,_,0,.cons _ t=>.cons r t
 |_,_,i+1,.cons q t=>.cons q (bJ.set r i t)
def bJ.append(r:bJ xs us)(s:bJ ys ws):bJ (xs++ys) (us++ws):=by
 induction r with
 |nil=>exact s
 |cons r _ i=>exact .cons r i
theorem bJ.take:∀{xs:List V} {us:List Value} (n:Nat),bJ xs us->bJ (xs.take n) (us.take n)
 |_,_,0,_|_,_,_+1,.nil=>.nil
 |_,_,n+1,.cons r t=>.cons r (bJ.take n t)
theorem bJ.drop:∀{xs:List V} {us:List Value} (n:Nat),bJ xs us->bJ (xs.drop n) (us.drop n)
 |_,_,0,r=>r
 |_,_,_+1,.nil=>.nil
 |_,_,n+1,.cons _ t=>bJ.drop n t
def CG:Option V->Option Value->Prop
 |some v,some u=>cE v u
 |none,none=>True
 |_,_=>False
def KV:List (κ×V)->List (κ×Value)->Prop:=Paired λ(p:κ×V) (q:κ×Value)=>p.1=q.1/\cE p.2 q.2
noncomputable def kV:Key->V
 |.inl i=>.int i
 |.inr x=>.str x
inductive Tk where
 |s (x:Str)|p (a b:Tk)
deriving DecidableEq
noncomputable def JY(w:World):Tk->Int
 |.s x=>hashStr w x
 |.p a b=>reduceHash (Builtin.Tuple.tupleHashOf [JY w a,JY w b])
inductive HO where
 |lst (xs:List V)
 |tup (xs:List V)
 |dK (kvs:List (Key×V))|dT (kvs:List (List Key×V))|dM (kvs:List (Tk×V))
 |set (S:Int->Bool) (n:Nat)
 |ins (C dx:Addr) (fs:List (Str×V))
 |own (x:Addr)
 |xd (fs:List (Str×V))
 |met (f x:Addr)
 |rng (lo hi:Int)
 |frz (o:Obj) (u:HO)
 |tbl (ps:Array Value)
 |ext (φ:Heap->Prop)
abbrev Hp:=Addr->Option HO
noncomputable def gY(H:Hp)(a:Addr)(o:HO):Hp:=λb=>if b=a then some o else H b
def aJ:gY H a o a=some o:=by unfold gY;simp
def aG(h:b≠a):gY H a o b=H b:=by unfold gY;rw[gX h]
def LK{H:Hp}(h:H a=some o)(h':H b=some u)(d:o≠u):a≠b:=by lia
def bL{H:Hp}(h:H a=some o)(h':H b=none):a≠b:=by lia
def ES(H:Hp):Tk->V->Prop
 |.s x,v=>v=.str x
 |.p a b,v=>∃q x y,v=.ref q/\H q=some (.tup [x,y])/\ES H a x/\ES H b y
theorem ES.mono(a:∀b xs,H b=some (.tup xs)->H' b=some (.tup xs)):∀{k:Tk} {v:V},ES H k v->ES H' k v
 |.s _,_,h=>h
 |.p _ _,_,⟨q,x,y,e,c,d,f⟩=>⟨q,x,y,e,a _ _ c,ES.mono a d,ES.mono a f⟩
def LL(h:Heap)(a:Addr):Prop:=∃o,h.get? a=some o/\o.dict=none
section
variable (P:Program)(w:World)
def cH(H:Hp)(h:Heap)(a:Addr):HO->Prop
 |.lst xs=>xs.length<=sizeLine/\∃(its:List Value) (n:Nat),bJ xs its/\h.get? a=some {cls:=.type "list",data:=.seq its.toArray n}
 |.tup xs=>xs.length<=sizeLine/\∃its:List Value,bJ xs its/\IsTup h a its.toArray/\LL h a
 |.dK kvs=>kvs.length<=sizeLine/\(a==sysModules)=false/\∃vs,KV kvs vs/\h.DictOf (bA P w) a vs
 | .dT kvs=>kvs.length<=sizeLine/\(a==sysModules)=false/\∃ xs:List (List Key×Addr×Value),
   Paired (λ(p:List Key×V) (q:List Key×Addr×Value)=>p.1=q.1/\H q.2.1=some (.tup (p.1.map kV))/\cE p.2 q.2.2) kvs xs /\
   ∃o es ep,h.get? a=some o/\o.ExactDict/\o.data=.dict es ep/\es.toList=xs.map (entryOfKey (tupleKind (bA P w)))/\(xs.map (·.1)).Nodup
 | .dM kvs=>kvs.length<=sizeLine/\(a==sysModules)=false/\∃ xs:List (Tk×Value×Value),Paired (λ(p:Tk×V) (q:Tk×Value×Value)=>p.1=q.1/\(∃ y,ES H p.1 y/\cE y q.2.1)/\cE p.2 q.2.2) kvs xs /\
   ∃o es ep,h.get? a=some o/\o.ExactDict/\o.data=.dict es ep/\es.toList=xs.map (λx=>⟨JY w x.1,x.2.1,x.2.2⟩)/\(xs.map (·.1)).Nodup
 |.set S n=>h.SetOf (intKind P w) a S n
 | .ins C dx fs=>H dx=some (.own a)/\fs.length<=1000/\dx≠a/\h.get? a=some (W.instObj C dx) /\
   ∃mA,h.Ns1 dx mA/\(∀f,CG (fs.lookup f) (mA f))/\Within mA (fs.map (·.1))
 |.own _=>∃o,h.get? a=some o
 |.xd fs=>∃mA,h.Ns1 a mA/\∀f,CG (fs.lookup f) (mA f)
 |.rng lo hi=>∃t u v,h.get? a=some {cls:=.type "range",data:=.fields #[.int lo t,.int hi u,.int 1 v]}
 |.frz o u=>h.get? a=some o/\cH H h a u
 |.tbl ps=>h.get? a=some {cls:=.none,data:=.fields ps}
 |.met f x=>h.get? a=some (W.methodObj (.ref f) (.ref x))
 |.ext φ=>φ h/\(∃o,h.get? a=some o)/\∀b c:Heap,φ b->(∀o,b.get? a=some o->c.get? a=some o)->φ c
def AA(H:Hp)(h:Heap):Prop:=∀a o,H a=some o->cH P w H h a o
end
theorem cH.lt(x:cH P w H h a o):a<h.objs.size:=by
 cases o with
 |lst xs=>obtain⟨_,_,_,_,e⟩:=x;exact kN e
 |tup xs=>obtain⟨_,_,_,p,_⟩:=x;exact p.lt
 |dK kvs|dT kvs|dM kvs=>obtain⟨_,_,_,_,o,_,_,e,_⟩:=x;exact kN e
 |set S n=>obtain⟨o,_,_,_,e,_⟩:=x;exact kN e
 |ins C dx fs=>obtain⟨_,_,_,e,_⟩:=x;exact kN e
 |own y=>obtain⟨_,e⟩:=x;exact kN e
 |xd fs=>obtain⟨_,⟨_,_,_,e,_⟩,_⟩:=x;exact kN e
 |rng lo hi=>obtain⟨_,_,_,e⟩:=x;exact kN e
 |frz ob u=>obtain⟨e,_⟩:=x;exact kN e
 |tbl ps|met f y=>exact kN (show h.get? a=some _ from x)
 |ext φ=>obtain⟨_,⟨_,e⟩,_⟩:=x;exact kN e
def Paired.mapP{l₁:List c}{l₂:List d}(r:Paired F l₁ l₂)(f:∀a b,F a b->G a b):Paired G l₁ l₂:=by
 induction r with
 |nil=>exact .nil
 |cons r _ i=>exact .cons (f _ _ r) i
def cH.stay(x:cH P w H h a o)(k:∀ b u,(b=a\/H b=some (.own a))->h.get? b=some u->h'.get? b=some u)
  (l:∀b,H b=some (.own a)->H' b=some (.own a)) (j:∀b xs,H b=some (.tup xs)->H' b=some (.tup xs)):cH P w H' h' a o:=by
 induction o with
 |lst xs=>obtain⟨z,its,n,r,e⟩:=x;exact⟨z,its,n,r,k _ _ (.inl rfl) e⟩
 |tup xs=>obtain⟨z,its,r,⟨ob,e,c⟩,⟨g,i,m⟩⟩:=x;exact⟨z,its,r,⟨ob,k _ _ (.inl rfl) e,c⟩,⟨g,k _ _ (.inl rfl) i,m⟩⟩
 |dK kvs=>obtain⟨z,y,vs,r,ob,es,ep,e,c⟩:=x;exact⟨z,y,vs,r,ob,es,ep,k _ _ (.inl rfl) e,c⟩
 | dT kvs=>
   obtain⟨z,y,xs,r,ob,es,ep,e,c⟩:=x;exact⟨z,y,xs,Paired.mapP r λp q z=>⟨z.1,j _ _ z.2.1,z.2.2⟩,ob,es,ep,k _ _ (.inl rfl) e,c⟩
 | dM kvs=>
   obtain⟨z,y,xs,r,ob,es,ep,e,c⟩:=x;exact⟨z,y,xs,Paired.mapP r λp q z=>⟨z.1,let ⟨y,a,b⟩:=z.2.1;⟨y,a.mono j,b⟩,z.2.2⟩,ob,es,ep,k _ _ (.inl rfl) e,c⟩
 |set S n=>obtain⟨ob,es,ep,t,e,c⟩:=x;exact⟨ob,es,ep,t,k _ _ (.inl rfl) e,c⟩
 | ins C dx fs=>
   obtain⟨d,z,ne,e,mA,⟨od,es,ep,i,c⟩,r⟩:=x;exact⟨l _ d,z,ne,k _ _ (.inl rfl) e,mA,⟨od,es,ep,k _ _ (.inr d) i,c⟩,r⟩
 |own y=>obtain⟨ob,e⟩:=x;exact⟨ob,k _ _ (.inl rfl) e⟩
 |xd fs=>obtain⟨mA,⟨od,es,ep,e,c⟩,r⟩:=x;exact⟨mA,⟨od,es,ep,k _ _ (.inl rfl) e,c⟩,r⟩
 |rng lo hi=>obtain⟨t,u,v,e⟩:=x;exact⟨t,u,v,k _ _ (.inl rfl) e⟩
 |frz ob u s=>obtain⟨e,q⟩:=x;exact⟨k _ _ (.inl rfl) e,s q⟩
 | tbl ps=>
   have e:h.get? a=some {cls:=.none,data:=.fields ps}:=x;exact k a _ (.inl rfl) e
 | met f y=>
   have e:h.get? a=some (W.methodObj (.ref f) (.ref y)):=x;exact k a _ (.inl rfl) e
 |ext φ=>obtain⟨p,⟨o,e⟩,st⟩:=x;exact⟨st _ _ p λo q=>k _ _ (.inl rfl) q,⟨o,k _ _ (.inl rfl) e⟩,st⟩
theorem AA.lt(x:AA P w H h)(e:H a=some o):a<h.objs.size:=(x a o e).lt
theorem AA.fresh{a:Addr}(x:AA P w H h)(e:h.objs.size<=a):H a=none:=by
 cases q:H a with
 |none=>rfl
 |some u=>exact absurd (Ax (x.lt q) e) (Cb _)
def AA.kept(x:AA P w H h)(k:∀b u,h.get? b=some u->h'.get? b=some u):AA P w H h':=λa o e=>
 (x a o e).stay (λb u _ q=>k b u q) (λ_ q=>q) λ_ _ q=>q
def AA.laid{a:Addr}(x:AA P w H h)(k:∀b u,h.get? b=some u->h'.get? b=some u)(d:h.objs.size<=a)(f:cH P w (gY H a o) h' a o):AA P w (gY H a o) h':=λb u e=>by
 have hn:=x.fresh d;by_cases hb:b=a;subst hb;rw[aJ]at e;lia;rw[aG hb]at e;exact(x b u e).stay (λc v _ q=>k c v q) (λc q=>by rw[aG (bL q hn)];exact q) λc xs q=>by rw[aG (bL q hn)];exact q
def Rd(H:Hp)(a:Addr)(u:HO):Prop:=H a=some u\/∃o,H a=some (.frz o u)
theorem Rd.ok(r:Rd H a u)(x:AA P w H h):cH P w H h a u:=by
 rcases r with r|⟨o,r⟩;exact x a u r;obtain⟨_,q⟩:=x a _ r;exact q
def HL:Option HO->Prop
 |some (.lst _)|some (.dK _)|some (.dT _)|some (.dM _)|some (.set _ _)|some (.ins _ _ _)|some (.ext _)=>True
 |_=>False
def AA.write(ok:AA P w H h)(mu:HL (H x))(l:e=x\/H e=some (.own x))(k:∀ b u,b≠e->h.get? b=some u->h'.get? b=some u)(f:∃ u,h'.get? e=some u)
  (i:cH P w (gY H x o') h' x o'):AA P w (gY H x o') h':=λb u q=>by
 have a:∀c y,H c=some (.own y)->c≠x:=λc y r z=>by subst z;rw[r]at mu;exact mu
 have d:∀c xs,H c=some (.tup xs)->c≠x:=λc xs r z=>by subst z;rw[r]at mu;exact mu
 by_cases hb:b=x;subst hb;rw[aJ]at q;lia;rw[aG hb]at q;by_cases j:b=e
 ·have g:H b=some (.own x):=by lia
  rw[q]at g;cases g;obtain⟨v,m⟩:=f;exact⟨v,by simp_all⟩
 ·refine(ok b u q).stay (λc v hc r=>k c v ?_ r) (λc r=>by rw[aG (a c b r)];exact r) λc xs r=>by rw[aG (d c xs r)];exact r
  grind
structure Un(fs ex:List Addr)(H H':Hp)(h h':Heap):Prop where
 keep:∀b o,h.get? b=some o->H b=none->b∉fs->b∉ex->h'.get? b=some o
 slot:∀b o,h.get? b=some o->H b=none->b∈fs->b∉ex->∃sl,h'.get? b=some {o with slots:=sl}
 free:∀b o,h.get? b=some o->H b=none->b∉ex->H' b=none
 there:∀b o,h.get? b=some o->b∉ex->∃o',h'.get? b=some o'
 tups:∀b xs,H b=some (.tup xs)->H' b=some (.tup xs)
 frzs:∀b o u,H b=some (.frz o u)->H' b=some (.frz o u)
 tbls:∀b ps,H b=some (.tbl ps)->∃more,H' b=some (.tbl (ps++more))
def Un.any(u:Un fs ex H H1 h h1)(q:h.get? b=some ob)(n:H b=none)(a:b∉ex):∃sl,h1.get? b=some {ob with slots:=sl}:=by
 by_cases hb:b∈fs;exact u.slot b ob q n hb a;exact⟨ob.slots,u.keep b ob q n hb a⟩
def Un.kept(k:∀b u,h.get? b=some u->h'.get? b=some u):Un fs ex H H h h':=
 ⟨λb ob q _ _ _=>k b ob q,λb ob q _ _ _=>⟨ob.slots,k b ob q⟩,λ_ _ _ n _=>n,λb ob q _=>⟨ob,k b ob q⟩,λ_ _ q=>q,λ_ _ _ q=>q,λ_ ps q=>⟨#[],by simp_all⟩⟩
def Un.refl:Un fs ex H H h h:=Un.kept λ_ _ q=>q
def Un.laid{h:Heap}{a:Addr}(k:∀b u,h.get? b=some u->h'.get? b=some u)(c:h.objs.size<=a)(hn:H a=none):Un fs ex H (gY H a o) h h' where
 keep:=λb u q _ _ _=>k b u q
 slot:=λb u q _ _ _=>⟨u.slots,k b u q⟩
 free:=λb u q n _=>by rw[aG (An (Ax (kN q) c))];exact n
 there:=λb u q _=>⟨u,k b u q⟩
 tups:=λb xs q=>by rw[aG (bL q hn)];exact q
 frzs:=λb u xs q=>by rw[aG (bL q hn)];exact q
 tbls:=λb ps q=>⟨#[],by rw[aG (bL q hn),q];simp⟩
def Un.write(mu:HL (H x))(d:e=x\/H e=some (.own x))(k:∀ b u,b≠e->h.get? b=some u->h'.get? b=some u)(a:∃ u,h'.get? e=some u):Un fs ex H (gY H x o) h h':=by
 have c:∀b,H b=none->b≠x:=λb n z=>by subst z;rw[n]at mu;exact mu
 have hb:∀b,H b=none->b≠e:=λb n z=>by lia
 have hm:∀b u,H b=some u->¬HL (some u)->b≠x:=λb u q f z=>by lia
 refine⟨λb u q n _ _=>k b u (hb b n) q,λb u q n _ _=>⟨u.slots,k b u (hb b n) q⟩,λb u q n _=>by rw[aG (c b n)];exact n,λb u q _=>?_,
  λb xs q=>by rw[aG (hm b _ q λz=>z)];exact q,λb u xs q=>by rw[aG (hm b _ q λz=>z)];exact q,λb ps q=>⟨#[],by rw[aG (hm b _ q λz=>z),q];simp⟩⟩
 grind
noncomputable def IS(h:Heap)(H:Hp):List Addr:=(range h.objs.size).filter λa=>(H a).isSome
def Eo(h:Heap)(H:Hp):Heap:=W.hideAll h (IS h H)
def Sk(h:Heap)(H:Hp):(Eo h H).objs.size=h.objs.size:=W.hideAll_size _ _
def Sm(e:h.get? b=some o)(n:H b=none):(Eo h H).get? b=some o:=
 W.hideAll_get _ e λhm=>by
  have q:(H b).isSome=true:=(List.mem_filter.mp hm).2
  simp_all
def Sn(e:(Eo h H).get? b=some o):h.get? b=some o/\H b=none:=by
 have a:h.get? b=some o:=W.of_hideAll (IS h H) e;refine⟨a,?_⟩;cases q:H b with
 |none=>rfl
 | some x=>
   have hm:b∈IS h H:=List.mem_filter.mpr ⟨Cr.mpr (kN a),by simp[q]⟩;have z:(Eo h H).get? b=none:=W.hideAll_none (IS h H) hm
   lia
noncomputable def Sq(g h:Heap)(L:Addr):List (Addr×Obj):=(range h.objs.size).filterMap λa=>if a=L\/(g.get? a).isSome=true then none else(h.get? a).map λo=>(a,o)
def fH(g h:Heap)(L d:Addr):List (Addr×Obj):=(Sq g h L).filter λp=>decide (p.1≠d)
structure Mod(K:W.Frag)(mg:Str->Option Value)(base:Heap):Prop where
 kin:K.In base
 glob:base.Ns mainGlobals mg
 blt:∃mb,base.Ns builtinsNs mb/\∀x:Str,x≠"__name__"->mb x=bootBuiltins x
 nolimit:base.NoLimit
structure Cx where
 prog:Program
 w:World
 K:W.Frag
 mg:Str->Option Value
 base:Heap
 A:Around
 N:List Str
 s₀:Shared
 H₀:Hp
 env:Env
 outer:List Env
 stack:List Env
 ex:List Addr
 fn:Str->Bool
 calm:Bool
 pn:List (Addr×Obj)
 xe:Value->Shared->Prop
noncomputable def frs(l:List Env):List Addr:=l.filterMap (·.frame)
abbrev Cx.fs(X:Cx):List Addr:=frs X.outer
def JZ(sc:Scope)(x:Str):Prop:=sc.names.lookup x=some .local\/sc.names.lookup x=some .cell\/sc.names.lookup x=some .free
def HM(sc:Scope)(x:Str):Prop:=sc.names.lookup x=some .local\/sc.names.lookup x=some .cell
def Sr(env:Env)(h:Heap)(m:Str->Option Value)(x:Str)(u:Value):Prop:=
 (env.kindOf x=some .local/\m x=some u)\/((env.kindOf x=some .cell\/env.kindOf x=some .free)/\∃c,env.cells.lookup x=some c/\h.IsCell c (some u))
structure Cx.Ok(X:Cx):Prop where
 mod:Mod X.K X.mg X.base
 kind:X.env.scope.kind=.function
 glob:X.env.globals=mainGlobals
 blt:X.env.builtins=builtinsNs
 above:X.s₀.heap.objs.size<=X.env.locals
 inj:∀x y c,X.env.cells.lookup x=some c->X.env.cells.lookup y=some c->x=y
 has:∀x,(X.env.kindOf x=some .cell\/X.env.kindOf x=some .free)->∃c,X.env.cells.lookup x=some c
 cab:∀x c,X.fn x=true->X.env.cells.lookup x=some c->X.s₀.heap.objs.size<=c
 hd:X.calm=true->X.A.handled=none
 frames:X.A.frames=some X.stack
 stk:X.stack=X.outer\/(X.stack=X.env::X.outer/\X.env.frame=some X.env.locals)
 exf:∀b∈X.ex,b≠X.env.locals/\∀x c,X.env.cells.lookup x=some c->c≠b
 bs:∀b o,X.base.get? b=some o->X.s₀.heap.get? b=some o/\X.H₀ b=none
 bsz:X.base.objs.size<=X.s₀.heap.objs.size
 noex:∀b o,X.base.get? b=some o->b∉X.ex
 exfs:∀b∈X.ex,b∉X.fs
 funs:X.s₀.heap.FunFrames X.base X.outer
 frf:∀b∈X.fs,X.H₀ b=none
structure dX(X:Cx)(pins:List (Addr×Obj))(Z:List (Option V))(H:Hp)(s:Shared):Prop where
 ok:X.Ok
 os:s.os=X.s₀.os
 bare:AllBare s.gens
 base:Un X.fs X.ex X.H₀ H X.s₀.heap s.heap
 loc:∃m,s.heap.Ns X.env.locals m/\∀(i:Nat) (x:Str) (v:V),X.N[i]?=some x->Z[i]?=some (some v)->JZ X.env.scope x->∃u,cE v u/\Sr X.env s.heap m x u
 cell:∀x c,X.env.cells.lookup x=some c->∃v,s.heap.IsCell c v
 free:H X.env.locals=none
 freeC:∀x c,X.env.cells.lookup x=some c->H c=none
 pin:∀p∈X.pn++pins,s.heap.get? p.1=some p.2/\H p.1=none/\p.1≠X.env.locals/\p.1∉X.fs/\∀v,p.2.data≠.cell v
 hok:AA X.prog X.w H s.heap
 len:Z.length=X.N.length
def Cx.Ok.nofr{X:Cx}(ok:X.Ok)(e:X.base.get? b=some o):b∉X.fs:=λhb=>by
 have:=(ok.funs.mem hb).1
 lia
theorem dX.bs(I:dX X pins Z H s):∀b o,X.base.get? b=some o->s.heap.get? b=some o/\H b=none:=λb o e=>
 ⟨I.base.keep b o (I.ok.bs b o e).1 (I.ok.bs b o e).2 (I.ok.nofr e) (I.ok.noex b o e),I.base.free b o (I.ok.bs b o e).1 (I.ok.bs b o e).2 (I.ok.noex b o e)⟩
def dX.bk(I:dX X pins Z H s):∀b o,X.base.get? b=some o->s.heap.get? b=some o:=λb o e=>(I.bs b o e).1
theorem dX.mod(I:dX X pins Z H s):Mod X.K X.mg X.base:=I.ok.mod
def dX.kIn(I:dX X pins Z H s):X.K.In s.heap:=I.ok.mod.kin.keeps I.bk
theorem dX.lt(I:dX X pins Z H s):X.env.locals<s.heap.objs.size:=let ⟨_,hn,_⟩:=I.loc;hn.lt
def dX.sz(I:dX X pins Z H s):X.s₀.heap.objs.size<=s.heap.objs.size:=oT I.ok.above (AQ I.lt)
def dX.nofs{a:Addr}(I:dX X pins Z H s)(h:s.heap.objs.size<=a):a∉X.fs:=λhb=>by
 obtain⟨_,o,b,_⟩:=I.ok.funs.mem hb;exact absurd (Ax (kN b) (oT I.sz h)) (Cb _)
def dX.cne(I:dX X pins Z H s):∀x c,X.env.cells.lookup x=some c->c≠X.env.locals:=λx c e z=>by
 obtain⟨v,o,d,hd⟩:=I.cell x c e;obtain⟨m,⟨o',es,ep,a,b,_⟩,_⟩:=I.loc
 lia
theorem dX.funs(I:dX X pins Z H s):s.heap.FunFrames X.base X.outer:=by
 have all:∀ (l:List Env),(∀ b∈frs l,b∈X.fs)->X.s₀.heap.FunFrames X.base l->s.heap.FunFrames X.base l:=by
  intro l
  induction l with
  |nil=>intro _ _;trivial
  | cons env r d=>
    intro hs f;obtain⟨g,⟨L,o,c,hn,h,hd⟩,i⟩:=f;have a:L∈X.fs:=hs L (by unfold frs;simp_all);obtain⟨sl,e⟩:=I.base.slot L o h (I.ok.frf L a) a λz=>I.ok.exfs L z a;exact⟨g,⟨L,_,c,hn,e,hd⟩,d (λb hb=>hs b (by unfold frs;rw[List.filterMap_cons,c];exact Ah _ hb)) i⟩
 exact all X.outer (λ_ hb=>hb) I.ok.funs
theorem dX.stack(I:dX X pins Z H s):s.heap.FunFrames X.base X.stack:=by
 rcases I.ok.stk with e|⟨e,a⟩;rw[e];exact I.funs;rw[e];obtain⟨m,hn,_⟩:=I.loc;refine .cons (by rw[I.ok.kind];decide) a hn ?_ I.funs;exact Heap.get?_none_of_le (oT I.ok.bsz I.ok.above)
def dX.stkSub(I:dX X pins Z H s):∀b∈frs X.stack,b∈X.env.locals::X.fs:=λb hb=>by
 rcases I.ok.stk with e|⟨e,a⟩
 ·simp_all
 ·rw[e]at hb;unfold frs at hb;rw[List.filterMap_cons,a]at hb;exact hb
def dX.stkFree(I:dX X pins Z H s):∀b∈frs X.stack,H b=none:=λb hb=>by
 rcases Aj.mp (I.stkSub b hb)with e|hb;rw[e];exact I.free;obtain⟨_,o,a,_⟩:=I.ok.funs.mem hb;exact I.base.free b o a (I.ok.frf b hb) λz=>I.ok.exfs b z hb
def dX.step{ch:List Addr}(I:dX X pins Z H s)
  (f:∀b∈ch,(b∈X.ex\/X.s₀.heap.objs.size<=b)/\b≠X.env.locals/\(∀x c,X.env.cells.lookup x=some c->c≠b)/\∀p∈X.pn++pins,p.1≠b)
  (keep:∀b o,b≠X.env.locals->b∉X.fs->b∉ch->s.heap.get? b=some o->H b=none->h'.get? b=some o)
  (slot:∀b o,b≠X.env.locals->b∈X.fs->b∉ch->s.heap.get? b=some o->H b=none->∃sl,h'.get? b=some {o with slots:=sl}) (free:∀b o,b∉ch->s.heap.get? b=some o->H b=none->H' b=none)
  (there:∀b o,b∉ch->s.heap.get? b=some o->∃o',h'.get? b=some o')
  (tups:∀b xs,H b=some (.tup xs)->H' b=some (.tup xs)) (frzs:∀b o u,H b=some (.frz o u)->H' b=some (.frz o u)) (tbls:∀b ps,H b=some (.tbl ps)->∃more,H' b=some (.tbl (ps++more)))
  (ns:∀m,s.heap.Ns X.env.locals m->h'.Ns X.env.locals m) (hok:AA X.prog X.w H' h') (F:AllBare g') :
  dX X pins Z H' {s with heap:=h',gens:=g',drawn:=d',toks:=t'}:=by
 have A:∀b o,X.s₀.heap.get? b=some o->b≠X.env.locals:=λb o e=>An (Ax (kN e) I.ok.above);have j:∀b o,X.s₀.heap.get? b=some o->b∉X.ex->b∉ch:=λb o e a hb=>by
  rcases(f b hb).1 with z|z;exact a z;exact absurd (Ax (kN e) z) (Cb _)
 have g:∀x c,X.env.cells.lookup x=some c->∀v,s.heap.IsCell c v->h'.IsCell c v:=λx c e v Z1=>by
  obtain⟨o,y,hd⟩:=Z1;have h:c∉ch:=λz=>(f c z).2.2.1 x c e rfl;by_cases hc:c∈X.fs;obtain⟨sl,q⟩:=slot c o (I.cne x c e) hc h y (I.freeC x c e);exact⟨_,q,hd⟩;exact⟨o,keep c o (I.cne x c e) hc h y (I.freeC x c e),hd⟩
 refine⟨I.ok,I.os,F,⟨λb o e n hb a=>?_,λb o e n hb a=>?_,λb o e n a=>?_,λb o e a=>?_,λb xs e=>tups b xs (I.base.tups b xs e),λb o xs e=>frzs b o xs (I.base.frzs b o xs e),λb ps e=>?_⟩,?_,λx c e=>?_,?_,λx c e=>?_,λp D=>?_,hok,I.len⟩;exact keep b o (A b o e) hb (j b o e a) (I.base.keep b o e n hb a) (I.base.free b o e n a);obtain⟨sl,t⟩:=I.base.slot b o e n hb a;obtain⟨C,B⟩:=slot b _ (A b o e) hb (j b o e a) t (I.base.free b o e n a);exact⟨C,B⟩;obtain⟨o',t⟩:=I.base.there b o e a;exact free b o' (j b o e a) t (I.base.free b o e n a);obtain⟨o',t⟩:=I.base.there b o e a;exact there b o' (j b o e a) t;obtain⟨G,t⟩:=I.base.tbls b ps e;obtain⟨J,B⟩:=tbls b _ t;exact⟨G++J,by rw[B,Array.append_assoc]⟩;obtain⟨m,hn,K⟩:=I.loc;refine⟨m,ns m hn,λi x v t B L=>?_⟩;obtain⟨u,r,l⟩:=K i x v t B L;refine⟨u,r,?_⟩;rcases l with l|⟨k,c,e,z⟩;exact .inl l;exact .inr ⟨k,c,e,g x c e _ z⟩;obtain⟨v,z⟩:=I.cell x c e;exact⟨v,g x c e v z⟩;obtain⟨m,⟨o,_,_,y,_⟩,_⟩:=I.loc;exact free _ o (λz=>(f _ z).2.1 rfl) y I.free;obtain⟨v,o,y,hd⟩:=I.cell x c e;exact free c o (λz=>(f c z).2.2.1 x c e rfl) y (I.freeC x c e);obtain⟨e,n,ne,E,d⟩:=I.pin p D;have h:p.1∉ch:=λz=>(f p.1 z).2.2.2 p D rfl;exact⟨keep p.1 p.2 ne E h e n,free p.1 p.2 h e n,ne,E,d⟩
def dX.un(I:dX X pins Z H s)(u:Un X.fs [] H H' s.heap h')(hok:AA X.prog X.w H' h'):dX X pins Z H' {s with heap:=h',toks:=t'}:=by
 obtain⟨m,⟨o,es,ep,f,r⟩,_⟩:=id I.loc;obtain⟨sl,g⟩:=u.any f I.free (by simp);exact I.step (g':=s.gens) (d':=s.drawn) (ch:=[]) (λ_ z=>nomatch z) (λb o _ hb _ e n=>u.keep b o e n hb (by simp)) (λb o _ hb _ e n=>u.slot b o e n hb (by simp)) (λb o _ e n=>u.free b o e n (by simp)) (λb o _ e=>u.there b o e (by simp)) u.tups u.frzs u.tbls (λm' hm=>by
  obtain⟨o',c,d,a,h⟩:=hm;rw[f]at a;cases a;exact⟨_,c,d,g,h⟩) hok I.bare
def dX.call(I:dX X pins Z H s)(u:Un (frs X.stack) ch H H' s.heap h')(hok:AA X.prog X.w H' h')(j:AllBare g')
  (a:∀b∈ch,(b∈X.ex\/X.s₀.heap.objs.size<=b)/\b≠X.env.locals/\(∀x c,X.env.cells.lookup x=some c->c≠b)/\∀p∈X.pn++pins,p.1≠b) :
  dX X pins Z H' {s with heap:=h',gens:=g',drawn:=d',toks:=t'}:=by
 obtain⟨m,⟨o,es,ep,i,r⟩,_⟩:=id I.loc;obtain⟨sl,f⟩:=u.any i I.free λz=>(a _ z).2.1 rfl;exact I.step (ch:=ch) a (λb o f hb hc e n=>u.keep b o e n (λz=>(Aj.mp (I.stkSub b z)).elim f hb) hc) (λb o _ _ hc e n=>u.any e n hc) (λb o hc e n=>u.free b o e n hc) (λb o hc e=>u.there b o e hc) u.tups u.frzs u.tbls (λm' hm=>by
  obtain⟨o',g,h,d,k⟩:=hm;rw[i]at d;cases d;exact⟨_,g,h,f,k⟩) hok j
def dX.turned(I:dX X pins Z H s)(k:∀ b o,b≠it->s.heap.get? b=some o->h'.get? b=some o)(hn:H it=none)(a:it≠X.env.locals)
  (h1:it∈X.ex\/X.s₀.heap.objs.size<=it) (d:∀x c,X.env.cells.lookup x=some c->c≠it) (f:∀p∈X.pn++pins,p.1≠it):dX X pins Z H {s with heap:=h',toks:=t'}:=by
 have g:∀b u,H b=some u->b≠it:=λb u e z=>by lia
 refine I.step (g':=s.gens) (d':=s.drawn) (ch:=[it]) (λb hb=>?_) (λb o _ _ hc e _=>k b o (λz=>hc (by simp[z])) e) (λb o _ _ hc e _=>⟨o.slots,k b o (λz=>hc (by simp[z])) e⟩) (λ_ _ _ _ n=>n)
  (λb o hc e=>⟨o,k b o (λz=>hc (by simp[z])) e⟩) (λ_ _ e=>e) (λ_ _ _ e=>e) (λb ps e=>⟨#[],by simp_all⟩) (λm hm=>?_) (λb u e=>?_) I.bare
 ·have e:b=it:=by simpa using hb
  subst e;exact⟨h1,a,d,f⟩
 ·obtain⟨o,es,ep,h,r⟩:=hm;exact⟨o,es,ep,k _ o (iA a) h,r⟩
 ·refine(I.hok b u e).stay (λc v hc q=>k c v ?_ q) (λ_ q=>q) λ_ _ q=>q
  lia
def dX.tok(I:dX X pins Z H s)(t:Nat):dX X pins Z H {s with toks:=t}:=I.un (h':=s.heap) (t':=t) Un.refl I.hok
theorem dX.kept(I:dX X pins Z H s)(k:∀b u,s.heap.get? b=some u->h'.get? b=some u):dX X pins Z H {s with heap:=h',toks:=t'}:=I.un (Un.kept k) (I.hok.kept k)
theorem dX.laid{a:Addr}(I:dX X pins Z H s)(k:∀ b u,s.heap.get? b=some u->h'.get? b=some u)(c:s.heap.objs.size<=a)(d:cH X.prog X.w (gY H a o) h' a o) :
  dX X pins Z (gY H a o) {s with heap:=h',toks:=t'}:=I.un (Un.laid k c (I.hok.fresh c)) (I.hok.laid k c d)
theorem dX.write(I:dX X pins Z H s)(mu:HL (H x))(d:e=x\/H e=some (.own x))(k:∀ b u,b≠e->s.heap.get? b=some u->h'.get? b=some u)(a:∃ u,h'.get? e=some u)
  (c:cH X.prog X.w (gY H x o) h' x o):dX X pins Z (gY H x o) {s with heap:=h',toks:=t'}:=I.un (Un.write mu d k a) (I.hok.write mu d k a c)
def dX.weak(I:dX X pins Z H s)(b:σ'.length=Z.length)(w:∀(i:Nat) v,σ'[i]?=some (some v)->Z[i]?=some (some v)):dX X pins σ' H s:=
 ⟨I.ok,I.os,I.bare,I.base,let ⟨m,hn,a⟩:=I.loc;⟨m,hn,λi x v c d e=>a i x v c (w i v d) e⟩,I.cell,I.free,I.freeC,I.pin,I.hok,b.trans I.len⟩
def dX.pins_of(I:dX X pins Z H s)(h:∀p∈a,s.heap.get? p.1=some p.2/\H p.1=none/\p.1≠X.env.locals/\p.1∉X.fs/\∀v,p.2.data≠.cell v):dX X a Z H s:=
 ⟨I.ok,I.os,I.bare,I.base,I.loc,I.cell,I.free,I.freeC,λp b=>(Au.mp b).elim (λz=>I.pin p (Fw _ z)) (h p),I.hok,I.len⟩
def zE{N:List Str}{i j:Nat}(c:N.Nodup)(a:N[i]?=some x)(b:N[j]?=some x):i=j:=by
 obtain⟨f,d⟩:=sS.mp a;obtain⟨g,e⟩:=sS.mp b;exact(List.getElem_inj c).mp (d.trans e.symm)
def tK(I:dX X pins Z H s)(hN:X.N.Nodup)(hi:X.N[i]? = some x)(l:HM X.env.scope x)(r:cE v u)
  (h:∀s',dX X pins (Z.set i (some v)) H s'->(∃a,SameBut a s.heap s'.heap/\(a=X.env.locals\/X.env.cells.lookup x=some a))->Q () s') (hf:X.fn x=true\/X.env.scope.names.lookup x=some .local:=by first|exact .inl rfl|exact .inr rfl|assumption):wpAny M A (storeName X.env x u) Q E s:=by
 obtain⟨m,hn,hl⟩:=id I.loc;have G:(X.env.scope.kind==.class||(X.env.scope.kind==.module&&X.env.locals != X.env.globals))=false:=by rw[I.ok.kind];rfl
 have C:i<Z.length:=by rw[I.len];exact(sS.mp hi).1
 have cne:=I.cne;have f:∀{a:Addr} {h':Heap},(∃o,s.heap.get? a=some o/\H a=none)->SameBut a s.heap h'->AA X.prog X.w H h':=λ{a h'} ha hs b ob e=>by
  obtain⟨_,_,t⟩:=ha;refine(I.hok b ob e).stay (λc P hc q=>(hs.2 c ?_).trans q) (λ_ q=>q) λ_ _ q=>q;rintro rfl;rcases hc with rfl|hc;rw[t]at e;cases e;rw[t]at hc;cases hc
 rcases l with D|D
 ·refine wpAny_storeName_local D hn (λh' S hs=>?_) G;obtain⟨oL,_,_,T,_⟩:=id hn;refine h _ ⟨I.ok,I.os,I.bare,⟨λb o e n hb l=>?_,λb o e n hb l=>?_,I.base.free,λb o e l=>?_,I.base.tups,I.base.frzs,I.base.tbls⟩,⟨_,S,λj y U g B W=>?_⟩,λy c e=>?_,I.free,I.freeC,λp Y=>?_,f ⟨oL,T,I.free⟩ hs,by simpa using I.len⟩ ⟨_,hs,.inl rfl⟩;exact(hs.2 b (An (Ax (kN e) I.ok.above))).trans (I.base.keep b o e n hb l);obtain⟨sl,g⟩:=I.base.slot b o e n hb l;exact⟨sl,(hs.2 b (An (Ax (kN e) I.ok.above))).trans g⟩;obtain⟨o',g⟩:=I.base.there b o e l;exact⟨o',(hs.2 b (An (Ax (kN e) I.ok.above))).trans g⟩;by_cases hj:j=i;subst hj;rw[hi]at g;cases g;rw[Bo C]at B;cases B;exact⟨u,r,.inl ⟨D,by simp⟩⟩;rw[Ac (iA hj)]at B;obtain⟨σ,r',q⟩:=hl j y U g B W;refine⟨σ,r',?_⟩;rcases q with⟨k,e⟩|⟨k,c,e,z⟩;refine .inl ⟨k,?_⟩;have:y≠x:=λe=>hj (zE hN g (e▸hi));simp[this,e];exact .inr ⟨k,c,e,z.sameBut hs (cne y c e)⟩;obtain⟨P,z⟩:=I.cell y c e;exact⟨P,z.sameBut hs (cne y c e)⟩;obtain⟨e,n,ne,nf,d⟩:=I.pin p Y;exact⟨(hs.2 p.1 ne).trans e,n,ne,nf,d⟩
 ·have F:X.fn x=true:=by
   rcases hf with z|z;exact z;rw[z]at D;cases D
  obtain⟨c,hc⟩:=I.ok.has x (.inl D);obtain⟨P,z⟩:=I.cell x c hc;refine wpAny_storeName_cell I.ok.kind D hc z (λh' J hs=>?_);obtain⟨oc,K,L⟩:=id z;refine h {s with heap:=h'} ⟨I.ok,I.os,I.bare,⟨λb o e n hb l=>?_,λb o e n hb l=>?_,I.base.free,λb o e l=>?_,I.base.tups,I.base.frzs,I.base.tbls⟩,⟨m,hn.sameBut hs (iA (cne x c hc)),λj y U g B W=>?_⟩,λy R e=>?_,I.free,I.freeC,λp Y=>?_,f ⟨oc,K,I.freeC x c hc⟩ hs,by simpa using I.len⟩ ⟨c,hs,.inr hc⟩;exact(hs.2 b (An (Ax (kN e) (I.ok.cab x c F hc)))).trans (I.base.keep b o e n hb l);obtain⟨sl,g⟩:=I.base.slot b o e n hb l;exact⟨sl,(hs.2 b (An (Ax (kN e) (I.ok.cab x c F hc)))).trans g⟩;obtain⟨o',g⟩:=I.base.there b o e l;exact⟨o',(hs.2 b (An (Ax (kN e) (I.ok.cab x c F hc)))).trans g⟩;by_cases hj:j=i;subst hj;rw[hi]at g;cases g;rw[Bo C]at B;cases B;exact⟨u,r,.inr ⟨.inl D,c,hc,J⟩⟩;rw[Ac (iA hj)]at B;obtain⟨σ,r',q⟩:=hl j y U g B W;refine⟨σ,r',?_⟩;rcases q with q|⟨k,R,e,z'⟩;exact .inl q;refine .inr ⟨k,R,e,z'.sameBut hs ?_⟩;rintro rfl;exact hj (zE hN g (I.ok.inj _ _ _ e hc▸hi));by_cases π:R=c;subst π;exact⟨_,J⟩;obtain⟨w2,z2⟩:=I.cell y R e;exact⟨w2,z2.sameBut hs π⟩;obtain⟨e,n,ne,nf,d⟩:=I.pin p Y;refine⟨(hs.2 p.1 ?_).trans e,n,ne,nf,d⟩;intro q;rw[q,K]at e;have q':oc=p.2:=Ap e;exact d P (by rw[← q'];exact L)
def mS(I:dX X pins Z H s)(a:X.N.Nodup)(hi:X.N[i]? = some x)(b:HM X.env.scope x)(r:cE v u)
  (h:∀s',dX X pins (Z.set i (some v)) H s'->Q () s') (c:X.fn x=true\/X.env.scope.names.lookup x=some .local:=by first|exact .inl rfl|exact .inr rfl|assumption):wpAny M A (storeName X.env x u) Q E s:=
 tK I a hi b r (λs' d _=>h s' d) c
def dX.call'(I:dX X pins Z H s)(d:s'.os=s.os)(u:Un (frs X.stack) ch H H' s.heap s'.heap)(hok:AA X.prog X.w H' s'.heap)(f:AllBare s'.gens)
  (a:∀b∈ch,(b∈X.ex\/X.s₀.heap.objs.size<=b)/\b≠X.env.locals/\(∀x c,X.env.cells.lookup x=some c->c≠b)/\∀p∈X.pn++pins,p.1≠b):dX X pins Z H' s':=by
 obtain⟨h',g',d',t',o'⟩:=s';have e:o'=s.os:=d;subst e;exact I.call (g':=g') (t':=t') (d':=d') u hok f a
abbrev XK:=Value->Option Addr->Hp->Prop
abbrev St:=List (Option V)
abbrev VK:=V->Hp->Prop
abbrev TE:=St->Hp->VK->Prop
abbrev TT:=St->Hp->(Bool->Hp->Prop)->Prop
abbrev TA:=St->Hp->(List V->Hp->Prop)->Prop
structure Bh where
 nx:St->Hp->Prop
 rt:VK
 bk:St->Hp->Prop:=λ_ _=>False
 ct:St->Hp->Prop:=λ_ _=>False
abbrev TS:=Bh->St->Hp->Prop
def EP(X:Cx)(pins:List (Addr×Obj))(Z:St)(Q:VK)(u:Value)(s':Shared):Prop:=∃v H',dX X pins Z H' s'/\cE v u/\Q v H'
def TP(X:Cx)(pins:List (Addr×Obj))(Z:St)(Q:Bool->Hp->Prop)(b:Bool)(s':Shared):Prop:=∃H',dX X pins Z H' s'/\Q b H'
def AP(X:Cx)(pins:List (Addr×Obj))(Z:St)(Q:List V->Hp->Prop)(us:List Value)(s':Shared):Prop:=∃vs H',dX X pins Z H' s'/\bJ vs us/\Q vs H'
def SP(X:Cx)(pins:List (Addr×Obj))(D:Bh)(f:Flow)(s':Shared):Prop:=
 match f with
 |.next=>∃σ' H',dX X pins σ' H' s'/\D.nx σ' H'
 |.brk=>∃σ' H',dX X pins σ' H' s'/\D.bk σ' H'
 |.cont=>∃σ' H',dX X pins σ' H' s'/\D.ct σ' H'
 |.ret u=>∃v σ' H',dX X pins σ' H' s'/\cE v u/\D.rt v H'
def PE(X:Cx)(e:Expr)(t:TE):Prop:=
 ∀(pins:List (Addr×Obj)) (s:Shared) (Z:St) (H:Hp) (Q:VK),dX X pins Z H s->t Z H Q->wpAny (model X.prog X.w) X.A (eval e X.env) (EP X pins Z Q) X.xe s
def PT(X:Cx)(e:Expr)(t:TT):Prop:=
 ∀(pins:List (Addr×Obj)) (s:Shared) (Z:St) (H:Hp) (Q:Bool->Hp->Prop),dX X pins Z H s->t Z H Q->wpAny (model X.prog X.w) X.A (isTrue e X.env (eval e X.env)) (TP X pins Z Q) X.xe s
def PW(X:Cx)(e:Expr)(t:TT):Prop:=
 ∀(a:Sem Value) (pins:List (Addr×Obj)) (s:Shared) (Z:St) (H:Hp) (Q:Bool->Hp->Prop),dX X pins Z H s->t Z H Q->wpAny (model X.prog X.w) X.A (isTrue e X.env a) (TP X pins Z Q) X.xe s
def PW.pt(h:PW X e t):PT X e t:=h _
def PA(X:Cx)(es:List Expr)(t:TA):Prop:=
 ∀(a:Pos) (pins:List (Addr×Obj)) (s:Shared) (Z:St) (H:Hp) (Q:List V->Hp->Prop),dX X pins Z H s->t Z H Q->wpAny (model X.prog X.w) X.A (spliced (backTo a (starEach es X.env))) (AP X pins Z Q) X.xe s
def PS(X:Cx)(st:Stmt)(t:TS):Prop:=
 ∀(pins:List (Addr×Obj)) (s:Shared) (Z:St) (H:Hp) (D:Bh),dX X pins Z H s->t D Z H->wpAny (model X.prog X.w) X.A (exec st X.env) (SP X pins D) X.xe s
def Bv(X:Cx)(st:List Stmt)(t:TS):Prop:=
 ∀(pins:List (Addr×Obj)) (s:Shared) (Z:St) (H:Hp) (D:Bh),dX X pins Z H s->t D Z H->wpAny (model X.prog X.w) X.A (execs st X.env) (SP X pins D) X.xe s
def thn{Q c:b->Shared->Prop}(h:wpAny M A t Q E s)(d:∀a s,Q a s->c a s):wpAny M A t c E s:=Ca h d λ_ _ x=>x
def CZ(i:Nat):TE:=λZ H Q=>∃v,Z[i]?=some (some v)/\Q v H
def tC(v:V):TE:=λ_ H Q=>Q v H
def Ss(f:X.N[i]?=some x)(g:JZ X.env.scope x)(hd:(x==("__debug__":Str))=false:=by decide)(d:(x==("__classdict__":Str))=false:=by decide):PE X (.Name x pos) (CZ i):=by
 intro pins s Z H Q I h;obtain⟨v,e,h⟩:=h;obtain⟨m,hn,j⟩:=I.loc;obtain⟨u,r,l⟩:=j i x v f e g;have fin:EP X pins Z Q u s:=⟨v,H,I,r,h⟩;rcases l with⟨b,hm⟩|⟨b,c,hc,a⟩;exact wpAny_Name (wpAny_loadName_local I.ok.kind b hn hm fin) hd;rcases b with b|b;exact wpAny_Name (wpAny_loadName_cell I.ok.kind b hc a fin) hd;exact wpAny_Name (wpAny_loadName_free I.ok.kind b hc a fin d) hd
def Su:PE X (.Constant (.int i) j pos) (tC (.int i)):=λ_ _ _ H _ I h=>wpAny_Constant_int ⟨.int i,H,I.tok _,⟨_,rfl⟩,h⟩
def Sv:PE X (.Constant (.bool b) j pos) (tC (.bl b)):=λ_ _ _ H _ I h=>Constant_bool ⟨.bl b,H,I,rfl,h⟩
def Sy:PE X (.Constant .none j pos) (tC .non):=λ_ _ _ H _ I h=>Constant_none ⟨.non,H,I,rfl,h⟩
def LM:PE X (.Constant (.str x) j pos) (tC (.str x)):=λ_ _ _ H _ I h=>Calls.Constant_str ⟨.str x,H,I.tok _,⟨_,rfl⟩,h⟩
def Gl(X:Cx)(x:Str):Prop:=X.env.kindOf x=some .globalImplicit
def Sz{Z:St}(I:dX X pins Z H s)(a:Gl X x)(hm:X.mg x=some u)(h:Q u s)
  (hd:(x==("__debug__":Str))=false:=by decide):wpAny (model X.prog X.w) X.A (eval (.Name x pos) X.env) Q E s:=
 Calls.Name_function_global I.ok.kind a (Calls.loadGlobal_global (by rw[I.ok.glob];exact I.mod.glob.keeps I.bk) hm h) hd
def iS{Z:St}(I:dX X pins Z H s)(a:Gl X x)(hm:X.mg x=none)(b:bootBuiltins x=some u)(h:Q u s)
  (hn:x≠"__name__":=by decide) (hd:(x==("__debug__":Str))=false:=by decide):wpAny (model X.prog X.w) X.A (eval (.Name x pos) X.env) Q E s:=by
 obtain⟨mb,c,d⟩:=I.mod.blt;exact Calls.Name_function_global I.ok.kind a (Calls.loadGlobal_builtin (by rw[I.ok.glob];exact I.mod.glob.keeps I.bk) hm (by rw[I.ok.blt];exact c.keeps I.bk) ((d x hn).trans b) h) hd
def SA(a:Gl X x)(hm:X.mg x=none)(b:bootBuiltins x=some u)(r:cE v u)(hn:x≠"__name__":=by decide)(hd:(x==("__debug__":Str))=false:=by decide):PE X (.Name x pos) (tC v):=
 λ_ _ _ H _ I h=>iS I a hm b ⟨v,H,I,r,h⟩ hn hd
def tB(t:TE):TT:=λZ H Q=>t Z H λx a=>∃c,x=.bl c/\Q c a
def SD(h:PE X e t)(b:∀a,isTrue e X.env a=(do let v ← a;standAt e.pos;holding [v] (truthy v)):=by intro _;rfl):PT X e (tB t):=by
 intro pins s Z H Q I c;refine isTrue_plain (thn (h pins s Z H _ I c) λv s1 Z0=>?_) (b _);obtain⟨x,f,g,i,j⟩:=Z0;obtain⟨d,rfl,q⟩:=j;cases i;exact Hw ⟨f,g,q⟩
def SE(t u:TT):TT:=λZ H Q=>t Z H λc a=>if c=true then u Z a Q else Q false a
def SF(t u:TT):TT:=λZ H Q=>t Z H λc a=>if c=true then Q true a else u Z a Q
def SH(t:TT):TT:=λZ H Q=>t Z H λc a=>Q (!c) a
def SI(ha:PT X a tA):PW X (.BoolOp .And [a] pos) tA:=by
 intro b pins s Z H Q I h;refine isTrue_and (thn (ha pins s Z H Q I h) λc s1 e=>?_);cases c with
 |true=>exact isTrue_and_nil e
 |false=>exact e
def SJ(ha:PT X a tA):PW X (.BoolOp .Or [a] pos) tA:=by
 intro b pins s Z H Q I h;refine isTrue_or (thn (ha pins s Z H Q I h) λc s1 e=>?_);cases c with
 |false=>exact isTrue_or_nil e
 |true=>exact e
def SM{fH:List Expr}(ha:PT X a tA)(hb:PW X (.BoolOp .And (b::fH) pos) tB'):PW X (.BoolOp .And (a::b::fH) pos) (SE tA tB'):=by
 intro g pins s Z H Q I h;refine isTrue_and (thn (ha pins s Z H _ I h) λc s1 Z0=>?_);obtain⟨d,e,f⟩:=Z0;cases c with
 |true=>exact hb g pins s1 Z d Q e f
 |false=>exact⟨d,e,f⟩
def SN{fH:List Expr}(ha:PT X a tA)(hb:PW X (.BoolOp .Or (b::fH) pos) tB'):PW X (.BoolOp .Or (a::b::fH) pos) (SF tA tB'):=by
 intro g pins s Z H Q I h;refine isTrue_or (thn (ha pins s Z H _ I h) λc s1 Z0=>?_);obtain⟨d,e,f⟩:=Z0;cases c with
 |true=>exact⟨d,e,f⟩
 |false=>exact hb g pins s1 Z d Q e f
def SO(ha:PT X a tA):PT X (.UnaryOp .Not a pos) (SH tA):=by
 intro pins s Z H Q I h;exact isTrue_not (ha pins s Z H (λc b=>Q (!c) b) I h)
def SQ(ta tb:TE):TE:=λZ H Q=>ta Z H λx a=>∃c,x=.bl c/\if c=true then tb Z a Q else Q (.bl false) a
def SR(h:PE X a t):PE X (.BoolOp op [a] pos) t:=λpins s Z H Q I b=>BoolOp_one (h pins s Z H Q I b)
def SS{fH:List Expr}(ha:PE X a ta)(hb:PE X (.BoolOp .And (b::fH) pos) tb):PE X (.BoolOp .And (a::b::fH) pos) (SQ ta tb):=by
 intro pins s Z H Q I h;refine BoolOp_and (thn (ha pins s Z H _ I h) λv s1 Z0=>?_);obtain⟨x,e,f,g,d⟩:=Z0;obtain⟨c,rfl,d⟩:=d;cases g;refine Hw ?_;cases c with
 |true=>exact hb pins s1 Z e Q f d
 |false=>exact⟨.bl false,e,f,rfl,d⟩
def SU(t:TT)(ta tb:TE):TE:=λZ H Q=>t Z H λc a=>if c=true then ta Z a Q else tb Z a Q
def SV(hc:PT X c tA)(ha:PE X a ta)(hb:PE X b tb):PE X (.IfExp c a b pos) (SU tA ta tb):=by
 intro pins s Z H Q I h;refine wpAny_IfExp (thn (hc pins s Z H _ I h) λd s1 Z0=>?_);obtain⟨e,f,g⟩:=Z0;cases d with
 |true=>exact ha pins s1 Z e Q f g
 |false=>exact hb pins s1 Z e Q f g
def AL(K:W.Frag)(H:Hp)(a:Addr)(xs:List V):Prop:=
 Rd H a (.lst xs) \/
  ∃(o:Obj) (its:Array Value) (n:Nat),K.lookup a=some o/\o.cls=.type "list"/\o.dict=none/\o.data=.seq its n/\its.size<=sizeLine/\bJ xs its.toList
def BI(K:W.Frag)(H:Hp)(a:Addr)(xs:List V):Prop:=
 Rd H a (.tup xs) \/
  ∃(o:Obj) (its:Array Value) (n:Nat),K.lookup a=some o/\o.cls=.type "tuple"/\o.data=.seq its n/\its.size<=sizeLine/\bJ xs its.toList
noncomputable def SW:Value->Option V
 |.none=>some .non
 |.bool b=>some (.bl b)
 |.int i _=>some (.int i)
 |.str x _=>some (.str x)
 |.bytes b _=>some (.byt b)
 |.float b _=>some (.flt b)
 |.ref a=>some (.ref a)
 |.type n=>some (.ty n)
 |_=>none
def cE.abs(r:cE x u):SW u=some x:=by
 cases x with
 |non|bl _=>cases r;rfl
 |int _|str _|byt _|flt _=>obtain⟨t,rfl⟩:=r;rfl
 |ref _|ty _=>cases r;rfl
def cE.inj{x y:V}{u:Value}(r:cE x u)(q:cE y u):x=y:=Ap (r.abs.symm.trans q.abs)
theorem bJ.inj{xs ys:List V}{us:List Value}(r:bJ xs us)(s:bJ ys us):xs=ys:=by
 induction r generalizing ys with
 |nil=>cases s;rfl
 |cons r _ i=>cases s with|cons q t=>rw[r.inj q,i t]
def AL.of{K:W.Frag}(h:H a=some (.lst xs)):AL K H a xs:=.inl (.inl h)
def dX.list{Z:St}(I:dX X pins Z H s)(h:AL X.K H a xs):∃its:List Value,bJ xs its/\PlainL s.heap a its.toArray/\xs.length<=sizeLine:=by
 rcases h with h|⟨o,its,n,b,hc,hd,hs,c,r⟩;obtain⟨z,its,n,r,e⟩:=h.ok I.hok;exact⟨its,r,⟨_,n,e,rfl,rfl,rfl⟩,z⟩;refine⟨its.toList,r,⟨o,n,I.kIn a o b,hc,hd,by simp_all⟩,?_⟩;have e:=r.length
 grind
def dX.tuple{Z:St}(I:dX X pins Z H s)(h:BI X.K H a xs):∃its:List Value,bJ xs its/\IsTup s.heap a its.toArray/\xs.length<=sizeLine:=by
 rcases h with h|⟨o,its,n,b,hc,hs,c,r⟩;obtain⟨z,its,r,p,_⟩:=h.ok I.hok;exact⟨its,r,p,z⟩;refine⟨its.toList,r,⟨o,I.kIn a o b,hc,n,by simp_all⟩,?_⟩;have e:=r.length
 grind
def dX.list_inj{Z:St}(I:dX X pins Z H s)(h:AL X.K H a xs)(h':AL X.K H a ys):xs=ys:=by
 obtain⟨its,r,⟨o,n,e,_,_,d⟩,_⟩:=I.list h;obtain⟨b,c,⟨o',g,f,_,_,d'⟩,_⟩:=I.list h';rw[e]at f;have:its=b:=by lia
 subst this;exact r.inj c
def dX.tuple_inj{Z:St}(I:dX X pins Z H s)(h:BI X.K H a xs)(h':BI X.K H a ys):xs=ys:=by
 obtain⟨its,r,⟨o,e,_,n,d⟩,_⟩:=I.tuple h;obtain⟨b,c,⟨o',f,_,g,d'⟩,_⟩:=I.tuple h';rw[e]at f;have:its=b:=by lia
 subst this;exact r.inj c
noncomputable abbrev Cx.wish(X:Cx)(E:Value->Shared->Prop):Cx:={X with xe:=E}
abbrev Cx.nox(X:Cx):Cx:=X.wish λ_ _=>False
theorem Cx.Ok.wish{X:Cx}(ok:X.Ok)(E:Value->Shared->Prop):(X.wish E).Ok:=
 ⟨ok.mod,ok.kind,ok.glob,ok.blt,ok.above,ok.inj,ok.has,ok.cab,ok.hd,ok.frames,ok.stk,ok.exf,ok.bs,ok.bsz,ok.noex,ok.exfs,ok.funs,ok.frf⟩
def Cx.Ok.unwish{X:Cx}(ok:(X.wish E).Ok):X.Ok:=
 ⟨ok.mod,ok.kind,ok.glob,ok.blt,ok.above,ok.inj,ok.has,ok.cab,ok.hd,ok.frames,ok.stk,ok.exf,ok.bs,ok.bsz,ok.noex,ok.exfs,ok.funs,ok.frf⟩
theorem dX.wish{Z:St}(I:dX X pins Z H s)(E:Value->Shared->Prop):dX (X.wish E) pins Z H s:=⟨I.ok.wish E,I.os,I.bare,I.base,I.loc,I.cell,I.free,I.freeC,I.pin,I.hok,I.len⟩
theorem dX.unwish{Z:St}(I:dX (X.wish E) pins Z H s):dX X pins Z H s:=⟨I.ok.unwish,I.os,I.bare,I.base,I.loc,I.cell,I.free,I.freeC,I.pin,I.hok,I.len⟩
theorem SP.unwish(h:SP (X.wish E) pins D f s'):SP X pins D f s':=by
 cases f with
 |next|brk|cont=>obtain⟨σ',H',I,q⟩:=h;exact⟨σ',H',I.unwish,q⟩
 |ret u=>obtain⟨v,σ',H',I,r,q⟩:=h;exact⟨v,σ',H',I.unwish,r,q⟩
theorem Bv.nox{st:List Stmt}(h:Bv X.nox st t):Bv X st t:=λpins s Z H D I a=>
 Ca (h pins s Z H D (I.wish _) a) (λ_ _ q=>q.unwish) λ_ _ z=>elim z
def SX:TS:=λD Z H=>D.nx Z H
def HN(t u:TS):TS:=λD Z H=>t {D with nx:=u D} Z H
def SY:Bv X [] SX:=λ_ _ Z H _ I h=>wpAny_execs_nil ⟨Z,H,I,h⟩
def mT{st:Stmt}{fH:List Stmt}(h1:PS X st t)(a:Bv X fH u):Bv X (st::fH) (HN t u):=by
 intro pins s Z H D I h;refine wpAny_execs_cons (thn (h1 pins s Z H {D with nx:=u D} I h) λf s1 q=>?_);cases f with
 | next=>
   obtain⟨σ',H',b,q⟩:=q;exact a pins s1 σ' H' D b q
 |ret v|brk|cont=>exact q
def qH{st:Stmt}(h1:PS X st t):Bv X [st] t:=by
 intro pins s Z H D I h;refine wpAny_execs_cons (thn (h1 pins s Z H D I h) λf s1 q=>?_);cases f with
 |next=>exact wpAny_execs_nil q
 |ret v|brk|cont=>exact q
def dX.quiet{Z:St}(I:dX X pins Z H s):interactive X.env=false:=by simp[interactive,I.ok.kind]
def IT(te:TE):TS:=λD Z H=>te Z H λ_ a=>D.nx Z a
def LN(a:PE X e te)(hs:swapsWith e none pos.line X.env=pure false:=by rfl):PS X (.Expr e pos) (IT te):=by
 intro pins s Z H D I h;exact wpAny_Expr_any (thn (a pins s Z H _ I h) λv s1 ⟨x,b,c,f,d⟩=>⟨Z,b,c,d⟩) I.quiet hs
def Ka(te:TE):TS:=λD Z H=>te Z H D.rt
def LO(a:PE X e te):PS X (.Return (some e) pos) (Ka te):=by
 intro pins s Z H D I h;exact wpAny_Return_some (thn (a pins s Z H _ I h) λv s1 ⟨x,b,c,d,f⟩=>⟨x,Z,b,c,d,f⟩)
def Ta(c:TT)(t u:TS):TS:=λD Z H=>c Z H λb a=>if b=true then t D Z a else u D Z a
def Tb(hc:PT X c e)(ha:Bv X a t)(hb:Bv X b u):PS X (.If c a b pos) (Ta e t u):=by
 intro pins s Z H D I h;refine wpAny_If (thn (hc pins s Z H _ I h) λd s1 Z0=>?_);obtain⟨f,g,i⟩:=Z0;cases d with
 |true=>exact ha pins s1 Z f D g i
 |false=>exact hb pins s1 Z f D g i
abbrev TG:=V->St->Hp->(St->Hp->Prop)->Prop
abbrev ET:=List V->St->Hp->(St->Hp->Prop)->Prop
def PG(X:Cx)(a:Expr)(t:TG):Prop:=
 ∀ (pins:List (Addr×Obj)) (s:Shared) (Z:St) (H:Hp) (v:V) (u:Value) (Q:St->Hp->Prop),dX X pins Z H s->cE v u->t v Z H Q ->
   wpAny (model X.prog X.w) X.A (assign a X.env u) (λ_ s'=>∃σ' H',dX X pins σ' H' s'/\Q σ' H') X.xe s
def Gr(X:Cx)(ts:List Expr)(t:ET):Prop:=
 ∀ (pins:List (Addr×Obj)) (s:Shared) (Z:St) (H:Hp) (vs:List V) (us:List Value) (Q:St->Hp->Prop),dX X pins Z H s->bJ vs us->t vs Z H Q ->
   wpAny (model X.prog X.w) X.A (assignInOrder ((assignEach ts X.env).map (·.2)) us) (λ_ s'=>∃σ' H',dX X pins σ' H' s'/\Q σ' H') X.xe s
abbrev tF:=V->V->V->Hp->(Hp->Prop)->Prop
def LP(X:Cx)(t:tF):Prop:=
 ∀ (pins:List (Addr×Obj)) (s:Shared) (Z:St) (H:Hp) (o i v:V) (ov a u:Value) (Q:Hp->Prop),dX X pins Z H s->cE o ov->cE i a->cE v u->t o i v H Q ->
   wpAny (model X.prog X.w) X.A (setItem ov a u) (λ_ s'=>∃H',dX X pins Z H' s'/\Q H') X.xe s
def iM(i:Nat):TG:=λv Z H Q=>Q (Z.set i (some v)) H
def aZ(a:X.N.Nodup)(hi:X.N[i]?=some x)(b:HM X.env.scope x)(c:X.fn x=true\/X.env.scope.names.lookup x=some .local:=by first|exact .inl rfl|exact .inr rfl|assumption):PG X (.Name x pos) (iM i):=by
 intro pins s Z H v u Q I r h;exact wpAny_assign_Name (mS I a hi b r (λs' d=>⟨_,H,d,h⟩) c)
def EU:ET:=λvs Z H Q=>vs=[]/\Q Z H
def nB(t:TG)(u:ET):ET:=λvs Z H Q=>∃v r,vs=v::r/\t v Z H λσ' H'=>u r σ' H' Q
def fP:Gr X [] EU:=by
 intro pins s Z H vs us Q I r h;obtain⟨e,h⟩:=h;exact assignInOrder_nil ⟨Z,H,I,h⟩
def aR(h1:PG X e t)(b:Gr X es u)
  (hs:(assignEach (e::es) X.env).map (·.2)=assign e X.env::(assignEach es X.env).map (·.2):=by rfl):Gr X (e::es) (nB t u):=by
 intro pins s Z H vs us Q I r h;obtain⟨v,j,c,h⟩:=h;subst c;cases r with
 | cons r d=>
   rw[hs];refine assignInOrder_cons (thn (h1 pins s Z H _ _ _ I r h) λ_ s1 Z0=>?_);obtain⟨a,f,g,i⟩:=Z0;exact b pins s1 a f _ _ Q g d i
def Tc(K:W.Frag)(n:Nat)(t:ET):TG:=λv Z H Q=>∃a xs,v=.ref a/\BI K H a xs/\xs.length=n/\t xs Z H Q
def Td(hc:X.calm=true)(h:Gr X es t)
  (hn:(assignEach es X.env).length=n:=by rfl) (c:(assignEach es X.env).findIdx? (·.1)=none:=by rfl):PG X (.Tuple es k pos) (Tc X.K n t):=by
 intro pins s Z H v u Q I r d;obtain⟨a,xs,f,g,i,d⟩:=d;subst f;cases r;obtain⟨its,j,l,q⟩:=I.tuple g;refine assign_Tuple_tuple (I.ok.hd hc) l (by simp[hn,← i,j.length]) c λh' m=>?_;have p:dX X pins Z H {s with heap:=h'}:=I.kept (t':=s.toks) λb o e=>m b o (An (kN e)) e;exact h pins _ Z H xs _ Q p (by simp_all) d
def LQ(to ti:TE)(t:tF):TG:=λv Z H Q=>to Z H λo a=>ti Z a λi b=>t o i v b λc=>Q Z c
def Te(b:PE X o to)(hi:PE X i ti)(hs:LP X t)
  (ha:∀v,assign (.Subscript o i pos) X.env v=(do
   let ov ← holding [v] (eval o X.env)
   let a ← holding [v,ov] (eval i X.env)
   standAt pos
   holding [v,ov,a] (setItem ov a v)
   release [v,ov,a] []):=by intro _;rfl):PG X (.Subscript o i pos) (LQ to ti t):=by
 intro pins s Z H v u Q I r h;refine dV (AE (thn (b pins s Z H _ I h) λov s1 Z0=>?_));obtain⟨x,c,d,e,f⟩:=Z0;refine dV (AE (thn (hi pins s1 Z c _ d f) λa s2 ⟨y,g,j,k,l⟩=>?_));refine dV (HA (dV (AE (thn (hs pins s2 Z g x y v ov a u _ j e k r l) λ_ q ⟨m,n,p⟩=>?_))));exact wpAny_release ⟨Z,m,n,p⟩
def FF(a:TE)(g:TG):TS:=λD Z H=>a Z H λx b=>g x Z b D.nx
def Kb(b:PE X e a)(c:PG X tg g)(hs:swapsWithSole [tg] e pos.line X.env=pure false:=by rfl)(d:swappedStores [tg] e X.env=pure none:=by rfl)
  (h1:(assignEach [tg] X.env).map (·.2)=[assign tg X.env]:=by rfl):PS X (.Assign [tg] e pos) (FF a g):=by
 intro pins s Z H D I h;refine wpAny_Assign_stores (thn (b pins s Z H _ I h) λv s1 Z0=>?_) hs d;obtain⟨x,f,i,j,k⟩:=Z0;rw[h1];exact thn (c pins s1 Z f x v _ i j k) λ_ s2 q=>q
def LR(c:X.N.Nodup)(hi:X.N[i]? = some x)(d:HM X.env.scope x)(f:PE X e b)(hs:swapsWith e (some (.Name x a)) pos.line X.env=pure false:=by rfl)(g:X.fn x=true\/X.env.scope.names.lookup x=some .local:=by first | exact .inl rfl | exact .inr rfl | assumption) :
  PS X (.Assign [.Name x a] e pos) (FF b (iM i)):=by
 intro pins s Z H D I h;refine wpAny_Assign_Name (thn (f pins s Z H _ I h) λv s1 Z0=>?_) hs;obtain⟨y,j,k,l,m⟩:=Z0;exact mS k c hi d l (λs2 n=>⟨_,j,n,m⟩) g
def LS(i j:Nat)(a:TA):TS:=λD Z H=>a Z H λvs b=>∃v w,vs=[v,w]/\D.nx ((Z.set i (some v)).set j (some w)) b
def Tf(hc:X.calm=true)(z:X.N.Nodup)(hi:X.N[i]? = some x)(hj:X.N[j]? = some y)(m:i≠j)
  (A:X.env.scope.names.lookup x=some .local) (B:X.env.scope.names.lookup y=some .local) (ha:PA X [a,b] u)
  (F:swappedStores [.Tuple [.Name x g,.Name y k] kt pt] (.Tuple [a,b] l c) X.env=pure (some [x,y]))
  (hs:swapsWithSole [.Tuple [.Name x g,.Name y k] kt pt] (.Tuple [a,b] l c) pos.line X.env=pure false:=by rfl) :
  PS X (.Assign [.Tuple [.Name x g,.Name y k] kt pt] (.Tuple [a,b] l c) pos) (LS i j u):=by
 intro pins s Z H D I h;refine dV (HA ?_);refine dV (gV ?_);refine dV (Tuple_ (thn (ha _ pins s Z H _ I h) λus s1 Z0=>?_));obtain⟨vs,C,G,J,n⟩:=Z0;obtain⟨v,w,K,n⟩:=n;subst K;obtain⟨d,f,rfl,L,r⟩:∃ d f,us=[d,f]/\cE v d/\cE w f:=by
  cases J with
  | cons p q=>
    cases q with
    | cons M π=>
      cases π;exact⟨_,_,rfl,p,M⟩
 refine EG ?_ (by show 2<=sizeLine;decide);have P:dX X pins Z C {s1 with heap:=s1.heap.push {cls:=.type "tuple",data:=.seq [d,f].toArray}}:=G.kept (t':=s1.toks) λb o e=>sU _ e;rw[F];refine dV (gV ?_);refine dV (BJ (dV (unpackItems_tuple (items:=#[d,f]) (I.ok.hd hc) (IsTup.new s1.heap _) λh' t=>?_)));have Q:=P.kept (h':=h') (t':=s1.toks) λb o e=>t b o (An (kN e)) e;refine dV (assignInOrder_cons (wpAny_bindName (mS Q z hj (.inl B) r (λs2 R=>?_) (.inr B))));refine assignInOrder_cons (wpAny_bindName (mS R z hi (.inl A) L (λS E=>assignInOrder_nil (gV ?_)) (.inr A)));rw[List.set_comm _ _ (iA m)]at E;exact⟨_,C,E,n⟩
def Kc(c:TT)(tb:TS):TS:=λD Z H=>∃W:Nat->St->Hp->Prop,(∃m,W m Z H)/\∀m Z H,W m Z H ->
 c Z H λb a=>if b=true then ∃N:St->Hp->Prop,(∀σ' H',N σ' H'->∃m',m' < m/\W m' σ' H')/\tb {D with nx:=N,ct:=N,bk:=D.nx} Z a else D.nx Z a
def Th(o:PassesOwn (model X.prog X.w) X.A X.env X.xe)(hc:PT X c m)(hb:Bv X e tb):PS X (.While c e [] pos) (Kc m tb):=by
 intro pins s Z H D I h;obtain⟨W,⟨u,x⟩,turn⟩:=h;refine wpAny_While (codeAny_whileLoop (λn s'=>∃σ' H',dX X pins σ' H' s'/\W n σ' H') ?_ u ⟨Z,H,I,x⟩);rintro n s1 ⟨d,p,y,z⟩;refine Fu o (thn (hc pins s1 d p _ y (turn n d p z)) λb s2 Z0=>?_);obtain⟨q,r,i⟩:=Z0;cases b with
 | true=>
   obtain⟨N,t,i⟩:=i;refine Fu o (thn (hb pins s2 d q _ r i) λf B j=>?_);cases f with
   | next=>
     obtain⟨a,g,k,n3⟩:=j;obtain⟨m',hm,l⟩:=t a g n3;exact⟨m',hm,a,g,k,l⟩
   | cont=>
     obtain⟨a,g,k,n3⟩:=j;obtain⟨m',hm,l⟩:=t a g n3;exact⟨m',hm,a,g,k,l⟩
   |brk|ret v=>exact j
 | false=>
   exact wpAny_execs_nil ⟨d,q,r,i⟩
structure It where
 go:Nat->Hp->Prop
 yld:Nat->Hp->V->Hp->Prop
 stop:Nat->Hp->Prop
def Dy(X:Cx)(pins:List (Addr×Obj))(H:Hp)(b:Addr):Prop:=
 H b=none/\b≠X.env.locals/\b∉X.fs/\(b∈X.ex\/X.s₀.heap.objs.size<=b)/\(∀x c,X.env.cells.lookup x=some c->c≠b)/\∀p∈X.pn++pins,p.1≠b
def dX.fpOk{Z:St}{b:Addr}(I:dX X pins Z H s)(hb:s.heap.objs.size<=b)(hn:H' b=none):Dy X pins H' b:=by
 refine⟨hn,CF (Ax I.lt hb),I.nofs hb,.inr (oT I.sz hb),λx c e z=>?_,λp a z=>?_⟩;obtain⟨v,q⟩:=I.cell x c e;exact absurd (Ax q.lt (by simp_all)) (Cb _);exact absurd (Ax (kN (I.pin p a).1) (by simp_all)) (Cb _)
structure BO(P:Program)(w:World)(K:W.Frag)(tg:Expr)(J:It)(fp:List Addr)(it:Addr)(tn:Nat->Heap->Prop):Prop where
 mem:it∈fp
 obj:∀i h,tn i h->∀b∈fp,∃o,h.get? b=some o/\∀v,o.data≠.cell v
 keep:∀i h h',tn i h->(∀b∈fp,∀o,h.get? b=some o->h'.get? b=some o)->tn i h'
 item:∀ (X:Cx),X.prog=P->X.w=w->X.K=K->X.calm=true->∀ (i:Nat) (pins:List (Addr×Obj)) (s:Shared) (Z:St) (H:Hp) (E:Value->Shared->Prop),dX X pins Z H s->(∀ b∈fp,Dy X pins H b)->tn i s.heap->J.go i H ->
  wpAny (model P w) X.A (pyNext (.ref it)) (λr s1=>∃u,r=some u /\
   wpAny (model P w) X.A (letOwnedTupleGo tg (.ref it) u) (λ_ s2=>∃x H',dX X pins Z H' s2/\cE x u/\J.yld i H x H'/\tn (i+1) s2.heap/\∀b∈fp,H' b=none) E s1) E s
 done:∀(X:Cx),X.prog=P->X.w=w->X.K=K->X.calm=true->∀(i:Nat) (pins:List (Addr×Obj)) (s:Shared) (Z:St) (H:Hp) (E:Value->Shared->Prop),dX X pins Z H s->(∀b∈fp,Dy X pins H b)->tn i s.heap->J.stop i H ->
  wpAny (model P w) X.A (pyNext (.ref it)) (λr s1=>r=none/\dX X pins Z H s1) E s
 self:∀(A:Around) (i:Nat) (s:Shared) (Q:Value->Shared->Prop) (E:Value->Shared->Prop),tn i s.heap->Q (.ref it) s->wpAny (model P w) A (pyIter (.ref it)) Q E s
abbrev TI:=St->Hp->(It->Hp->Prop)->Prop
def LU(X:Cx)(pins:List (Addr×Obj))(Z:St)(tg:Expr)(R:It->Hp->Prop)(a:Value)(s2:Shared):Prop:=
 ∃(it:Addr) (fp:List Addr) (tn:Nat->Heap->Prop) (J:It) (H':Hp),a=.ref it/\dX X pins Z H' s2/\BO X.prog X.w X.K tg J fp it tn/\tn 0 s2.heap/\(∀b∈fp,Dy X pins H' b)/\R J H'
def PI(X:Cx)(tg iter:Expr)(a:TI):Prop:=
 ∀ (pins:List (Addr×Obj)) (s:Shared) (Z:St) (H:Hp) (R:It->Hp->Prop),dX X pins Z H s->a Z H R ->
   wpAny (model X.prog X.w) X.A (eval iter X.env) (λv s1=>wpAny (model X.prog X.w) X.A (pyIter v) (LU X pins Z tg R) X.xe s1) X.xe s
def Gs(b:s.heap.get? it=some o)(hc:o.cls=.type n)(hd:o.data=.fields vs)
  (hn:["enumerate","zip","dict_itemiterator","dict_reverseitemiterator","odict_iterator","itertools.zip_longest","itertools.pairwise"].contains n=false) (a:Q () s):wpAny M A (letOwnedTupleGo tg (.ref it) u) Q E s:=by
 cases tg<;>first
  |exact gV a
  | (cases u<;>first
    |exact gV a
    | (refine dV (wpAny_load b ?_)
       rw[hc,hd];show wpAny M A (if(["enumerate","zip","dict_itemiterator","dict_reverseitemiterator","odict_iterator","itertools.zip_longest","itertools.pairwise"].contains n&&vs[0]? == some (rawInt _))=true then _ else _) Q E s;rw[gX (by intro h;rw[hn,Bool.false_and]at h;lia)];exact gV a))
noncomputable def Kd(K:W.Frag)(a:Addr):It:=
 ⟨λi H=>∃xs x,AL K H a xs/\xs[i]?=some x,λi H x H'=>H'=H/\∀xs,AL K H a xs->xs[i]?=some x,λi H=>∃xs,AL K H a xs/\xs.length<=i⟩
noncomputable def Ke(K:W.Frag)(a:Addr):It:=
 ⟨λi H=>∃xs x,BI K H a xs/\xs[i]?=some x,λi H x H'=>H'=H/\∀xs,BI K H a xs->xs[i]?=some x,λi H=>∃xs,BI K H a xs/\xs.length<=i⟩
noncomputable def HP(lo:Int)(n:Nat):It:=⟨λi _=>i<n,λi H x H'=>H'=H/\x=.int (lo+i),λi _=>n<=i⟩
def Ti{K:W.Frag}(a it:Addr):BO P w K tg (Kd K a) [it] it (λi h=>h.IsListIter it a i) where
 mem:=by simp
 obj:=λi h st b hb=>by
  have e:b=it:=by simp_all
  obtain⟨o,e,c,d⟩:=st
  simp_all
 keep:=λi h h' st k=>st.at λo e=>k it (by simp) o e
 item:=by
  intro X j l m hc i pins s Z H E I f st n;subst j l m;obtain⟨xs,x,g,q⟩:=n;obtain⟨its,r,p,B⟩:=I.list g;obtain⟨u,M,C⟩:=r.get q;obtain⟨t,v,D,y,z,A⟩:=f it (by simp);refine wpAny_pyNext_list_item st p.isList (x:=u) (by simp_all) λh' st' F=>?_;have G:dX X pins Z H {s with heap:=h'}:=I.turned (t':=s.toks) (λb o hb e=>(F.2 b hb).trans e) t v y z A;obtain⟨o,e,c,d⟩:=id st';exact⟨u,rfl,Gs (s:={s with heap:=h'}) e c d (rfl) ⟨x,H,G,C,⟨rfl,λys J=>by rw[I.list_inj J g];exact q⟩,st',λb hb=>(f b hb).1⟩⟩
 done:=by
  intro X j l m hc i pins s Z H E I f st n;subst j l m;obtain⟨xs,g,q⟩:=n;obtain⟨its,r,p,B⟩:=I.list g;obtain⟨t,v,D,y,z,A⟩:=f it (by simp);have N:=r.length;exact wpAny_pyNext_list_end (I.ok.hd hc) st p.isList (by simp_all) λh' L=>⟨rfl,I.turned (t':=s.toks) (λb o hb e=>L b o hb e) t v y z A⟩
 self:=λ_ _ _ _ _ st h=>wpAny_pyIter_listiter st h
def Tj{K:W.Frag}(a it:Addr):BO P w K tg (Ke K a) [it] it (λi h=>h.IsTupleIter it a i) where
 mem:=by simp
 obj:=λi h st b hb=>by
  have e:b=it:=by simp_all
  obtain⟨o,e,c,d⟩:=st
  simp_all
 keep:=λi h h' st k=>st.at λo e=>k it (by simp) o e
 item:=by
  intro X j l m hc i pins s Z H E I f st n;subst j l m;obtain⟨xs,x,g,q⟩:=n;obtain⟨its,r,p,B⟩:=I.tuple g;obtain⟨u,M,C⟩:=r.get q;obtain⟨t,v,D,y,z,A⟩:=f it (by simp);refine wpAny_pyNext_tuple_item st (show s.heap.IsTuple a its.toArray from p) (x:=u) (by simp_all) λh' st' F=>?_;have G:dX X pins Z H {s with heap:=h'}:=I.turned (t':=s.toks) (λb o hb e=>(F.2 b hb).trans e) t v y z A;obtain⟨o,e,c,d⟩:=id st';exact⟨u,rfl,Gs (s:={s with heap:=h'}) e c d (rfl) ⟨x,H,G,C,⟨rfl,λys J=>by rw[I.tuple_inj J g];exact q⟩,st',λb hb=>(f b hb).1⟩⟩
 done:=by
  intro X j l m hc i pins s Z H E I f st n;subst j l m;obtain⟨xs,g,q⟩:=n;obtain⟨its,r,p,B⟩:=I.tuple g;obtain⟨t,v,D,y,z,A⟩:=f it (by simp);have N:=r.length;exact wpAny_pyNext_tuple_end (I.ok.hd hc) st (show s.heap.IsTuple a its.toArray from p) (by simp;simp_all) λh' L=>⟨rfl,I.turned (t':=s.toks) (λb o hb e=>L b o hb e) t v y z A⟩
 self:=λ_ _ _ _ _ st h=>wpAny_pyIter_tupleiter st h
def Tn{K:W.Frag}(it:Addr)(lo:Int)(n:Nat):BO P w K tg (HP lo n) [it] it (λi h=>IsRangeIter h it (lo+(i:Nat)*1) ((n:Int)-(i:Nat)) 1) where
 mem:=by simp
 obj:=λi h st b hb=>by simp_all
 keep:=λi h h' st k=>k it (by simp) _ st
 item:=by
  intro X m p q hc i pins s Z H E I a st c;subst m p q;obtain⟨d,f,r,g,j,l⟩:=a it (by simp);have W:=Walks.range (prog:=X.prog) (w:=X.w) (I.ok.hd hc) it lo 1 n;refine W.item i s _ _ c st λv h' tk u st' x=>?_;obtain⟨t,rfl⟩:=u;have y:dX X pins Z H {s with heap:=h',toks:=tk}:=I.turned (λb o hb e=>x b o (by simp_all) e) d f g j l;refine⟨_,rfl,Gs (s:={s with heap:=h',toks:=tk}) (n:="range_iterator") st' rfl rfl (rfl) ⟨.int (lo+i),H,y,⟨t,?_⟩,⟨rfl,rfl⟩,st',λb hb=>(a b hb).1⟩⟩;simp
 done:=by
  intro X m p q hc i pins s Z H E I a st c;obtain⟨d,f,r,g,j,l⟩:=a it (by simp);exact wpAny_pyNext_range_end (I.ok.hd hc) st (by have:n<=i:=c;lia) λh' z=>⟨rfl,I.turned (t':=s.toks) (λb o hb e=>z b o hb e) d f g j l⟩
 self:=λ_ _ _ _ _ st h=>wpAny_pyIter_rangeiter st h
def zF{Z:St}{lo hi:Int}(I:dX X pins Z H s)(h1:-(2 ^ 62)<=lo)(c:lo < 2 ^ 62)(d:-(2 ^ 62)<=hi)(f:hi < 2 ^ 62)
  (q:R (HP lo (hi-lo).toNat) H):wpAny (model X.prog X.w) X.A (pyIter (.ref s.heap.objs.size)) (LU X pins Z tg R) E {s with heap:=s.heap.push {cls:=.type "range",data:=.fields #[.int lo t,.int hi u,.int 1 v]},toks:=tk}:=by
 refine wpAny_pyIter_range (IsRange.new ..) (small_one h1 c d f) ?_;have a:dX X pins Z H {s with heap:=s.heap.push {cls:=.type "range",data:=.fields #[.int lo t,.int hi u,.int 1 v]},toks:=tk}:=I.kept λb o e=>sU _ e;refine⟨(s.heap.push {cls:=.type "range",data:=.fields #[.int lo t,.int hi u,.int 1 v]}).objs.size,[(s.heap.push {cls:=.type "range",data:=.fields #[.int lo t,.int hi u,.int 1 v]}).objs.size],_,_,H,rfl,
  a.kept (t':=tk) λb o e=>sU _ e,Tn _ lo (hi-lo).toNat,?_,λb hb=>?_,q⟩
 ·have g:lo+((0:Nat):Int)*1=lo:=by simp
  have h:(((hi-lo).toNat:Nat):Int)-((0:Nat):Int)=Builtin.Range.rangeSize lo hi 1:=by rw[rangeSize_one];grind
  rw[g,h];exact Ad _ rfl
 ·have e:b=(s.heap.push {cls:=.type "range",data:=.fields #[.int lo t,.int hi u,.int 1 v]}).objs.size:=by simp_all
  subst e;exact a.fpOk (hF _) (a.hok.fresh (hF _))
def LV(a:TA):TI:=λZ H R=>a Z H λvs b=>∃j:Int,vs=[.int j] /\ -(2^62)<=j/\j<2^62/\R (HP 0 j.toNat) b
def LW(a:TA):TI:=λZ H R=>a Z H λvs b=>∃i j:Int,vs=[.int i,.int j]/\(-(2^62)<=i/\i<2^62 /\ -(2^62)<=j/\j<2^62)/\R (HP i (j-i).toNat) b
def To(d:Gl X "range")(hm:X.mg "range"=none)(ha:PA X [a] c)(hs:starEach [a] X.env=[(false,eval a X.env)]:=by rfl):PI X tg (.Call (.Name "range" p) [a] [] pos) (LV c):=by
 intro pins s Z H R I h;refine Call_ (iS I d hm boot_range (EH (thn (ha pos pins s Z H _ I h) λus s1 Z0=>?_) hs rfl));obtain⟨vs,l,f,g,b⟩:=Z0;obtain⟨j,e,b,i,q⟩:=b;subst e;cases g with
 | cons r k=>
   cases k;obtain⟨t,rfl⟩:=r;exact call_range_1 (zF f (by lia) (by lia) b i (by simp_all))
def Tp(k:Gl X "range")(hm:X.mg "range"=none)(ha:PA X [a,b] g)(hs:starEach [a,b] X.env=[(false,eval a X.env),(false,eval b X.env)]:=by rfl)(c:starEach [b] X.env=[(false,eval b X.env)]:=by rfl) :
  PI X tg (.Call (.Name "range" p) [a,b] [] pos) (LW g):=by
 intro pins s Z H R I h;refine Call_ (iS I k hm boot_range (EH (thn (ha pos pins s Z H _ I h) λus s1 Z0=>?_) (by rw[hs,c]) (by rw[c];rfl)));obtain⟨vs,w,l,m,d⟩:=Z0;obtain⟨i,j,e,⟨d,n,o,u⟩,q⟩:=d;subst e;cases m with
 | cons r f=>
   cases f with
   | cons v f=>
     cases f;obtain⟨t,rfl⟩:=r;obtain⟨x,rfl⟩:=v;exact call_range_2 (zF l d n o u q)
def HQ(b:TI)(g:TG)(tb:TS):TS:=λD Z H=>b Z H λJ c=>∃W:Nat->Nat->St->Hp->Prop,(∃m,W 0 m Z c)/\∀i m Z H,W i m Z H ->
 (J.stop i H/\D.nx Z H)\/(J.go i H/\∃N:St->Hp->Prop,(∀σ' H',N σ' H'->∃m',m' < m/\W (i+1) m' σ' H')/\∀x H',J.yld i H x H'->g x Z H' λa d=>tb {D with nx:=N,ct:=N,bk:=D.nx} a d)
noncomputable def nD(fp:List Addr)(h:Heap):List (Addr×Obj):=fp.filterMap λb=>(h.get? b).map λo=>(b,o)
def jK(hb:b∈fp)(e:h.get? b=some o):(b,o)∈nD fp h:=List.mem_filterMap.mpr ⟨b,hb,by simp_all⟩
def Tq(a:p∈nD fp h):p.1∈fp/\h.get? p.1=some p.2:=by
 obtain⟨b,hb,e⟩:=List.mem_filterMap.mp a;cases q:h.get? b with
 |none=>simp_all
 | some o=>
   rw[q]at e;have c:(b,o)=p:=Ap e;subst c
   simp_all
def dX.pinned{Z:St}(I:dX X pins Z H s)(a:∀ b∈fp,Dy X pins H b)(c:∀ b∈fp,∃ o,s.heap.get? b=some o/\∀ v,o.data≠.cell v):dX X (pins++nD fp s.heap) Z H s:=
 I.pins_of λp f=>(Au.mp f).elim (λz=>I.pin p (BH _ z)) λz=>by
  obtain⟨hb,e⟩:=Tq z;obtain⟨g,h,i,_⟩:=a p.1 hb;obtain⟨o,j,d⟩:=c p.1 hb
  simp_all
def dX.unpinned{Z:St}(I:dX X (pins++pl) Z H s):dX X pins Z H s:=I.pins_of λp a=>I.pin p (BH _ (Fw _ a))
def tL(z:PassesOwn (model X.prog X.w) X.A X.env X.xe)(hc:X.calm=true)(hi:PI X tg iter R)(hg:PG X tg g)(hb:Bv X p tb)
  (hs:∀x,foldedSetIterable iter X.env x=pure x:=by intro _;rfl):PS X (.For tg iter p [] pos) (HQ R g tb):=by
 intro pins s Z H D I h;refine wpAny_For (thn (hi pins s Z H _ I h) λv s1 h1=>thn h1 λitv s2 h2=>?_) hs;obtain⟨it,fp,tn,J,H2,e,I2,T,G,S,W,⟨m0,w0⟩,turn⟩:=h2;subst e
 have c:∀{H':Hp},(∀b∈fp,H' b=none)->∀b∈fp,Dy X pins H' b:=λhn b hb=>⟨hn b hb,(S b hb).2⟩;refine codeAny_forLoop_any (λn s'=>∃i σ' H',dX X pins σ' H' s'/\tn i s'.heap/\(∀b∈fp,H' b=none)/\W i n σ' H') ?_ m0 ⟨0,Z,H2,I2,G,λb hb=>(S b hb).1,w0⟩;rintro n V ⟨i,j,F,Y,B,C,w3⟩;rcases turn i n j F w3 with⟨stop,qn⟩|⟨go,N,hN,step⟩
 ·refine Fu z (thn (T.done X rfl rfl rfl hc i pins V j F X.xe Y (c C) B stop) λr s4 Z0=>?_);obtain⟨L,I4⟩:=Z0;subst L;exact wpAny_execs_nil ⟨j,F,I4,qn⟩
 ·refine Fu z (thn (T.item X rfl rfl rfl hc i pins V j F X.xe Y (c C) B go) λr s4 Z0=>?_);obtain⟨u,L,h4⟩:=Z0;subst L;refine Fu z (thn h4 λ_ σ ⟨x,H5,I5,r5,y5,y,M⟩=>?_);have π:=I5.pinned (c M) (T.obj _ _ y);refine Fu z (thn (hg _ σ j H5 x u _ π r5 (step x H5 y5)) λ_ s6 ⟨P,H6,I6,q6⟩=>?_);refine Fu z (thn (hb _ s6 P H6 _ I6 q6) λf Q t=>?_);have again:∀ {a:St} {k:Hp},dX X (pins++nD fp σ.heap) a k Q->N a k->∃ m,m < n/\∃ i σ' H',dX X pins σ' H' Q/\tn i Q.heap/\(∀ b∈fp,H' b=none)/\W i m σ' H':=λ{a k} l E=>by
   obtain⟨m',hm,w7⟩:=hN a k E;refine⟨m',hm,i+1,a,k,l.unpinned,T.keep _ _ _ y λb hb o e=>(l.pin (b,o) (BH _ (BH _ (jK hb e)))).1,λb hb=>?_,w7⟩;obtain⟨o,e,d⟩:=T.obj _ _ y b hb;exact(l.pin (b,o) (BH _ (BH _ (jK hb e)))).2.1
  cases f with
  |next|cont=>obtain⟨a,k,l,E⟩:=t;exact again l E
  |brk=>obtain⟨a,k,l,t⟩:=t;exact⟨a,k,l.unpinned,t⟩
  |ret v=>obtain⟨x7,a,k,l,r7,t⟩:=t;exact⟨x7,a,k,l.unpinned,r7,t⟩
abbrev R2:=V->V->Hp->VK->Prop
def Ak(X:Cx)(f:Value->Value->Sem Value)(r:R2):Prop:=
 ∀ (pins:List (Addr×Obj)) (s:Shared) (Z:St) (H:Hp) (x y:V) (v u:Value) (Q:VK),dX X pins Z H s->cE x v->cE y u->r x y H Q ->
   wpAny (model X.prog X.w) X.A (f v u) (EP X pins Z Q) X.xe s
def IU(X:Cx)(f:Value->Sem Value)(r:V->Hp->VK->Prop):Prop:=
 ∀ (pins:List (Addr×Obj)) (s:Shared) (Z:St) (H:Hp) (x:V) (v:Value) (Q:VK),dX X pins Z H s->cE x v->r x H Q ->
   wpAny (model X.prog X.w) X.A (f v) (EP X pins Z Q) X.xe s
def iT(X:Cx)(f:Value)(r:List V->Hp->VK->Prop):Prop:=
 ∀ (pins:List (Addr×Obj)) (s:Shared) (Z:St) (H:Hp) (xs:List V) (us:List Value) (Q:VK),dX X pins Z H s->bJ xs us->r xs H Q ->
   wpAny (model X.prog X.w) X.A (call f us) (EP X pins Z Q) X.xe s
def Ts(X:Cx)(r:V->Hp->(Bool->Hp->Prop)->Prop):Prop:=
 ∀ (pins:List (Addr×Obj)) (s:Shared) (Z:St) (H:Hp) (x:V) (v:Value) (Q:Bool->Hp->Prop),dX X pins Z H s->cE x v->r x H Q ->
   wpAny (model X.prog X.w) X.A (truthy v) (TP X pins Z Q) X.xe s
def Gu(r:R2)(a tb:TE):TE:=λZ H Q=>a Z H λx b=>tb Z b λy c=>r x y c Q
def LX(r:V->Hp->VK->Prop)(a:TE):TE:=λZ H Q=>a Z H λx b=>r x b Q
def rI(C:Int->Int->Prop)(g:Int->Int->V):R2:=λx y H Q=>∃i j,x=.int i/\y=.int j/\C i j/\Q (g i j) H
def Dc(g:Int->Int->V):R2:=λx y H Q=>∃i j,x=.int i/\y=.int j/\Q (g i j) H
def rU(g:Int->V):V->Hp->VK->Prop:=λx H Q=>∃i,x=.int i/\Q (g i) H
def Kf{Z:St}{R:V->V->Hp->Prop}{f:Value->Value->Sem Value}(ha:PE X a ta)(hb:PE X b tb)(I:dX X pins Z H s)
  (h:ta Z H λx g=>tb Z g λy c=>R x y c)  
  (i:∀v u s2 x y c,dX X pins Z c s2->cE x v->cE y u->R x y c->wpAny (model X.prog X.w) X.A (f v u) Q X.xe s2) :
  wpAny (model X.prog X.w) X.A (eval a X.env) (λv d=>wpAny (model X.prog X.w) X.A (eval b X.env) (λu e=>wpAny (model X.prog X.w) X.A (f v u) Q X.xe e) X.xe d) X.xe s:=by
 refine thn (ha pins s Z H _ I h) λv s1 Z0=>?_;obtain⟨x,g,j,k,l⟩:=Z0;refine thn (hb pins s1 Z g _ j l) λu s2 ⟨y,c,m,n,o⟩=>?_;exact i v u s2 x y c m k n o
def Tt(d:Ak X (binaryOp c) r)(ha:PE X a ta)(hb:PE X b tb):PE X (.BinOp a c b pos) (Gu r ta tb):=by
 intro pins s Z H Q I h;exact wpAny_BinOp (Kf ha hb I h λv u s2 x y e f g i q=>d pins s2 Z e x y v u Q f g i q)
def Tu(c:IU X (unaryOp b) r)(ha:PE X a ta):PE X (.UnaryOp b a pos) (LX r ta):=by
 intro pins s Z H Q I h;exact UnaryOp_ (thn (ha pins s Z H _ I h) λv s1 ⟨x,d,e,f,g⟩=>c pins s1 Z d x v Q e f g)
def HR{g:Int->Int->Int}
  (rule:∀(i j:Int) (t u:Tok) (s:Shared) (Q:Value->Shared->Prop) (E:Value->Shared->Prop),C i j->Q (.int (g i j) s.toks) {s with toks:=s.toks+1}->wpAny (model X.prog X.w) X.A (f (.int i t) (.int j u)) Q E s) :
  Ak X f (rI C λi j=>.int (g i j)):=by
 intro pins s Z H x y v u Q I a b h;obtain⟨i,j,rfl,rfl,hc,q⟩:=h;obtain⟨t,rfl⟩:=a;obtain⟨c,rfl⟩:=b;exact rule i j t c s _ _ hc ⟨.int (g i j),H,I.tok _,⟨_,rfl⟩,q⟩
def LY{g:Int->Int->Int}
  (rule:∀(i j:Int) (t u:Tok) (s:Shared) (Q:Value->Shared->Prop) (E:Value->Shared->Prop),Q (.int (g i j) s.toks) {s with toks:=s.toks+1}->wpAny (model X.prog X.w) X.A (f (.int i t) (.int j u)) Q E s) :
  Ak X f (Dc λi j=>.int (g i j)):=by
 intro pins s Z H x y v u Q I a b h;obtain⟨i,j,rfl,rfl,q⟩:=h;obtain⟨t,rfl⟩:=a;obtain⟨c,rfl⟩:=b;exact rule i j t c s _ _ ⟨.int (g i j),H,I.tok _,⟨_,rfl⟩,q⟩
def Kg{g:Int->Int->Bool}
  (rule:∀(i j:Int) (t u:Tok) (s:Shared) (Q:Value->Shared->Prop) (E:Value->Shared->Prop),Q (.bool (g i j)) s->wpAny (model X.prog X.w) X.A (f (.int i t) (.int j u)) Q E s) :
  Ak X f (Dc λi j=>.bl (g i j)):=by
 intro pins s Z H x y v u Q I a b h;obtain⟨i,j,rfl,rfl,q⟩:=h;obtain⟨t,rfl⟩:=a;obtain⟨c,rfl⟩:=b;exact rule i j t c s _ _ ⟨.bl (g i j),H,I,rfl,q⟩
def Gv(i j:Int):Prop:=0<=j/\j<=1000000/\i.natAbs<2^64
def HS(i j:Int):Prop:=(-(2^64)<i/\i<2^64)\/(-(2^64)<j/\j<2^64)
theorem HS.ok(h:HS i j):IntMulOk i j:=by
 rcases h with⟨a,b⟩|⟨a,b⟩;exact .of_left (intBits_le_64 a b);exact .of_right (intBits_le_64 a b)
def Tv:Ak X (binaryOp .Add) (Dc λi j=>.int (i+j)):=LY λ_ _ _ _ _ _ _ q=>add_int q
def Tz:Ak X (binaryOp .Sub) (Dc λi j=>.int (i-j)):=LY λ_ _ _ _ _ _ _ q=>sub_int q
def TB:Ak X (binaryOp .Mult) (rI HS λi j=>.int (i*j)):=HR λ_ _ _ _ _ _ _ hc q=>mul_int q hc.ok
def TC:Ak X (binaryOp .Mod) (rI (λ_ j=>0<j) λi j=>.int (i % j)):=HR λi j _ _ _ _ _ hc q=>by
 exact mod_int' (by lia) (by rw[Int.fmod_eq_emod_of_nonneg i (by lia)];exact q)
def TF:Ak X (binaryOp .Pow) (rI Gv λi j=>.int (i^j.toNat)):=HR λ_ _ _ _ _ _ _ hc q=>pow_int_small hc.1 hc.2.1 hc.2.2 q
def TJ{g:Int->Int}
  (rule:∀(i:Int) (t:Tok) (s:Shared) (Q:Value->Shared->Prop) (E:Value->Shared->Prop),Q (.int (g i) s.toks) {s with toks:=s.toks+1}->wpAny (model X.prog X.w) X.A (f (.int i t)) Q E s) :
  IU X f (rU λi=>.int (g i)):=by
 intro pins s Z H x v Q I a h;obtain⟨i,rfl,q⟩:=h;obtain⟨t,rfl⟩:=a;exact rule i t s _ _ ⟨.int (g i),H,I.tok _,⟨_,rfl⟩,q⟩
def TL:IU X (unaryOp .USub) (rU λi=>.int (-i)):=TJ λ_ _ _ _ _ q=>neg_int q
def R8:decide (V.str i=V.str j)=(i==j):=by
 rw[FA];simp
def LZ{Z:St}(I:dX X pins Z H s)(q:Q (.bl k) H)(e:k=a):EP X pins Z Q (.bool a) s:=by
 subst e;exact⟨.bl k,H,I,rfl,q⟩
def Ma:Ak X (compareOp .Lt) (Dc λi j=>.bl (decide (i<j))):=Kg λ_ _ _ _ _ _ _ q=>lt_int q
def Mb:Ak X (compareOp .Gt) (Dc λi j=>.bl (decide (j<i))):=Kg λ_ _ _ _ _ _ _ q=>gt_int q
def TM:Ak X (compareOp .GtE) (Dc λi j=>.bl (decide (j<=i))):=Kg λ_ _ _ _ _ _ _ q=>ge_int q
def TN:Ak X (compareOp .In) (λx y H Q=>∃i j,x=.str i/\y=.str j/\Q (.bl (!(occurrences j i 0 j.length 1).isEmpty)) H):=by
 intro pins s Z H x y v u Q I a b h;obtain⟨i,j,rfl,rfl,q⟩:=h;obtain⟨t,rfl⟩:=a;obtain⟨c,rfl⟩:=b;exact in_str (LZ I q rfl)
def tM:Ak X (compareOp .NotIn) (λx y H Q=>∃i j,x=.str i/\y=.str j/\Q (.bl (!(!(occurrences j i 0 j.length 1).isEmpty))) H):=by
 intro pins s Z H x y v u Q I a b h;obtain⟨i,j,rfl,rfl,q⟩:=h;obtain⟨t,rfl⟩:=a;obtain⟨c,rfl⟩:=b;exact notIn_str (LZ I q rfl)
def Ak.or(h:Ak X f r)(h':Ak X f a):Ak X f (λx y H Q=>r x y H Q\/a x y H Q):=by
 intro pins s Z H x y v u Q I b c q;rcases q with q|q;exact h pins s Z H x y v u Q I b c q;exact h' pins s Z H x y v u Q I b c q
def lZ(b:Expr)(h:a≠.In:=by decide)(e:a≠.NotIn:=by decide):behindInMarks a b=false:=by
 have c:(a==CmpOp.In)=false:=by lia
 have d:(a==CmpOp.NotIn)=false:=by lia
 cases b<;>first|rfl|(show(_&&(_||_)&&_)=false;rw[c,d];simp)
def TQ(d:Ak X (compareOp c) r)(ha:PE X a ta)(hb:PE X b tb)(hm:behindInMarks c b=false):PE X (.Compare a [c] [b] pos) (Gu r ta tb):=by
 intro pins s Z H Q I h;exact wpAny_Compare1 (Kf ha hb I h λv u s2 x y e f g i q=>d pins s2 Z e x y v u Q f g i q) hm
def TR(t:TE):TT:=λZ H Q=>t Z H λx H'=>∃k,x=.bl k/\Q k H'
def TU(f:Ak X (compareOp d) r)(ha:PE X a ta)(hb:PE X b tb)(hm:behindInMarks d b=false):PT X (.Compare a [d] [b] pos) (TR (Gu r ta tb)):=by
 intro pins s Z H Q I h;refine wpAny_isTrue_Compare1 (thn (ha pins s Z H _ I h) λv s1 ⟨x,g,i,j,l⟩=>thn (hb pins s1 Z g _ i l) λu s2 ⟨y,m,n,o,p⟩=>
  thn (f pins s2 Z m x y v u _ n j o p) λc B ⟨z,q,t,w,k,e,A⟩=>?_) hm
 subst e;cases w;exact Hw ⟨q,t,A⟩
def Mc(K:W.Frag)(x:V)(H:Hp)(k:Bool):Prop:=
 match x with
 |.non=>k=false
 |.bl b=>k=b
 |.int i=>k=(i != 0)
 |.str y=>y.length<=sizeLine/\k=((y.length:Int) != 0)
 |.byt y=>y.size<=sizeLine/\k=((y.size:Int) != 0)
 |.ref p=>(∃xs,AL K H p xs/\k = !xs.isEmpty)\/(∃xs,BI K H p xs/\k = !xs.isEmpty)\/∃kvs,H p=some (.dK kvs)/\k = !kvs.isEmpty
 |_=>False
def TV{vs:List (κ×Value)}(r:KV kvs vs):(!vs.isEmpty) = !kvs.isEmpty:=by
 cases r<;>rfl
def pC(r:bJ xs its):(!its.toArray.isEmpty) = !xs.isEmpty:=by
 cases r<;>simp
def nE:(sizeLine:Nat)<2^63:=by decide
def TX:Ts X (λx H Q=>∃k,Mc X.K x H k/\Q k H):=by
 intro pins s Z H x v Q I d h;obtain⟨k,e,q⟩:=h;have l:=nE;have hs:sizeLine=16777216:=DL;cases x with
 | non=>
   cases d;have a:k=false:=e;subst a;exact truthy_none ⟨H,I,q⟩
 | bl b=>
   cases d;have a:k=b:=e;subst a;exact Hw ⟨H,I,q⟩
 | int i=>
   obtain⟨t,rfl⟩:=d;have a:k=(i != 0):=e;subst a;exact PySem.P.truthy_int ⟨H,I,q⟩
 | str y=>
   obtain⟨t,rfl⟩:=d;obtain⟨j,a⟩:y.length<=sizeLine/\k=((y.length:Int) != 0):=e;subst a;exact PySem.P.truthy_str (by lia) ⟨H,I.tok _,q⟩
 | byt y=>
   obtain⟨t,rfl⟩:=d;obtain⟨j,a⟩:y.size<=sizeLine/\k=((y.size:Int) != 0):=e;subst a;exact W.truthy_bytes (by lia) ⟨H,I.tok _,q⟩
 | ref p=>
   cases d;have a:(∃xs,AL X.K H p xs/\k = !xs.isEmpty)\/(∃xs,BI X.K H p xs/\k = !xs.isEmpty)\/∃kvs,H p=some (.dK kvs)/\k = !kvs.isEmpty:=e;rcases a with⟨xs,f,a⟩|⟨xs,f,a⟩|⟨kvs,f,a⟩;subst a;obtain⟨its,r,pl,g⟩:=I.list f;have c:=r.length;exact wpAny_truthy_list pl.isList (by simp only[size_toArray];lia) ⟨H,I.tok _,by rw[pC r];exact q⟩;subst a;obtain⟨its,r,pl,g⟩:=I.tuple f;have c:=r.length;exact truthy_tuple pl (by simp only[size_toArray];lia) ⟨H,I.tok _,by rw[pC r];exact q⟩;subst a;obtain⟨g,hS,vs,r,m⟩:kvs.length<=sizeLine/\(p==sysModules)=false/\∃vs,KV kvs vs/\s.heap.DictOf (bA X.prog X.w) p vs:=I.hok p _ f;have c:kvs.length=vs.length:=Paired.length r;exact wpAny_truthy_dict hS m (by lia) ⟨H,I.tok _,by rw[TV r];exact q⟩
 |_=>exact(show False from e).elim
def TY(ha:PE X a ta)(c:∀ b,isTrue a X.env b=(do let v ← b;standAt a.pos;holding [v] (truthy v))) :
  PT X a (λZ H Q=>ta Z H λx H'=>∃k,Mc X.K x H' k/\Q k H'):=by
 intro pins s Z H Q I h;exact isTrue_plain (thn (ha pins s Z H _ I h) λv s1 ⟨x,d,e,f,g⟩=>TX pins s1 Z d x v Q e f g) (c _)
def TZ:Ak X (binaryOp .Add) (λx y H Q=>∃i j,x=.str i/\y=.str j/\i.length+j.length<=sizeLine/\Q (.str (i++j)) H):=by
 intro pins s Z H x y v u Q I a b h;obtain⟨i,j,rfl,rfl,c,q⟩:=h;obtain⟨t,rfl⟩:=a;obtain⟨d,rfl⟩:=b;exact add_str (λd tk=>⟨.str (i++j),H,I.tok _,⟨_,rfl⟩,q⟩) c
def tN(r:bJ [x] us):∃u,us=[u]/\cE x u:=by
 cases r with
 |cons b a=>cases a;simp_all
def Kh(r:bJ [x,y] us):∃u a,us=[u,a]/\cE x u/\cE y a:=by
 cases r with
 | cons b c=>
   cases c with
   |cons d e=>cases e;exact⟨_,_,rfl,b,d⟩
def Ua(hc:X.calm=true):iT X (.builtin "max") (λxs H Q=>∃i j,xs=[.int i,.int j]/\Q (.int (if j > i then j else i)) H):=by
 intro pins s Z H xs us Q I r h;obtain⟨i,j,rfl,q⟩:=h;obtain⟨u,a,rfl,⟨t,rfl⟩,⟨b,rfl⟩⟩:=Kh r;refine max_two_ints (I.ok.hd hc) λh' tk k=>⟨_,H,I.kept k,?_,q⟩;by_cases hj:j > i;rw[fI hj,fI hj];exact⟨_,rfl⟩;rw[gX hj,gX hj];exact⟨_,rfl⟩
def Ub(hc:X.calm=true):iT X (.builtin "min") (λxs H Q=>∃i j,xs=[.int i,.int j]/\Q (.int (if j<i then j else i)) H):=by
 intro pins s Z H xs us Q I r h;obtain⟨i,j,rfl,q⟩:=h;obtain⟨u,a,rfl,⟨t,rfl⟩,⟨b,rfl⟩⟩:=Kh r;refine min_two_ints (I.ok.hd hc) λh' tk k=>⟨_,H,I.kept k,?_,q⟩;by_cases hj:j<i;rw[fI hj,fI hj];exact⟨_,rfl⟩;rw[gX hj,gX hj];exact⟨_,rfl⟩
def Uc:iT X (.type "int") (λxs H Q=>(∃i,xs=[.int i]/\Q (.int i) H)\/∃k,xs=[.bl k]/\Q (.int (if k then 1 else 0)) H):=by
 intro pins s Z H xs us Q I r h;rcases h with⟨i,rfl,q⟩|⟨k,rfl,q⟩;obtain⟨u,rfl,t,rfl⟩:=tN r;exact call_int_int ⟨.int i,H,I,⟨_,rfl⟩,q⟩;obtain⟨u,rfl,a⟩:=tN r;cases a;exact call_int_bool ⟨.int (if k then 1 else 0),H,I.tok _,⟨_,rfl⟩,q⟩
structure FG(h:Heap)(x dx C:Addr)(mA:Str->Option Value):Prop where
 obj:h.get? x=some (W.instObj C dx)
 ns:h.Ns1 dx mA
 ne:dx≠x
def Ud{h:Heap}(n:h.Ns1 dx mA):∃ od,h.get? dx=some od/\∀ name,W.lookIn name od=some (mA name):=by
 obtain⟨o,es,ep,c,hd,d,_,hm⟩:=n;refine⟨o,c,λname=>?_⟩;have e:=hm name;unfold nsFind findBy at e;rw[← Array.find?_toList]at e;unfold W.lookIn;rw[hd];dsimp only;split
 ·simp_all
 ·rename_i q;rw[q]at e;have a:es.toList.any (·.refKey)=false:=by
   rw[List.any_eq_false];intro y f;obtain⟨z,t,b⟩:=d y (Array.mem_toList_iff.mp f);simp[DictEntry.refKey,b]
  grind
def FG.look(I:FG h x dx C mA):∃od,W.InstAt h x (W.instObj C dx) C (some od)/\∀name,W.lookIn name od=some (mA name):=
 let ⟨od,a,hl⟩:=Ud I.ns
 ⟨od,⟨I.obj,rfl,rfl,a⟩,hl⟩
def CG.some_of(r:CG (some v) o):∃u,o=some u/\cE v u:=by
 cases o with
 |none=>exact(show False from r).elim
 |some u=>exact⟨u,rfl,r⟩
def gJ(hok:AA P w H h)(e:H a=some (.ins C dx fs)):∃mA,FG h a dx C mA/\(∀f,CG (fs.lookup f) (mA f))/\Within mA (fs.map (·.1))/\fs.length<=1000/\H dx=some (.own a):=by
 obtain⟨d,z,ne,ob,mA,n,r,q⟩:=(show cH P w H h a (.ins C dx fs)from hok a _ e);exact⟨mA,⟨ob,n,ne⟩,r,q,z,d⟩
structure Ki(K:W.Frag)(C:Addr):Prop where
 pg:W.plainGet K C Str.empty=true
 hd:W.hasDictIn K C=true
 po:W.plainOver K C=true
 sa:W.findIn K (.ref C) "__setattr__"=some (some (.builtin "object.__setattr__"))
def Ki.get{K:W.Frag}(c:Ki K C)(f:Str):W.plainGet K C f=true:=c.pg
inductive AG(K:W.Frag)(H:Hp):V->Value->Prop where
 |non:AG K H .non (.type "NoneType")
 |bl (x:Bool):AG K H (.bl x) (.type "bool")
 |int (i:Int):AG K H (.int i) (.type "int")
 |str (x:Str):AG K H (.str x) (.type "str")
 |flt (x:UInt64):AG K H (.flt x) (.type "float")
 |lst {a:Addr} {xs:List V} (e:H a=some (.lst xs)):AG K H (.ref a) (.type "list")
 |frz {a:Addr} {o:Obj} {xs:List V} (e:H a=some (.frz o (.lst xs))):AG K H (.ref a) (.type "list")
 |tup {a:Addr} {xs:List V} (e:H a=some (.tup xs)):AG K H (.ref a) (.type "tuple")
 |dK {a:Addr} {kvs:List (Key×V)} (e:H a=some (.dK kvs)):AG K H (.ref a) (.type "dict")
 |dT {a:Addr} {kvs:List (List Key×V)} (e:H a=some (.dT kvs)):AG K H (.ref a) (.type "dict")
 | ins {a C dx:Addr} {fs:List (Str×V)} (e:H a=some (.ins C dx fs)) (cl:Ki K C) (ha:W.findIn K (.ref C) "__class__"=some (some (.builtin "object.__class__")))
   (hn:W.specialIn K (.builtin "object.__class__") "__get__"=some (some (.builtin "getset_descriptor.__get__"))) (htk:W.takesIn K (.builtin "object.__class__")=some true)
   (hm:W.mroIn K C (.type "object")=some true):AG K H (.ref a) (.ref C)
def Ue{Z:St}(I:dX X pins Z H s)(d:cE x u)(ty:AG X.K H x t)(e:W.kitOne X.K t c=some b)(h:∀ tk,Q (.bool b) {s with toks:=tk}) :
  wpAny (model X.prog X.w) A (call (.builtin "isinstance") [u,c]) Q E s:=by
 cases ty with
 |non=>cases (show u=Value.none from d);exact Du W.kitx_none I.kIn True.intro e (λz=>nomatch z) h
 |bl y=>cases (show u=Value.bool y from d);exact Du W.kitx_bool I.kIn True.intro e (λz=>nomatch z) h
 |int i=>obtain⟨t,q⟩:=(show ∃t,u=Value.int i t from d);cases q;exact Du W.kitx_int I.kIn True.intro e (λz=>nomatch z) h
 |str y=>obtain⟨t,q⟩:=(show ∃t,u=Value.str y t from d);cases q;exact Du W.kitx_str I.kIn True.intro e (λz=>nomatch z) h
 |flt y=>obtain⟨t,q⟩:=(show ∃t,u=float y t from d);cases q;exact Du W.kitx_float I.kIn True.intro e (λz=>nomatch z) h
 | @lst a xs f=>
   cases (show u=Value.ref a from d);obtain⟨_,_,n,_,g⟩:=(show cH X.prog X.w H s.heap a (.lst xs)from I.hok a _ f);exact Du W.kitx_list I.kIn ⟨_,g,rfl⟩ e (λz=>nomatch z) h
 | @frz a ob xs f=>
   cases (show u=Value.ref a from d);obtain⟨_,_,_,n,_,g⟩:=(show cH X.prog X.w H s.heap a (.frz ob (.lst xs))from I.hok a _ f);exact Du W.kitx_list I.kIn ⟨_,g,rfl⟩ e (λz=>nomatch z) h
 | @tup a xs f=>
   cases (show u=Value.ref a from d);obtain⟨_,_,_,p,_⟩:=(show cH X.prog X.w H s.heap a (.tup xs)from I.hok a _ f);obtain⟨o,g,j,_⟩:=p;exact Du W.kitx_tuple I.kIn ⟨o,g,j⟩ e (λz=>nomatch z) h
 | @dK a kvs f=>
   cases (show u=Value.ref a from d);obtain⟨_,_,vs,_,p⟩:=(show cH X.prog X.w H s.heap a (.dK kvs)from I.hok a _ f);obtain⟨o,es,ep,g,j,_⟩:=p;exact Du W.kitx_dict I.kIn ⟨o,g,j.1⟩ e (λz=>nomatch z) h
 | @dT a kvs f=>
   cases (show u=Value.ref a from d);obtain⟨_,_,xs,_,o,es,ep,g,j,_⟩:=(show cH X.prog X.w H s.heap a (.dT kvs)from I.hok a _ f);exact Du W.kitx_dict I.kIn ⟨o,g,j.1⟩ e (λz=>nomatch z) h
 | @ins a C dx fs f cl ha hn htk hm=>
   cases (show u=Value.ref a from d);obtain⟨mA,π,_⟩:=gJ I.hok f;obtain⟨od,J,_⟩:=π.look;exact Du (W.kitx_own (cl.get _) cl.hd ha hn htk hm) I.kIn J e (λz=>nomatch z) h
structure Af(k:Nat)(A:Around):Prop where
 hd:A.handled=none
 dp:A.depth+3*k+5<recursionLimit
 un:A.units+16*k+200<cLine
 gd:A.guards=some []
def Af.mono(r:Af k A)(h:j<=k):Af j A:=⟨r.hd,by have:=r.dp;lia,by have:=r.un;lia,r.gd⟩
theorem Af.deeper(r:Af (k+1) A)(env:Env):Af k (A.deeper env):=
 ⟨r.hd,by have:=r.dp;show A.depth+1+3*k+5 < _;lia,by have:=r.un;show A.units+3+16*k+200 < _;lia,r.gd⟩
theorem Af.depth(r:Af k A):A.depth<recursionLimit:=by have:=r.dp;lia
theorem Af.units(r:Af k A):A.units+64<cLine:=by have:=r.un;lia
def IV:TA:=λ_ H Q=>Q [] H
def Kj(a:TE)(tr:TA):TA:=λZ H Q=>a Z H λx b=>tr Z b λxs c=>Q (x::xs) c
def Kk:PA X [] IV:=λ_ _ _ _ H Q I h=>Calls.spliced_nil ⟨[],H,I,.nil,h⟩
def wJ(ha:PE X e te)(a:PA X es t)(hs:starEach (e::es) X.env=(false,eval e X.env)::starEach es X.env:=by rfl):PA X (e::es) (Kj te t):=by
 intro pos pins s Z H Q I h;rw[hs];refine Calls.spliced_cons (thn (ha pins s Z H _ I h) λu s1 Z0=>?_);obtain⟨x,b,c,d,f⟩:=Z0;exact thn (a pos pins s1 Z b _ c f) λus s2 ⟨xs,g,i,j,k⟩=>⟨x::xs,g,i,.cons d j,k⟩
def Ug(t:TA):TE:=λZ H Q=>t Z H λxs a=>xs.length<=sizeLine/\∀p,a p=none->Q (.ref p) (gY a p (.tup xs))
def Kl(t:TA):TE:=λZ H Q=>t Z H λxs a=>xs.length<=sizeLine/\∀p,a p=none->Q (.ref p) (gY a p (.lst xs))
def Uh(h:PA X es t):PE X (.Tuple es d pos) (Ug t):=by
 intro pins s Z H Q I f;refine wpAny_Tuple_spliced (thn (h pos pins s Z H _ I f) λus s1 ⟨xs,a,c,r,z,q⟩=>⟨by rw[← r.length];exact z,?_⟩);have g:a s1.heap.objs.size=none:=c.hok.fresh (hF _);refine⟨.ref s1.heap.objs.size,gY a s1.heap.objs.size (.tup xs),c.laid (t':=s1.toks) (λb u e=>sU _ e) (hF _) ?_,rfl,q _ g⟩;exact⟨z,us,r,⟨_,Ad _ rfl,rfl,_,rfl⟩,⟨_,Ad _ rfl,rfl⟩⟩
def Me(h:PA X es t):PE X (.List es pos) (Kl t):=by
 intro pins s Z H Q I d;refine wpAny_List_spliced (thn (h pos pins s Z H _ I d) λus s1 ⟨xs,a,c,r,z,q⟩=>⟨by rw[← r.length];exact z,?_⟩);have f:a s1.heap.objs.size=none:=c.hok.fresh (hF _);refine⟨.ref s1.heap.objs.size,gY a s1.heap.objs.size (.lst xs),c.laid (t':=s1.toks) (λb u e=>sU _ e) (hF _) ?_,rfl,q _ f⟩;exact⟨z,us,0,r,Ad _ rfl⟩
abbrev Sp:=List V->Hp->VK->XK->Prop
abbrev Gw:=List Env->Hp->Shared->XK->Value->Shared->Prop
structure Ep(P:Program)(w:World)(K:W.Frag)(mg:Str->Option Value)(base:Heap)(A:Around)(outer:List Env)(s:Shared)(H:Hp):Prop where
 frames:A.frames=some outer
 mod:Mod K mg base
 bs:∀b o,base.get? b=some o->s.heap.get? b=some o/\H b=none
 bsz:base.objs.size<=s.heap.objs.size
 funs:s.heap.FunFrames base outer
 frf:∀b∈frs outer,H b=none
 hok:AA P w H s.heap
 bare:AllBare s.gens
def CE(outer:List Env)(P:Program)(w:World)(H:Hp)(s:Shared)(Q:VK)(u:Value)(s':Shared):Prop:=
 ∃v H',s'.os=s.os/\AllBare s'.gens/\Un (frs outer) [] H H' s.heap s'.heap/\AA P w H' s'.heap/\cE v u/\Q v H'
def CR(CX:Gw)(outer:List Env)(P:Program)(w:World)(H:Hp)(s:Shared)(Q:VK)(E:XK)(r:Result)(s':Shared):Prop:=
 match r with
 |.ok (.ret u)=>CE outer P w H s Q u s'
 |.ok _=>False
 |.error e=>CX outer H s E e s'
structure AR(P:Program)(w:World)(K:W.Frag)(mg:Str->Option Value)(base:Heap)(CX:Gw)(k:Nat)(f:Addr)(fd:FuncData)(ps:List Str)(sp:Sp):Prop where
 len:∀vs H Q E,sp vs H Q E->vs.length=ps.length
 run:∀(A:Around) (outer:List Env) (s:Shared) (H:Hp) (args:Args) (us:List Value) (vs:List V) (Q:VK) (E:XK),Af k A->Ep P w K mg base A outer s H->BindsTo s fd args (ps.zip us)->bJ vs us->sp vs H Q E ->
  codeAny (model P w) A (.call (.ref f) args) (CR CX outer P w H s Q E) s
def AR.imp{K:W.Frag}(F:AR P w K mg base CX k f fd ps sp)
  (h:∀vs H Q E,a vs H Q E->sp vs H Q E):AR P w K mg base CX k f fd ps a:=
 ⟨λvs H Q E q=>F.len vs H Q E (h _ _ _ _ q),λA outer s H args us vs Q E b c hb d hs=>F.run A outer s H args us vs Q E b c hb d (h _ _ _ _ hs)⟩
def dX.env0{Z:St}(I:dX X pins Z H s):Ep X.prog X.w X.K X.mg X.base X.A X.stack s H:=
 ⟨I.ok.frames,I.ok.mod,I.bs,oT I.ok.bsz I.sz,I.stack,I.stkFree,I.hok,I.bare⟩
def dX.after{Z:St}(I:dX X pins Z H s)(h:CE X.stack X.prog X.w H s Q u s'):EP X pins Z Q u s':=by
 obtain⟨v,H',os,bare,un,hok,r,q⟩:=h;obtain⟨c,g,d,t,a⟩:=s';obtain rfl:a=s.os:=os;exact⟨v,H',I.call (h':=c) (g':=g) (d':=d) (t':=t) (ch:=[]) un hok bare (λb z=>absurd z (by simp)),r,q⟩
def Km(sp:Sp)(a:List V)(E:XK)(t:TA):TE:=λZ H Q=>t Z H λvs b=>sp (vs++a) b Q E
def Gx(K:W.Frag)(fd:FuncData)(ps:List Str)(ds:List Value):Prop:=
 ∀(s:Shared) (us:List Value),K.In s.heap->(us++ds).length=ps.length->BindsTo s fd ⟨us,[]⟩ (ps.zip (us++ds))
def Gx.all{K:W.Frag}(h:∀us:List Value,us.length=ps.length->bindArgs fd ⟨us,[]⟩=pure (ps.zip us)):Gx K fd ps []:=λs us _ a=>by
 rw[Dw]at a ⊢;exact .of_eq (h us a)
def Kn(CX:Gw)(X:Cx)(E:XK):Prop:=∀(pins:List (Addr×Obj)) (Z:St) (H:Hp) (s:Shared) (e:Value) (s':Shared),dX X pins Z H s->CX X.stack H s E e s'->X.xe e s'
def Ui{Z:St}(F:AR X.prog X.w X.K X.mg X.base CX k f fd ps sp)(c:Af k X.A)(hb:Gx X.K fd ps ds)(hd:bJ dvs ds)(d:Kn CX X E)
  (I:dX X pins Z H s) (r:bJ vs us) (h:sp (vs++dvs) H Q E):wpAny (model X.prog X.w) X.A (call (.ref f) us) (EP X pins Z Q) X.xe s:=by
 have b:bJ (vs++dvs) (us++ds):=r.append hd;have g:(us++ds).length=ps.length:=by rw[← b.length];exact F.len _ _ _ _ h
 refine wpAny_call (HB (F.run X.A X.stack s H ⟨us,[]⟩ (us++ds) (vs++dvs) Q E c I.env0 (hb s us I.kIn g) b h) λr s' a=>?_);cases r with
 |error e=>exact d pins Z H s e s' I a
 | ok i=>
   cases i with
   |ret u=>exact I.after a
   |next|brk|cont=>exact elim a
def Uj(F:AR X.prog X.w X.K X.mg X.base CX k f fd ps sp)(d:Af k X.A)(g:Gl X x)(hm:X.mg x=some (.ref f))(i:W.keepIn X.K (.ref f)=true)(hb:Gx X.K fd ps ds)(hd:bJ dvs ds)(j:Kn CX X E)
  (ha:PA X (e::es) t) (a:(x==("__debug__":Str))=false:=by decide) (l:starEach (e::es) X.env=(false,eval e X.env)::starEach es X.env:=by rfl) (b:(backTo pos (starEach es X.env)).any (·.1)=false:=by rfl) :
  PE X (.Call (.Name x p) (e::es) [] pos) (Km sp dvs E t):=by
 intro pins s Z H Q I h;refine Fs (Sz I g hm ?_ a);refine W.callWith_K (h₀:=X.base) I.ok.mod.kin i (thn (ha pos pins s Z H _ I h) λus s1 ⟨vs,m,c,r,q⟩=>⟨c.kIn,?_⟩) l b;exact Ui F d hb hd j c r q
structure Ay(N P:List Str)(sc:Scope):Prop where
 kind:sc.kind=.function
 co:sc.isCoroutine=false
 gen:sc.isGenerator=false
 nd:N.Nodup
 pre:N.take P.length=P
 par:∀x∈P,sc.names.lookup x=some .local\/sc.names.lookup x=some .cell
 nofree:∀y∈sc.names,y.2≠.free
theorem tO{kindOf:Str->Option NameKind}:∀ {binds:List (Str×Value)} {m:Str->Option Value},(∀ v,(x,v)∉binds)->bindL kindOf binds m x=m x
 |[],_,_=>rfl
 | (n,v)::r,m,h=>by
   unfold bindL;rw[tO λw a=>h w (Ah _ a)];split
   ·grind
   rfl
theorem tP{kindOf:Str->Option NameKind}:∀ {binds:List (Str×Value)} {m:Str->Option Value},(∀ v,(x,v)∉binds)->bindC kindOf binds m x=m x
 |[],_,_=>rfl
 | (n,v)::r,m,h=>by
   unfold bindC;rw[tP λw a=>h w (Ah _ a)];split;rfl
   grind
theorem tQ{kindOf:Str->Option NameKind}:∀ {P:List Str} {vs:List Value} {i:Nat} {m:Str->Option Value},P.Nodup->P[i]? = some x->vs[i]? = some v->kindOf x=some .local ->
  bindL kindOf (P.zip vs) m x=some v
 |[],_,_,_,_,h,_,_|_::_,[],_,_,_,_,h,_=>by simp at h
 | p::P,w::vs,0,m,nd,a,b,c=>by
   simp at a b;subst a;subst b;show bindL kindOf ((p,w)::P.zip vs) m p=_;unfold bindL;rw[tO λv d=>(CD.mp nd).1 (of_mem_zip d).1,fI c];simp
 | p::P,w::vs,i+1,m,nd,a,b,c=>by
   unfold bindL;exact tQ (i:=i) (CD.mp nd).2 (by simpa using a) (by simp_all) c
theorem tR{kindOf:Str->Option NameKind}:∀ {P:List Str} {vs:List Value} {i:Nat} {m:Str->Option Value},P.Nodup->P[i]? = some x->vs[i]? = some v->kindOf x≠some .local ->
  bindC kindOf (P.zip vs) m x=some v
 |[],_,_,_,_,h,_,_|_::_,[],_,_,_,_,h,_=>by simp at h
 | p::P,w::vs,0,m,nd,a,b,c=>by
   simp at a b;subst a;subst b;show bindC kindOf ((p,w)::P.zip vs) m p=_;unfold bindC;rw[tP λv d=>(CD.mp nd).1 (of_mem_zip d).1,gX c];simp
 | p::P,w::vs,i+1,m,nd,a,b,c=>by
   unfold bindC;exact tR (i:=i) (CD.mp nd).2 (by simpa using a) (by simp_all) c
noncomputable def iN(N:List Str)(vs:List V):St:=vs.map some++replicate (N.length-vs.length) none
noncomputable def EV(CX:Gw)(P:Program)(w:World)(K:W.Frag)(mg:Str->Option Value)(base:Heap)(N:List Str)(qual:Str)(scope:Scope)(f:Addr)(cd:Value)(A:Around)(outer:List Env)(s:Shared)(H:Hp)(E:XK):Cx where
 prog:=P
 w:=w
 K:=K
 mg:=mg
 base:=base
 A:=A.deeper (envOfC qual scope s.heap.objs.size f cd)
 N:=N
 s₀:=s
 H₀:=H
 env:=envOfC qual scope s.heap.objs.size f cd
 outer:=outer
 stack:=envOfC qual scope s.heap.objs.size f cd::outer
 ex:=[]
 calm:=true
 fn:=λ_=>true
 pn:=[]
 xe:=λe s'=>wpAny (model P w) (A.deeper (envOfC qual scope s.heap.objs.size f cd)) (leaving (envOfC qual scope s.heap.objs.size f cd) e) (λ_ a=>CX outer H s E e a) (λb a=>CX outer H s E b a) s'
def zG{sc:Scope}(h:sc.names.lookup x=some .cell):∃c,(cellsFrom n sc.names []).lookup x=some c:=by
 have q:=W.cellsFrom_some sc.names n [] (.inl h);exact Option.isSome_iff_exists.mp q
def Uk{K:W.Frag}
  (S:Ay N ps scope) (hd:A.handled=none) (a:Ep P w K mg base A outer s H) (F:vs.length=ps.length) (r:bJ vs us)
  (x:InCallC s s.heap.objs.size (bindL (envOfC qual scope s.heap.objs.size f cd).kindOf (ps.zip us) λ_=>none) (cellsFrom (s.heap.objs.size+1) scope.names []) (bindC (envOfC qual scope s.heap.objs.size f cd).kindOf (ps.zip us) λ_=>none) s1) :
  dX (EV CX P w K mg base N qual scope f cd A outer s H E) [] (iN N vs) H s1:=by
 have C:ps.length<=N.length:=by have:=Cq List.length S.pre;rw[Ei]at this;lia
 obtain⟨o,tk,rfl,t⟩:=x.done;have g:∀b:Addr,b∉(EV CX P w K mg base N qual scope f cd A outer s H E).ex:=λb z=>absurd (show b∈([]:List Addr)from z) (by simp);refine⟨⟨a.mod,S.kind,rfl,rfl,hF _,λy z c o d=>?_,λy j=>?_,λy c _ h=>?_,λ_=>hd,Around.frames_deeper a.frames,.inr ⟨rfl,rfl⟩,λb z=>absurd z (g b),a.bs,a.bsz,λb _ _=>g b,λb z=>absurd z (g b),a.funs,a.frf⟩,
  rfl,a.bare,Un.kept t,⟨_,x.toInCall.ns,λi y v o d G=>?_⟩,λy c h=>⟨_,x.cell y c h⟩,a.hok.fresh (hF _),λy c h=>?_,λp l=>absurd (show p∈([]:List (Addr×Obj))from l) (by simp),a.hok.kept t,?_⟩
 ·exact name_of_addr x.apart (HD o) (HD d)
 ·rcases j with j|j;exact zG j;exact absurd rfl (S.nofree _ (HD j))
 ·exact AQ (x.above y c (HD h))
 ·have hi:i < vs.length:=by
   unfold iN at d;by_cases hi:i<vs.length;exact hi;rw[DN (by simpa using hi)]at d;rw[List.getElem?_replicate]at d;split at d<;>cases d
  have ha:vs[i]?=some v:=by
   unfold iN at d;rw[BM (by simpa using hi),Ar]at d
   simp_all
  obtain⟨u,B,D⟩:=r.get ha;have l:ps[i]?=some y:=by
   rw[← S.pre,List.getElem?_take_of_lt (by simp_all)];exact o
  have m:ps.Nodup:=by rw[← S.pre];exact S.nd.sublist (take_sublist _ _)
  refine⟨u,D,?_⟩;rcases S.par y (AV l)with k|k;exact .inl ⟨k,tQ m l B k⟩;obtain⟨c,e⟩:=zG (n:=s.heap.objs.size+1) k;refine .inr ⟨.inl k,c,e,?_⟩;have q:=x.cell y c e;rw[tR m l B (by show scope.names.lookup y≠_;rw[k];decide)]at q;exact q
 ·exact a.hok.fresh (AQ (x.above y c (HD h)))
 ·unfold iN;show _=N.length
  grind
def Ul{K:W.Frag}{z kV doc pm cdv ct oc:Value}
     (lk:K.lookup f=some ⟨oc,od,.func (W.fnOf name qual a c scope z kV doc pm an1 cdv ct),osl⟩) (j:W.codeIn K cdv qual=true) (S:Ay N ps scope)
  (len:∀vs H Q E,sp vs H Q E->vs.length=ps.length)
  (d:∀(A:Around) (outer:List Env) (s:Shared) (H:Hp) (vs:List V) (Q:VK) (E:XK),Af k (A.deeper (envOfC qual scope s.heap.objs.size f cdv))->sp vs H Q E ->
   ∃t,Bv (EV CX P w K mg base N qual scope f cdv A outer s H E) c t/\t {nx:=λ_ H'=>Q .non H',rt:=Q} (iN N vs) H) :
  AR P w K mg base CX (k+1) f (W.fnOf name qual a c scope z kV doc pm an1 cdv ct) ps sp:=by
 refine⟨len,λA outer s H args us vs Q E l h hb r i=>?_⟩;have C:=len _ _ _ _ i;have B:K.In s.heap:=h.mod.kin.keeps λb o e=>(h.bs b o e).1;have m:s.heap.NoLimit:=h.mod.nolimit.keeps λb o e=>(h.bs b o e).1;have g:∀y∈ps.zip us,scope.names.lookup y.1=some .local\/(scope.names.lookup y.1=some .cell/\((cellsFrom (s.heap.objs.size+1) scope.names []).lookup y.1).isSome=true):=λ⟨n,v⟩ D=>by
  rcases S.par n (of_mem_zip D).1 with q|q;exact .inl q;exact .inr ⟨q,W.cellsFrom_some _ _ _ (.inl q)⟩
 refine codeAny_call_function l.depth (B _ _ lk) rfl S.co S.gen rfl (W.codeRec_of B j) (hb _ _ _ _ ?_);refine wpAny_newFunctionEnv_cells S.kind g λenv F s1 x=>?_;subst F;refine⟨m.keeps x.toInCall.keep,codeAny_func ?_⟩;obtain⟨t,G,L⟩:=d A outer s H vs Q E (l.deeper _) i;have I:dX (EV CX P w K mg base N qual scope f cdv A outer s H E) [] (iN N vs) H s1:=Uk S l.hd h C r x;refine Ca (G [] s1 (iN N vs) H _ I L) (λM s' hs=>?_) λe s' hs=>hs;have fin:∀{σ':St} {H':Hp} {v:V} {u:Value},dX (EV CX P w K mg base N qual scope f cdv A outer s H E) [] σ' H' s'->cE v u->Q v H'->CE outer P w H s Q u s':=
  λ{σ' H' v u} J p q=>⟨v,H',J.os,J.bare,J.base,J.hok,p,q⟩
 cases M with
 | ret u=>
   obtain⟨v,σ',H',J,p,q⟩:=hs;exact fin J p q
 | next=>
   obtain⟨σ',H',J,q⟩:=hs;exact fin (v:=V.non) (u:=Value.none) J rfl q
 | brk=>
   obtain⟨_,_,_,q⟩:=hs
   simp_all
 | cont=>
   obtain⟨_,_,_,q⟩:=hs
   simp_all
def Gy(r:List V->Hp->VK->Prop)(t:TA):TE:=λZ H Q=>t Z H λvs a=>r vs a Q
def kI{id:String}(hc:iT X (.builtin id) r)(c:Gl X x)(hm:X.mg x=none)(d:bootBuiltins x=some (.builtin id))(ha:PA X (e::es) t)(hn:x≠"__name__":=by decide)(a:(x==("__debug__":Str))=false:=by decide)
  (f:starEach (e::es) X.env=(false,eval e X.env)::starEach es X.env:=by rfl) (b:(backTo pos (starEach es X.env)).any (·.1)=false:=by rfl):PE X (.Call (.Name x p) (e::es) [] pos) (Gy r t):=by
 intro pins s Z H Q I h;refine Fs (iS I c hm d ?_ hn a);exact PyProof.Rows.callWith_builtin1 (thn (ha pos pins s Z H _ I h) λus s1 ⟨vs,g,i,j,k⟩=>hc pins s1 Z g vs us Q i j k) f b
def kJ(hc:iT X (.type T) r)(c:Gl X x)(hm:X.mg x=none)(d:bootBuiltins x=some (.type T))(ha:PA X (e::es) t)(hn:x≠"__name__":=by decide)(a:(x==("__debug__":Str))=false:=by decide)
  (f:starEach (e::es) X.env=(false,eval e X.env)::starEach es X.env:=by rfl) (b:(backTo pos (starEach es X.env)).any (·.1)=false:=by rfl):PE X (.Call (.Name x p) (e::es) [] pos) (Gy r t):=by
 intro pins s Z H Q I h;refine Fs (iS I c hm d ?_ hn a);exact EH (thn (ha pos pins s Z H _ I h) λus s1 ⟨vs,g,i,j,k⟩=>hc pins s1 Z g vs us Q i j k) f b
end
section
open PyProof.Rows
def cat_tup(j:IsTup s.heap t vs.toArray)(hb:IsTup s.heap b ws.toArray)(l:vs≠[])
  (h1:ws=[]->Q (.ref t) s) (k:ws≠[]->Q (.ref s.heap.objs.size) {s with heap:=s.heap.push {cls:=.type "tuple",data:=.seq (vs++ws).toArray}})
  (hsz:vs.length+ws.length<=sizeLine):wpAny (model prog w) A (binaryOp .Add (.ref t) (.ref b)) Q E s:=by
 obtain⟨⟨cls,h,data,sl⟩,d,hc,n,hd⟩:=id j;obtain⟨⟨i,c,data2,sl2⟩,a,f,n2,hd2⟩:=id hb;subst hc hd f hd2;have e:vs.toArray++ws.toArray=(vs++ws).toArray:=by simp
 by_cases g:ws=[]
 ·exact concat_meets ⟨_,d,rfl⟩ ⟨_,a,rfl⟩ noFill_tuple_add seq_tuple_add F.slot_tuple_add F.entry_tuple_add (F.args_tuple_add_2 _ _)
   (tuple_addW1 t b vs.toArray ws.toArray n n2 h c sl sl2 (by simp_all) (by simp[g])) ⟨d,a,h1 g⟩
 ·refine concat_meets ⟨_,d,rfl⟩ ⟨_,a,rfl⟩ noFill_tuple_add seq_tuple_add F.slot_tuple_add F.entry_tuple_add (F.args_tuple_add_2 _ _)
   (tuple_addW2 t b vs.toArray ws.toArray n n2 h c sl sl2 (by simp_all) (by simp_all) (by simp_all)) ⟨d,a,?_⟩
  rw[e];exact k g
noncomputable def sIx(n d:Nat):Option Int->Nat
 |none=>d
 |some v=>if v<0 then(v+(n:Int)).toNat else min v.toNat n
def sIx_none(n d:Nat):sIx n d none=d:=rfl
def sIx_nat(n d k:Nat):sIx n d (some (k:Int))=min k n:=rfl
def Mf(v:Int)(n d:Nat):(if v<0 then max (v+(n:Int)) 0 else min v (n:Int))=((sIx n d (some v):Nat):Int):=by
 show(if v<0 then max (v+(n:Int)) 0 else min v (n:Int))=(((if v<0 then(v+(n:Int)).toNat else min v.toNat n):Nat):Int)
 grind
def Um(lo hi:Option Int)(n:Nat):sliceAdjust lo hi 1 (n:Int)=(((sIx n 0 lo:Nat):Int),((sIx n n hi:Nat):Int)):=by
 have a:¬((1:Int)<0):=by lia
 refine Prod.ext ?_ ?_
 ·cases lo with
  |none=>rfl
  |some v=>exact Mf v n 0
 ·cases hi with
  |none=>rfl
  |some v=>exact Mf v n n
def Uo(i j:Nat):slicePlaces (i:Int) (j:Int) 1=j-i:=by
 unfold slicePlaces
 lia
def pE(p:IsPart v o)(h:Q o s):wpAny (model prog w) A (Builtin.Slice.slicePartIndex v) Q E s:=by
 cases p with
 |none=>exact slicePart_none h
 |int i t=>exact slicePart_int h
def iL{lo hi:Option Int}{Q:Int×Int×Nat->Shared->Prop}(hs:s.heap.IsSliceOf sl c d .none)(pl:IsPart c lo)(e:IsPart d hi)
  (h:Q (((sIx n 0 lo:Nat):Int),1,sIx n n hi-sIx n 0 lo) s):wpAny (model prog w) A (Builtin.Slice.sliceApplied (.ref sl) (pure (n:Int))) Q E s:=by
 obtain⟨os,a,f,b⟩:=id hs;refine dV (dV (AW a b (x:=c) rfl (dV (AW a b (x:=d) rfl (dV (AW a b (x:=.none) rfl (gV ?_)))))));refine dV (slicePart_none ?_);refine dV (pE pl (dV (pE e (dV (gV ?_)))));show wpAny _ _ (match sliceAdjust lo hi 1 (n:Int)with|(lo,hi)=>pure (lo,(1:Int),slicePlaces lo hi 1)) _ _ s;rw[Um lo hi n];show wpAny _ _ (pure (((sIx n 0 lo:Nat):Int),(1:Int),slicePlaces ((sIx n 0 lo:Nat):Int) ((sIx n n hi:Nat):Int) 1)) _ _ s;rw[Uo];exact gV h
def Uq(xs:Array Value)(i k:Nat):((range k).filterMap λ(m:Nat)=>xs[((i:Int)+(m:Int)*1).toNat]?).toArray=((xs.toList.drop i).take k).toArray:=by
 have e:(λ(m:Nat)=>xs[((i:Int)+(m:Int)*1).toNat]?)=λm=>xs[i+m]?:=by grind
 have:=pick_run xs i k;rw[List.filterMap_map]at this;have a:((λx=>xs[x]?) ∘ λx=>i+x)=λm=>xs[i+m]?:=rfl
 simp_all
def getItem_tuple_cut{lo hi:Option Int}(b:IsTup s.heap t items)(hs:s.heap.IsSliceOf sl g i .none)(pl:IsPart g lo)(j:IsPart i hi)
  (l:¬(sIx items.size 0 lo=0/\sIx items.size items.size hi=items.size))
  (h:Q (.ref s.heap.objs.size) {s with heap:=s.heap.push {cls:=.type "tuple",data:=.seq ((items.toList.drop (sIx items.size 0 lo)).take (sIx items.size items.size hi-sIx items.size 0 lo)).toArray}})
  (hsz:items.size<=sizeLine):wpAny (model prog w) A (getItem (.ref t) (.ref sl)) Q E s:=by
 have a:sizeOk (.seq ((items.toList.drop (sIx items.size 0 lo)).take (sIx items.size items.size hi-sIx items.size 0 lo)).toArray):=by
  show((items.toList.drop (sIx items.size 0 lo)).take (sIx items.size items.size hi-sIx items.size 0 lo)).toArray.size<=sizeLine;rw[CY,Ei,EM,BX];omega
 obtain⟨os,c,d,k⟩:=id hs;have e:s.TypeIs (.ref sl) "slice":=⟨os,c,d⟩;unfold getItem
 try with_reducible refine AE ?_
 refine dV (wpAny_sequenceKey b.typeIs (rfl) ?_);refine dV (wpAny_callSpecial?_slot (name:=ofString "__getitem__") b.typeIs Gj
  (Cp Gj b.typeIs entry_tuple_getitem ?_ (args_tuple_getitem _ _)))
 show wpAny _ _ (tupleItemsOf (.ref t) >>= _) _ _ s;refine dV (tupleItemsOf_ b ?_);refine dV (DK e ?_);refine dV (iL hs pl j ?_);have f:¬((((sIx items.size 0 lo:Nat):Int)==0&&(1:Int)==1&&(sIx items.size items.size hi-sIx items.size 0 lo)==items.size)=true):=by simp_all
 show wpAny _ _ (if(((sIx items.size 0 lo:Nat):Int)==0&&(1:Int)==1&&(sIx items.size items.size hi-sIx items.size 0 lo)==items.size)=true then _ else _) _ _ s;rw[gX f,Uq]
 first
  |exact dV (m:=tupleExact _) (EG (gV ⟨_,rfl,gV h⟩) a)
  |lia
  |rfl
  |lia
end
section
open PyProof.Rows Spec
abbrev TO:=St->Hp->(Option Int->Hp->Prop)->Prop
def PO(X:Cx)(e:Option Expr)(t:TO):Prop:=
 ∀ (pins:List (Addr×Obj)) (s:Shared) (Z:St) (H:Hp) (Q:Option Int->Hp->Prop),dX X pins Z H s->t Z H Q ->
   wpAny (model X.prog X.w) X.A (evalPart e X.env) (λu s'=>∃o H',dX X pins Z H' s'/\IsPart u o/\Q o H') X.xe s
def Ur:TO:=λ_ H Q=>Q none H
def Us(t:TE):TO:=λZ H Q=>t Z H λx a=>∃i,x=.int i/\Q (some i) a
def Ut:PO X none Ur:=by
 intro pins s Z H Q I h;exact gV ⟨none,H,I,.none,h⟩
def Uu(h:PE X e te):PO X (some e) (Us te):=by
 intro pins s Z H Q I a;refine thn (h pins s Z H _ I a) λu s1 Z0=>?_;obtain⟨x,b,c,d,f⟩:=Z0;obtain⟨i,rfl,q⟩:=f;obtain⟨t,rfl⟩:=d;exact⟨some i,b,c,.int i t,q⟩
def Gz(X:Cx)(r:V->Option Int->Option Int->Hp->VK->Prop):Prop:=
 ∀ (pins:List (Addr×Obj)) (s:Shared) (Z:St) (H:Hp) (x:V) (v a b:Value) (lo hi:Option Int) (sl:Addr) (Q:VK),dX X pins Z H s->cE x v->s.heap.IsSliceOf sl a b .none->IsPart a lo->IsPart b hi->r x lo hi H Q ->
   ∃T id,typeLookup (.type T) "__getitem__"=pure (some (.builtin id))/\s.TypeIs v T/\wpAny (model X.prog X.w) X.A (getItem v (.ref sl)) (EP X pins Z Q) X.xe s
def Uv(r:V->Option Int->Option Int->Hp->VK->Prop)(te:TE)(tl th:TO):TE:=λZ H Q=>te Z H λx a=>tl Z a λl b=>th Z b λu c=>r x l u c Q
def Uw{lo:Option Expr}(g:Gz X r)(i:PE X e te)(j:PO X lo tl)(k:PO X hi th):PE X (.Subscript e (.Slice lo hi none p2) pos) (Uv r te tl th):=by
 intro pins s Z H Q I h;refine Subscript_ (thn (i pins s Z H _ I h) λv s1 Z0=>?_);obtain⟨x,m,n,o,p⟩:=Z0;refine wpAny_Slice (thn (j pins s1 Z m _ n p) λc s2 ⟨l,t,w,pl,y⟩=>thn (k pins s2 Z t _ w y) λd a ⟨u,f,z,A,B⟩=>?_);refine gV ?_;have C:dX X pins Z f {a with heap:=a.heap.push {cls:=.type "slice",data:=.fields #[c,d,.none]}}:=z.kept (t':=a.toks) λb ob q=>sU _ q;obtain⟨T,id,hT,D,E⟩:=g pins {a with heap:=a.heap.push {cls:=.type "slice",data:=.fields #[c,d,.none]}} Z f x v c d l u a.heap.objs.size Q C o (Heap.IsSliceOf.new ..) pl A B;exact tail_any (ops:=[.ref a.heap.objs.size,v]) D hT E (rfl)
def wK(xs:List V)(lo hi:Option Int):List V:=(xs.drop (PySem.sIx xs.length 0 lo)).take (PySem.sIx xs.length xs.length hi-PySem.sIx xs.length 0 lo)
def nF(xs:List V)(lo hi:Option Int):(wK xs lo hi).length<=xs.length:=by
 unfold wK;rw[Ei,EM];lia
def Ux(K:W.Frag):V->Option Int->Option Int->Hp->VK->Prop:=λx lo hi H Q=>∃a xs,x=.ref a/\BI K H a xs /\
 ¬(PySem.sIx xs.length 0 lo=0/\PySem.sIx xs.length xs.length hi=xs.length)/\∀p,H p=none->Q (.ref p) (gY H p (.tup (wK xs lo hi)))
def Uy:Gz X (Ux X.K):=by
 intro pins s Z H x v k l lo hi sl Q I e hs pl f h;obtain⟨a,xs,rfl,g,i,q⟩:=h;cases e;obtain⟨its,r,d,j⟩:=I.tuple g;have c:its.toArray.size=xs.length:=by exact r.length.symm
 refine⟨"tuple",_,Gj.lookup,d.typeIs,?_⟩;refine PySem.getItem_tuple_cut d hs pl f (by rw[c];exact i) ?_ (by simp_all);rw[c];refine⟨.ref s.heap.objs.size,_,I.laid (t':=s.toks) (o:=.tup (wK xs lo hi)) (λb ob q=>sU _ q) (hF _) ?_,rfl,q _ (I.hok.fresh (hF _))⟩;exact⟨oT (nF xs lo hi) j,_,(r.drop (PySem.sIx xs.length 0 lo)).take (PySem.sIx xs.length xs.length hi-PySem.sIx xs.length 0 lo),IsTup.new _ _,⟨_,Ad _ rfl,rfl⟩⟩
def Uz(K:W.Frag):R2:=λx y H Q=>∃a b xs ys,x=.ref a/\y=.ref b/\BI K H a xs/\BI K H b ys/\xs≠[]/\xs.length+ys.length<=sizeLine /\
 (ys=[]->Q (.ref a) H)/\(ys≠[]->∀p,H p=none->Q (.ref p) (gY H p (.tup (xs++ys))))
def bJ.nil_iff(r:bJ xs us):us=[]↔xs=[]:=by
 cases r with
 |nil|cons _ _=>simp
def UA:Ak X (binaryOp .Add) (Uz X.K):=by
 intro pins s Z H x y v u Q I f g h;obtain⟨a,b,xs,ys,rfl,rfl,ha,hb,i,j,k,l⟩:=h;cases f;cases g;obtain⟨its,d,m,_⟩:=I.tuple ha;obtain⟨e,c,p2,_⟩:=I.tuple hb;refine PySem.cat_tup m p2 (λz=>i (d.nil_iff.mp z)) (λz=>⟨.ref a,H,I,rfl,k (c.nil_iff.mp z)⟩) (λz=>?_) (by rw[← d.length,← c.length];exact j);refine⟨.ref s.heap.objs.size,_,I.laid (t':=s.toks) (o:=.tup (xs++ys)) (λb ob q=>sU _ q) (hF _) ?_,rfl,l (λw=>z (c.nil_iff.mpr w)) _ (I.hok.fresh (hF _))⟩;exact⟨by simp_all,_,d.append c,IsTup.new _ _,⟨_,Ad _ rfl,rfl⟩⟩
noncomputable def AH(n:Nat)(i:Int):Option Nat:=if 0<=i then(if i<n then some i.toNat else none)else if -(n:Int)<=i then some (i+n).toNat else none
def atI{α:Type}(xs:List α)(i:Int):Option α:=(AH xs.length i).bind λj=>xs[j]?
def wL(h:AH n i=some j):seqIndex? i n=some j/\j < n /\ -(n:Int)<=i/\i < n:=by
 unfold AH at h;by_cases h0:0<=i
 ·rw[fI h0]at h;by_cases a:i<n;rw[fI a]at h;have e:i.toNat=j:=Ap h;exact⟨by rw[seqIndex_of h0 a,e],by lia,by lia,a⟩
  simp_all
 ·rw[gX h0]at h;by_cases a:-(n:Int)<=i;rw[fI a]at h;have e:(i+n).toNat=j:=Ap h;exact⟨by rw[seqIndex_neg (by simp_all) a,e],by lia,a,by lia⟩
  simp_all
def wM{v:a}(h:atI xs i=some v):∃j,seqIndex? i xs.length=some j/\xs[j]?=some v/\j<xs.length /\ -(xs.length:Int)<=i/\i<xs.length:=by
 unfold atI at h;cases e:AH xs.length i with
 |none=>simp_all
 | some j=>
   rw[e]at h;obtain⟨b,c,d,f⟩:=wL e;exact⟨j,b,h,c,d,f⟩
def nG{j:Nat}{v:a}(h:xs[j]? = some v):atI xs (j:Int)=some v:=by
 have hj:j<xs.length:=(sS.mp h).1;have e:AH xs.length (j:Int)=some j:=by
  unfold AH
  simp_all
 unfold atI;rw[e];exact h
def Mh(b:Expr):Prop:=∀o i,subscripted b false o i=operate [o,i] (getItem o i)
def HU(X:Cx)(r:R2):Prop:=
 ∀ (b a:Expr) (pins:List (Addr×Obj)) (s:Shared) (Z:St) (H:Hp) (x y:V) (v u:Value) (Q:VK),dX X pins Z H s->cE x v->cE y u->r x y H Q ->
   subscripted a false v u=operate [v,u] (getItem v u)->wpAny (model X.prog X.w) X.A (subscriptTail b a v u) (EP X pins Z Q) X.xe s
def Es(X:Cx)(id:String)(r:V->List V->Hp->VK->Prop):Prop:=
 ∀ (pins:List (Addr×Obj)) (s:Shared) (Z:St) (H:Hp) (x:V) (xs:List V) (v:Value) (us:List Value) (Q:VK),dX X pins Z H s->cE x v->bJ xs us->r x xs H Q ->
   wpAny (model X.prog X.w) X.A (call (.builtin id) (v::us)) (EP X pins Z Q) X.xe s
def UB(c:HU X r)(ha:PE X a ta)(hb:PE X b tb)(hs:Mh b):PE X (.Subscript a b pos) (Gu r ta tb):=by
 intro pins s Z H Q I h;exact Subscript_ (Kf ha hb I h λv u s2 x y d e f g q=>c a b pins s2 Z d x y v u Q e f g q (hs _ _))
def UC(K:W.Frag):R2:=λx y H Q=>∃p xs i v,x=.ref p/\y=.int i/\AL K H p xs/\atI xs i=some v/\Q v H
def UD(K:W.Frag):R2:=λx y H Q=>∃p xs i v,x=.ref p/\y=.int i/\BI K H p xs/\atI xs i=some v/\Q v H
def UE:R2:=λx y H Q=>∃z i c,x=.str z/\y=.int i/\z.length<=sizeLine/\atI z.cps.toList i=some c/\Q (.str ⟨#[c]⟩) H
def UG:HU X (UC X.K):=by
 intro a b pins s Z H x y v u Q I f g h hs;obtain⟨p,xs,i,z,rfl,rfl,k,l,q⟩:=h;cases f;obtain⟨t,rfl⟩:=g;obtain⟨its,r,pl,A⟩:=I.list k;obtain⟨j,d,m,B,n,o⟩:=wM l;obtain⟨w,e,c⟩:=r.get m;have C:=r.length;have hn:=nE;have fin:EP X pins Z Q w s:=⟨z,H,I,c,q⟩;by_cases h0:0<=i
 ·have hj:i.toNat=j:=by
   rw[seqIndex_of h0 o]at d
   simp_all
  exact item_listR pl.isList h0 (by lia) (by rw[hj];simpa using e) fin hs
 ·have hj:(i+(its.toArray.size:Int)).toNat=j:=by
   rw[seqIndex_neg (by simp_all) n]at d
   simp_all
  exact subscriptTail_builtinR (x:=w) pl.isList.typeIs slot_list_getitem.lookup
   (wpAny_getItem_list_neg (Q:=λr s'=>r=w/\EP X pins Z Q r s') pl.isList (by simp_all) (by simp_all) (by lia) (by rw[hj];simpa using e) ⟨rfl,fin⟩) hs
def UH:HU X (UD X.K):=by
 intro a b pins s Z H x y v u Q I d e h hs;obtain⟨p,xs,i,z,rfl,rfl,f,g,q⟩:=h;cases d;obtain⟨t,rfl⟩:=e;obtain⟨its,r,pl,m⟩:=I.tuple f;obtain⟨j,n,k,o,A,B⟩:=wM g;obtain⟨w,l,c⟩:=r.get k;have C:=r.length;have hn:=nE;have fin:EP X pins Z Q w s:=⟨z,H,I,c,q⟩;exact subscriptTail_builtinR (x:=w) pl.typeIs slot_tuple_getitem.lookup
  (getItem_tuple (j:=j) (Q:=λr s'=>r=w/\EP X pins Z Q r s') pl (by lia) (by lia) (by simp_all) (by simpa using l) ⟨rfl,fin⟩) hs
def UI:HU X UE:=by
 intro a b pins s Z H x y v u Q I e f h hs;obtain⟨z,i,c,rfl,rfl,o,g,q⟩:=h;obtain⟨t,rfl⟩:=e;obtain⟨p,rfl⟩:=f;obtain⟨j,d,k,r,l,m⟩:=wM g;have n:z.cps.toList.length=z.length:=rfl;rw[n]at d l m;have hn:=nE;exact tail_any (typeIs_str s z t) slot_str_getitem.lookup (getItem_str (c:=c) (by lia) (by rw[d];simpa using k) ⟨.str ⟨#[c]⟩,H,I.tok _,⟨_,rfl⟩,q⟩) hs
def UJ(its:List Value)(n j:Nat)(u:Value):mapSeq (·.setIfInBounds j u) {cls:=.type "list",data:=.seq its.toArray n}={cls:=.type "list",data:=.seq (its.set j u).toArray n}:=by
 simp[mapSeq]
theorem dX.lst{X:Cx}{pins:List (Addr×Obj)}{Z:St}{H:Hp}{s:Shared}{p:Addr}{xs:List V}(I:dX X pins Z H s)(h:H p=some (.lst xs)) :
  ∃(its:List Value) (n:Nat),bJ xs its/\s.heap.get? p=some {cls:=.type "list",data:=.seq its.toArray n}/\xs.length<=sizeLine:=by
 obtain⟨z,its,n,r,e⟩:=I.hok p _ h;exact⟨its,n,r,e,z⟩
def dX.lstUpd{Z:St}{its its':List Value}(I:dX X pins Z H s)(h:H p=some (.lst xs))
  (d:s.heap.get? p=some {cls:=.type "list",data:=.seq its.toArray n}) (c:f {cls:=.type "list",data:=.seq its.toArray n}={cls:=.type "list",data:=.seq its'.toArray a}) (r:bJ ys its') (hz:ys.length<=sizeLine) (t:Nat) :
  dX X pins Z (gY H p (.lst ys)) {s with heap:=s.heap.update p f,toks:=t}:=by
 have e:(s.heap.update p f).get? p=some {cls:=.type "list",data:=.seq its'.toArray a}:=by
  rw[DQ f d (by rw[c]<;>rfl),c]
 refine I.write (x:=p) (e:=p) (by rw[h];trivial) (.inl rfl) (λb u hb q=>(DP _ _ (iA hb)).trans q) ⟨_,e⟩ ?_;exact⟨hz,its',a,r,e⟩
def Mi:V->V->V->Hp->(Hp->Prop)->Prop:=λo i v H Q=>∃p xs k j,o=.ref p/\i=.int k/\H p=some (.lst xs)/\AH xs.length k=some j/\Q (gY H p (.lst (xs.set j v)))
def UL:LP X Mi:=by
 intro pins s Z H o i v ov w u Q I f ri g h;obtain⟨p,xs,k,j,rfl,rfl,c,hj,q⟩:=h;cases f;obtain⟨t,rfl⟩:=ri;obtain⟨its,n,r,a,x⟩:=I.lst c;obtain⟨d,y,l,m⟩:=wL hj;have z:=r.length;have hn:=nE;have e:dX X pins Z (gY H p (.lst (xs.set j v))) {s with heap:=s.heap.update p (mapSeq (·.setIfInBounds j u))}:=
  I.lstUpd c a (UJ its n j u) (r.set g j) (by simp_all) s.toks
 by_cases h0:0<=k
 ·have b:k.toNat=j:=by
   rw[seqIndex_of h0 m]at d
   simp_all
  exact W.ki_setAt a h0 (by lia) (by simp_all) (by rw[b];exact⟨_,e,q⟩)
 ·have b:(k+(its.toArray.size:Int)).toNat=j:=by
   rw[seqIndex_neg (by simp_all) l]at d
   simp_all
  exact W.ki_setBack a (by simp_all) (by simp_all) (by lia) (by rw[b];exact⟨_,e,q⟩)
def tS(lo hi:Option Int)(n:Nat):(sliceBounds lo hi none n).1=((PySem.sIx n 0 lo:Nat):Int)/\(sliceBounds lo hi none n).2.1=((PySem.sIx n n hi:Nat):Int)/\(sliceBounds lo hi none n).2.2=1:=by
 refine⟨?_,?_,rfl⟩
 ·cases lo with
  |none=>rfl
  | some i=>
    simp only[sliceBounds,PySem.sIx,getD_none,show(1:Int) > 0 by decide,if_true];by_cases h:i<0;simp only[h,if_true]<;>grind;simp only[h,if_false]<;>grind
 ·cases hi with
  |none=>rfl
  | some i=>
    simp only[sliceBounds,PySem.sIx,getD_none,show(1:Int) > 0 by decide,if_true];by_cases h:i<0;simp only[h,if_true]<;>lia;simp only[h,if_false]<;>lia
def qI(its:List Value)(lo hi:Option Int):slicePick its.toArray lo hi none=((its.drop (PySem.sIx its.length 0 lo)).take (PySem.sIx its.length its.length hi-PySem.sIx its.length 0 lo)).toArray:=by
 obtain⟨a,b,c⟩:=tS lo hi its.toArray.size;unfold slicePick;rw[a,b,c];simp only[sliceRange_one,pick_run,size_toArray]<;>rfl
def UM(K:W.Frag):V->Option Int->Option Int->Hp->VK->Prop:=λx lo hi H Q=>∃a xs,x=.ref a/\AL K H a xs/\∀p,H p=none->Q (.ref p) (gY H p (.lst (wK xs lo hi)))
def UN:Gz X (UM X.K):=by
 intro pins s Z H x v j k lo hi sl Q I e hs pl f h;obtain⟨a,xs,rfl,g,q⟩:=h;cases e;obtain⟨its,r,d,i⟩:=I.list g;have c:=r.length;refine⟨"list",_,slot_list_getitem.lookup,d.isList.typeIs,?_⟩;refine wpAny_getItem_list_slice d.isList hs pl f .none (by simp) ?_ (by grind);rw[qI,← c];refine⟨.ref s.heap.objs.size,_,I.laid (t':=s.toks) (o:=.lst (wK xs lo hi)) (λb ob q=>sU _ q) (hF _) ?_,rfl,q _ (I.hok.fresh (hF _))⟩;exact⟨oT (nF xs lo hi) i,_,0,(r.drop (PySem.sIx xs.length 0 lo)).take (PySem.sIx xs.length xs.length hi-PySem.sIx xs.length 0 lo),Ad _ rfl⟩
def mB:iT X (.builtin "len") (λxs H Q=>∃p ys,xs=[.ref p]/\(AL X.K H p ys\/BI X.K H p ys)/\Q (.int ys.length) H):=by
 intro pins s Z H xs us Q I r h;obtain⟨p,ys,rfl,a,q⟩:=h;obtain⟨u,rfl,d⟩:=tN r;cases d;have hn:=nE;rcases a with a|a;obtain⟨its,c,pl,e⟩:=I.list a;have b:=c.length;exact Calls.call_len_list pl.isList (by simp only[size_toArray]<;>lia) ⟨.int ys.length,H,I.tok _,⟨s.toks+1,by simp_all⟩,q⟩;obtain⟨its,c,pl,e⟩:=I.tuple a;have b:=c.length;exact len_tuple pl (by simp only[size_toArray]<;>lia) ⟨.int ys.length,H,I.tok _,⟨s.toks+1,by simp_all⟩,q⟩
def tU:iT X (.builtin "len") (λxs H Q=>∃z,xs=[.str z]/\z.length<=sizeLine/\Q (.int z.length) H):=by
 intro pins s Z H xs us Q I r h;obtain⟨z,rfl,a,q⟩:=h;obtain⟨u,rfl,t,rfl⟩:=tN r;have hn:=nE;exact len_str (by lia) ⟨.int z.length,H,I.tok _,⟨_,rfl⟩,q⟩
def mD:iT X (.type "list") (λxs H Q=>∃ p ys,xs=[.ref p]/\(AL X.K H p ys\/BI X.K H p ys)/\∀ l,H l=none->Q (.ref l) (gY H l (.lst ys))):=by
 intro pins s Z H xs us Q I r h;obtain⟨p,ys,rfl,d,q⟩:=h;obtain⟨u,rfl,j⟩:=tN r;cases j;have fin:∀ (its:List Value),bJ ys its->ys.length<=sizeLine->∀ (h':Heap) (a:Nat),(∀ b o',s.heap.get? b=some o'->h'.get? b=some o') ->
   h'.get? s.heap.objs.size=some {cls:=.type "list",dict:=none,data:=.seq its.toArray a,slots:=#[]}->EP X pins Z Q (.ref s.heap.objs.size) {s with heap:=h'}:=λits c f h' a kp e=>
  ⟨.ref s.heap.objs.size,_,I.laid (t':=s.toks) kp (hF _) (show cH X.prog X.w _ h' _ (.lst ys)from⟨f,its,a,c,e⟩),rfl,q _ (I.hok.fresh (hF _))⟩
 rcases d with d|d;obtain⟨its,c,pl,f⟩:=I.list d;have g:=c.length;obtain⟨o,i,hc,n,hd⟩:=pl.isList;exact call_list_seq p (.inl rfl) i hc hd (λh' a kp e=>fin its c f h' a kp e) (by grind);obtain⟨its,c,pl,f⟩:=I.tuple d;have g:=c.length;obtain⟨o,i,hc,n,hd⟩:=pl;exact call_list_seq p (.inr rfl) i hc hd (λh' a kp e=>fin its c f h' a kp e) (by grind)
def kK:iT X (.type "tuple") (λxs H Q=>∃ p ys,xs=[.ref p]/\((AL X.K H p ys/\∀ l,H l=none->Q (.ref l) (gY H l (.tup ys)))\/(BI X.K H p ys/\Q (.ref p) H))):=by
 intro pins s Z H xs us Q I r h;obtain⟨p,ys,rfl,h⟩:=h;obtain⟨u,rfl,i⟩:=tN r;cases i;rcases h with⟨a,q⟩|⟨a,q⟩
 ·obtain⟨its,c,pl,d⟩:=I.list a;have f:=c.length;refine call_tuple_list pl.isList (λh' kp=>?_) (by grind);have g:dX X pins Z H {s with heap:=h'}:=I.kept (t':=s.toks) kp;have j:dX X pins Z (gY H h'.objs.size (.tup ys)) {s with heap:=h'.push {cls:=.type "tuple",data:=.seq its.toArray}}:=
   g.laid (t':=s.toks) (λb o e=>sU _ e) (hF _) (show cH X.prog X.w _ _ _ (.tup ys)from⟨d,its,c,IsTup.new _ _,⟨_,Ad _ rfl,rfl⟩⟩)
  exact⟨.ref h'.objs.size,_,j,rfl,q _ (g.hok.fresh (hF _))⟩
 ·obtain⟨its,c,pl,d⟩:=I.tuple a;exact call_tuple_same pl ⟨.ref p,H,I,rfl,q⟩
def HV(K:W.Frag)(T:String)(x:V)(H:Hp):Prop:=match x with
 |.str _=>T="str"
 |.int _=>T="int"
 | .ref p=>(T="list"/\∃ xs,AL K H p xs)\/(T="tuple"/\∃ o,K.lookup p=some o/\o.cls=.type "tuple"/\o.dict=none) \/
   (T="dict"/\((∃kvs,H p=some (.dK kvs))\/∃kvs,H p=some (.dT kvs)))\/(T="set"/\∃S n,H p=some (.set S n))
 |_=>False
def Mj{Z:St}(I:dX X pins Z H s)(r:cE x v)(ty:HV X.K T x H) :
  s.TypeIs v T/\∀a,v=.ref a->∃ob,s.heap.get? a=some ob/\ob.dict=none:=by
 cases x with
 | str z=>
   obtain⟨t,rfl⟩:=r;cases (show T="str" from ty);exact⟨typeIs_str s z t,λ_ e=>nomatch e⟩
 | int i=>
   obtain⟨t,rfl⟩:=r;cases (show T="int" from ty);exact⟨typeIs_int s i t,λ_ e=>nomatch e⟩
 | ref p=>
   cases r;rcases ty with⟨rfl,xs,f⟩|⟨rfl,o,b,hc,hd⟩|⟨rfl,b⟩|⟨rfl,S,n,b⟩;obtain⟨its,_,pl,_⟩:=I.list f;refine⟨pl.isList.typeIs,λa e=>?_⟩;cases e;obtain⟨o,n,e,c,hd,_⟩:=pl;exact⟨o,e,hd⟩;refine⟨⟨o,I.kIn p o b,hc⟩,λa e=>?_⟩;cases e;exact⟨o,I.kIn _ o b,hd⟩
   ·have z:∃ o,s.heap.get? p=some o/\o.ExactDict:=by
     rcases b with⟨kvs,b⟩|⟨kvs,b⟩;obtain⟨_,_,_,_,o,_,_,e,ex,_⟩:=I.hok p _ b;exact⟨o,e,ex⟩;obtain⟨_,_,_,_,o,_,_,e,ex,_⟩:=I.hok p _ b;exact⟨o,e,ex⟩
    obtain⟨o,e,ex⟩:=z;refine⟨⟨o,e,ex.1⟩,λa d=>?_⟩;cases d;exact⟨o,e,ex.2.1⟩
   ·obtain⟨o,_,_,_,e,ex,_⟩:=I.hok p _ b;refine⟨⟨o,e,ex.1⟩,λa d=>?_⟩;cases d;exact⟨o,e,ex.2.1⟩
 |_=>exact elim ty
def Ko(K:W.Frag)(T:String)(r:V->List V->Hp->VK->Prop)(to:TE):TE:=λZ H Q=>to Z H λx a=>HV K T x a/\r x [] a Q
def FH(K:W.Frag)(T:String)(r:V->List V->Hp->VK->Prop)(to:TE)(t:TA):TE:=λZ H Q=>to Z H λx a=>HV K T x a/\t Z a λxs b=>r x xs b Q
def UO{id:String}(pa:PlainAttrs T)(slot:Slot T name id)(c:typeOf (.builtin id)=pure (.type "method_descriptor"))(hm:Es X id r)(f:PE X o to)
  (a:attributeBase o name X.env (eval o X.env)=eval o X.env:=by rfl) (b:(apos.endLine==cpos.line)=true:=by rfl):PE X (.Call (.Attribute o name apos) [] [] cpos) (Ko X.K T r to):=by
 intro pins s Z H Q I h;refine wpAny_Call_method0_late a b (thn (f pins s Z H _ I h) λv s1 Z0=>?_);obtain⟨x,g,d,e,ty,i⟩:=Z0;obtain⟨j,k⟩:=Mj d e ty;exact⟨T,id,pa,slot,c,j,k,Calls.callWith_builtin rfl (PySem.evalArgs_none (hm pins s1 Z g x [] v [] Q d e .nil i))⟩
def UP{id:String}(pa:PlainAttrs T)(slot:Slot T name id)(f:typeOf (.builtin id)=pure (.type "method_descriptor"))(hm:Es X id r)(k:PE X o to)(ha:PA X (e::es) t)
  (b:attributeBase o name X.env (eval o X.env)=eval o X.env:=by rfl)
  (d:((backTo cpos (starEach (e::es) X.env)).all (λx=>!x.1)&&(backToKw cpos (keywordEach [] X.env)).all (λx=>x.1.isSome)
   && decide ((e::es).length+([]:List Keyword).length+(if([]:List Keyword).isEmpty then 0 else 1)<30))=true:=by rfl)
  (c:(apos.endLine==cpos.line)=true:=by rfl) (hs:starEach (e::es) X.env=(false,eval e X.env)::starEach es X.env:=by rfl) (a:(backTo cpos (starEach es X.env)).any (·.1)=false:=by rfl) :
  PE X (.Call (.Attribute o name apos) (e::es) [] cpos) (FH X.K T r to t):=by
 intro pins s Z H Q I h;refine wpAny_Call_method_late b d c rfl (thn (k pins s Z H _ I h) λv s1 Z0=>?_);obtain⟨x,l,g,i,ty,m⟩:=Z0;obtain⟨n,p⟩:=Mj g i ty;refine⟨T,id,pa,slot,f,n,p,?_⟩;have j:=ha cpos pins s1 Z l _ g m;rw[hs]at j ⊢;refine Calls.callWith_builtin (by show(false||(backTo cpos (starEach es X.env)).any (·.1))=false;rw[a]<;>rfl) (Calls.evalArgs_plain ?_);exact thn j λus s2 ⟨vs,q,u,w,y⟩=>hm pins s2 Z q x vs v us Q u i w y
def GB(X:Cx)(id:String)(r:V->List V->Hp->VK->Prop):Prop:=
 ∀ (pins:List (Addr×Obj)) (s:Shared) (Z:St) (H:Hp) (x:V) (xs:List V) (v:Value) (us:List Value) (Q:VK),dX X pins Z H s->cE x v->bJ xs us->r x xs H Q ->
   wpAny (model X.prog X.w) X.A (call (.builtin id) (v::us)) (EP X pins Z Q) X.xe s
def bJ.one(r:bJ [x] us):∃u,us=[u]/\cE x u:=by
 cases r with|cons r t=>cases t;exact⟨_,rfl,r⟩
def bJ.two(r:bJ [x,y] us):∃u v,us=[u,v]/\cE x u/\cE y v:=by
 cases r with|cons r t=>
 obtain⟨v,rfl,q⟩:=bJ.one t;exact⟨_,v,rfl,r,q⟩
def bJ.zero:∀{us:List Value},bJ [] us->us=[]
 |_,.nil=>rfl
theorem bJ.dropLast(h:bJ xs us):bJ xs.dropLast us.dropLast:=by
 induction h with
 |nil=>exact .nil
 | cons r t a=>
   cases t with
   |nil=>exact .nil
   |cons q b=>exact .cons r a
theorem bJ.eraseIdx:∀{xs:List V} {us:List Value} (i:Nat),bJ xs us->bJ (xs.eraseIdx i) (us.eraseIdx i)
 |_,_,_,.nil=>.nil
 |_,_,0,.cons _ t=>t
 |_,_,i+1,.cons r t=>.cons r (bJ.eraseIdx i t)
theorem nH{a:Type}:∀(l:List a) (i:Nat),(l.eraseIdx i).length<=l.length
 |[],_=>hF _
 |_::_,0=>le_succ _
 |_::r,i+1=>succ_le_succ (nH r i)
def dX.lset{Z:St}{its its':List Value}(I:dX X pins Z H s)(a:H l=some (.lst xs))
  (e:s.heap.get? l=some {cls:=.type "list",data:=.seq its.toArray n}) (b:f its.toArray=its'.toArray) (c:bJ ys its') (hz:ys.length<=sizeLine) :
  dX X pins Z (gY H l (.lst ys)) {s with heap:=s.heap.update l (mapSeq f),toks:=t'}:=by
 have q:=PySem.IsL.update e f;rw[b]at q;refine I.write (x:=l) (e:=l) (by rw[a];exact trivial) (.inl rfl) (λg u hb d=>(DP s.heap (mapSeq f) (iA hb)).trans d) ⟨_,q⟩ ?_;exact⟨hz,its',_,c,q⟩
def dX.lnew{Z:St}(I:dX X pins Z H s)(a:bJ ys its)(hz:ys.length<=sizeLine) :
  dX X pins Z (gY H s.heap.objs.size (.lst ys)) {s with heap:=s.heap.push {cls:=.type "list",data:=.seq its.toArray},toks:=t'}:=
 I.laid (λ_ _ q=>sU _ q) (hF _) ⟨hz,its,0,a,Ad _ rfl⟩
theorem dX.fresh{Z:St}(I:dX X pins Z H s):H s.heap.objs.size=none:=I.hok.fresh (hF _)
def dX.lstM{Z:St}(I:dX X pins Z H s)(a:H l=some (.lst xs)):xs.length<=sizeLine/\∃(its:List Value) (n:Nat),bJ xs its/\xs.length=its.length/\s.heap.get? l=some {cls:=.type "list",data:=.seq its.toArray n}:=by
 obtain⟨z,its,n,r,e⟩:=I.hok l _ a;exact⟨z,its,n,r,r.length,e⟩
def zH(h:n<=sizeLine):listTooLong n=false:=by
 exact Ft (by simp_all)
def nJ:V->List V->Hp->VK->Prop:=λx vs H Q=>∃l xs y,x=.ref l/\vs=[y]/\H l=some (.lst xs)/\xs.length<sizeLine/\Q .non (gY H l (.lst (xs++[y])))
def tV:GB X "list.append" nJ:=by
 intro pins s Z H x vs v us Q I b c h;obtain⟨l,xs,y,rfl,rfl,a,f,q⟩:=h;cases b;obtain⟨u,rfl,d⟩:=c.one;obtain⟨z,its,n,r,g,e⟩:=I.lstM a;refine BL F.slot_list_append ⟨_,e,rfl⟩ F.entry_list_append (F.args_list_append_2 _ _) (PySem.list_append l its.toArray n u (by grind)) ⟨e,?_⟩;refine⟨.non,_,I.lset (its':=its++[u]) a e (by simp) (r.append (.cons d .nil)) ?_,rfl,q⟩
 grind
def UQ:V->List V->Hp->VK->Prop:=λx vs H Q=>∃l b xs zs,x=.ref l/\vs=[.ref b]/\H l=some (.lst xs)/\H b=some (.lst zs)/\xs.length+zs.length<=sizeLine/\Q .non (gY H l (.lst (xs++zs)))
def R9:GB X "list.extend" UQ:=by
 intro pins s Z H x vs v us Q I g i h;obtain⟨l,b,xs,zs,rfl,rfl,f,j,t,q⟩:=h;cases g;obtain⟨u,rfl,k⟩:=i.one;cases k;obtain⟨z,its,n,r,w,e⟩:=I.lstM f;obtain⟨y,a,n2,m,o,p⟩:=I.lstM j;have d:its.toArray.size+a.toArray.size<=sizeLine:=by grind
 have c:¬(!its.toArray.isEmpty&&listTooLong (its.toArray.size+a.toArray.size))=true:=by
  rw[zH d,Bool.and_false];simp
 refine BL F.slot_list_extend ⟨_,e,rfl⟩ F.entry_list_extend (F.args_list_extend_2 _ _)
  (AutoSeq1.list_extend_list_list_0 l its.toArray n b a.toArray n2 c (by simp_all) (by lia)) ⟨e,p,?_⟩
 refine⟨.non,_,I.lset (its':=its++a) f e (by simp) (r.append m) ?_,rfl,q⟩
 simp_all
def Ml:V->List V->Hp->VK->Prop:=λx vs H Q=>∃l xs y,x=.ref l/\vs=[]/\H l=some (.lst xs)/\xs[xs.length-1]?=some y/\Q y (gY H l (.lst xs.dropLast))
def UR:GB X "list.pop" Ml:=by
 intro pins s Z H x vs v us Q I d f h;obtain⟨l,xs,y,rfl,rfl,c,g,q⟩:=h;cases d;have a:=f.zero;subst a;obtain⟨z,its,n,r,j,e⟩:=I.lstM c;obtain⟨u,k,i⟩:=r.get g;have b:its.toArray[its.toArray.size-1]?=some u:=by simp_all
 refine BL F.slot_list_pop ⟨_,e,rfl⟩ F.entry_list_pop (F.args_list_pop_1 _) (MeetsSeq.list_pop_last l its.toArray n u b (by simp_all)) ⟨e,?_⟩;refine⟨y,_,I.lset (its':=its.dropLast) c e ?_ r.dropLast ?_,i,q⟩;simp;rw[List.length_dropLast];grind
def Mm:V->List V->Hp->VK->Prop:=λx vs H Q=>∃l xs i k y,x=.ref l/\vs=[.int i]/\H l=some (.lst xs) /\ -(2^63)<=i/\i<2^63/\seqIndex? i xs.length=some k/\xs[k]?=some y/\Q y (gY H l (.lst (xs.eraseIdx k)))
def US:GB X "list.pop" Mm:=by
 intro pins s Z H x vs v us Q I c d h;obtain⟨l,xs,i,k,y,rfl,rfl,b,f,g,o,j,q⟩:=h;cases c;obtain⟨u,rfl,m⟩:=d.one;obtain⟨t,rfl⟩:=m;obtain⟨z,its,n,r,p,e⟩:=I.lstM b;obtain⟨w,A,a⟩:=r.get j;refine BL F.slot_list_pop ⟨_,e,rfl⟩ F.entry_list_pop (F.args_list_pop_2 _ _)
  (MeetsSeq.list_pop_at l its.toArray n i t k w (fitsIndex_both f g) (by simp_all) (by simp_all) (by simp_all)) ⟨e,?_⟩
 refine⟨y,_,I.lset (its':=its.eraseIdx k) b e ?_ (r.eraseIdx k) ?_,a,q⟩;simp;have:=nH xs k;lia
def UT:R2:=λx y H Q=>∃l b xs zs,x=.ref l/\y=.ref b/\H l=some (.lst xs)/\H b=some (.lst zs)/\xs.length+zs.length<=sizeLine/\∀p,H p=none->Q (.ref p) (gY H p (.lst (xs++zs)))
def UU:Ak X (binaryOp .Add) UT:=by
 intro pins s Z H x y v u Q I c d h;obtain⟨l,b,xs,zs,rfl,rfl,f,g,o,q⟩:=h;cases c;cases d;obtain⟨z,its,n,r,p,e⟩:=I.lstM f;obtain⟨t,a,n2,i,j,k⟩:=I.lstM g;refine PySem.P.add_list e k ?_ (by grind);have m:its.toArray++a.toArray=(its++a).toArray:=by simp
 rw[m];exact⟨.ref _,_,I.lnew (t':=s.toks) (r.append i) (by simp_all),rfl,q _ I.fresh⟩
end
section
open Calls PyProof.Rows W
def nK:∀ (ns:List Int) (vs:List Value),WellAll P h vs (ns.map WData.int)->IntsAre vs ns:=by
 intro ns
 induction ns with
 | nil=>
   intro vs w;cases w;exact .nil
 | cons n ns c=>
   intro vs w;cases w with
   | cons a b=>
     cases a;exact .cons _ _ (c _ b)
def UW{l:OpenLaw}(hn:l.most=some n)
  (b:l.row.toRowW.claim.pre args=true) (f:WellAll P h vals args) :
  ∃a vs ns,vals=[Value.ref a]/\args=[WData.list (ns.map WData.int)]/\h.get? a=some {cls:=.type "list",data:=.seq vs.toArray}/\IntsAre vs ns/\ns.length<=n:=by
 have g:WShape.hasAll [] args [.list .int]=true:=(pre_splitW b).1;have hc:l.pre.holds [] {args:=args}=true:=(pre_splitW b).2;obtain⟨d,r,rfl,j,k⟩:=hasAllW_cons g;obtain rfl:=hasAllW_nil k;obtain⟨xs,rfl,m⟩:=hasW_list j;obtain⟨ns,rfl⟩:=items_int m;have c:ns.length<=n:=by
  have i:(WTm.not (.lt (.lit (.int (n:Int))) (.len (.arg 0)))).holds [] {args:=[.list (ns.map .int)]}=true:=by
   have i:=(holds_andW hc).1
   simp_all
  have s:=condW_of i (w_not (w_lt w_lit (w_len_list (w_arg rfl))))
  grind
 cases f with
 | cons o p=>
   cases p;cases o with
   |list q e=>exact⟨_,_,ns,rfl,rfl,q,nK ns _ e,c⟩
def UX(l:OpenLaw)(args:List WData):l.row.toRowW.claim.post args (.bool true) args=true:=
 postW_of (r:=l.row.toRowW) (X:=(true==true))
  (show WShape.has [] (.bool true) .bool=true by rfl)
  (show(WTm.eq .res (.lit (.bool true))).value [] {args:=args,res:=some (.bool true),after:=args}=some (.bool (true==true))from w_eq_bool (w_res rfl) w_lit) rfl
def attach_call{l:OpenLaw}
  (hn:l.most=some n) (k:d.params.defaults=[])
  (call:∀(w:World) (s₀ b:Shared) (mg mb:Str->Option Value) (g:Addr) (o:Obj) (pm cd doc:Value) (a:Addr) (vs:List Value) (ns:List Int),
   Ground q c [] t w s₀ mg mb b.heap->u w b.heap ->
   b.heap.get? g=some o->o.data=.func (docDef d.name d.params d.body d.scope pm cd doc)->b.heap.CodeRec cd d.name->mg d.name=some (.ref g) ->
   b.heap.get? a=some {cls:=.type "list",data:=.seq vs.toArray}->IntsAre vs ns->ns.length<=n->b.gens=#[] ->
   codeAny (model l.prog w) callerA (.call (.ref g) ⟨[.ref a],[]⟩) (λr s'=>r=.ok (.ret (.bool true))/\OldK b.heap s'.heap/\s'.os=b.os/\AllBare s'.gens) b) :
  WalkO q c t u l.row.toRowW d [] (λf vs=>PySem.call f vs):=by
 intro w s₀ b mg mb G Y g o pm cd doc x kV1 y hd m hD p z args vals as h v A s B;obtain rfl:x=.none:=Dflts.none hD k;obtain rfl:kV1=.none:=Dflts.noKw hD;obtain⟨a,vs,ns,rfl,rfl,i,e,j⟩:=UW hn h s;refine enter_call (HB (call w s₀ b mg mb g o pm cd doc a vs ns G Y y (fd_plain hd) m p i e j z) λr s' C=>?_);obtain⟨rfl,D,E,F⟩:=C;exact⟨.inl ⟨.bool true,.bool true,[],rfl,λ_=>rfl,.bool true,UX l _,λ_=>⟨List.Pairwise.nil,λ_ hm=>(nomatch hm)⟩⟩,D,E,F⟩
end
section
open PyProof.Rows Spec
theorem tW:∀{vs:List Value} {ns:List Int},IntsAre vs ns->bJ (ns.map V.int) vs
 |_,_,.nil=>.nil
 |_,_,.cons n t h=>.cons ⟨t,rfl⟩ (tW h)
def HW(H:Hp):Prop:=∀b,H b=none\/∃o xs,H b=some (.frz o (.lst xs))
def UY{K:W.Frag}
  (Q:K.In c.heap) (t:c.heap.Ns mainGlobals mg) (hb:c.heap.Ns builtinsNs mb) (I:∀x:Str,x≠"__name__"->mb x=bootBuiltins x) (y:c.heap.NoLimit) (X:c.gens=#[])
  (ha:c.heap.get? a=some {cls:=.type "list",data:=.seq vs.toArray}) (hi:IntsAre vs ns) (R:ns.length<=sizeLine) (Y:Af k callerA)
  (F:∀base:Heap,K.In base->base.Ns mainGlobals mg->AR P w K mg base CX k G fd [x] sp) (l:∀(s:Shared) (u:Value),BindsTo s fd ⟨[u],[]⟩ [(x,u)])
  (J:∀H:Hp,HW H->AL K H a (ns.map V.int)->sp [.ref a] H (λv _=>v=.bl true) λ_ _ _=>False)
  (L:∀H e s',CX [] H c (λ_ _ _=>False) e s'->False) :
  codeAny (model P w) callerA (.call (.ref G) ⟨[.ref a],[]⟩) (λr s'=>r=.ok (.ret (.bool true))/\OldK c.heap s'.heap/\s'.os=c.os/\AllBare s'.gens) c:=by
 have S:=tW hi;have A:=hi.length
 have j:∀ H:Hp,HW H->AL K H a (ns.map V.int)->AA P w H c.heap->(∀ b,H b≠none->b=a)->(H a≠none->K.lookup a=none) ->
   codeAny (model P w) callerA (.call (.ref G) ⟨[.ref a],[]⟩) (λr s'=>r=.ok (.ret (.bool true))/\OldK c.heap s'.heap/\s'.os=c.os/\AllBare s'.gens) c:=by
  intro H T hS hok hA hK;have f:∀{b:Addr} {o:Obj},c.heap.get? b=some o->H b=none->(Eo c.heap H).get? b=some o:=λe n=>Sm e n;have N:∀{b:Addr} {o:Obj} {es:Array DictEntry} {ep:Nat},c.heap.get? b=some o->o.data=.dict es ep->H b=none:=λ{b o es ep} e d=>by grind
  have i:∀{b:Addr} {m:Str->Option Value},c.heap.Ns b m->(Eo c.heap H).Ns b m:=λ{b m} ⟨o,es,ep,e,d,r⟩=>⟨o,es,ep,f e (N e d),d,r⟩;have C:K.In (Eo c.heap H):=λb o e=>f (Q b o e) (by grind);have σ:Mod K mg (Eo c.heap H):=⟨C,i t,⟨mb,i hb,I⟩,let ⟨mc,h1,h2⟩:=y;⟨mc,i h1,h2⟩⟩;have e0:Ep P w K mg (Eo c.heap H) callerA [] c H:=⟨rfl,σ,λb o e=>Sn e,le_of_eq (Sk _ _),trivial,λb hb=>absurd (show b∈([]:List Addr)from hb) (by simp),hok,.of_eq X⟩;refine HB ((F _ C (i t)).run callerA [] c H ⟨[.ref a],[]⟩ [.ref a] [.ref a] _ _ Y e0 (l c (.ref a)) (.cons rfl .nil) (J H T hS)) λr s' h=>?_;cases r with
  |error e=>exact(L H e s' h).elim
  | ok fl=>
    cases fl with
    |next|brk|cont=>exact elim h
    | ret u=>
      obtain⟨v,H',os,bare,un,D,r',q⟩:=h;have q':v=.bl true:=q;subst q';obtain rfl:u=Value.bool true:=r';refine⟨rfl,OldK.of_keep λb o e=>?_,os,bare⟩;cases q:H b with
      |none=>exact un.keep b o e q (by intro z;exact absurd (show b∈([]:List Addr)from z) (by simp)) (by simp)
      | some u=>
        rcases T b with z|⟨ob,xs,z⟩;rw[q]at z;cases z;have z2:=un.frzs b ob _ z;obtain⟨U,_⟩:=hok b _ z;obtain⟨e2,_⟩:=D b _ z2;rw[e]at U;cases U;exact e2
 cases π:K.lookup a with
 | some o=>
   have e:=Q a o π;rw[ha]at e;cases e;refine j (λ_=>none) (λ_=>.inl rfl) (.inr ⟨_,vs.toArray,_,π,rfl,rfl,rfl,by rw[CY,A];exact R,by simpa using S⟩) (λb u z=>by have E:(none:Option HO)=some u:=z;cases E) (λb z=>absurd rfl z) λz=>absurd rfl z
 | none=>
   refine j (λb=>if b=a then some (.frz {cls:=.type "list",data:=.seq vs.toArray} (.lst (ns.map V.int)))else none) (λb=>?_) (.inl (.inr ⟨{cls:=.type "list",data:=.seq vs.toArray},fI rfl⟩)) (λb u z=>?_) (λb z=>?_) λ_=>π;by_cases hb:b=a;exact .inr ⟨_,_,fI hb⟩;exact .inl (gX hb);by_cases hb:b=a;have E:=(fI hb).symm.trans z;cases E;subst hb;exact⟨ha,by rw[hB];exact R,vs,_,S,ha⟩;have E:=(gX hb).symm.trans z;cases E;by_cases hb:b=a;exact hb;exact absurd (gX hb) z
def cF2{l:W.OpenLaw}{K:Params->W.Frag}{CX:World->Gw}{sp:World->Sp}
  (hn:l.most=some n) (t:n<=sizeLine) (y:d.params.defaults=[]) (I:Af k callerA)
  (J:∀(w:World) (h:Heap),C w h->(K w.params).In h)
  (F:∀ (w:World) (mg:Str->Option Value) (r:Addr) (h:Heap),(K w.params).In h->h.Ns mainGlobals mg->mg d.name=some (.ref r) ->
   ∃ fd:FuncData,(∀ (s:Shared) (u:Value),BindsTo s fd ⟨[u],[]⟩ [(x,u)]) /\
     ∀base:Heap,(K w.params).In base->base.Ns mainGlobals mg->AR l.prog w (K w.params) mg base (CX w) k r fd [x] (sp w))
  (z:∀(w:World) (H:Hp) (a:Addr) (ns:List Int),ns.length<=n->HW H->AL (K w.params) H a (ns.map V.int)->sp w [.ref a] H (λv _=>v=.bl true) λ_ _ _=>False)
  (A:∀(w:World) (H:Hp) (s:Shared) (e:Value) (s':Shared),CX w [] H s (λ_ _ _=>False) e s'->False) :
  W.WalkO q i E C l.row.toRowW d [] (λf vs=>PySem.call f vs):=by
 refine PySem.attach_call hn y λw s₀ m mg mb r o pm cd doc a vs ns G Y P hd L B p j c M=>?_;have D:=J w _ Y;obtain⟨fd,hb,N⟩:=F w mg r _ D G.T.g B;exact UY D G.T.g G.T.b G.T.builtins G.T.nolimit M p j (oT c t) I N hb (λH π hS=>z w H a ns c π hS) λH e s'=>A w H m e s'
noncomputable def qJ(s:Stmt):Arguments:=match s with
 |.FunctionDef _ a _ _ _ _ _ _ _ _=>a
 |_=>{posonlyargs:=[],args:=[],vararg:=none,kwonlyargs:=[],kw_defaults:=[],kwarg:=none,defaults:=[]}
noncomputable def jW(s:Stmt):List Stmt:=match s with
 |.FunctionDef _ _ b _ _ _ _ _ _ _=>b
 |_=>[]
noncomputable def cF(s:Stmt):Scope:=match s with
 |.FunctionDef _ _ _ _ _ _ sc _ _ _=>sc
 |_=>{kind:=.function,names:=[],isGenerator:=false,isCoroutine:=false}
abbrev DX:Gw:=λ_ _ _ _ _ _=>False
abbrev E0:XK:=λ_ _ _=>False
def UZ:Kn DX X E0:=λ_ _ _ _ _ _ _ h=>h.elim
structure EW(K:W.Frag)(x qual:Str)(st:Stmt)(f:Addr)(fd:FuncData):Prop where
 ex:∃(oc:Value) (od:Option Addr) (kV doc pm:Value) (an1:Option Addr) (cdv ct:Value) (osl:Array (Option Value)),
  fd=W.fnOf x qual (qJ st) (jW st) (cF st) .none kV doc pm an1 cdv ct/\K.lookup f=some ⟨oc,od,.func fd,osl⟩/\W.codeIn K cdv qual=true
 kp:W.keepIn K (.ref f)=true
theorem EW.ok{K:W.Frag}{st:Stmt}(F:EW K x qual st f fd)(S:Ay N ps (cF st))(len:∀ vs H Q E,sp vs H Q E->vs.length=ps.length)
  (a:∀(cdv:Value) (A:Around) (outer:List Env) (s:Shared) (H:Hp) (vs:List V) (Q:VK) (E:XK),Af k (A.deeper (envOfC qual (cF st) s.heap.objs.size f cdv))->sp vs H Q E ->
   ∃t,Bv (EV DX P w K mg base N qual (cF st) f cdv A outer s H E).nox (jW st) t/\t {nx:=λ_ H'=>Q .non H',rt:=Q} (iN N vs) H):AR P w K mg base DX (k+1) f fd ps sp:=by
 obtain⟨oc,od,kV,doc,pm,an1,cdv,ct,osl,rfl,lk,b⟩:=F.ex;refine Ul lk b S len λA outer s H vs Q E d c=>?_;obtain⟨t,h,q⟩:=a cdv A outer s H vs Q E d c;exact⟨t,h.nox,q⟩
def EW.binds{K:W.Frag}{st:Stmt}(F:EW K x qual st f fd)
  (h:∀(kV doc pm:Value) (an1:Option Addr) (cdv ct:Value) (us:List Value),us.length=ps.length->bindArgs (W.fnOf x qual (qJ st) (jW st) (cF st) .none kV doc pm an1 cdv ct) ⟨us,[]⟩=pure (ps.zip us)):Gx K fd ps []:=by
 obtain⟨oc,od,kV,doc,pm,an1,cdv,ct,osl,rfl,lk,a⟩:=F.ex;exact .all (h kV doc pm an1 cdv ct)
def HX(a:Af k A):A.units+1<cLine:=DU (add_le_add_left (by decide:1<=64) _) a.units
def pv(i:Nat)(b:X.N[i]? = some x:=by rfl)(c:JZ X.env.scope x:=by first | exact Or.inl rfl | exact Or.inr (Or.inl rfl) | exact Or.inr (Or.inr rfl))(hd:(x==("__debug__":Str))=false:=by decide)
  (a:(x==("__classdict__":Str))=false:=by decide):PE X (.Name x pos) (CZ i):=Ss b c hd a
def mQ(H H':Hp):Prop:=∀b o,H b=some o->H' b=some o
def mQ.refl(H:Hp):mQ H H:=λ_ _ h=>h
def mQ.trans(a:mQ H d)(b:mQ d e):mQ H e:=λc o h=>b c o (a c o h)
def Va(h:∀ y∈scope.names,y.2=.free->∃ c,env.cells.lookup y.1=some c) :
  ∃cl:List (Str×Addr),closureFor scope env=pure cl/\(∀x c,cl.lookup x=some c->env.cells.lookup x=some c)/\∀y∈scope.names,y.2=.free->∃c,cl.lookup y.1=some c:=by
 have o:∀ (l:List (Str×NameKind)) (acc:List (Str×Addr)),(∀ y∈l,y.2=.free->∃ c,env.cells.lookup y.1=some c)->(∀ x c,acc.lookup x=some c->env.cells.lookup x=some c) ->
   ∃ cl:List (Str×Addr),((forIn l acc λ(x:Str×NameKind) (r:List (Str×Addr))=>if(x.2==NameKind.free)=true then do let a ← cellOf env x.1;pure (ForInStep.yield ((x.1,a)::r))else pure (ForInStep.yield r)):Sem (List (Str×Addr)))=pure cl /\
     (∀x c,cl.lookup x=some c->env.cells.lookup x=some c)/\(∀x c,acc.lookup x=some c->∃d,cl.lookup x=some d)/\∀y∈l,y.2=.free->∃c,cl.lookup y.1=some c:=by
  intro l
  induction l with
  |nil=>intro acc _ ha;exact⟨acc,rfl,ha,λx c e=>⟨c,e⟩,λ_ b=>nomatch b⟩
  | cons y r s=>
    intro acc p ha;obtain⟨n,k⟩:=y;rw[forIn_cons];by_cases i:(k==NameKind.free)=true
    ·have q:k=.free:=by simpa using i
     obtain⟨c,hc⟩:=p (n,k) sT q;have u:cellOf env n=pure c:=by unfold cellOf;rw[hc]
     obtain⟨cl,e,f,j,g⟩:=s ((n,c)::acc) (λy b=>p y (Ah _ b)) (λx d e=>by
      rw[lookup_cons]at e;split at e
      ·lia
      ·exact ha x d e)
     have has:∃d,cl.lookup n=some d:=j n c (by rw[lookup_cons];simp);refine⟨cl,?_,f,λx d e=>?_,λy b m=>?_⟩;simp only[i,if_true,u];exact e
     ·by_cases t:x=n;subst t;exact has;exact j x d (by rw[lookup_cons];have:(x==n)=false:=by simpa using t
                                                       rw[this];exact e)
     ·rcases Aj.mp b with rfl|b;exact has;exact g y b m
    ·obtain⟨cl,e,f,j,g⟩:=s acc (λy b=>p y (Ah _ b)) ha;refine⟨cl,?_,f,j,λy b m=>?_⟩;simp only[i];exact e;rcases Aj.mp b with rfl|b;exact absurd (by simpa using m) i;exact g y b m
 obtain⟨cl,e,f,_,g⟩:=o scope.names [] h (λx c e=>nomatch e);refine⟨cl,?_,f,g⟩;unfold closureFor;simp only[bind_pure];exact e
def kL(h:(relabel scope env).names.lookup x=some .cell\/(relabel scope env).names.lookup x=some .free) :
  (x,NameKind.free)∈scope.names\/scope.names.lookup x=some .cell:=by
 unfold relabel at h;dsimp only at h;revert h;generalize scope.names=l;intro h
 induction l with
 |nil=>rcases h with h|h<;>cases h
 | cons y r a=>
   grind
theorem cP:∀ (names:List (Str×NameKind)) (n:Nat) (acc:List (Str×Addr)),cellsFrom n names acc=cellsFrom n names []++acc
 |[],n,acc=>rfl
 | (x,k)::r,n,acc=>by
   unfold cellsFrom;split;rw[cP r (n+1) ((x,n)::acc),cP r (n+1) [(x,n)],append_assoc];rfl;exact cP r n acc
theorem iD:∀ (names:List (Str×NameKind)) (n:Nat) (x:Str) (c:Addr),(x,c)∈cellsFrom n names []->(x,NameKind.cell)∈names
 |[],n,x,c,h=>nomatch h
 | (y,k)::r,n,x,c,h=>by
   unfold cellsFrom at h;split at h
   ·rw[cP]at h;rcases Au.mp h with z|z;exact Ah _ (iD r _ x c z)
    grind
   ·exact Ah _ (iD r _ x c h)
theorem dN:∀ (names:List (Str×NameKind)) (n:Nat) (x:Str),(x,NameKind.cell)∈names->∃ c,(cellsFrom n names []).lookup x=some c
 |[],n,x,h=>nomatch h
 | (y,k)::r,n,x,h=>by
   have a:∀m,(x,NameKind.cell)∈r->∃c,(cellsFrom m r []).lookup x=some c:=λm hm=>dN r m x hm;unfold cellsFrom;split
   ·rw[cP,List.lookup_append];rcases Aj.mp h with z | z
    ·simp_all
    ·obtain⟨c,hc⟩:=a (n+1) z
     simp_all
   ·rcases Aj.mp h with z|z
    ·lia
    ·exact a n z
def Vc 
  (b:Q (newEnv scope s.heap.objs.size globals (cellsFrom (s.heap.objs.size+1) scope.names cl) qual none .none (some env) builtinsNs) {s with heap:=pushCells (s.heap.push {cls:=.type "dict",data:=.dict #[]}) scope.names}) :
  wpAny M A (newFunctionEnv scope globals cl [] qual none .none (some env)) Q E s:=by
 simp only[newFunctionEnv,Option.isSome_some,if_true];refine dV (wpAny_alloc ?_);refine dV (wpAny_layCells _ (λa kind cells=>rfl) _ _ _ _ ?_);rw[show({s with heap:=s.heap.push {cls:=.type "dict",data:=.dict #[]}}:Shared).heap.objs.size=s.heap.objs.size+1 from FD ..];refine dV ?_;exact gV (gV b)
def qK(h:(relabel scope env).names.lookup x=some .local):scope.names.lookup x=some .local:=by
 unfold relabel at h;dsimp only at h;revert h;generalize scope.names=l;intro h
 induction l with
 |nil=>cases h
 | cons y r a=>
   grind
def dX.adopt{Z:St}(I:dX X pins Z H s)(hn:H a=none)(h1:X.s₀.heap.objs.size<=a)(f:a≠X.env.locals)
  (g:∀x c,X.env.cells.lookup x=some c->c≠a) (h:∀p∈X.pn++pins,p.1≠a) (i:cH X.prog X.w (gY H a o) s.heap a o):dX X pins Z (gY H a o) s:=by
 have ne:∀b u,H b=some u->b≠a:=λb u e=>bL e hn;refine⟨I.ok,I.os,I.bare,⟨I.base.keep,I.base.slot,λb ob q n j=>?_,I.base.there,λb xs q=>?_,λb ob u q=>?_,λb ps q=>?_⟩,I.loc,I.cell,?_,λx c e=>?_,λp d=>?_,λb u e=>?_,I.len⟩;rw[aG (An (Ax (kN q) h1))];exact I.base.free b ob q n j;have:=I.base.tups b xs q;rw[aG (ne b _ this)];exact this;have:=I.base.frzs b ob u q;rw[aG (ne b _ this)];exact this;obtain⟨m,this⟩:=I.base.tbls b ps q;exact⟨m,by rw[aG (ne b _ this)];exact this⟩;rw[aG (iA f)];exact I.free;rw[aG (g x c e)];exact I.freeC x c e;obtain⟨e,n,r⟩:=I.pin p d;exact⟨e,by rw[aG (h p d)];exact n,r⟩;by_cases hb:b=a;subst hb;rw[aJ]at e;lia;rw[aG hb]at e;exact(I.hok b u e).stay (λc v _ q=>q) (λc q=>by rw[aG (ne c _ q)];exact q) λc xs q=>by rw[aG (ne c _ q)];exact q
def wN(I:Nat->Shared->Prop)
  (turn:∀ n s,I n s->wpAny (model prog w) A (pyNext it) (λr d=>match r with
   |none=>R (.ok .next) d
   | some v=>wpAny (model prog w) A (letOwnedTupleGo a it v) (λ_ e=>wpAny (model prog w) A (assign a env v) (λ_ g=>
     wpAny (model prog w) A (forIn l true λc r=>if r=true then do let ok ← isTrue c env (eval c env);pure (ForInStep.yield ok)else pure (ForInStep.yield r)) (λok f=>
      if ok=true then wpAny (model prog w) A (eval elt env) (λx i=>
       wpAny (model prog w) A (call (.builtin "list.append") [acc,x]) (λ_ j=>∃m,m<n/\I m j) (λ_ _=>False) i) (λ_ _=>False) f
      else ∃m,m<n/\I m f) (λ_ _=>False) g) (λ_ _=>False) e) (λ_ _=>False) d) (λ_ _=>False) s)
  (n:Nat) (h:I n s) :
  codeAny (model prog w) A (.compLoop (.ListComp elt [⟨a,iter,l,0⟩] scope pos) 0 it acc env) R s:=by
 refine codeAny_loop rfl I (λn s t=>?_) n h;refine wpAny_noted ?_;rw[compTurn_list];refine dV (HA (dV (Ca (turn n s t) (λr d b=>?_) λ_ _ h'=>h'.elim)));cases r with
 |none=>exact gV b
 | some v=>
   refine dV (Ca b (λ_ e b=>?_) λ_ _ h'=>h'.elim);refine dV (Ca b (λ_ g o=>dV (Ca o (λok f k=>?_) λ_ _ h'=>h'.elim)) λ_ _ h'=>h'.elim);cases ok with
   | true=>
     refine dV (dV (Ca k (λx i p=>dV (Ca p (λ_ j q=>gV (gV ⟨rfl,q⟩)) λ_ _ h'=>h'.elim)) λ_ _ h'=>h'.elim))
   | false=>
     first
      |rfl
      |exact gV ⟨rfl,k⟩
noncomputable abbrev AS(X:Cx)(scope:Scope)(cl:List (Str×Addr))(ex:List Addr)(s:Shared)(H:Hp):Cx:=
 {X with s₀:=s,H₀:=H,env:=compEnvC scope cl s.heap.objs.size X.env,outer:=X.stack,ex:=ex,fn:=λx=>scope.names.lookup x==some .cell,xe:=λ_ _=>False}
noncomputable def blank(own:List Nat)(Z:St):St:=own.foldl (λZ i=>Z.set i none) Z
theorem mE:∀(own:List Nat) (Z:St),(blank own Z).length=Z.length
 |[],_=>rfl
 |i::r,Z=>(mE r (Z.set i none)).trans (by simp)
theorem lM:∀ (own:List Nat) (Z:St) (i:Nat) (v:V),(blank own Z)[i]? = some (some v)->i∉own/\Z[i]? = some (some v)
 |[],_,_,_,h=>⟨by simp,h⟩
 | j::r,Z,i,v,h=>by
   obtain⟨b,a⟩:=lM r (Z.set j none) i v h;by_cases e:i=j;subst e;rw[List.getElem?_set]at a;simp at a
   ·rw[Ac (iA e)]at a
    simp_all
def FI(own:List Nat)(g:TG):Prop:=∀x Z H Q,g x Z H Q->g x Z H λσ' H'=>Q σ' H'/\σ'.length=Z.length/\∀i,i∉own->σ'[i]?=Z[i]?
def IW(own:List Nat)(g:ET):Prop:=∀x Z H Q,g x Z H Q->g x Z H λσ' H'=>Q σ' H'/\σ'.length=Z.length/\∀i,i∉own->σ'[i]?=Z[i]?
def dO(h:i∈own):FI own (iM i):=λx Z H Q q=>
 ⟨q,by simp,λj hj=>Ac (λe:i=j=>hj (by simp_all))⟩
def kM:IW own EU:=λx Z H Q q=>⟨q.1,q.2,rfl,λ_ _=>rfl⟩
def dB(f:FI own t)(g:IW own u)(mt:∀x Z H Q d,(∀a b,Q a b->d a b)->t x Z H Q->t x Z H d):IW own (nB t u):=by
 intro x Z H Q q;obtain⟨v,r,e,q⟩:=q;refine⟨v,r,e,mt _ _ _ _ _ (λh i c=>?_) (f _ _ _ _ q)⟩;obtain⟨c,l1,j⟩:=c;have:=g _ _ _ _ c
 grind
def cQ:∀x Z H (Q c:St->Hp->Prop),(∀a b,Q a b->c a b)->iM i x Z H Q->iM i x Z H c:=λ_ _ _ _ _ f q=>f _ _ q
def DZ(X:Cx)(a:List Expr)(t:TT):Prop:=
 ∀ (pins:List (Addr×Obj)) (s:Shared) (Z:St) (H:Hp) (Q:Bool->Hp->Prop),dX X pins Z H s->t Z H Q ->
   wpAny (model X.prog X.w) X.A (forIn a true λc r=>if r=true then do let ok ← isTrue c X.env (eval c X.env);pure (ForInStep.yield ok)else pure (ForInStep.yield r)) (TP X pins Z Q) X.xe s
def Vd:TT:=λ_ H Q=>Q true H
def Ve:DZ X [] Vd:=λ_ _ _ H _ I h=>wpAny_tests_nil ⟨H,I,h⟩
def Vf(h:PT X c t):DZ X [c] t:=λpins s Z H Q I q=>wpAny_tests_one (h pins s Z H Q I q)
structure Al(X:Cx)(scope:Scope)(own:List Nat):Prop where
 kind:scope.kind=.function
 cells:∀y∈scope.names,y.2=.cell->scope.names.lookup y.1=some .cell
 names:∀y∈scope.names,y.2=.local->scope.names.lookup y.1=some .local
 free:∀y∈scope.names,y.2=.free->X.env.kindOf y.1=some .cell\/X.env.kindOf y.1=some .free
 own:∀i x,X.N[i]?=some x->(scope.names.lookup x=some .local\/scope.names.lookup x=some .cell)->i∈own
 calm:X.calm=true
def Mn(own:List Nat)(d:TI)(g:TG)(e:TT)(f:TE)(Z:St)(H:Hp)(F:List V->Hp->Prop):Prop:=
 d Z H λJ h=>∃W:Nat->Nat->List V->Hp->Prop,(∃m,W 0 m [] h)/\∀i m ys H,W i m ys H->ys.length<=sizeLine /\
  ((J.stop i H/\F ys H)\/(J.go i H/\∀ x H',J.yld i H x H'->g x (blank own Z) H' λa j=>e a j λb c=>
    if b=true then f a c λv k=>∃m',m' < m/\W (i+1) m' (ys++[v]) k else ∃m',m' < m/\W (i+1) m' ys c))
def HY(own:List Nat)(a:TI)(g:TG)(b:TT)(c:TE):TE:=λZ H Q=>Mn own a g b c Z H λys H'=>∀p,H' p=none->Q (.ref p) (gY H' p (.lst ys))
structure Bw(X:Cx)(pins:List (Addr×Obj))(H:Hp)(b:Addr):Prop where
 un:H b=none
 loc:b≠X.env.locals
 young:X.s₀.heap.objs.size<=b
 cell:∀x c,X.env.cells.lookup x=some c->c≠b
 pin:∀p∈X.pn++pins,p.1≠b
def dX.stray{Z:St}{b:Addr}(I:dX X pins Z H s)(hb:s.heap.objs.size<=b)(hn:H' b=none):Bw X pins H' b:=by
 obtain⟨a,c,f,g,d,e⟩:=I.fpOk hb hn;exact⟨a,c,oT I.sz hb,d,e⟩
set_option maxHeartbeats 8000000 in
def Vg{Z:St}{F:List V->Hp->Prop}{W:Nat->Nat->List V->Hp->Prop}
  (S:Al X scope own) (hg:∀cl ex s H,PG (AS X scope cl ex s H) tg g) (hG:FI own g)
  (ht:∀cl ex s H,DZ (AS X scope cl ex s H) ifs tt) (he:∀cl ex s H,PE (AS X scope cl ex s H) elt te)
  (l:dX X pins Z h a) (T:BO X.prog X.w X.K tg J fp it tn) (M:∀x c,cl.lookup x=some c->(X.env.cells.lookup x=some c/\scope.names.lookup x≠some .cell)\/(a.heap.objs.size<c/\scope.names.lookup x=some .cell/\h₁.IsCell c none)) (cl2:∀y∈scope.names,y.2=.free\/y.2=.cell->∃c,cl.lookup y.1=some c)
  (cl3:∀x y c,cl.lookup x=some c->cl.lookup y=some c->x=y)
  (P:∀b∈fp,Dy X pins h b) (L:∀b∈fp,b<D) (B:D<a.heap.objs.size) (E:∀b,b∈frs X.stack->b<D) (hbase:∀b o,X.base.get? b=some o->b<D) (f:Bw X pins h D)
  (hD3:a.heap.get? D=some {cls:=.type "list",data:=.seq ([]:List Value).toArray}) (st3:tn 0 a.heap) (Q:h₁.Ns a.heap.objs.size mC) (t:∀b o,a.heap.get? b=some o->h₁.get? b=some o)
  (w0:W 0 m0 [] h) (turn:∀i m ys H,W i m ys H->ys.length<=sizeLine /\
  ((J.stop i H/\F ys H)\/(J.go i H/\∀ x H',J.yld i H x H'->g x (blank own Z) H' λσ2 h=>tt σ2 h λb H3=>
    if b=true then te σ2 H3 λv π=>∃m',m' < m/\W (i+1) m' (ys++[v]) π else ∃m',m' < m/\W (i+1) m' ys H3)))
  (fin:∀D C ys H' s' m,dX X pins Z (gY H' D (.lst ys)) s'->H' D=none->s'.heap.Ns C m->Bw X pins (gY H' D (.lst ys)) C->F ys H' ->
   compPost (model X.prog X.w) X.A X.xe use Qf (.ref D) C (.ok .next) s') :
  codeAny (model X.prog X.w) X.A (.compLoop (.ListComp elt [⟨tg,iter,ifs,0⟩] scope pos) 0 (.ref it) (.ref D) (compEnvC scope cl a.heap.objs.size X.env))
   (compPost (model X.prog X.w) X.A X.xe use Qf (.ref D) a.heap.objs.size) {a with heap:=h₁,toks:=tk}:=by
 have cneD:∀x c,cl.lookup x=some c->c≠D:=λx c q=>by
  rcases M x c q with z|z;exact f.cell x c z.1;exact(An (BN B z.1)).symm
 have cneF:∀b∈fp,∀x c,cl.lookup x=some c->c≠b:=λb hb x c q=>by
  rcases M x c q with z|z;exact(P b hb).2.2.2.2.1 x c z.1;exact(An (BN (BN (L b hb) B) z.1)).symm
 have okY:(AS X scope cl (D::fp) a h).Ok:=by
  refine⟨l.ok.mod,S.kind,l.ok.glob,l.ok.blt,hF _,cl3,λx hk=>?_,λx c hf q=>?_,l.ok.hd,l.ok.frames,.inl rfl,λb hb=>?_,λb o q=>?_,?_,λb o q hb=>?_,λb hb R=>?_,l.stack,l.stkFree⟩;rcases kL hk with z|z;exact cl2 _ z (.inl rfl);exact cl2 _ (mem_of_lookup z) (.inr rfl)
  ·rcases M x c q with z | z
   ·have hf':scope.names.lookup x=some .cell:=by simpa using hf
    exact absurd hf' z.2
   ·exact AQ z.1
  ·constructor;show b≠a.heap.objs.size;rcases Aj.mp hb with z|z;rw[z];exact An B;exact An (BN (L b z) B);intro x c q;rcases Aj.mp hb with z|z;rw[z];exact cneD x c q;exact cneF b z x c q
  ·exact l.bs b o q
  ·exact oT l.ok.bsz l.sz
  ·rcases Aj.mp hb with z|z;have:=hbase b o q;rw[z]at this;exact Cb _ this;rcases(P b z).2.2.2.1 with y|y;exact l.ok.noex b o q y;exact Cb _ (Ax (kN q) (oT l.ok.bsz y))
  ·rcases Aj.mp hb with z|z;have:=E b R;rw[z]at this;exact Cb _ this;rcases Aj.mp (l.stkSub b R)with y|y;exact(P b z).2.1 y;exact(P b z).2.2.1 y
 have IY:dX (AS X scope cl (D::fp) a h) pins (blank own Z) h {a with heap:=h₁,toks:=tk}:=by
  refine⟨okY,rfl,l.bare,Un.kept t,⟨_,Q,λi x v e1 e2 e3=>?_⟩,λx c q=>?_,l.hok.fresh (hF _),λx c q=>by
   rcases M x c q with z|z;exact l.freeC x c z.1;exact l.hok.fresh (AQ z.1),λp hp=>?_,l.hok.kept t,(mE own Z).trans l.len⟩
  ·obtain⟨hno,e2'⟩:=lM own Z i v e2;have hnl:¬ (relabel scope X.env).names.lookup x=some .local:=λz=>hno (S.own i x e1 (.inl (qK z)));have hnc:¬ scope.names.lookup x=some .cell:=λz=>hno (S.own i x e1 (.inr z));have hcf:(relabel scope X.env).names.lookup x=some .cell\/(relabel scope X.env).names.lookup x=some .free:=by
    rcases e3 with z|z|z;exact absurd z hnl;exact .inl z;exact .inr z
   have hmem:=(kL hcf).resolve_right hnc;have U:=S.free _ hmem rfl;obtain⟨m,hm,hl⟩:=l.loc;obtain⟨u,r,lk⟩:=hl i x v e1 e2' (by rcases U with z|z;exact .inr (.inl z);exact .inr (.inr z));obtain⟨c,hc⟩:=cl2 _ hmem (.inl rfl);refine⟨u,r,.inr ⟨hcf,c,hc,?_⟩⟩;rcases lk with⟨z,_⟩|⟨_,c',hc',ic⟩;dsimp only at U;rw[z]at U;rcases U with y|y<;>cases y;have:=((M _ c hc).resolve_right λz=>hnc z.2.1).1;dsimp only at this;rw[hc']at this;cases this;obtain⟨o,ho,hd⟩:=ic;exact⟨o,t _ _ ho,hd⟩
  ·rcases M x c q with z|z;obtain⟨v,o,ho,hd⟩:=l.cell x c z.1;exact⟨v,o,t _ _ ho,hd⟩;exact⟨_,z.2.2⟩
  ·obtain⟨q,n,ne,nf,d⟩:=l.pin p hp;refine⟨t _ _ q,n,An (kN q),λhb=>?_,d⟩;rcases Aj.mp (l.stkSub _ hb)with y|y;exact ne y;exact nf y
 have DY:D≠a.heap.objs.size:=An B;have statY:∀{H':Hp},(∀b∈fp,H' b=none)->∀b∈fp,Dy (AS X scope cl (D::fp) a h) pins H' b:=λhn b hb=>by
  refine⟨hn b hb,?_,?_,.inl (Ah _ hb),cneF b hb,(P b hb).2.2.2.2.2⟩;show b≠a.heap.objs.size;exact An (BN (L b hb) B);intro R;rcases Aj.mp (l.stkSub b R)with y|y;exact(P b hb).2.1 y;exact(P b hb).2.2.1 y
 have hDfp:D∉fp:=λz=>Cb _ (L D z);have hDstk:D∉frs X.stack:=λz=>Cb _ (E D z);have G:∀{H':Hp} {o:Obj},(∀b∈fp,H' b=none)->∀b∈fp,Dy (AS X scope cl (D::fp) a h) (pins++[(D,o)]) H' b:=λ{H' o} fr b hb=>by
  obtain⟨a1,a2,a3,a4,a5,a6⟩:=statY fr b hb;refine⟨a1,a2,a3,a4,a5,λp hp z=>?_⟩;rcases Au.mp hp with y|y;exact a6 p (Fw _ y) z;rcases Au.mp y with y|y;exact a6 p (BH _ y) z;have e:p=(D,o):=Aq.mp y;rw[e]at z;have z':D=b:=z;exact hDfp (by rw[z'];exact hb)
 have pin2:∀ {H':Hp} {s':Shared} {its:Array Value} {k:Nat},dX (AS X scope cl (D::fp) a h) pins (blank own Z) H' s'->H' D=none->s'.heap.get? D=some {cls:=.type "list",data:=.seq its k} ->
   dX (AS X scope cl (D::fp) a h) (pins++[(D,{cls:=.type "list",data:=.seq its k})]) (blank own Z) H' s':=λ{H' s' its k} I4 D4 o4=>I4.pins_of λp hp=>by
  rcases Au.mp hp with z|z;exact I4.pin p (BH _ z);have e:p=(D,{cls:=.type "list",data:=.seq its k}):=Aq.mp z;subst e;exact⟨o4,D4,DY,hDstk,λv z=>by cases z⟩
 refine wN (λn s'=>∃i ys H' its k,dX (AS X scope cl (D::fp) a h) pins (blank own Z) H' s'/\tn i s'.heap/\(∀b∈fp,H' b=none)/\H' D=none /\
  s'.heap.get? D=some {cls:=.type "list",data:=.seq its k}/\bJ ys its.toList/\W i n ys H') ?_ m0
  ⟨0,[],h,#[],_,IY,T.keep _ _ _ st3 λb hb o q=>t b o q,λb hb=>(P b hb).1,f.un,t _ _ hD3,.nil,w0⟩
 rintro n s4 ⟨i,ys,π,its,k,I4,st4,fr4,D4,o4,v4,w4⟩;obtain⟨hz,step⟩:=turn i n ys π w4;rcases step with⟨stop,qn⟩|⟨go,step⟩
 ·refine thn (T.done (AS X scope cl (D::fp) a h) rfl rfl rfl S.calm i _ s4 (blank own Z) π (λ_ _=>False) (pin2 I4 D4 o4) (G fr4) st4 stop) λr s5 Z0=>?_;obtain⟨hr,I5⟩:=Z0;subst hr;have oD:s5.heap.get? D=some {cls:=.type "list",data:=.seq its k}:=(I5.pin (D,_) (BH _ (BH _ sT))).1;have N:dX (AS X scope cl (D::fp) a h) pins (blank own Z) π s5:=I5.unpinned;have IX:dX X pins Z π s5:=by
   refine l.call' (ch:=D::fp) N.os N.base N.hok N.bare λb hb=>?_;rcases Aj.mp hb with z|z;rw[z];exact⟨.inr f.young,f.loc,f.cell,f.pin⟩;obtain⟨a1,a2,a3,a4,a5,a6⟩:=P b z;exact⟨a4,a2,a5,a6⟩
  obtain⟨m5,hm5,_⟩:=N.loc;have nC:π a.heap.objs.size=none:=N.free;have IX':dX X pins Z (gY π D (.lst ys)) s5:=by
   refine IX.adopt D4 f.young f.loc f.cell f.pin ⟨hz,its.toList,k,v4,?_⟩;rw[oD]
  have strC:Bw X pins (gY π D (.lst ys)) a.heap.objs.size:=l.stray (hF _) (by rw[aG (iA DY)];exact nC);exact fin D _ ys π s5 m5 IX' D4 hm5 strC qn
 ·refine thn (T.item (AS X scope cl (D::fp) a h) rfl rfl rfl S.calm i _ s4 (blank own Z) π (λ_ _=>False) (pin2 I4 D4 o4) (G fr4) st4 go) λr s5 Z0=>?_;obtain⟨u,hr,h5⟩:=Z0;subst hr;refine thn h5 λ_ s6 ⟨x,H6,I6,r6,y6,st6,fr6⟩=>?_;have I6':=I6.pinned (G fr6) (T.obj _ _ st6);refine thn (hg cl (D::fp) a h _ s6 (blank own Z) H6 x u _ I6' r6 (hG _ _ _ _ (step x H6 y6))) λ_ s7 ⟨σ7,H7,I7,⟨q7,l7,p7⟩⟩=>?_;refine thn (ht cl (D::fp) a h _ s7 σ7 H7 _ I7 q7) λb s8 ⟨H8,I8,q8⟩=>?_;have weak:∀ {Y:Hp} {σ:Shared},dX (AS X scope cl (D::fp) a h) ((pins++[(D,{cls:=.type "list",data:=.seq its k})])++nD fp s6.heap) σ7 Y σ ->
    dX (AS X scope cl (D::fp) a h) ((pins++[(D,{cls:=.type "list",data:=.seq its k})])++nD fp s6.heap) (blank own Z) Y σ:=λI9=>
   I9.weak l7.symm λj v e=>by rw[p7 j (lM own Z j v e).1];exact e
  have tn9:∀ {Y:Hp} {σ:Shared},dX (AS X scope cl (D::fp) a h) ((pins++[(D,{cls:=.type "list",data:=.seq its k})])++nD fp s6.heap) (blank own Z) Y σ->tn (i+1) σ.heap/\∀ b∈fp,Y b=none:=λI9=>
   ⟨T.keep _ _ _ st6 λb hb o q=>(I9.pin (b,o) (BH _ (BH _ (jK hb q)))).1,λb hb=>by
    obtain⟨o,q,d⟩:=T.obj _ _ st6 b hb;exact(I9.pin (b,o) (BH _ (BH _ (jK hb q)))).2.1⟩
  cases b with
  | true=>
    rw[fI rfl]at q8 ⊢;refine thn (he cl (D::fp) a h _ s8 σ7 H8 _ I8 q8) λy σ Z0=>?_;obtain⟨v9,Y,I9,r9,m',hm',w9⟩:=Z0;have I:=weak I9;obtain⟨t9,f9⟩:=tn9 I;have p9:=I.pin (D,_) (BH _ (Fw _ (BH _ sT)));have hlen:=v4.length;have hz':its.size<=sizeLine:=by rw[← BX];simp_all
    refine append_at (hsz:=hz') p9.1 λh' hs' hD'=>?_;have I9u:dX (AS X scope cl (D::fp) a h) pins (blank own Z) Y σ:=I.unpinned.unpinned;have I10:dX (AS X scope cl (D::fp) a h) pins (blank own Z) Y {σ with heap:=h'}:=
     I9u.turned (it:=D) (t':=σ.toks) (λb o hb q=>(hs'.2 b hb).trans q) p9.2.1 DY (.inl sT) cneD f.pin
    refine⟨m',hm',i+1,ys++[v9],Y,its.push y,k+1,I10,T.keep _ _ _ t9 λb hb o q=>(hs'.2 b λz=>hDfp (by rw[← z];exact hb)).trans q,f9,p9.2.1,hD',?_,w9⟩;rw[EL];exact v4.append (.cons r9 .nil)
  | false=>
    rw[gX Fx]at q8 ⊢;obtain⟨m',hm',w9⟩:=q8;have I:=weak I8;obtain⟨t9,f9⟩:=tn9 I;have p9:=I.pin (D,_) (BH _ (Fw _ (BH _ sT)));exact⟨m',hm',i+1,ys,H8,its,k,I.unpinned.unpinned,t9,f9,p9.2.1,p9.1,v4,w9⟩
set_option maxHeartbeats 8000000 in
def tX{Z:St}
  (S:Al X scope own) (hi:PI X tg iter wi) (hg:∀cl ex s H,PG (AS X scope cl ex s H) tg g) (hG:FI own g)
  (ht:∀cl ex s H,DZ (AS X scope cl ex s H) B tt) (he:∀cl ex s H,PE (AS X scope cl ex s H) elt te)
       (I:dX X pins Z H s) (hw:Mn own wi g tt te Z H F)
  (hs:∀x,foldedSetIterable iter X.env x=pure x)
  (fin:∀D C ys H' s' m,dX X pins Z (gY H' D (.lst ys)) s'->H' D=none->s'.heap.Ns C m->Bw X pins (gY H' D (.lst ys)) C->F ys H' ->
   compPost (model X.prog X.w) X.A X.xe use Qf (.ref D) C (.ok .next) s') :
  wpAny (model X.prog X.w) X.A (comprehension (.ListComp elt [⟨tg,iter,B,0⟩] scope pos) scope X.env E (newList []) false (eval iter X.env) use) Qf X.xe s:=by
 obtain⟨cl,Q,R,U⟩:=Va (scope:=scope) (env:=X.env) λy π hf=>I.ok.has y.1 (S.free y π hf);refine wpAny_comprehension_free (use:=use) rfl hs Q S.kind S.names (thn (hi pins s Z H _ I hw) λv s₁ h₁=>thn h₁ λitv a G=>?_);obtain⟨it,fp,tn,J,H2,e,r,T,t,f2,W,⟨m0,w0⟩,turn⟩:=G;subst e;refine EG (Vc ?_);dsimp only;have Y:(a.heap.push {cls:=.type "list",dict:=none,data:=.seq ([]:List Value).toArray}).objs.size=a.heap.objs.size+1:=FD ..;have h:∀b o,a.heap.get? b=some o->(a.heap.push {cls:=.type "list",dict:=none,data:=.seq ([]:List Value).toArray}).get? b=some o:=λb o q=>sU _ q;have K:(a.heap.push {cls:=.type "list",dict:=none,data:=.seq ([]:List Value).toArray}).get? a.heap.objs.size=some {cls:=.type "list",dict:=none,data:=.seq ([]:List Value).toArray}:=Ad _ rfl;generalize hG3:a.heap.push {cls:=.type "list",dict:=none,data:=.seq ([]:List Value).toArray}=d at Y h K ⊢;have n:(d.push {cls:=.type "dict",data:=.dict #[]}).objs.size=d.objs.size+1:=FD ..;have i:(pushCells (d.push {cls:=.type "dict",data:=.dict #[]}) scope.names).Ns d.objs.size (λ_=>none):=(Heap.Ns.new d (.type "dict")).keeps (pushCells_keeps _ _);have k:∀b o,d.get? b=some o->(pushCells (d.push {cls:=.type "dict",data:=.dict #[]}) scope.names).get? b=some o:=λb o q=>pushCells_keeps _ _ b o (sU _ q);have ok:=cellsFrom_ok scope.names (d.push {cls:=.type "dict",data:=.dict #[]}) (d.objs.size+1) [] ⟨λ_ _ hm=>(nomatch hm),List.Pairwise.nil⟩ (by rw[n];exact hF _);rw[n]at ok;generalize pushCells (d.push {cls:=.type "dict",data:=.dict #[]}) scope.names=h₁ at i k ok ⊢;have σ:dX X pins Z H2 {a with heap:=d}:=r.kept (t':=a.toks) h;have look:∀x,(cellsFrom (d.objs.size+1) scope.names cl).lookup x=((cellsFrom (d.objs.size+1) scope.names []).lookup x).or (cl.lookup x):=λx=>by rw[cP,List.lookup_append]
 have L:∀x c,(cellsFrom (d.objs.size+1) scope.names []).lookup x=some c->d.objs.size<c/\scope.names.lookup x=some .cell/\h₁.IsCell c none:=λx c q=>
  ⟨(ok.empty x c (mem_of_lookup q)).2,S.cells _ (iD _ _ x c (mem_of_lookup q)) rfl,(ok.empty x c (mem_of_lookup q)).1⟩
 have j:∀ x c,(cellsFrom (d.objs.size+1) scope.names cl).lookup x=some c->(X.env.cells.lookup x=some c/\scope.names.lookup x≠some .cell)\/(d.objs.size < c/\scope.names.lookup x=some .cell/\h₁.IsCell c none):=λx c q=>by
  rw[look]at q;cases e:(cellsFrom (d.objs.size+1) scope.names []).lookup x with
  |some M=>rw[e]at q;cases q;exact .inr (L x _ e)
  | none=>
    rw[e]at q;refine .inl ⟨R x c q,λz=>?_⟩;obtain⟨M,f⟩:=dN scope.names (d.objs.size+1) x (mem_of_lookup z);rw[e]at f;cases f
 have l:∀x c,X.env.cells.lookup x=some c->c<d.objs.size:=λx c q=>by
  obtain⟨v,o,ho,hd⟩:=σ.cell x c q;exact kN ho
 have p:=Vg (iter:=iter) (elt:=elt) (pos:=pos) (use:=use) (Qf:=Qf) (tk:=a.toks) (h₁:=h₁) S hg hG ht he σ T j (λy π hk=>by
   rw[look];rcases hk with z|z
   ·obtain⟨c,hc⟩:=U y π z;cases e:(cellsFrom (d.objs.size+1) scope.names []).lookup y.1 with
    |some M=>exact⟨M,rfl⟩
    |none=>exact⟨c,hc⟩
   ·obtain⟨c,hc⟩:=dN scope.names (d.objs.size+1) y.1 (by rw[← z];exact π);exact⟨c,by rw[hc];rfl⟩) (λx y c q1 P=>by
   rcases j x c q1 with N|N;rcases j y c P with u|u;exact σ.ok.inj x y c N.1 u.1;exact absurd u.1 (ER.mpr (AQ (l x c N.1)));rcases j y c P with u|u;exact absurd N.1 (ER.mpr (AQ (l y c u.1)));have m1:(cellsFrom (d.objs.size+1) scope.names []).lookup x=some c:=by
    obtain⟨M,f⟩:=dN scope.names (d.objs.size+1) x (mem_of_lookup N.2.1);rw[look,f]at q1;cases q1;exact f
   have m2:(cellsFrom (d.objs.size+1) scope.names []).lookup y=some c:=by
    obtain⟨M,f⟩:=dN scope.names (d.objs.size+1) y (mem_of_lookup u.2.1);rw[look,f]at P;cases P;exact f
   exact name_of_addr ok.apart (mem_of_lookup m1) (mem_of_lookup m2)) f2 (λb hb=>by obtain⟨o,q,_⟩:=T.obj _ _ t b hb;exact kN q)
  (by show a.heap.objs.size<d.objs.size;simp_all) (λb hb=>by
   rcases Aj.mp (r.stkSub b hb)with z|z;rw[z];exact r.lt;exact lt_of_not_le λhle=>r.nofs hle z)
  (λb o q=>kN (r.bs b o q).1) (r.stray (hF _) (r.hok.fresh (hF _))) K (T.keep _ _ _ t λb hb o q=>h b o q) i k w0 turn fin
 exact codeAny_compStart_list p (T.self _ 0 _ _ _ (T.keep _ _ _ t λb hb o q=>k b o (h b o q)) p)
def wO 
  (S:Al X scope own) (hi:PI X tg iter d) (i:∀cl ex s H,PG (AS X scope cl ex s H) tg g) (j:FI own g)
  (k:∀cl ex s H,DZ (AS X scope cl ex s H) a f) (l:∀cl ex s H,PE (AS X scope cl ex s H) elt h)
  (hs:∀x,foldedSetIterable iter X.env x=pure x:=by intro _;rfl):PE X (.ListComp elt [⟨tg,iter,a,0⟩] scope pos) (HY own d g f h):=by
 intro pins s Z H Q I n;refine tX (use:=none) S hi i j k l I n hs λD C ys H' s' m p hD hm str q=>?_;refine⟨m,hm,λh' c=>⟨.ref D,gY H' D (.lst ys),?_,rfl,q D hD⟩⟩;exact p.turned (it:=C) (t':=s'.toks) (λb o hb e=>(c.2 b hb).trans e) str.un str.loc (.inr str.young) str.cell str.pin
def pF 
  (B:X.N.Nodup) (j:X.N[i]?=some x) (A:X.env.scope.names.lookup x=some .local)
  (S:Al X scope own) (hi:PI X tg iter u) (E:∀cl ex s H,PG (AS X scope cl ex s H) tg g) (F:FI own g)
  (G:∀cl ex s H,DZ (AS X scope cl ex s H) f w) (J:∀cl ex s H,PE (AS X scope cl ex s H) elt y)
  (k:swapsWith (.ListComp elt [⟨tg,iter,f,0⟩] scope pos) (some (.Name x c)) d.line X.env=pure true)
  (hs:∀x,foldedSetIterable iter X.env x=pure x:=by intro _;rfl) :
  PS X (.Assign [.Name x c] (.ListComp elt [⟨tg,iter,f,0⟩] scope pos) d) (λD Z H=>HY own u g w y Z H λv K=>D.nx (Z.set i (some v)) K):=by
 intro pins s Z H L I M;rw[exec_Assign_Name_used _ _ _ _ k];refine dV (HA (dV ?_));refine dV (thn (tX (use:=some (assign (.Name x c) X.env)) (Qf:=λ_ s'=>SP X pins L .next s') S hi E F G J I M hs λD C ys H' s' m π hD hm str q=>?_) λ_ s' P=>gV (gV P));refine wpAny_assign_Name (tK (v:=.ref D) π B j (.inl A) (show cE (.ref D) (Value.ref D)from rfl) (λl n p=>?_) (.inr A));obtain⟨a,h,ha⟩:=p;have r:C≠a:=by
  rcases ha with z|z;rw[z];exact str.loc;exact iA (str.cell x a z)
 refine⟨m,hm.sameBut h r,λh' t=>⟨_,_,?_,q D hD⟩⟩;exact n.turned (it:=C) (t':=l.toks) (λb o hb e=>(t.2 b hb).trans e) str.un str.loc (.inr str.young) str.cell str.pin
def Vh(hc:X.calm=true):iT X (.builtin "all") (λxs H Q=>∃ (a:Addr) (bs:List Bool),xs=[.ref a]/\AL X.K H a (bs.map V.bl)/\Q (.bl (bs.all id)) H):=by
 intro pins s Z H xs us Q I r h;obtain⟨a,bs,rfl,ha,q⟩:=h;obtain⟨u,rfl,n⟩:=tN r;cases n;obtain⟨its,f,p,B⟩:=I.list ha;have g:a<s.heap.objs.size:=by obtain⟨_,e,_⟩:=p.isList;exact kN e
 have t:X.A.in1.handled=none:=I.ok.hd hc;refine call_all_walk (wpAny_pyIter_list p.isList ?_);refine⟨s.heap.objs.size,[s.heap.objs.size,a],[s.heap.objs.size],its.toArray.size,_,_,λi=>(bs[i]?).getD true,rfl,Walks.list (A:=X.A.in1) t _ a (An g) its.toArray,
  ⟨⟨_,Ad _ rfl,rfl,rfl⟩,p.isList.push _⟩,λi v s' C D E k=>?_,λh' tk w=>?_⟩
 ·have hi:its[i]?=some v:=by simp_all
  have c:=f.length;have l:i<its.length:=(sS.mp hi).1;have hb:i<bs.length:=by grind
  obtain⟨u,m,y⟩:=f.get (i:=i) (x:=V.bl bs[i]) (by simp);rw[hi]at m;cases m;have e:v=Value.bool bs[i]:=y;subst e;simp only[List.getElem?_eq_getElem hb,getD_some]at k;exact Hw k
 ·have e:((range its.toArray.size).all λi=>(bs[i]?).getD true)=bs.all id:=by
   have c:=f.length;rw[hB]at c;rw[CY,← c];rw[FA,Ds,Ds];constructor;intro j b hb;obtain⟨i,hi,rfl⟩:=BY hb;have:=j i (Cr.mpr hi);simp only[List.getElem?_eq_getElem hi,getD_some]at this;exact this;intro j i hi;have d:=Cr.mp hi;simp only[List.getElem?_eq_getElem d,getD_some];exact j _ (DW d)
  rw[e];exact⟨.bl _,H,I.kept (t':=tk) λb o q=>w b o (λhm=>by
   have z:b=s.heap.objs.size:=by simp_all
   rw[z]at q;exact Cb _ (kN q)) (sU _ q),rfl,q⟩
noncomputable def Kp(x:Str):It:=⟨λi _=>∃c,x.cps[i]?=some c,λi H v H'=>H'=H/\∃c,x.cps[i]?=some c/\v=.str ⟨#[c]⟩,λi _=>x.cps[i]?=none⟩
def zI{K:W.Frag}(x:Str)(t:Tok)(it:Addr)(ty:String)(a:ty="str_ascii_iterator"\/ty="str_iterator"):BO P w K tg (Kp x) [it] it (λi h=>h.IsStrIter it ty x t i) where
 mem:=by simp
 obj:=λi h st b hb=>by
  have e:b=it:=by simpa using hb
  subst e;obtain⟨o,e,c,d⟩:=st;exact⟨o,e,λv z=>by rw[d]at z;cases z⟩
 keep:=λi h h' st k=>by
  obtain⟨o,e,c,d⟩:=st;exact⟨o,k it (by simp) o e,c,d⟩
 item:=by
  intro X q r u hc i pins s Z H E I g st y;subst q r u;obtain⟨c,f⟩:=y;obtain⟨j,l,F,m,n,p⟩:=g it (by simp);rcases a with rfl|rfl;refine wpAny_pyNext_ascii_item st f λh' st' A=>?_;have B:dX X pins Z H {s with heap:=h',toks:=s.toks+1}:=I.turned (t':=s.toks+1) (λb o hb e=>(A.2 b hb).trans e) j l m n p;obtain⟨o,e,C,d⟩:=id st';exact⟨_,rfl,Gs (s:={s with heap:=h',toks:=s.toks+1}) e C d (by decide) ⟨.str ⟨#[c]⟩,H,B,⟨_,rfl⟩,⟨rfl,c,f,rfl⟩,st',λb hb=>(g b hb).1⟩⟩;refine wpAny_pyNext_wide_item st f λh' st' A=>?_;have B:dX X pins Z H {s with heap:=h',toks:=s.toks+1}:=I.turned (t':=s.toks+1) (λb o hb e=>(A.2 b hb).trans e) j l m n p;obtain⟨o,e,C,d⟩:=id st';exact⟨_,rfl,Gs (s:={s with heap:=h',toks:=s.toks+1}) e C d (by decide) ⟨.str ⟨#[c]⟩,H,B,⟨_,rfl⟩,⟨rfl,c,f,rfl⟩,st',λb hb=>(g b hb).1⟩⟩
 done:=by
  intro X q r u hc i pins s Z H E I g st y;subst q r u;have f:x.cps[i]?=none:=y;obtain⟨j,l,F,m,n,p⟩:=g it (by simp);rcases a with rfl|rfl;exact wpAny_pyNext_ascii_end (I.ok.hd hc) st f λh' D=>⟨rfl,I.turned (t':=s.toks) (λb o hb e=>D b o hb e) j l m n p⟩;exact wpAny_pyNext_wide_end (I.ok.hd hc) st f λh' D=>⟨rfl,I.turned (t':=s.toks) (λb o hb e=>D b o hb e) j l m n p⟩
 self:=λ_ _ _ _ _ st h=>by
  rcases a with rfl|rfl;exact wpAny_pyIter_striter_ascii st h;exact wpAny_pyIter_striter_wide st h
def Vi:V->Option Int->Option Int->Hp->VK->Prop:=λx lo hi H Q=>∃z,x=.str z/\z.length<=sizeLine/\Q (.str (slice z lo hi)) H
def Vj:Gz X Vi:=by
 intro pins s Z H x v g m lo hi sl Q I e hs pl d h;obtain⟨z,rfl,f,q⟩:=h;obtain⟨t,rfl⟩:=e;refine⟨"str",_,F.slot_str_getitem.lookup,typeIs_str _ _ _,?_⟩;have fin:∀b k,EP X pins Z Q (.str (slice z lo hi) b) {s with toks:=k}:=λb k=>⟨.str _,H,I.tok k,⟨b,rfl⟩,q⟩;have a:(slice z lo hi).length<=sizeLine:=oT (Txt.slice_le z lo hi) f;cases pl with
 | none=>
   cases d with
   |none=>exact IM (l:=none) (u:=none) (st:=none) hs rfl (post_val_or_str ⟨a,fin⟩)
   |int j c=>exact IM (l:=none) (u:=some (j,c)) (st:=none) hs rfl (post_val_or_str ⟨a,fin⟩)
 | int i t1=>
   cases d with
   |none=>exact IM (l:=some (i,t1)) (u:=none) (st:=none) hs rfl (post_val_or_str ⟨a,fin⟩)
   |int j c=>exact IM (l:=some (i,t1)) (u:=some (j,c)) (st:=none) hs rfl (post_val_or_str ⟨a,fin⟩)
def Vk{ys:List Str}:∀ {us:List Value},bJ (ys.map V.str) us->StrsAre us ys:=by
 induction ys with
 |nil=>intro us r;cases r;exact .nil
 | cons y r a=>
   intro us h;cases h with
   | cons b c=>
     obtain⟨t,rfl⟩:=b;exact .cons y t (a c)
def IZ(K:W.Frag):V->List V->Hp->VK->Prop:=λx vs H Q=>∃b a ys,x=.str b/\vs=[.ref a]/\AL K H a (ys.map V.str)/\(ys.map (·.length)).sum+ys.length*b.length<=16777216/\Q (.str (Txt.join b ys)) H
def Vl:Es X "str.join" (IZ X.K):=by
 intro pins s Z H x vs v us Q I b c h;obtain⟨d,a,ys,rfl,rfl,ha,e,q⟩:=h;obtain⟨t,rfl⟩:=b;obtain⟨u,rfl,f⟩:=c.one;cases f;obtain⟨its,r,p,_⟩:=I.list ha;exact join_list p.isList (by simpa using Vk r) e λg k=>⟨.str _,H,I.tok k,⟨g,rfl⟩,q⟩
def wP:iT X (.builtin "isinstance") (λxs H Q=>∃x c t b,xs=[x,.ty c]/\AG X.K H x t/\W.kitOne X.K t (.type c)=some b/\Q (.bl b) H):=by
 intro pins s Z H xs us Q I r h;obtain⟨x,c,t,b,rfl,ty,e,q⟩:=h;obtain⟨u,d,rfl,f,a⟩:=Kh r;cases (show d=type c from a);exact Ue I f ty e λtk=>⟨.bl b,H,I.tok tk,rfl,q⟩
noncomputable def cS(H:Hp)(p:Addr):Option (Bool×List V):=match H p with
 |some (.lst xs)=>some (true,xs)
 |some (.tup xs)=>some (false,xs)
 |some (.frz _ (.lst xs))=>some (true,xs)
 |_=>none
def Vm(h:H p=some (.lst xs)):cS H p=some (true,xs):=by unfold cS;rw[h]
def aV(h:H p=some (.tup xs)):cS H p=some (false,xs):=by unfold cS;rw[h]
def kO(h:H p=some (.frz o (.lst xs))):cS H p=some (true,xs):=by unfold cS;rw[h]
def aI{P:Prop}{a:Type}{x:a}(h:none=some x):P:=nomatch h
set_option tactic.hygienic true in
def qL(h:cS H p=some (b,xs)):(b=true/\H p=some (.lst xs))\/(b=false/\H p=some (.tup xs))\/(b=true/\∃ o,H p=some (.frz o (.lst xs))):=by
 unfold cS at h;cases e:H p with
 |none=>rw[e]at h;exact aI h
 | some o=>
   rw[e]at h;cases o<;>try exact aI h
   ·cases h;exact .inl ⟨rfl,rfl⟩
   ·cases h;exact .inr (.inl ⟨rfl,rfl⟩)
   ·rename_i o;cases o<;>try exact aI h
    cases h;exact .inr (.inr ⟨rfl,_,rfl⟩)
def eR{K:W.Frag}(h:cS H p=some (true,xs)):AL K H p xs:=by
 rcases qL h with⟨_,e⟩|⟨z,_⟩|⟨_,o,e⟩;exact .inl (.inl e);cases z;exact .inl (.inr ⟨o,e⟩)
def dD{K:W.Frag}(h:cS H p=some (false,xs)):BI K H p xs:=by
 rcases qL h with⟨z,_⟩|⟨_,e⟩|⟨z,_⟩;cases z;exact .inl (.inl e);cases z
def Ja(H:Hp)(x y:V):Option V:=match x,y with
 |.ref p,.int i=>(cS H p).bind λq=>atI q.2 i
 |.str z,.int i=>if z.length<=sizeLine then(atI z.cps.toList i).map λc=>.str ⟨#[c]⟩else none
 |_,_=>none
def Jb(H:Hp)(x:V):Option Nat:=match x with
 |.ref p=>(cS H p).map (·.2.length)
 |.str z=>if z.length<=sizeLine then some z.length else none
 |_=>none
def Mo:R2:=λx y H Q=>∃v,Ja H x y=some v/\Q v H
set_option tactic.hygienic true in
def Vn:HU X Mo:=by
 intro a d pins s Z H x y v u Q I f g h hs;obtain⟨z,e,q⟩:=h;unfold Ja at e;split at e
 ·rename_i p i;cases j:cS H p with
  |none=>simp_all
  | some w=>
    obtain⟨b,xs⟩:=w;rw[j]at e;cases b with
    |true=>exact UG a d pins s Z H _ _ v u Q I f g ⟨p,xs,i,z,rfl,rfl,eR j,e,q⟩ hs
    |false=>exact UH a d pins s Z H _ _ v u Q I f g ⟨p,xs,i,z,rfl,rfl,dD j,e,q⟩ hs
 ·rename_i t i;split at e
  ·rename_i k;cases hc:atI t.cps.toList i with
   |none=>simp_all
   | some c=>
     rw[hc]at e;cases e;exact UI a d pins s Z H _ _ v u Q I f g ⟨t,i,c,rfl,rfl,k,hc,q⟩ hs
  ·cases e
 ·cases e
def Mp:List V->Hp->VK->Prop:=λxs H Q=>∃x n,xs=[x]/\Jb H x=some n/\Q (.int n) H
set_option tactic.hygienic true in
def Vo:iT X (.builtin "len") Mp:=by
 intro pins s Z H xs us Q I r h;obtain⟨x,n,rfl,e,q⟩:=h;unfold Jb at e;split at e
 ·rename_i p;cases a:cS H p with
  |none=>simp_all
  | some w=>
    obtain⟨b,xs⟩:=w;rw[a]at e;cases e;cases b with
    |true=>exact mB pins s Z H _ us Q I r ⟨p,xs,rfl,.inl (eR a),q⟩
    |false=>exact mB pins s Z H _ us Q I r ⟨p,xs,rfl,.inr (dD a),q⟩
 ·rename_i z;split at e;rename_i c;cases e;exact tU pins s Z H _ us Q I r ⟨z,rfl,c,q⟩;cases e
 ·cases e
def Mq:V->Option Int->Option Int->Hp->VK->Prop:=λx lo hi H Q=>match x with
 |.str z=>z.length<=sizeLine/\Q (.str (slice z lo hi)) H
 | .ref p=>(∃ xs,cS H p=some (true,xs)/\∀ r,H r=none->Q (.ref r) (gY H r (.lst (wK xs lo hi)))) \/
   ∃xs,cS H p=some (false,xs)/\¬(PySem.sIx xs.length 0 lo=0/\PySem.sIx xs.length xs.length hi=xs.length)/\∀r,H r=none->Q (.ref r) (gY H r (.tup (wK xs lo hi)))
 |_=>False
set_option tactic.hygienic true in
def Kq:Gz X Mq:=by
 intro pins s Z H x v a b lo hi sl Q I c hs pl d h;unfold Mq at h;split at h;rename_i z;exact Vj pins s Z H _ v a b lo hi sl Q I c hs pl d ⟨z,rfl,h.1,h.2⟩;rename_i p;rcases h with⟨xs,e,q⟩|⟨xs,e,hw,q⟩;exact UN pins s Z H _ v a b lo hi sl Q I c hs pl d ⟨p,xs,rfl,eR e,q⟩;exact Uy pins s Z H _ v a b lo hi sl Q I c hs pl d ⟨p,xs,rfl,dD e,hw,q⟩
 simp_all
def Ms(K:W.Frag)(b:TE):TI:=λZ H R=>b Z H λx a=>match x with
 |.str z=>R (Kp z) a
 |.ref p=>(∃xs,cS a p=some (true,xs)/\R (Kd K p) a)\/∃xs,cS a p=some (false,xs)/\R (Ke K p) a
 |_=>False
set_option tactic.hygienic true in
def Vp(k:PE X l i):PI X tg l (Ms X.K i):=by
 intro pins s Z H R I h;refine thn (k pins s Z H _ I h) λv s1 Z0=>?_;obtain⟨x,f,c,j,d⟩:=Z0;split at d
 ·rename_i x;obtain⟨t,rfl⟩:=j;cases ha:x.cps.all (· < 128)with
  | true=>
    refine wpAny_pyIter_ascii ha ?_;refine⟨s1.heap.objs.size,[s1.heap.objs.size],_,_,f,rfl,c.kept (t':=s1.toks) λb o e=>sU _ e,zI x t _ _ (.inl rfl),⟨_,Ad _ rfl,rfl,rfl⟩,λb hb=>?_,d⟩;have e:b=s1.heap.objs.size:=by simpa using hb
    subst e;exact c.fpOk (hF _) (c.hok.fresh (hF _))
  | false=>
    refine wpAny_pyIter_wide ha ?_;refine⟨s1.heap.objs.size,[s1.heap.objs.size],_,_,f,rfl,c.kept (t':=s1.toks) λb o e=>sU _ e,zI x t _ _ (.inr rfl),⟨_,Ad _ rfl,rfl,rfl⟩,λb hb=>?_,d⟩;have e:b=s1.heap.objs.size:=by simpa using hb
    subst e;exact c.fpOk (hF _) (c.hok.fresh (hF _))
 ·rename_i a;cases j;rcases d with⟨xs,g,q⟩ | ⟨xs,g,q⟩
  ·obtain⟨its,m,p,n⟩:=c.list (eR g);refine wpAny_pyIter_list p.isList ?_;refine⟨s1.heap.objs.size,[s1.heap.objs.size],_,_,f,rfl,c.kept (t':=s1.toks) λb o e=>sU _ e,Ti a _,⟨_,Ad _ rfl,rfl,rfl⟩,λb hb=>?_,q⟩;have e:b=s1.heap.objs.size:=by simpa using hb
   subst e;exact c.fpOk (hF _) (c.hok.fresh (hF _))
  ·obtain⟨its,m,p,n⟩:=c.tuple (dD g);refine Hv (show s1.heap.IsTuple a its.toArray from p) ?_;refine⟨s1.heap.objs.size,[s1.heap.objs.size],_,_,f,rfl,c.kept (t':=s1.toks) λb o e=>sU _ e,Tj a _,⟨_,Ad _ rfl,rfl,rfl⟩,λb hb=>?_,q⟩;have e:b=s1.heap.objs.size:=by simpa using hb
   subst e;exact c.fpOk (hF _) (c.hok.fresh (hF _))
 ·exact d.elim
noncomputable def Mu(N:List Str)(sc scope:Scope)(own:List Nat):Bool:=
 (match scope.kind with|.function=>true|_=>false) &&
 scope.names.all (λy=>match y.2 with
  |.cell=>(match scope.names.lookup y.1 with|some .cell=>true|_=>false)
  |.local=>(match scope.names.lookup y.1 with|some .local=>true|_=>false)
  |.free=>(match sc.names.lookup y.1 with|some .cell=>true|some .free=>true|_=>false)
  |_=>true) &&
 (range N.length).all λi=>match N[i]? with
  |some x=>(match scope.names.lookup x with|some .local=>own.contains i|some .cell=>own.contains i|_=>true)
  |none=>true
def HZ(own:List Nat)(h:Mu X.N X.env.scope scope own=true)(hc:X.calm=true:=by rfl):Al X scope own:=by
 unfold Mu at h;rw[Ej,Ej]at h;obtain⟨⟨g,b⟩,d⟩:=h;rw[Ds]at b d;refine⟨?_,λy a e=>?_,λy a e=>?_,λy a e=>?_,λi x f c=>?_,hc⟩;revert g;cases scope.kind<;>simp;have:=b y a;rw[e]at this;dsimp only at this;split at this;assumption;cases this;have:=b y a;rw[e]at this;dsimp only at this;split at this;assumption;cases this;have:=b y a;rw[e]at this;dsimp only at this;split at this;rename_i q;exact .inl q;rename_i q;exact .inr q;cases this;have hi:i<X.N.length:=(sS.mp f).1;have:=d i (Cr.mpr hi);rw[f]at this;dsimp only at this;rcases c with c|c<;>rw[c]at this<;>simpa using this
structure Dz(J:It)(xs:List V)(P:Hp->Prop):Prop where
 go:∀H i x,P H->xs[i]?=some x->J.go i H
 yld:∀H i x y H',P H->xs[i]?=some x->J.yld i H y H'->H'=H/\y=x
 stop:∀H i,P H->xs[i]?=none->J.stop i H
def Vq{K:W.Frag}:Dz (Kd K a) xs (λH=>AL K H a xs) where
 go:=λH i x h e=>⟨xs,x,h,e⟩
 yld:=λH i x y H' h e ⟨b,c⟩=>⟨b,by simp_all⟩
 stop:=λH i h e=>⟨xs,h,EI.mp e⟩
def Vr{K:W.Frag}:Dz (Ke K a) xs (λH=>BI K H a xs) where
 go:=λH i x h e=>⟨xs,x,h,e⟩
 yld:=λH i x y H' h e ⟨b,c⟩=>⟨b,by simp_all⟩
 stop:=λH i h e=>⟨xs,h,EI.mp e⟩
noncomputable def FJ(lo:Int)(n:Nat):List V:=(range n).map λ(i:Nat)=>V.int (lo+(i:Int))
def zJ{lo:Int}(h:(FJ lo n)[i]?=some x):i<n/\x=.int (lo+i):=by
 unfold FJ at h;rw[Ar]at h;cases e:(range n)[i]? with
 |none=>simp_all
 | some k=>
   obtain⟨hi,a⟩:=sS.mp e;rw[length_range]at hi
   simp_all
def wQ(lo:Int)(n:Nat):(FJ lo n).length=n:=by simp[FJ]
def zK{lo:Int}:Dz (HP lo n) (FJ lo n) P where
 go:=λH i x _ e=>(zJ e).1
 yld:=λH i x y H' _ e ⟨a,b⟩=>⟨a,by rw[(zJ e).2];exact b⟩
 stop:=λH i _ e=>by
  have:=EI.mp e;rw[wQ]at this;exact this
noncomputable def eU(x:Str):List V:=x.cps.toList.map λc=>.str ⟨#[c]⟩
def fJ(x:Str):(eU x).length=x.length:=by simp[eU,Str.length]
def Vs:Dz (Kp x) (eU x) P where
 go:=λH i v _ e=>by
  unfold eU at e;rw[Ar]at e;cases q:x.cps.toList[i]? with
  |none=>simp_all
  |some c=>exact⟨c,by simp_all⟩
 yld:=λH i v y H' _ e ⟨b,c,d,f⟩=>⟨b,by
  unfold eU at e
  simp_all⟩
 stop:=λH i _ e=>by
  have a:=EI.mp e;rw[fJ]at a;show x.cps[i]?=none;rw[Array.getElem?_eq_none_iff];exact a
def Vt(h:z.length<=sizeLine):Jb H (.str z)=some z.length:=by show(if z.length<=sizeLine then some z.length else none)=_;rw[fI h]
def zL(h:cS H p=some (b,xs)):Jb H (.ref p)=some xs.length:=by show(cS H p).map (·.2.length)=_;simp_all
def Mv(h:cS H p=some (b,xs))(e:atI xs i=some v):Ja H (.ref p) (.int i)=some v:=by show(cS H p).bind (λq=>atI q.2 i)=_;simp_all
def Vu(h:z.length<=sizeLine)(e:atI z.cps.toList i=some c):Ja H (.str z) (.int i)=some (.str ⟨#[c]⟩):=by
 show(if z.length<=sizeLine then(atI z.cps.toList i).map λc=>V.str ⟨#[c]⟩else none)=_;simp_all
def zM{ys:List a}{i:Int}(h0:0<=i)(h1:i<ys.length):∃c,atI ys i=some c:=by
 obtain⟨n,rfl⟩:=Int.eq_ofNat_of_zero_le h0;have hn:n<ys.length:=by simp_all
 exact⟨ys[n],nG (nL hn)⟩
end
def wR{f:a->b}:atI (ys.map f) i=(atI ys i).map f:=by
 unfold atI;rw[hB];cases AH ys.length i with
 |none=>rfl
 |some j=>simp
def aM(h:H p=none):mQ H (gY H p o):=λb u e=>by rw[aG (bL e h)];exact e
def Vv(sep:Str)(ys:List Str):(Txt.join sep ys).length<=(ys.map (·.length)).sum+ys.length*sep.length:=by
 show(glued sep ys).length<=_;rw[StrLaws.glued_eq_join];exact StrLaws.join_length_le sep ys
def Vx:PySem.W.kitOne K (.type t) (.type t)=some true:=by
 unfold PySem.W.kitOne;simp
section
open PyProof.Rows Spec
theorem nM(e:ty="str_ascii_iterator"\/ty="str_iterator"):∀ (n i:Nat) (s:Shared) (Q:List Value->Shared->Prop),s.heap.IsStrIter it ty x t i->i+n<=x.length ->
  (∀h' tk us,h'.IsStrIter it ty x t (i+n)->SameBut it s.heap h'->bJ (((eU x).drop i).take n) us->Q us {s with heap:=h',toks:=tk})->wpAny (model prog w) A (draw (.ref it) n) Q E s
 | 0,i,s,Q,hit,_,h=>by
   exact gV (by simpa using h s.heap s.toks [] hit (Heap.SameBut.refl ..) (by simpa using(.nil:bJ [] [])))
 | n+1,i,s,Q,hit,hle,h=>by
   have j:i<x.cps.size:=by have:x.length=x.cps.size:=rfl;lia
   have k:x.cps[i]?=some x.cps[i]:=by simp
   have hd:(eU x).drop i=V.str ⟨#[x.cps[i]]⟩::(eU x).drop (i+1):=by
    rw[drop_eq_getElem_cons (by rw[fJ];exact j)];simp[eU]
   have go:∀ b,b.IsStrIter it ty x t (i+1)->SameBut it s.heap b ->
     wpAny (model prog w) A (match (some (Value.str ⟨#[x.cps[i]]⟩ s.toks))with|none=>pure []|some v=>do return v::(← holding [v] (draw (.ref it) n))) Q E {s with heap:=b,toks:=s.toks+1}:=λb a c=>by
    refine dV (AE (nM e n (i+1) _ _ a (by simp_all +arith) λf tk us g d l=>gV ?_));refine h f tk _ (by lia) (c.trans d) ?_;rw[hd,List.take_succ_cons];exact .cons ⟨_,rfl⟩ l
   rcases e with rfl|rfl;exact dV (wpAny_pyNext_ascii_item hit k λb a c=>go b a c);exact dV (wpAny_pyNext_wide_item hit k λb a c=>go b a c)
def qM(hh:A.handled=none)
  (hn:targets.length=x.length) (hstar:targets.findIdx? (·.1)=none)
  (h:∀h' tk us,ExtBut s.heap.objs.size s.heap h'->bJ (eU x) us->wpAny (model prog w) A (assignInOrder (targets.map (·.2)) us) Q E {s with heap:=h',toks:=tk}) :
  wpAny (model prog w) A (unpack (.str x t) targets) Q E s:=by
 unfold unpack;rw[hn,hstar];refine dV (AE ?_);unfold unpackItems;refine dV ?_;unfold notIterableAtAll;refine dV (Gh (typeIs_str _ _ _) F.slot_str_iter.lookup ?_);refine gV ?_;have go:∀ ty,(ty="str_ascii_iterator"\/ty="str_iterator")->wpAny (model prog w) A (do
   let items ← holding [Value.ref s.heap.objs.size] (draw (.ref s.heap.objs.size) x.length)
   if items.length<x.length then
    rule "unpack.too-few";raiseError "ValueError" s!"not enough values to unpack (expected {x.length}, got {items.length})"
   if(← holding items (pyNext (.ref s.heap.objs.size))).isSome then
    rule "unpack.too-many";raiseError "ValueError" s!"too many values to unpack (expected {x.length})"
   return items:Sem (List Value)) (λus s'=>wpAny (model prog w) A (assignInOrder (targets.map (·.2)) us) Q E s') E {s with heap:=s.heap.push {cls:=.type ty,data:=.fields #[.str x t,.int 0 0]}}:=by
  intro ty hty;refine dV (AE (nM (it:=s.heap.objs.size) (x:=x) (t:=t) hty x.length 0 _ _ ⟨_,Ad _ rfl,rfl,rfl⟩ (by simp) λh₁ tk us hit₁ hs₁ hv=>?_));have hv':bJ (eU x) us:=by
   have e:((eU x).drop 0).take x.length=eU x:=by
    rw[drop_zero];exact CC (by rw[fJ];exact hF _)
   rw[e]at hv;exact hv
  have hl:us.length=x.length:=by rw[← hv'.length,fJ]
  rw[gX (by simp[*])];have hend:x.cps[x.length]?=none:=by simp[Str.length]
  rw[Bq]at hit₁;have fin:∀ h₂,ExtBut s.heap.objs.size h₁ h₂->wpAny (model prog w) A (do
    if(none:Option Value).isSome then
     rule "unpack.too-many";raiseError "ValueError" s!"too many values to unpack (expected {x.length})"
    return us:Sem (List Value)) (λus s'=>wpAny (model prog w) A (assignInOrder (targets.map (·.2)) us) Q E s') E {s with heap:=h₂,toks:=tk}:=by
   intro h₂ he₂;exact gV (h h₂ tk us (λb o hb e=>he₂ b o hb (hs₁.extBut b o hb (sU _ e))) hv')
  rcases hty with rfl|rfl;exact dV (AE (wpAny_pyNext_ascii_end hh hit₁ hend λh₂ he₂=>fin h₂ he₂));exact dV (AE (wpAny_pyNext_wide_end hh hit₁ hend λh₂ he₂=>fin h₂ he₂))
 cases ha:x.cps.all (· < 128)with
 |true=>exact dV (AE (wpAny_pyIter_ascii ha (go _ (.inl rfl))))
 |false=>exact dV (AE (wpAny_pyIter_wide ha (go _ (.inr rfl))))
def nN(K:W.Frag)(n:Nat)(t:ET):TG:=λv Z H Q=>match v with
 |.str z=>z.length=n/\t (eU z) Z H Q
 |.ref a=>∃xs,cS H a=some (false,xs)/\xs.length=n/\t xs Z H Q
 |_=>False
set_option tactic.hygienic true in
def Vy(hc:X.calm=true)(h:Gr X es t)
  (hn:(assignEach es X.env).length=n:=by rfl) (d:(assignEach es X.env).findIdx? (·.1)=none:=by rfl):PG X (.Tuple es k pos) (nN X.K n t):=by
 intro pins s Z H v u Q I r c;unfold nN at c;split at c;obtain⟨f,c⟩:=c;obtain⟨tk,rfl⟩:=r;refine dV (HA (qM (I.ok.hd hc) (hn.trans f.symm) d λh' tk us g i=>?_));have j:dX X pins Z H {s with heap:=h',toks:=tk}:=I.kept λb o e=>g b o (An (kN e)) e;exact h pins _ Z H _ _ Q j i c;rename_i a;obtain⟨xs,l,f,c⟩:=c;exact Td (k:=k) (pos:=pos) hc h hn d pins s Z H _ u Q I r ⟨a,xs,rfl,dD l,f,c⟩
 simp_all
def Mw:List V->Hp->VK->Prop:=λxs H Q=>∃p b ys,xs=[.ref p]/\cS H p=some (b,ys)/\∀l,H l=none->Q (.ref l) (gY H l (.lst ys))
def Vz:iT X (.type "list") Mw:=by
 intro pins s Z H xs us Q I r h;obtain⟨p,b,ys,rfl,a,q⟩:=h;cases b with
 |true=>exact mD pins s Z H _ us Q I r ⟨p,ys,rfl,.inl (eR a),q⟩
 |false=>exact mD pins s Z H _ us Q I r ⟨p,ys,rfl,.inr (dD a),q⟩
def Mx:List V->Hp->VK->Prop:=λxs H Q=>∃p b ys,xs=[.ref p]/\cS H p=some (b,ys)/\if b=true then ∀l,H l=none->Q (.ref l) (gY H l (.tup ys))else Q (.ref p) H
def VA:iT X (.type "tuple") Mx:=by
 intro pins s Z H xs us Q I r h;obtain⟨p,b,ys,rfl,a,q⟩:=h;cases b with
 |true=>exact kK pins s Z H _ us Q I r ⟨p,ys,rfl,.inl ⟨eR a,by simpa using q⟩⟩
 |false=>exact kK pins s Z H _ us Q I r ⟨p,ys,rfl,.inr ⟨dD a,by simp_all⟩⟩
def Kr:R2:=λx y H Q=>match x,y with
 |.int i,.int j=>HS i j/\Q (.int (i*j)) H
 |.str z,.int i=>z.length<=1000/\0<=i/\i<=1000/\∀y:Str,y.length<=z.length*i.toNat->y=Txt.mul z i->Q (.str y) H
 |_,_=>False
def VB(z:Str)(i:Int)(h0:0<=i):(Txt.mul z i).length<=z.length*i.toNat:=by
 unfold Txt.mul;by_cases b:i<1;rw[fI b];exact sY _;rw[gX b];by_cases c:(i==1||z.length==0)=true
 ·rw[fI c]
  lia
 ·rw[gX c];have a:∀ (k:Nat) (acc:Array Nat),((replicate k z.cps).foldl (· ++ ·) acc).size=acc.size+k*z.cps.size:=by
   intro k
   induction k with
   |zero=>simp
   | succ k d=>
     grind
  show((replicate i.toNat z.cps).foldl (· ++ ·) #[]).size<=_;rw[a];show 0+_<=_;rw[Bq,EN];exact hF _
set_option tactic.hygienic true in
def VC:Ak X (binaryOp .Mult) Kr:=by
 intro pins s Z H x y v u Q I a b h;unfold Kr at h;cases x<;>(try exact h.elim)<;>cases y<;>try exact h.elim
 ·exact TB pins s Z H _ _ v u Q I a b ⟨_,_,rfl,rfl,h.1,h.2⟩
 ·rename_i z i;obtain⟨d,e,g,q⟩:=h;obtain⟨t,rfl⟩:=a;obtain⟨c,rfl⟩:=b;have f:z.length*i.toNat<=1000*1000:=Nat.mul_le_mul d (by simp[*]);refine SB.mul ⟨?_,λha hb=>?_,λha hb=>?_⟩ λc k=>⟨.str _,H,I.tok k,⟨c,rfl⟩,q _ (VB z i e) rfl⟩
  ·lia
  ·have j:(1000:Int)<=(2 ^ 63-1) / i:=by
    rw[Int.le_ediv_iff_mul_le (by grind)];lia
   lia
  ·exact Ft (by rw[DL];lia)
end
def zN(h0:0<=j)(h1:j<=x.length):(slice x none (some j)).cps.toList=x.cps.toList.take j.toNat:=by
 have e:=PySem.StrLaws.sliceText_to (x:=x) (j:=j) ⟨h0,by simpa[Str.length]using h1⟩;have a:slice x none (some j)=_:=e
 simp_all
def pG(h0:0<=i)(h1:i<=x.length):(slice x (some i) none).cps.toList=x.cps.toList.drop i.toNat:=by
 have a:i<=x.cps.toList.length:=by simpa[Str.length]using h1
 have e:=PySem.StrLaws.sliceText_from (x:=x) (i:=i) ⟨h0,a⟩;have b:slice x (some i) none=_:=e;rw[b];exact CC (by grind)
def iE(x:Str):x.length=x.cps.toList.length:=rfl
section
open PyProof.Rows Spec
noncomputable instance:DecidableEq Dt:=λ_ _=>Classical.propDecidable _
def VD{ws:List Value}(g:IsTup s.heap t ([]:List Value).toArray)(hb:IsTup s.heap b ws.toArray)
  (h1:Q (.ref b) s):wpAny (model prog w) A (binaryOp .Add (.ref t) (.ref b)) Q E s:=by
 obtain⟨⟨cls,h,data,sl⟩,e,hc,n,hd⟩:=id g;obtain⟨⟨f,c,data2,sl2⟩,a,d,n2,hd2⟩:=id hb;subst hc hd d hd2;exact concat_meets ⟨_,e,rfl⟩ ⟨_,a,rfl⟩ noFill_tuple_add seq_tuple_add F.slot_tuple_add F.entry_tuple_add (F.args_tuple_add_2 _ _)
   (tuple_addW0 t b ([]:List Value).toArray ws.toArray n n2 h c sl sl2 (by simp)) ⟨e,a,h1⟩
def Ks:R2:=λx y H Q=>match x,y with
 |.int i,.int j=>Q (.int (i+j)) H
 |.str a,.str b=>a.length+b.length<=sizeLine/\Q (.str (a++b)) H
 | .ref p,.ref q=>(∃ xs ys,H p=some (.lst xs)/\H q=some (.lst ys)/\xs.length+ys.length<=sizeLine/\∀ r,H r=none->Q (.ref r) (gY H r (.lst (xs++ys)))) \/
   ∃xs ys,cS H p=some (false,xs)/\cS H q=some (false,ys)/\xs.length+ys.length<=sizeLine/\(xs=[]->Q (.ref q) H)/\(xs≠[]->ys=[]->Q (.ref p) H)/\(xs≠[]->ys≠[]->∀r,H r=none->Q (.ref r) (gY H r (.tup (xs++ys))))
 |_,_=>False
set_option tactic.hygienic true in
def VE:Ak X (binaryOp .Add) Ks:=by
 intro pins s Z H x y v u Q I a b h;unfold Ks at h;cases x<;>(try exact h.elim)<;>cases y<;>try exact h.elim
 ·exact Tv pins s Z H _ _ v u Q I a b ⟨_,_,rfl,rfl,h⟩
 ·exact TZ pins s Z H _ _ v u Q I a b ⟨_,_,rfl,rfl,h.1,h.2⟩
 ·rename_i p q;rcases h with⟨xs,ys,d,f,g,q⟩|⟨xs,ys,d,f,g,j,k,l⟩;exact UU pins s Z H _ _ v u Q I a b ⟨_,_,xs,ys,rfl,rfl,d,f,g,q⟩;by_cases c:xs=[];cases a;cases b;obtain⟨its,m,n,_⟩:=I.tuple (dD d);obtain⟨i,r,o,_⟩:=I.tuple (dD f);have e:its=[]:=m.nil_iff.mpr c;subst e;exact VD n o ⟨.ref q,H,I,rfl,j c⟩;exact UA pins s Z H _ _ v u Q I a b ⟨p,q,xs,ys,rfl,rfl,dD d,dD f,c,g,k c,l c⟩
def My:V->List V->Hp->VK->Prop:=λx vs H Q=>∃(l:Addr) (zs:List Str) (z:Str),x=.ref l/\vs=[.str z]/\H l=some (.lst (zs.map V.str))/\z∈zs/\∀j,zs[j]?=some z->Q .non (gY H l (.lst ((zs.eraseIdx j).map V.str)))
theorem qN:∀ {zs:List Str} {us:List Value},bJ (zs.map V.str) us->∀ u∈us,∃ z t,u=.str z t
 |[],_,.nil=>λu a=>nomatch a
 | z::r,_,.cons b c=>λu a=>by
   rcases Aj.mp a with e|e;obtain⟨t,q⟩:=b;exact⟨z,t,e.trans q⟩;exact qN c u e
noncomputable def Jc(z:Str):Value->Bool
 |.str y _=>y==z
 |_=>false
theorem tY{a b:Type}(f:a->b):∀(l:List a) (i:Nat),(l.map f).eraseIdx i=(l.eraseIdx i).map f
 |[],i|x::r,0=>by simp
 |x::r,i+1=>by simp[tY f r i]
def VF:GB X "list.remove" My:=by
 intro pins s Z H x vs v us Q I A B h;obtain⟨l,zs,z,rfl,rfl,k,C,q⟩:=h;cases A;obtain⟨u,rfl,D⟩:=B.one;obtain⟨t,rfl⟩:=D;obtain⟨E,its,n,r,K,e⟩:=I.lstM k;have b:zs.idxOf z<zs.length:=List.idxOf_lt_length_of_mem C;have o:its.length=zs.length:=by simp_all
 have c:∀(i:Nat) (hi:i<its.toArray.size) (d:i<zs.length),Jc z its.toArray[i]=(zs[i]==z):=λi hi d=>by
  obtain⟨w,L,f⟩:=r.get (i:=i) (x:=V.str zs[i]) (by simp);obtain⟨g,rfl⟩:=f;have:its.toArray[i]=Value.str zs[i] g:=by simp_all
  rw[this];rfl
 refine BL F.slot_list_remove ⟨_,e,rfl⟩ F.entry_list_remove (F.args_list_remove_2 _ _)
  (MeetsSeq.list_remove l its.toArray n (.str z t) (Jc z) (λy G=>?_) (zs.idxOf z) (by grind) ?_ (λm hm a=>?_) (by simp_all)) ⟨e,?_⟩
 ·obtain⟨J,g,rfl⟩:=qN r y (by simpa using G);exact eqGives_str J z g t
 ·rw[c _ _ b];simp
 ·have j:m<zs.length:=BN a b;rw[c m hm j];have:=List.not_of_lt_findIdx (p:=(· == z)) (xs:=zs) (i:=m) a;exact this
 ·refine⟨.non,_,I.lset (its':=its.eraseIdx (zs.idxOf z)) k e ?_ ?_ ?_,rfl,q (zs.idxOf z) ?_⟩;simp;have:=r.eraseIdx (zs.idxOf z);rwa[tY]at this
  ·have:=nH zs (zs.idxOf z)
   grind
  simp_all
def VG(b:s.heap.get? a=some o)(h:Q (some o) s):wpAny (model prog w) A (loadIfAlive a) Q E s:=λΓ p _=>by
 unfold loadIfAlive
 simp_all
def qO(h:Heap)(z TI TO T:Addr)(b:Bool):Prop:=h.get? z=some {cls:=.type "zip",dict:=none,data:=.fields #[rawInt T,.bool b,.bool false,.ref TI,.ref TO],slots:=#[]}
def qO.heap{z TI TO T:Addr}(hz:qO h z TI TO T b):h.get? z=some {cls:=.type "zip",dict:=none,data:=.fields #[rawInt T,.bool b,.bool false,.ref TI,.ref TO],slots:=#[]}:=hz
def kP{z TI TO T:Addr}(hz:qO s.heap z TI TO T b)(hT:s.heap.get? T=some o)
  (h:∀h',qO h' z TI TO T true->SameBut z s.heap h'->Q false {s with heap:=h'}):wpAny (model prog w) A (ownedTupleIsFree (.ref z)) Q E s:=by
 refine dV (AW hz.heap rfl (x:=rawInt T) rfl ?_);refine dV (VG (a:=(T:Int).toNat) (by exact hT) ?_);refine dV (AW hz.heap rfl (x:=.bool b) rfl ?_);cases b with
 | true=>
   exact gV (h s.heap hz (Heap.SameBut.refl _ _))
 | false=>
   refine dV (wpAny_setField_rec hz.heap (by simp) λh' c d=>?_);exact gV (h h' c d)
def VH{z TI TO i1 i2 l1 l2 T:Addr}{Q:Value->Shared->Prop}(D:ZipApart z TI TO i1 i2 l1 l2)
  (hz:qO s.heap z TI TO T u) (hT:s.heap.get? T=some o) (m:IsPair s.heap TI (.ref i1) (.ref i2))
  (h1:s.heap.IsListIter i1 l1 k) (B:s.heap.IsListIter i2 l2 l) (n:s.heap.IsList l1 xs) (p:s.heap.IsList l2 ys) (C:xs[k]?=some x) (F:ys[l]?=some y)
  (G:∀h',qO h' z TI TO T true->h'.IsListIter i1 l1 (k+1)->h'.IsListIter i2 l2 (l+1)->IsPair h' s.heap.objs.size x y->h'.objs.size=s.heap.objs.size+1 ->
   (∀c o,c≠z->c≠i1->c≠i2->s.heap.get? c=some o->h'.get? c=some o)->Q (.ref s.heap.objs.size) {s with heap:=h'}) :
  wpAny (model prog w) A (Builtin.«zip.__next__» ⟨[.ref z],[]⟩) (λfin s'=>∃v,fin=.done (.ret v)/\Q v s') E s:=by
 (show wpAny _ _ (field (.ref z) 2 >>= _) _ _ _;refine dV (AW hz.heap rfl (x:=.bool false) rfl ?_))
 (refine dV (AW hz.heap rfl (x:=.ref TI) rfl ?_))
 refine dV (CB m rfl ?_)
 (refine dV (kP hz hT λq g a=>?_))
 rw[gX (by decide)]
 try (refine dV (gV ?_))
 refine dV ?_;refine dV (dV (AE ?_))
 (show wpAny _ _ (nextOf (.ref i1) >>= _) _ _ _;refine dV (wpAny_nextOf_list_item (h1.extBut a.extBut D.i1z) (n.extBut a.extBut D.l1z) C λr h b=>gV (gV ?_)))
 refine dV (dV (AE ?_))
 (show wpAny _ _ (nextOf (.ref i2) >>= _) _ _ _;refine dV (wpAny_nextOf_list_item ((B.extBut a.extBut D.i2z).extBut b.extBut D.i12.symm) ((p.extBut a.extBut D.l2z).extBut b.extBut D.l2i1) F λd i f=>gV (gV (gV ?_))))
 refine dV (wpAny_newTuple (hsz:=by show 2<=sizeLine;decide) ?_);have hsz:d.objs.size=s.heap.objs.size:=by rw[f.1,b.1,a.1]
 have j:qO d z TI TO T true:=f.extBut _ _ D.i2z.symm (b.extBut _ _ D.i1z.symm g);have up:∀c o,d.get? c=some o->(d.push {cls:=.type "tuple",data:=.seq #[x,y]}).get? c=some o:=λc o e=>sU _ e;refine gV ⟨_,rfl,?_⟩;show Q (.ref d.objs.size) _;have t:IsPair (d.push {cls:=.type "tuple",data:=.seq #[x,y]}) d.objs.size x y:=Ad _ rfl;rw[hsz]at t ⊢;exact G _ (up _ _ j) ((h.extBut f.extBut D.i12).at λo e=>up _ o e) (i.at λo e=>up _ o e) t (by rw[FD,hsz]) λc o H I J e=>up c o (f.extBut _ _ J (b.extBut _ _ I (a.extBut _ _ H e)))
def VI{z TI TO i1 i2 l1 l2 T:Addr}(u:A.handled=none)(D:ZipApart z TI TO i1 i2 l1 l2)
  (hz:qO s.heap z TI TO T F) (hT:s.heap.get? T=some o) (k:IsPair s.heap TI (.ref i1) (.ref i2))
  (h1:s.heap.IsListIter i1 l1 i) (G:s.heap.IsListIter i2 l2 j) (g:s.heap.IsList l1 xs) (l:s.heap.IsList l2 ys) (v:xs[i]?=none\/ys[j]?=none)
  (y:∀h' e,(∀c o,c≠z->c≠i1->c≠i2->s.heap.get? c=some o->h'.get? c=some o)->(∃o,h'.get? e=some o/\o.cls=.type "StopIteration")->E (.ref e) {s with heap:=h'}) :
  wpAny (model prog w) A (Builtin.«zip.__next__» ⟨[.ref z],[]⟩) Q E s:=by
 (show wpAny _ _ (field (.ref z) 2 >>= _) _ _ _;refine dV (AW hz.heap rfl (x:=.bool false) rfl ?_))
 (refine dV (AW hz.heap rfl (x:=.ref TI) rfl ?_))
 refine dV (CB k rfl ?_)
 (refine dV (kP hz hT λB m a=>?_))
 refine dV ?_;refine dV (dV (AE ?_));cases C:xs[i]? with
 | none=>
   refine dV (wpAny_nextOf_list_end u (h1.extBut a.extBut D.i1z) (g.extBut a.extBut D.l1z) C λd e b n=>y d e (λc o p r _ q=>b _ _ r (a.extBut _ _ p q)) n)
 | some x=>
   have H:ys[j]?=none:=by lia
   refine dV (wpAny_nextOf_list_item (h1.extBut a.extBut D.i1z) (g.extBut a.extBut D.l1z) C λd t b=>gV (gV ?_));refine dV (dV (AE ?_));refine dV (wpAny_nextOf_list_end u ((G.extBut a.extBut D.i2z).extBut b.extBut D.i12.symm) ((l.extBut a.extBut D.l2z).extBut b.extBut D.l2i1) H λh e f n=>?_);exact y h e (λc o p r I q=>f _ _ I (b.extBut _ _ r (a.extBut _ _ p q))) n
def VJ{z TI TO i1 i2 l1 l2 T:Addr}(D:ZipApart z TI TO i1 i2 l1 l2)
  (hz:qO s.heap z TI TO T h) (hT:s.heap.get? T=some o) (e:IsPair s.heap TI (.ref i1) (.ref i2))
  (h1:s.heap.IsListIter i1 l1 b) (i:s.heap.IsListIter i2 l2 d) (f:s.heap.IsList l1 xs) (g:s.heap.IsList l2 ys) (j:xs[b]?=some x) (k:ys[d]?=some y)
  (l:∀h',qO h' z TI TO T true->h'.IsListIter i1 l1 (b+1)->h'.IsListIter i2 l2 (d+1)->IsPair h' s.heap.objs.size x y->h'.objs.size=s.heap.objs.size+1 ->
   (∀c o,c≠z->c≠i1->c≠i2->s.heap.get? c=some o->h'.get? c=some o)->Q (some (.ref s.heap.objs.size)) {s with heap:=h'}) :
  wpAny (model prog w) A (pyNext (.ref z)) Q E s:=by
 have a:s.TypeIs (.ref z) "zip":=⟨_,hz,rfl⟩
 (refine dV (Ee (wpAny_callSpecial?_slot (name:=ofString "__next__") a F.slot_zip_next ?_)))
 exact Cp F.slot_zip_next a F.entry_zip_next (VH D hz hT e h1 i f g j k λh' a1 a3 a4 a5 a6 a7=>gV (l h' a1 a3 a4 a5 a6 a7)) (F.args_zip_next_1 _)
def VL{z TI TO i1 i2 l1 l2 T:Addr}(l:A.handled=none)(D:ZipApart z TI TO i1 i2 l1 l2)
  (hz:qO s.heap z TI TO T k) (hT:s.heap.get? T=some o) (f:IsPair s.heap TI (.ref i1) (.ref i2))
  (h1:s.heap.IsListIter i1 l1 i) (m:s.heap.IsListIter i2 l2 j) (g:s.heap.IsList l1 xs) (h:s.heap.IsList l2 ys) (a:xs[i]?=none\/ys[j]?=none)
  (n:∀h',(∀c o,c≠z->c≠i1->c≠i2->s.heap.get? c=some o->h'.get? c=some o)->Q none {s with heap:=h'}):wpAny (model prog w) A (pyNext (.ref z)) Q E s:=by
 have d:s.TypeIs (.ref z) "zip":=⟨_,hz,rfl⟩
 (refine dV (Ee (wpAny_callSpecial?_slot (name:=ofString "__next__") d F.slot_zip_next ?_)))
 refine Cp F.slot_zip_next d F.entry_zip_next (VI l D hz hT f h1 m g h a λh' e p q=>?_) (F.args_zip_next_1 _);obtain⟨o,r,hc⟩:=q;exact dV (wpAny_isInstance (T:="StopIteration") (b:=true) ⟨o,r,hc⟩ isSubtype_stop (gV (n _ p)))
noncomputable abbrev mU(acc:Array Value)(c:Nat):Obj:={cls:=.type "list",dict:=none,data:=.seq acc c,slots:=#[]}
structure BP(prog:Program)(w:World)(A:Around)(I S:Addr)(n:Nat)(J:Nat->Array Value->Heap->Prop)(K:Array Value->Heap->Prop):Prop where
 item:∀i acc (s:Shared) (c:Nat) (Q:Option Value->Shared->Prop) (E:Value->Shared->Prop),i<n->J i acc s.heap->s.heap.get? S=some (mU acc c) ->
  (∀v h' tk,J (i+1) (acc.push v) h'->h'.get? S=some (mU acc c)->Q (some v) {s with heap:=h',toks:=tk})->wpAny (model prog w) A (pyNext (.ref I)) Q E s
 done:∀acc (s:Shared) (c:Nat) (Q:Option Value->Shared->Prop) (E:Value->Shared->Prop),J n acc s.heap->s.heap.get? S=some (mU acc c) ->
  (∀h' tk,K acc h'->h'.get? S=some (mU acc c)->Q none {s with heap:=h',toks:=tk})->wpAny (model prog w) A (pyNext (.ref I)) Q E s
 frame:∀i acc h h',J i acc h->h'.objs.size=h.objs.size->(∀b o,b≠S->h.get? b=some o->h'.get? b=some o)->J i acc h'
def Mz{K:Array Value->Heap->Prop}(L:BP prog w A.in1 I S n J K)(hn:n<=sizeLine)(res:Value):∀ (k i:Nat) (s:Shared) (acc:Array Value) (c:Nat),n-i=k->i<=n->J i acc s.heap->acc.size=i->s.heap.get? S=some (mU acc c) ->
  (∀h' tk a j,K a h'->a.size=n->h'.get? S=some (mU a j)->R (.ok (.ret res)) {s with heap:=h',toks:=tk})->codeAny (model prog w) A (.builtin "list.extend.loop" ⟨[.ref S,.ref I,res],[]⟩) R s:=by
 intro k
 induction k with
 | zero=>
   intro i s acc c u hi l ha hS m;obtain rfl:i=n:=by grind
   (refine CV F.entry_extend_loop ?_;rw[DR HE _])
   (refine dV (L.done acc s c _ _ l hS λh' tk p d=>?_))
   exact gV (m h' tk acc c p ha d)
 | succ k x=>
   intro i s acc c u hi l ha hS m;have f:i<n:=by lia
   (refine CV F.entry_extend_loop ?_;rw[DR HE _])
   (refine dV (L.item i acc s c _ _ f l hS λv h' tk q d=>?_))
   (show wpAny _ A.in1 (updateSeq S (·.push v) >>= _) _ _ _;refine dV ?_)
   refine JW d rfl (gV ⟨Dp HE _,x (i+1) _ (acc.push v) (c+1) (by grind) f ?_ (by rw[size_push,ha]) ?_ ?_⟩) (by rw[ha];lia) (by grind);exact L.frame _ _ _ _ q (Heap.size_update ..) λb o hb e=>(DP _ _ (iA hb)).trans e;rw[DQ _ d rfl];simp[mapSeq];intro r g a j p t h;exact m r g a j p t h
def VM{K:Array Value->Heap->Prop}(L:BP prog w A.in1 I S n J K)(hn:n<=sizeLine)(res:Value)(hT:s.TypeIs (.ref σ) T)(i:S≠σ)(l:(type T==type "list")=false)(m:(type T==type "tuple")=false)
  (self:∀Q:Value->Shared->Prop,Q (.ref I) {s with heap:=h1}->wpAny (model prog w) A.in1 (pyIter (.ref σ)) Q (λe s'=>R (.error e) s') s)
  (hint:∀Q:Bool->Shared->Prop,(∀b,Q b {s with heap:=h1})->wpAny (model prog w) A.in1 (listLengthHint (.ref σ)) Q (λe s'=>R (.error e) s') {s with heap:=h1})
  (j:J 0 #[] h1) (hS:h1.get? S=some (mU #[] c)) (k:∀h' tk a h,K a h'->a.size=n->h'.get? S=some (mU a h)->R (.ok (.ret res)) {s with heap:=h',toks:=tk}) :
  wpAny (model prog w) A.in1 (Builtin.List.listExtendWith (.ref S) (.ref σ) res) (λfin s'=>match fin with|.done f=>R (.ok f) s' | .again h=>h.quiet=true/\codeAny (model prog w) A h R s') (λe s'=>R (.error e) s') s:=by
 refine dV (DK hT ?_);have p:listSameRef (.ref S) (.ref σ)=false:=by simp[listSameRef,i]
 rw[gX (by rw[p,l,m];decide)];refine dV (self _ (dV (AE (hint _ λb=>?_))));refine wpAny_ite_split (λ_=>?_) (λ_=>gV ⟨Dp HE _,Mz L hn res n 0 {s with heap:=h1} #[] c rfl (sY _) j rfl hS k⟩)
 (refine dV (BJ ?_);refine dV ?_)
 (refine dV (JW hS rfl ?_))
 have d:(h1.update S (mapSeq (·.push Value.none))).get? S=some (mU #[.none] (c+1)):=by
  rw[DQ _ hS rfl];rfl
 refine JW (hz:=by seq_fits) d rfl ?_;have g:((h1.update S (mapSeq (·.push Value.none))).update S (mapSeq (·.pop))).get? S=some (mU #[] (c+2)):=by
  rw[DQ _ d rfl];rfl
 refine gV ⟨Dp HE _,Mz L hn res n 0 _ #[] (c+2) rfl (sY _) (L.frame _ _ _ _ j ?_ λb o hb e=>?_) rfl g k⟩;simp;exact(DP _ _ (iA hb)).trans ((DP _ _ (iA hb)).trans e)
def zO{K:Array Value->Heap->Prop}(L:BP prog w A.in1 I s.heap.objs.size n J K)(hn:n<=sizeLine)(hT:s.TypeIs (.ref σ) T)(i:(type T==type "list")=false)(j:(type T==type "tuple")=false)
  (self:∀(E:Value->Shared->Prop) (Q:Value->Shared->Prop),Q (.ref I) {s with heap:=h1}->wpAny (model prog w) A.in1 (pyIter (.ref σ)) Q E {s with heap:=s.heap.push (mU #[] 0)})
  (hint:∀(E:Value->Shared->Prop) (Q:Bool->Shared->Prop),(∀b,Q b {s with heap:=h1})->wpAny (model prog w) A.in1 (listLengthHint (.ref σ)) Q E {s with heap:=h1})
  (k:J 0 #[] h1) (hS:h1.get? s.heap.objs.size=some (mU #[] 0))  (l:∀h' tk acc,K acc h'->acc.size=n->s.heap.objs.size<h'.objs.size->Q acc.toList {s with heap:=h',toks:=tk}):wpAny (model prog w) A (collect (.ref σ)) Q E s:=by
 have f:∀ R:Result->Shared->Prop,(∀ h' tk acc c,K acc h'->acc.size=n->h'.get? s.heap.objs.size=some (mU acc c)->R (.ok (.ret (.ref s.heap.objs.size))) {s with heap:=h',toks:=tk}) ->
   codeAny (model prog w) A (.builtin "proto.collect" ⟨[.ref σ],[]⟩) R s:=by
  intro R m
  (refine CV F.entry_proto_collect ?_)
  (refine dV (EG ?_))
  (refine gV ⟨Dp F.plain_list_iadd _,CV F.entry_list_iadd ?_⟩;rw[DR F.plain_list_iadd _])
  obtain⟨o,h,hc⟩:=hT;exact VM (R:=R) L hn (.ref s.heap.objs.size) (s:={s with heap:=s.heap.push (mU #[] 0)}) (h1:=h1) (c:=0) ⟨o,sU _ h,hc⟩ (CF (kN h)) i j (self _) (hint _) k hS
   λh' tk e p g a d=>m h' tk e p g a d
 (refine dV (wpAny_runValue (f _ λh' tk acc c g a d=>?_)))
 (refine dV (wpAny_load d ?_))
 exact gV (l h' tk acc g a (kN d))
def VN:typeLookup (.type "zip") "__len__"=pure none:=by(rw[typeLookup_type,Fq];rfl)
def VO:typeLookup (.type "zip") "__length_hint__"=pure none:=by(rw[typeLookup_type,Fq];rfl)
def VP(hT:s.TypeIs (.ref I) "zip")(h:∀b,Q b s):wpAny (model prog w) A (listLengthHint (.ref I)) Q E s:=by
 refine dV (Gh hT VN ?_)
 (refine dV (Gh hT VO ?_))
 exact gV (h _)
def MA 
  (hc:∀pins s Z H vs us Q,dX X pins Z H s->bJ vs us->r vs H Q->wpAny (model X.prog X.w) X.A (call (.type U) us) (λu s1=>wpAny (model X.prog X.w) X.A (call (.type T) [u]) (EP X pins Z Q) X.xe s1) X.xe s)
  (l:Gl X x) (hm:X.mg x=none) (m:bootBuiltins x=some (.type T)) (d:Gl X y) (f:X.mg y=none) (g:bootBuiltins y=some (.type U)) (ha:PA X (e::es) t)
  (hn:x≠"__name__":=by decide) (i:(x==("__debug__":Str))=false:=by decide) (j:y≠"__name__":=by decide) (b:(y==("__debug__":Str))=false:=by decide)
  (n:starEach (e::es) X.env=(false,eval e X.env)::starEach es X.env:=by rfl) (k:(backTo a (starEach es X.env)).any (·.1)=false:=by rfl)
  (hs:starEach [.Call (.Name y c) (e::es) [] a] X.env=(false,eval (.Call (.Name y c) (e::es) [] a) X.env)::starEach [] X.env:=by rfl) :
  PE X (.Call (.Name x p) [.Call (.Name y c) (e::es) [] a] [] pos) (Gy r t):=by
 intro pins s Z H Q I h;refine Fs (iS I l hm m ?_ hn i);refine EH ?_ hs (by rfl)
 (refine Calls.spliced_cons ?_)
 refine Fs (iS I d f g ?_ j b);refine EH ?_ n k;exact thn (ha a pins s Z H _ I h) λus s1 ⟨vs,o,q,v,z⟩=>thn (hc pins s1 Z o vs us Q q v z) λu s2 B=>Calls.spliced_nil B
def dX.adoptAll{Z:St}(ps:List (Addr×List V))(I:dX X pins Z H s)(hs:∀ p∈ps,Bw X pins H p.1)(e:(ps.map (·.1)).Nodup)
  (k:∀p∈ps,p.2.length<=sizeLine/\∃its:List Value,bJ p.2 its/\IsTup s.heap p.1 its.toArray/\LL s.heap p.1) :
  ∃H',dX X pins Z H' s/\mQ H H'/\(∀p∈ps,H' p.1=some (.tup p.2))/\∀b,(∀p∈ps,p.1≠b)->H' b=H b:=by
 induction ps generalizing H with
 |nil=>exact⟨H,I,mQ.refl H,(λp l=>absurd l (by simp)),λb _=>rfl⟩
 | cons p ps j=>
   obtain⟨a,xs⟩:=p;have st:=hs (a,xs) sT;obtain⟨m,its,n,o⟩:=k (a,xs) sT;have r:dX X pins Z (gY H a (.tup xs)) s:=I.adopt st.un st.young st.loc st.cell st.pin ⟨m,its,n,o⟩;rw[Bm,CD]at e;have h:∀q∈ps,q.1≠a:=λq c z=>e.1 (Bc.mpr ⟨q,c,z⟩);obtain⟨H',t,d,i,f⟩  :=j r (λq c=>by
    have g:=hs q (Ah _ c);exact⟨by rw[aG (h q c)];exact g.un,g.loc,g.young,g.cell,g.pin⟩) e.2 (λq c=>k q (Ah _ c))
   refine⟨H',t,(aM st.un).trans d,λq c=>?_,λb hb=>?_⟩;rcases Aj.mp c with rfl|c;exact d a _ aJ;exact i q c;rw[f b λq c=>hb q (Ah _ c),aG λz=>hb (a,xs) sT z.symm]
structure ZJ(h0:Heap)(l1 l2:Addr)(xs ys:Array Value)(i:Nat)(acc:Array Value)(h:Heap):Prop where
 keep:∀b o,h0.get? b=some o->h.get? b=some o
 st:(i=0/\IsZip h (h0.objs.size+4) (h0.objs.size+2) (h0.objs.size+3) .none)\/∃T b o,qO h (h0.objs.size+4) (h0.objs.size+2) (h0.objs.size+3) T b/\h.get? T=some o/\h0.objs.size+6<=T
 ti:IsPair h (h0.objs.size+2) (.ref h0.objs.size) (.ref (h0.objs.size+1))
 to:∃a b,IsPair h (h0.objs.size+3) a b
 i1:h.IsListIter h0.objs.size l1 i
 i2:h.IsListIter (h0.objs.size+1) l2 i
 sz:h0.objs.size+6<=h.objs.size
 len:acc.size=i
 got:∀j,j<i->∃T x y,acc[j]?=some (.ref T)/\xs[j]?=some x/\ys[j]?=some y/\IsPair h T x y/\h0.objs.size+6<=T
 nd:acc.toList.Nodup
structure ZK(h0:Heap)(xs ys:Array Value)(acc:Array Value)(h:Heap):Prop where
 keep:∀b o,h0.get? b=some o->h.get? b=some o
 got:∀j,j<min xs.size ys.size->∃T x y,acc[j]?=some (.ref T)/\xs[j]?=some x/\ys[j]?=some y/\IsPair h T x y/\h0.objs.size+6<=T
 nd:acc.toList.Nodup
def VQ(h1:l1<N)(a:l2<N):ZipApart (N+4) (N+2) (N+3) N (N+1) l1 l2:=by
 constructor<;>(lia)
def VR{acc:Array Value}(h:acc.toList.Nodup)(hn:∀j:Nat,acc[j]? ≠ some v):(acc.push v).toList.Nodup:=by
 rw[EL,List.nodup_append];refine⟨h,by simp,λa ha b hb e=>?_⟩;have c:=Aq.mp hb;subst c e;obtain⟨j,hj,e⟩:=BY ha;exact hn j (by rw[← Bg,nL hj,e])
def VS{h0:Heap}(X:A.handled=none)(p:h0.IsList l1 xs)(q:h0.IsList l2 ys) :
  BP prog w A (h0.objs.size+4) (h0.objs.size+5) (min xs.size ys.size) (ZJ h0 l1 l2 xs ys) (ZK h0 xs ys):=by
 have N:l1<h0.objs.size:=by obtain⟨_,e,_⟩:=p;exact kN e
 have π:l2<h0.objs.size:=by obtain⟨_,e,_⟩:=q;exact kN e
 have D:=VQ N π;have big:∀{b:Addr} {o:Obj},h0.get? b=some o->b≠h0.objs.size+4/\b≠h0.objs.size+3/\b≠h0.objs.size/\b≠h0.objs.size+1/\b≠h0.objs.size+5:=λe=>by
  have:=kN e;unfold Addr at *;lia
 refine⟨λi acc s' c Q' E' hi J hS f=>?_,λacc s' c Q' E' J hS f=>?_,λi acc h h' J g u=>?_⟩
 ·have P:xs[i]? = some xs[i]:=BG (by grind);have Q:ys[i]? = some ys[i]:=BG (by grind);have B:s'.heap.IsList l1 xs:=p.at λo e=>J.keep _ o e;have L2:s'.heap.IsList l2 ys:=q.at λo e=>J.keep _ o e;have sz:=J.sz
  have C:∀ h':Heap,((∃ T b o,qO h' (h0.objs.size+4) (h0.objs.size+2) (h0.objs.size+3) T b/\h'.get? T=some o/\h0.objs.size+6<=T))->(∃ a b,IsPair h' (h0.objs.size+3) a b)->h'.IsListIter h0.objs.size l1 (i+1)->h'.IsListIter (h0.objs.size+1) l2 (i+1)->IsPair h' s'.heap.objs.size xs[i] ys[i] ->
    h'.objs.size=s'.heap.objs.size+1->(∀c o,c≠h0.objs.size+4->c≠h0.objs.size+3->c≠h0.objs.size->c≠h0.objs.size+1->s'.heap.get? c=some o->h'.get? c=some o) ->
    ZJ h0 l1 l2 xs ys (i+1) (acc.push (.ref s'.heap.objs.size)) h':=by
   intro h' z1 z2 z3 z4 z5 z6 k;have R:∀T,h0.objs.size+6<=T->T≠h0.objs.size+4/\T≠h0.objs.size+3/\T≠h0.objs.size/\T≠h0.objs.size+1:=λT hT=>by unfold Addr at *;lia
   refine⟨λb o e=>?_,.inr z1,?_,z2,z3,z4,by unfold Addr at *;lia,by rw[size_push,J.len],λj hj=>?_,VR J.nd λj e=>?_⟩;obtain⟨E,F,G,H,_⟩:=big e;exact k b o E F G H (J.keep b o e);exact k _ _ (by unfold Addr at *;simp) (by unfold Addr at *;simp) (by unfold Addr at *;simp) (by unfold Addr at *;simp) J.ti;by_cases I:j=i;subst I;exact⟨s'.heap.objs.size,_,_,by rw[Array.getElem?_push,J.len,fI rfl],P,Q,z5,sz⟩;obtain⟨T,x,y,r,K,L,s,v⟩:=J.got j (by lia);obtain⟨E,F,G,H⟩:=R T v;exact⟨T,x,y,by rw[Array.getElem?_push,J.len,gX I];exact r,K,L,k _ _ E F G H s,v⟩;by_cases hj:j<i
   ·obtain⟨T,x,y,r,_,_,s,_⟩:=J.got j hj;rw[r]at e;have eT:T=s'.heap.objs.size:=by cases e;rfl
    have:=kN s;rw[eT]at this;exact Cb _ this
   ·rw[IQ (by rw[J.len];simp_all)]at e;cases e
  have σ:∀h':Heap,(∀c o,c≠h0.objs.size+4->c≠h0.objs.size+3->c≠h0.objs.size->c≠h0.objs.size+1->s'.heap.get? c=some o->h'.get? c=some o)->h'.get? (h0.objs.size+5)=some (mU acc c):=λh' k=>
   k _ _ (by unfold Addr at *;simp) (by unfold Addr at *;simp) (by unfold Addr at *;simp) (by unfold Addr at *;simp) hS
  rcases J.st with⟨rfl,g⟩|⟨T,b,o,g,hT,l⟩;obtain⟨a,b,d⟩:=J.to;refine wpAny_pyNext_zip_item D g J.ti d J.i1 J.i2 B L2 P Q λh' a1 a2 a3 a4 a5 a6 a7=>?_;exact f _ h' s'.toks (C h' ⟨_,false,_,a1,a5,sz⟩ ⟨_,_,a2⟩ a3 a4 a5 a6 a7) (σ h' a7);obtain⟨a,b',d⟩:=J.to;refine VJ D g hT J.ti J.i1 J.i2 B L2 P Q λh' a1 a3 a4 a5 a6 a7=>?_;have M:∀c o,c≠h0.objs.size+4->c≠h0.objs.size+3->c≠h0.objs.size->c≠h0.objs.size+1->s'.heap.get? c=some o->h'.get? c=some o:=λc o S _ U V e=>a7 c o S U V e;have W:h'.get? T=some o:=a7 T o (by unfold Addr at *;lia) (by unfold Addr at *;lia) (by unfold Addr at *;lia) hT;exact f _ h' s'.toks (C h' ⟨T,true,o,a1,W,l⟩ ⟨a,b',a7 _ _ (by unfold Addr at *;simp) (by unfold Addr at *;simp) (by unfold Addr at *;simp) d⟩ a3 a4 a5 a6 M) (σ h' M)
 ·have B:s'.heap.IsList l1 xs:=p.at λo e=>J.keep _ o e;have L2:s'.heap.IsList l2 ys:=q.at λo e=>J.keep _ o e;have n:xs[min xs.size ys.size]? = none\/ys[min xs.size ys.size]? = none:=by
   by_cases h:xs.size<=ys.size;exact .inl (IQ (by simp[*]));exact .inr (IQ (by grind))
  have fin:∀h':Heap,(∀c o,c≠h0.objs.size+4->c≠h0.objs.size+3->c≠h0.objs.size->c≠h0.objs.size+1->s'.heap.get? c=some o->h'.get? c=some o)->ZK h0 xs ys acc h'/\h'.get? (h0.objs.size+5)=some (mU acc c):=λh' k=>by
   refine⟨⟨λb o e=>?_,λj hj=>?_,J.nd⟩,k _ _ (by unfold Addr at *;lia) (by unfold Addr at *;lia) (by unfold Addr at *;lia) (by unfold Addr at *;lia) hS⟩;obtain⟨E,F,G,H,_⟩:=big e;exact k b o E F G H (J.keep b o e);obtain⟨T,x,y,r,K,L,s,v⟩:=J.got j hj;exact⟨T,x,y,r,K,L,k _ _ (by unfold Addr at *;lia) (by unfold Addr at *;lia) (by unfold Addr at *;lia) (by unfold Addr at *;lia) s,v⟩
  rcases J.st with⟨_,g⟩|⟨T,b,o,g,hT,l⟩;obtain⟨a,b,d⟩:=J.to;exact wpAny_pyNext_zip_end X D g J.ti d J.i1 J.i2 B L2 n λh' u=>f h' s'.toks (fin h' u).1 (fin h' u).2;refine VL X D g hT J.ti J.i1 J.i2 B L2 n λh' u=>?_;have:=fin h' λc o S _ U V e=>u c o S U V e;exact f h' s'.toks this.1 this.2
 ·have m:∀{b:Addr} {o:Obj},b≠h0.objs.size+5->h.get? b=some o->h'.get? b=some o:=λhb e=>u _ _ hb e;refine⟨λb o e=>m (big e).2.2.2.2 (J.keep b o e),?_,m (by unfold Addr at *;simp) J.ti,?_,J.i1.at λo e=>m (by unfold Addr at *;simp) e,J.i2.at λo e=>m (by unfold Addr at *;simp) e,by rw[g];exact J.sz,J.len,λj hj=>?_,J.nd⟩;rcases J.st with⟨z,t⟩|⟨T,b,o,t,hT,l⟩;exact .inl ⟨z,m (by unfold Addr at *;simp) t⟩;exact .inr ⟨T,b,o,m (by unfold Addr at *;lia) t,m (by unfold Addr at *;lia) hT,l⟩;obtain⟨a,b,d⟩:=J.to;exact⟨a,b,m (by unfold Addr at *;simp) d⟩;obtain⟨T,x,y,r,K,L,s,v⟩:=J.got j hj;exact⟨T,x,y,r,K,L,m (by unfold Addr at *;lia) s,v⟩
def wS{h0:Heap}(h:A.handled=none)(d:h0.IsList l1 xs)(f:h0.IsList l2 ys)(hn:min xs.size ys.size<=sizeLine)
  (hz:IsZip s.heap (h0.objs.size+4) (h0.objs.size+2) (h0.objs.size+3) .none) (ti:IsPair s.heap (h0.objs.size+2) (.ref h0.objs.size) (.ref (h0.objs.size+1))) (to:IsPair s.heap (h0.objs.size+3) .none .none)
  (i1:s.heap.IsListIter h0.objs.size l1 0) (i2:s.heap.IsListIter (h0.objs.size+1) l2 0) (hsz:s.heap.objs.size=h0.objs.size+5) (i:∀b o,h0.get? b=some o->s.heap.get? b=some o)
  (k:∀h' tk acc,ZK h0 xs ys acc h'->acc.size=min xs.size ys.size->Q acc.toList {s with heap:=h',toks:=tk}):wpAny (model prog w) A (collect (.ref (h0.objs.size+4))) Q E s:=by
 have a:IsZip (s.heap.push (mU #[] 0)) (h0.objs.size+4) (h0.objs.size+2) (h0.objs.size+3) .none:=sU _ hz;have up:∀b o,s.heap.get? b=some o->(s.heap.push (mU #[] 0)).get? b=some o:=λb o e=>sU _ e;have L:=VS (prog:=prog) (w:=w) (A:=A.in1) h d f;rw[← hsz]at L;exact zO (T:="zip") L hn ⟨_,hz,rfl⟩ rfl rfl (λl m g=>wpAny_pyIter_zip a g) (λl m g=>VP ⟨_,a,rfl⟩ g)
  ⟨λb o e=>up b o (i b o e),.inl ⟨rfl,a⟩,up _ _ ti,⟨_,_,up _ _ to⟩,i1.at λo e=>up _ o e,i2.at λo e=>up _ o e,by simp_all,rfl,λj hj=>absurd hj (FC _),by simp⟩ (Ad _ rfl)
  λh' tk acc n c _=>k h' tk acc n c
def wT{h0:Heap}(j:A.handled=none)(f:h0.IsList l1 xs)(g:h0.IsList l2 ys)(hn:min xs.size ys.size<=sizeLine)
  (hz:IsZip s.heap (h0.objs.size+4) (h0.objs.size+2) (h0.objs.size+3) .none) (ti:IsPair s.heap (h0.objs.size+2) (.ref h0.objs.size) (.ref (h0.objs.size+1))) (to:IsPair s.heap (h0.objs.size+3) .none .none)
  (i1:s.heap.IsListIter h0.objs.size l1 0) (i2:s.heap.IsListIter (h0.objs.size+1) l2 0) (hsz:s.heap.objs.size=h0.objs.size+5) (k:∀b o,h0.get? b=some o->s.heap.get? b=some o)
  (l:∀h' tk acc,ZK h0 xs ys acc h'->acc.size=min xs.size ys.size->Q (.ref h'.objs.size) {s with heap:=h'.push {cls:=.type "tuple",data:=.seq acc},toks:=tk}) :
  wpAny (model prog w) A (call (.type "tuple") [.ref (h0.objs.size+4)]) Q E s:=by
 refine callType_codes (Q₁:=λobj a=>a.TypeIs obj "tuple"/\Q obj a) F.called_tuple (F.typeCall_tuple_1 _) F.entry_object_init ?_ λobj a c=>
  ⟨c.1,F.args_object_init_2 obj _,object_init_meets F.called_tuple.init.lookup F.called_tuple.made (rfl) prog w A.in1 _ a ⟨c.1,rfl,c.2⟩⟩
 refine codeAny_of_tree ?_
 (refine dV (wpAny_of_eq (F.newCall_tuple_1 _) (gV ⟨Dp F.plain_tuple_new _,CV F.entry_tuple_new ?_⟩));rw[DR F.plain_tuple_new _])
 have i:=sub_tuple_self;have h:=init_tuple_lookup;have m:=madeHere_tuple
 wp_walk using DK n,wS (A:=A.in1.in1) j f g hn hz ti to i1 i2 hsz k
 intro h' tk acc p d
 (show wpAny _ _ (tupleExact acc.toList.toArray >>= λv=>ret v) _ _ _)
 refine dV (EG ?_ (by show acc.toList.toArray.size<=sizeLine;simp_all));have e:acc.toList.toArray=acc:=by simp
 exact gV ⟨⟨_,Ad _ rfl,rfl⟩,l h' tk acc p d⟩
def kQ{K:W.Frag}(a:IW own t):FI own (nN K n t):=λx Z H Q q=>by
 unfold nN at q ⊢;split at q;exact⟨q.1,a _ _ _ _ q.2⟩;obtain⟨xs,b,c,d⟩:=q;exact⟨xs,b,c,a _ _ _ _ d⟩;exact q.elim
noncomputable def wU(t c:String):Bool:=t==c||(t=="bool"&&c=="int")
def VT{K:W.Frag}(a:t="NoneType"\/t="int"\/t="bool"\/t="str"\/t="list"\/t="tuple")(hc:c="int"\/c="bool"\/c="str"\/c="list"\/c="tuple"):W.kitOne K (.type t) (.type c)=some (wU t c):=by
 rcases a with rfl|rfl|rfl|rfl|rfl|rfl<;>rcases hc with rfl|rfl|rfl|rfl|rfl<;>first|exact Vx|rfl|(unfold W.kitOne;decide +kernel)|(unfold W.kitOne;rfl)
end
section
open PyProof.Rows
inductive Tr where
 |leaf (z:Str)|node (l r:Tr)
end
def VU(K:W.Frag)(b:X.K=K)(c:PE X l a):PI X tg l (Ms K a):=by rw[← b];exact Vp c
def dQ(K:W.Frag)(b:X.K=K)(hc:X.calm=true)(h:Gr X es t)
  (hn:(assignEach es X.env).length=n:=by rfl) (a:(assignEach es X.env).findIdx? (·.1)=none:=by rfl):PG X (.Tuple es k pos) (nN K n t):=by exact Vy hc h hn a
def VW{id:String}(K:W.Frag)(d:X.K=K)(pa:PlainAttrs T)(slot:Slot T name id)(c:typeOf (.builtin id)=pure (.type "method_descriptor"))(hm:Es X id r)(e:PE X o to)
  (a:attributeBase o name X.env (eval o X.env)=eval o X.env:=by rfl) (b:(apos.endLine==cpos.line)=true:=by rfl):PE X (.Call (.Attribute o name apos) [] [] cpos) (Ko K T r to):=by rw[← d];exact UO pa slot c hm e a b
def nO{id:String}(K:W.Frag)(g:X.K=K)(pa:PlainAttrs T)(slot:Slot T name id)(f:typeOf (.builtin id)=pure (.type "method_descriptor"))(hm:Es X id r)(h:PE X o to)(ha:PA X (e::es) t)
  (b:attributeBase o name X.env (eval o X.env)=eval o X.env:=by rfl)
  (d:((backTo cpos (starEach (e::es) X.env)).all (λx=>!x.1)&&(backToKw cpos (keywordEach [] X.env)).all (λx=>x.1.isSome)&&decide ((e::es).length+([]:List Keyword).length+(if([]:List Keyword).isEmpty then 0 else 1)<30))=true:=by rfl)
  (c:(apos.endLine==cpos.line)=true:=by rfl) (hs:starEach (e::es) X.env=(false,eval e X.env)::starEach es X.env:=by rfl) (a:(backTo cpos (starEach es X.env)).any (·.1)=false:=by rfl) :
  PE X (.Call (.Attribute o name apos) (e::es) [] cpos) (FH K T r to t):=by rw[← g];exact UP pa slot f hm h ha b d c hs a
section
open PyProof.Rows Spec
abbrev TH:=Addr->Addr->Option Addr->Addr->TS
section
variable {κ:Type}[DecidableEq κ]
noncomputable def iP(kvs:List (κ×V))(k:κ):Option V:=(kvs.find? λa=>decide (a.1=k)).map (·.2)
noncomputable def qQ(kvs:List (κ×V))(k:κ)(v:V):List (κ×V):=
 if(kvs.any λa=>decide (a.1=k))=true then kvs.map (λa=>if a.1=k then(a.1,v)else a)else kvs++[(k,v)]
theorem eP{k:κ}(e:p.1=k):iP (p::r) k=some p.2:=by simp[iP,find?_cons,e]
def eQ{k:κ}(e:¬p.1=k):iP (p::r) k=iP r k:=by simp[iP,find?_cons,e]
theorem zP(k:κ):∀ kvs:List (κ×V),(kvs.any λa=>decide (a.1=k))=(iP kvs k).isSome
 |[]=>rfl
 | p::r=>by
   rw[List.any_cons];by_cases e:p.1=k;simp only[eP e,decide_eq_true e,Bool.true_or,Option.isSome_some];rw[eQ e,Ft e,Bool.false_or];exact zP k r
def jX(kvs:List (κ×V))(k:κ)(v:V):(qQ kvs k v).length<=kvs.length+1:=by
 unfold qQ
 grind
def CG.isSome_eq(r:CG o u):o.isSome=u.isSome:=by
 cases o with
 | none=>cases u with
   |none=>rfl
   |some _=>exact(show False from r).elim
 | some _=>cases u with
   |none=>exact(show False from r).elim
   |some _=>rfl
theorem CG.getD(r:CG o u)(rd:cE d d'):cE (o.getD d) (u.getD d'):=by
 cases o with
 | none=>cases u with
   |none=>exact rd
   |some _=>exact(show False from r).elim
 | some _=>cases u with
   |none=>exact(show False from r).elim
   |some _=>exact r
def KV.val(r:KV kvs vs)(k:κ):CG (iP kvs k) (valueAt vs k):=by
 induction r with
 |nil=>exact True.intro
 | @cons p q ps qs h t d=>
   obtain⟨c,f⟩:=h;by_cases e:p.1=k
   ·have a:q.1=k:=c.symm.trans e;have b:valueAt (q::qs) k=some q.2:=by simp[valueAt,find?_cons,a]
    rw[eP e,b];exact f
   ·have a:¬q.1=k:=λz=>e (c.trans z);have b:valueAt (q::qs) k=valueAt qs k:=by simp[valueAt,find?_cons,a]
    rw[eQ e,b];exact d
theorem KV.any(r:KV kvs vs)(k:κ):(kvs.any λa=>decide (a.1=k))=vs.any λa=>decide (a.1=k):=by
 induction r with
 |nil=>rfl
 |cons h t b=>simp_all
def KV.repl(r:KV kvs vs)(k:κ)(c:cE y u) :
  KV (kvs.map λa=>if a.1=k then(a.1,y)else a) (vs.map λa=>if a.1=k then(a.1,u)else a):=by
 induction r with
 |nil=>exact .nil
 | @cons p q ps qs h t b=>
   refine .cons ?_ b
   lia
def KV.put(r:KV kvs vs)(k:κ)(a:cE y u):KV (qQ kvs k y) (stored vs k u):=by
 unfold qQ stored;rw[r.any k];by_cases e:(vs.any λb=>decide (b.1=k))=true;rw[fI e,fI e];exact r.repl k a;rw[gX e,gX e];exact Paired.snoc r ⟨rfl,a⟩
theorem KV.length{kvs:List (κ×V)}{vs:List (κ×Value)}(r:KV kvs vs):kvs.length=vs.length:=Paired.length r
end
def GC(r:cE (kV k) u):(bA P w).is k u=true:=by
 cases k with
 |inl i=>obtain⟨t,e⟩:=(show ∃t,u=Value.int i t from r);subst e;exact wH P w i t
 |inr x=>obtain⟨t,e⟩:=(show ∃t,u=Value.str x t from r);subst e;exact wI P w x t
theorem tZ{P:Program}{w:World}:∀ {ks:List Key} {us:List Value},bJ (ks.map kV) us->ItemsAre (bA P w) ks us
 |[],_,r=>by cases r;exact .nil
 | k::ks,_,r=>by
   cases r with
   |cons h t=>exact .cons (GC h) (tZ t)
abbrev KT(H:Hp):List (List Key×V)->List (List Key×Addr×Value)->Prop:=Paired λp q=>p.1=q.1/\H q.2.1=some (.tup (p.1.map kV))/\cE p.2 q.2.2
def KT.val(r:KT H kvs xs)(k:List Key):CG (iP kvs k) ((atKey xs k).map (·.2)):=by
 induction r with
 |nil=>exact True.intro
 | @cons p q ps qs h t d=>
   obtain⟨c,_,f⟩:=h;by_cases e:p.1=k
   ·have a:q.1=k:=c.symm.trans e;have b:atKey (q::qs) k=some q.2:=by simp[atKey,find?_cons,a]
    rw[eP e,b];exact f
   ·have a:¬q.1=k:=λz=>e (c.trans z);have b:atKey (q::qs) k=atKey qs k:=by simp[atKey,find?_cons,a]
    rw[eQ e,b];exact d
def KT.repl(r:KT H kvs xs)(k:List Key)(c:cE y u) :
  KT H (kvs.map λa=>if a.1=k then(a.1,y)else a) (xs.map (putAt k u)):=by
 induction r with
 |nil=>exact .nil
 | @cons p q ps qs h t b=>
   refine .cons ?_ b;unfold putAt;by_cases e:p.1=k
   ·simp_all
   simp_all
def KT.put(r:KT H kvs xs)(k:List Key)(hb:H b=some (.tup (k.map kV)))(a:cE y u) :
  KT H (qQ kvs k y) (storedH xs k b u):=by
 have e:(kvs.any λc=>decide (c.1=k))=(atKey xs k).isSome:=by
  rw[zP,(r.val k).isSome_eq,isSome_map]
 unfold qQ storedH;rw[e];by_cases q:(atKey xs k).isSome=true;rw[fI q,fI q];exact r.repl k a;rw[gX q,gX q];exact Paired.snoc r ⟨rfl,hb,a⟩
def KT.keeps(r:KT H kvs xs)(a:∀b ys,H b=some (.tup ys)->H' b=some (.tup ys)):KT H' kvs xs:=
 Paired.mapP r λ_ _ z=>⟨z.1,a _ _ z.2.1,z.2.2⟩
def Kt(ok:AA P w H h)(e:Rd H a u):cH P w H h a u:=e.ok ok
def GD(ok:AA P w H h)(e:Rd H a (.dK kvs)):kvs.length<=sizeLine/\(a==sysModules)=false/\∃vs,KV kvs vs/\h.DictOf (bA P w) a vs:=
 show cH P w H h a (.dK kvs)from Kt ok e
def MB(ok:AA P w H h)(e:H a=some (.dK kvs)):kvs.length<=sizeLine/\(a==sysModules)=false/\∃vs,KV kvs vs/\h.DictOf (bA P w) a vs:=GD ok (.inl e)
def uA(ok:AA P w H h)(e:H a=some (.tup (ks.map kV))):(tupleKind (bA P w)).is h ks a:=by
 obtain⟨_,its,r,⟨o,b,c,n,d⟩,_⟩:=(show cH P w H h a (.tup (ks.map kV))from ok a _ e);exact⟨o,its.toArray,n,b,c,d,by simpa using tZ r⟩
def GF(ok:AA P w H h)(e:Rd H a (.dT kvs)):kvs.length<=sizeLine/\(a==sysModules)=false /\
  ∃xs,KT H kvs xs/\h.DictOfH (tupleKind (bA P w)) a xs:=by
 obtain⟨z,y,xs,r,o,es,ep,c,d,f,g,i⟩:=(show cH P w H h a (.dT kvs)from Kt ok e);refine⟨z,y,xs,r,o,es,ep,c,d,f,g,λx b=>?_,i⟩;have all:∀ {l:List (List Key×V)} {m:List (List Key×Addr×Value)},KT H l m->∀ x∈m,(tupleKind (bA P w)).is h x.1 x.2.1:=by
  intro l m q
  induction q with
  |nil=>simp
  | @cons p q ps qs k t j=>
    intro x b;rcases Aj.mp b with e|b;exact uA ok (by simp_all);exact j x b
 exact all r x b
def MD(ok:AA P w H h)(e:H a=some (.dT kvs)):kvs.length<=sizeLine/\(a==sysModules)=false /\
  ∃xs,KT H kvs xs/\h.DictOfH (tupleKind (bA P w)) a xs:=GF ok (.inl e)
def Jd(H:Hp)(a:Addr)(y:V)(r:Option V):Prop:=
 (∃kvs k,Rd H a (.dK kvs)/\y=kV k/\r=iP kvs k)\/∃kvs k b,Rd H a (.dT kvs)/\y=.ref b/\H b=some (.tup (k.map kV))/\r=iP kvs k
def ME(H:Hp)(a:Addr)(y v:V)(H':Hp):Prop:=
 (∃kvs k,H a=some (.dK kvs)/\y=kV k/\kvs.length<sizeLine/\H'=gY H a (.dK (qQ kvs k v))) \/
 ∃kvs k b,H a=some (.dT kvs)/\y=.ref b/\H b=some (.tup (k.map kV))/\kvs.length<sizeLine/\H'=gY H a (.dT (qQ kvs k v))
def dX.big{Z:St}(I:dX X pins Z H s):sysModules<s.heap.objs.size:=by
 have h:mainGlobals<s.heap.objs.size:=(I.mod.glob.keeps I.bk).lt;exact BN (by decide) h
def VX{Z:St}(q:A.units+1 < cLine)(I:dX X pins Z H s)(g:Jd H a y (some v))(n:cE y u)(h:∀ d s',dX X pins Z H s'->cE v d->Q d s') :
  wpAny (model X.prog X.w) A (getItem (.ref a) u) Q E s:=by
 rcases g with⟨kvs,k,e,f,l⟩|⟨kvs,k,b,e,f,r,l⟩;subst f;obtain⟨z,hd,vs,rel,i⟩:=GD I.hok e;obtain⟨d,j,c⟩:=CG.some_of (v:=v) (o:=valueAt vs k) (by rw[l];exact rel.val k);exact wpAny_getItem_of (GC n) i.mapOf j (h d _ (I.tok _) c);subst f;cases (show u=Value.ref b from n);obtain⟨z,hd,xs,rel,i⟩:=GF I.hok e;obtain⟨d,j,c⟩:=CG.some_of (v:=v) (o:=(atKey xs k).map (·.2)) (by rw[l];exact rel.val k);obtain⟨p,t,m⟩:=Bf.mp j;refine wpAny_getItem_heap (tupleKind_room_in1 q) (uA I.hok r) i t ?_;rw[m];exact h d _ (I.tok _) c
def wV{Z:St}(I:dX X pins Z H s)(mu:HL (H a))(hs:SameBut a s.heap h')(d:∃ q,h'.get? a=some q)(c:cH X.prog X.w (gY H a ob) h' a ob) :
  dX X pins Z (gY H a ob) {s with heap:=h',toks:=t'}:=
 I.write (x:=a) (e:=a) mu (.inl rfl) (λb q hb z=>(hs.2 b hb).trans z) d c
def zQ(z:kvs.length<=sizeLine)(hd:(a==sysModules)=false)(rel:KV kvs vs)(b:h'.DictOf (bA P w) a vs) :
  cH P w H' h' a (.dK kvs):=⟨z,hd,vs,rel,b⟩
def VY{Z:St}(C:A.units+1 < cLine)(I:dX X pins Z H s)(g:ME H a y v H')(p:cE y u)(t:cE v r)(h:∀ s',dX X pins Z H' s'->Q () s') :
  wpAny (model X.prog X.w) A (setItem (.ref a) u r) Q E s:=by
 rcases g with⟨kvs,k,e,i,l,j⟩|⟨kvs,k,b,e,i,x,l,j⟩
 ·subst i j;obtain⟨z,hd,vs,rel,m⟩:=MB I.hok e;have n:vs.length<=sizeLine:=by rw[← rel.length];exact z
  have o:(qQ kvs k v).length<=sizeLine:=by have:=jX kvs k v;lia
  refine wpAny_setItem_pairs (hsz:=n) (GC p) m λh' d hs=>h _ ?_;have D:∃q,h'.get? a=some q:=let ⟨q,_,_,f,_⟩:=d;⟨q,f⟩
  exact wV I (by rw[e];exact True.intro) hs D (zQ o hd (rel.put k t) d)
 ·subst i j;cases (show u=Value.ref b from p);obtain⟨z,hd,xs,rel,m⟩:=MD I.hok e;have n:xs.length<=sizeLine:=by rw[← Paired.length rel];exact z
  have o:(qQ kvs k v).length<=sizeLine:=by have:=jX kvs k v;lia
  refine wpAny_setItem_heap (hsz:=n) (tupleKind_room_in1 C) (uA I.hok x) m λh' d hs=>h _ ?_;obtain⟨q,es,ep,f,F,G,J,_,K⟩:=d;refine wV I (by rw[e];exact True.intro) hs ⟨q,f⟩ ⟨o,hd,_,(rel.put k x t).keeps λc ys B=>?_,q,es,ep,f,F,G,J,K⟩;rw[aG (LK B e (λz=>nomatch z))];exact B
def Je(i:Expr):Prop:=∀ov a,subscripted i false ov a=operate [ov,a] (getItem ov a)
def VZ{T id:String}
  (k:typeLookup (.type T) "__getitem__"=pure (some (.builtin id))) (hs:Je a)
  (h:wpAny (model prog w) A (eval b env) (λo e=>wpAny (model prog w) A (eval a env) (λi c=>c.TypeIs o T/\wpAny (model prog w) A (getItem o i) Q E c) E e) E s) :
  wpAny (model prog w) A (eval (.Subscript b a pos) env) Q E s:=by
 refine Subscript_ (Ca h (λo e g=>Ca g (λi c d=>?_) λ_ _ x=>x) λ_ _ x=>x);obtain⟨hT,d⟩:=d;refine dV ?_;refine dV (Gh hT k ?_);have fin:wpAny (model prog w) A (subscripted a false o i) (λr f=>wpAny (model prog w) A (letTemporaryGo b o r >>= λ_=>pure r) Q E f) E c:=by
  rw[hs o i];exact wpAny_operating (Ca d (λr f j=>dV (wpAny_letTemporaryGo (gV j))) λ_ _ x=>x)
 first
  |exact gV (dV fin)
  |lia
  |rfl
def wW{Z:St}(I:dX X pins Z H s)(g:Jd H a y o):s.TypeIs (.ref a) "dict":=by
 rcases g with⟨kvs,k,e,_,_⟩|⟨kvs,k,b,e,_,_,_⟩;obtain⟨_,_,vs,_,c⟩:=GD I.hok e;exact c.typeIs;obtain⟨_,_,xs,_,c⟩:=GF I.hok e;exact c.typeIs
def Wa(c ty:TE):TE:=λZ H Q=>c Z H λx d=>ty Z d λy b=>∃a v,x=.ref a/\Jd b a y (some v)/\Q v b
def MF(c ty d:TE):TS:=λD Z H=>d Z H λv e=>c Z e λx f=>ty Z f λy g=>∃a b,x=.ref a/\ME g a y v b/\D.nx Z b
def Wb(d:X.A.units+1<cLine)(e:PE X o td)(hi:PE X i ty)(hs:Je i):PE X (.Subscript o i pos) (Wa td ty):=by
 intro pins s Z H Q I h;refine VZ F.slot_dict_getitem.lookup hs (thn (e pins s Z H _ I h) λu s1 ⟨x,f,j,k,l⟩=>thn (hi pins s1 Z f _ j l) λr s2 Z0=>?_);obtain⟨y,m,c,n,a,v,ex,g,p⟩:=Z0;subst ex;obtain rfl:u=Value.ref a:=k;exact⟨wW c g,VX d c g n λt w q b=>⟨v,m,q,b,p⟩⟩
def Wc(b:X.A.units+1 < cLine)(c:PE X o td)(hi:PE X i ty)(d:PE X value tv)(hs:swapsWith value (some (.Subscript o i pos')) pos.line X.env=pure false) :
  PS X (.Assign [.Subscript o i pos'] value pos) (MF td ty tv):=by
 intro pins s Z H D I h;refine wpAny_Assign_Subscript (thn (d pins s Z H _ I h) λr s1 ⟨v,e,f,j,k⟩=>thn (c pins s1 Z e _ f k) λu s2 ⟨x,l,m,n,p⟩=>thn (hi pins s2 Z l _ m p) λC E Z0=>?_) hs;obtain⟨y,F,q,t,a,w,ex,g,z⟩:=Z0;subst ex;obtain rfl:u=Value.ref a:=n;exact VY b q g t j λG B=>⟨Z,w,B,z⟩
def Wd(h:Heap)(hb:sysModules<h.objs.size):cH P w H (h.push {cls:=.type "dict",data:=.dict #[]}) h.objs.size (.dT []):=
 ⟨sY _,beq_eq_false_iff_ne.mpr (iA (An hb)),[],.nil,_,#[],0,Ad _ rfl,⟨rfl,rfl,rfl⟩,rfl,rfl,List.nodup_nil⟩
def Ku:TE:=λ_ H Q=>∀p,H p=none->Q (.ref p) (gY H p (.dT []))
def We:PE X (.Dict [] [] pos) Ku:=λpins s Z H Q I h=>
 wpAny_Dict_empty ⟨.ref s.heap.objs.size,_,I.laid (a:=s.heap.objs.size) (o:=.dT []) (t':=s.toks) (λ_ _ q=>sU _ q) (hF _) (Wd s.heap I.big),rfl,h _ (I.hok.fresh (hF _))⟩
def iU(kvs more:List (Key×V)):List (Key×V):=more.foldl (λacc a=>qQ acc a.1 a.2) kvs
def KV.merge:∀ {more:List (Key×V)} {rs:List (Key×Value)} {kvs:List (Key×V)} {vs:List (Key×Value)},KV more rs->KV kvs vs->KV (iU kvs more) (merged vs rs):=by
 intro more rs kvs vs r;unfold KV at r
 induction r generalizing kvs vs with
 |nil=>intro q;exact q
 | @cons p q ps qs h t a=>
   intro b;have e:KV (qQ kvs p.1 p.2) (stored vs q.1 q.2):=by
    have:=b.put p.1 h.2;rw[← h.1];exact this
   exact a e
theorem iF:∀ (more kvs:List (Key×V)),(iU kvs more).length<=kvs.length+more.length
 |[],kvs=>by show kvs.length<=kvs.length+0;lia
 | p::r,kvs=>by
   have a:=iF r (qQ kvs p.1 p.2);have b:=jX kvs p.1 p.2;show(iU (qQ kvs p.1 p.2) r).length<=_;rw[Ek];lia
structure M2(X:Cx)(o:Expr)(m:Str)(apos:Pos)(e f:Expr)(cpos:Pos):Prop where
 base:attributeBase o m X.env (eval o X.env)=eval o X.env
 few:((backTo cpos (starEach [e,f] X.env)).all (λx=>!x.1)&&(backToKw cpos (keywordEach [] X.env)).all (λx=>x.1.isSome)
  && decide (([e,f]:List Expr).length+([]:List Keyword).length+(if([]:List Keyword).isEmpty then 0 else 1)<30))=true
 line:(apos.endLine==cpos.line)=true
 trees:backTo cpos (starEach [e,f] X.env)=[(false,eval e X.env),(false,eval f X.env)]
def GG(H:Hp)(a:Addr):Prop:=(∃kvs,Rd H a (.dK kvs))\/(∃kvs,Rd H a (.dT kvs))\/∃kvs,Rd H a (.dM kvs)
def MG{Z:St}(I:dX X pins Z H s)(d:GG H a) :
  s.TypeIs (.ref a) "dict"/\(∀b,Value.ref a=.ref b->∃ob,s.heap.get? b=some ob/\ob.dict=none)/\(a==sysModules)=false:=by
 rcases d with⟨kvs,e⟩|⟨kvs,e⟩|⟨kvs,e⟩;obtain⟨_,hd,vs,_,g⟩:=GD I.hok e;refine⟨g.typeIs,λb q=>?_,hd⟩;cases q;obtain⟨ob,_,_,c,f,_⟩:=g;exact⟨ob,c,f.2.1⟩;obtain⟨_,hd,xs,_,g⟩:=GF I.hok e;refine⟨g.typeIs,λb q=>?_,hd⟩;cases q;obtain⟨ob,_,_,c,f,_⟩:=g;exact⟨ob,c,f.2.1⟩;obtain⟨_,hd,_,_,ob,_,_,c,f,_⟩:=Kt I.hok e;exact⟨⟨ob,c,f.1⟩,λb q=>by cases q;exact⟨ob,c,f.2.1⟩,hd⟩
end
section
open PyProof.Rows
theorem pH(hs:∀ c∈sep.cps.toList,c < m):∀ zs:List Str,(∀ z∈zs,∀ c∈z.cps.toList,c < m)->∀ c∈(Str.join sep zs).cps.toList,c < m
 |[],_=>λc hc=>by simp[Str.join,Str.empty]at hc
 |[x],h=>λc hc=>h x sT c hc
 | x::y::r,h=>λc hc=>by
   have a:=pH hs (y::r) λz b=>h z (Ah _ b);have e:(Str.join sep (x::y::r)).cps.toList=x.cps.toList++sep.cps.toList++(Str.join sep (y::r)).cps.toList:=by
    show(x++sep++Str.join sep (y::r)).cps.toList=_;rw[Str.cps_append,Str.cps_append,toList_append,toList_append]
   rw[e]at hc;rcases Au.mp hc with hc|hc;rcases Au.mp hc with hc|hc;exact h x sT c hc;exact hs c hc;exact a c hc
def wX(hs:∀c∈sep.cps.toList,c<m)(zs:List Str)(h:∀z∈zs,∀c∈z.cps.toList,c<m):∀c∈(Txt.join sep zs).cps.toList,c<m:=by
 show ∀c∈(glued sep zs).cps.toList,c<m;rw[StrLaws.glued_eq_join];exact pH hs zs h
def Wf:∀c∈(ofString "abcdefghijklmnopqrstuvwxyz").cps.toList,c<128:=by decide
end
inductive D where
 |non|bl (b:Bool)|int (i:Int)|str (x:Str)|tup (l:List D)|lst (l:List D)|dic (ks vs:List D)
noncomputable instance:DecidableEq D:=λ_ _=>Classical.propDecidable _
noncomputable instance:Inhabited D:=⟨.non⟩
noncomputable def iQ:Key->D
 |.inl i=>.int i
 |.inr x=>.str x
noncomputable def Kv:Tk->D
 |.s x=>.str x
 |.p a b=>.tup [Kv a,Kv b]
def Jf:HO->List D->List V->Prop
 |.dK kvs,ks,ws=>ks=kvs.map (λa=>iQ a.1)/\ws=kvs.map (·.2)
 |.dT kvs,ks,ws=>ks=kvs.map (λa=>D.tup (a.1.map iQ))/\ws=kvs.map (·.2)
 |.dM kvs,ks,ws=>ks=.non::kvs.map (λa=>Kv a.1)/\ws=kvs.map (·.2)
 |_,_,_=>False
mutual
inductive Rp(H:Hp):D->V->Prop
 |non:Rp H .non .non
 |bl (b:Bool):Rp H (.bl b) (.bl b)
 |int (i:Int):Rp H (.int i) (.int i)
 |str (x:Str):Rp H (.str x) (.str x)
 |tup {l:List D} {p:Addr} {xs:List V}:H p=some (.tup xs)->Rps H l xs->Rp H (.tup l) (.ref p)
 |lst {l:List D} {p:Addr} {xs:List V} {o:Obj}:H p=some (.frz o (.lst xs))->Rps H l xs->Rp H (.lst l) (.ref p)
 |dic {ks vs:List D} {p:Addr} {o:Obj} {u:HO} {ws:List V}:H p=some (.frz o u)->Jf u ks ws->Rps H vs ws->Rp H (.dic ks vs) (.ref p)
inductive Rps(H:Hp):List D->List V->Prop
 |nil:Rps H [] []
 |cons {d:D} {r:List D} {x:V} {xs:List V}:Rp H d x->Rps H r xs->Rps H (d::r) (x::xs)
end
structure AX(H H':Hp):Prop where
 tup:∀p xs,H p=some (.tup xs)->H' p=some (.tup xs)
 frz:∀p o u,H p=some (.frz o u)->H' p=some (.frz o u)
def AX.same(h:mQ H H'):AX H H':=⟨λp xs e=>h p _ e,λp o u e=>h p _ e⟩
def Rp.mono(b:AX H H')(h:Rp H d x):Rp H' d x:=
 Rp.rec (motive_1:=λd x _=>Rp H' d x) (motive_2:=λl xs _=>Rps H' l xs) .non .bl .int .str (λh _ i=>.tup (b.tup _ _ h) i) (λh _ i=>.lst (b.frz _ _ _ h) i) (λh k _ i=>.dic (b.frz _ _ _ h) k i) .nil (λ_ _ a i=>.cons a i) h
def Rps.ind{H:Hp}{P:∀l xs,Rps H l xs->Prop}(n:P [] [] .nil)(c:∀{d:D} {x:V} {l:List D} {xs:List V} (a:Rp H d x) (r:Rps H l xs),P l xs r->P (d::l) (x::xs) (.cons a r)):∀{l:List D} {xs:List V} (h:Rps H l xs),P l xs h:=by
 intro l xs h
 induction l generalizing xs with
 |nil=>cases h;exact n
 |cons d l i=>cases h with|cons a r=>exact c a r (i r)
theorem Rps.mono(b:AX H H')(h:Rps H l xs):Rps H' l xs:=by
 induction h using Rps.ind with
 |n=>exact .nil
 |c a _ i=>exact .cons (a.mono b) i
theorem Rps.length{H:Hp}{l:List D}{xs:List V}(h:Rps H l xs):l.length=xs.length:=by
 induction h using Rps.ind with
 |n=>rfl
 |c _ _ i=>exact Cq (· + 1) i
def Rps.get{i:Nat}(h:Rps H l xs)(e:l[i]?=some d):∃x,xs[i]?=some x/\Rp H d x:=by
 induction h using Rps.ind generalizing i with
 |n=>cases e
 | c a _ j=>
   cases i with
   |zero=>obtain rfl:=Ap e;exact⟨_,rfl,a⟩
   |succ i=>exact j e
def Rps.append(h:Rps H l xs)(k:Rps H m ys):Rps H (l++m) (xs++ys):=by
 induction h using Rps.ind with
 |n=>exact k
 |c a _ i=>exact .cons a i
theorem Rps.take(n:Nat)(h:Rps H l xs):Rps H (l.take n) (xs.take n):=by
 induction h using Rps.ind generalizing n with
 |n=>cases n<;>exact .nil
 | c a _ i=>
   cases n with
   |zero=>exact .nil
   |succ n=>exact .cons a (i n)
theorem Rps.drop(n:Nat)(h:Rps H l xs):Rps H (l.drop n) (xs.drop n):=by
 induction h using Rps.ind generalizing n with
 |n=>cases n<;>exact .nil
 | c a r i=>
   cases n with
   |zero=>exact .cons a r
   |succ n=>exact i n
theorem Rps.set(i:Nat)(h:Rps H l xs)(q:Rp H d x):Rps H (l.set i d) (xs.set i x):=by
 induction h using Rps.ind generalizing i with
 |n=>exact .nil
 | c a r j=>
   cases i with
   |zero=>exact .cons q r
   |succ i=>exact .cons a (j i)
theorem Rps.eraseIdx(i:Nat)(h:Rps H l xs):Rps H (l.eraseIdx i) (xs.eraseIdx i):=by
 induction h using Rps.ind generalizing i with
 |n=>exact .nil
 | c a r j=>
   cases i with
   |zero=>exact r
   |succ i=>exact .cons a (j i)
theorem Rps.reverse(h:Rps H l xs):Rps H l.reverse xs.reverse:=by
 induction h using Rps.ind with
 |n=>exact .nil
 | c a _ i=>
   rw[List.reverse_cons,List.reverse_cons];exact i.append (.cons a .nil)
def MH{b:Type}{f:b->D}{g:b->V}(h:∀a,Rp H (f a) (g a))(l:List b):Rps H (l.map f) (l.map g):=by
 induction l with
 |nil=>exact .nil
 |cons a _ i=>exact .cons (h a) i
def zR(l:List Int):Rps H (l.map D.int) (l.map V.int):=MH .int l
def Wg(l:List Str):Rps H (l.map D.str) (l.map V.str):=MH .str l
def qR{c:Type}{f:c->D}{g:c->V}{l:List c}(h:∀a x,Rp H (f a) x->x=g a)(r:Rps H (l.map f) xs):xs=l.map g:=by
 induction l generalizing xs with
 |nil=>cases r;rfl
 |cons a _ i=>cases r with|cons b t=>rw[i t,h a _ b];rfl
def Rps.ints_inv{ns:List Int}:Rps H (ns.map D.int) xs->xs=ns.map V.int:=qR λ_ _ r=>by cases r;rfl
def Rps.strs_inv{ns:List Str}:Rps H (ns.map D.str) xs->xs=ns.map V.str:=qR λ_ _ r=>by cases r;rfl
def Rps.bls_inv{ns:List Bool}:Rps H (ns.map D.bl) xs->xs=ns.map V.bl:=qR λ_ _ r=>by cases r;rfl
inductive Md where
 |val|own|par|lent
 deriving DecidableEq
noncomputable def Md.mt:Md->Bool
 |.own|.par=>true
 |_=>false
structure Sl where
 m:Md
 d:D
abbrev Sg:=List (Option Sl)
def cR(H:Hp)(d:D)(p:Addr):Prop:=match d with
 |.lst l=>∃xs,H p=some (.lst xs)/\Rps H l xs
 |.dic ks vs=>∃u ws,H p=some u/\Jf u ks ws/\Rps H vs ws
 |_=>False
theorem cR.mono(h:cR H d p)(e:AX H H')(c:∀o,H p=some o->H' p=some o):cR H' d p:=by
 unfold cR at h ⊢;split at h;obtain⟨xs,a,b⟩:=h;exact⟨xs,c _ a,b.mono e⟩;obtain⟨u,ws,a,b,f⟩:=h;exact⟨u,ws,c _ a,b,f.mono e⟩
 lia
def cR.obj(h:cR H d p):∃o,H p=some o/\(∀xs,o≠.tup xs)/\∀ob u,o≠.frz ob u:=by
 unfold cR at h;split at h;obtain⟨xs,a,b⟩:=h;simp_all;obtain⟨u,ws,a,b,c⟩:=h;refine⟨_,a,λ_ z=>?_,λ_ _ z=>?_⟩<;>(subst z;exact b)
 simp_all
def Et(H:Hp)(s:Sl)(v:V):Prop:=match s.m with
 |.val=>Rp H s.d v
 |_=>∃p,v=.ref p/\cR H s.d p
def dA(h:s.m≠.val):Et H s v↔∃p,v=.ref p/\cR H s.d p:=by
 obtain⟨m,d⟩:=s;cases m with
 |val=>simp_all
 |own|par|lent=>rfl
def AM(H:Hp)(d:D)(v:V):Prop:=Rp H d v\/∃p,v=.ref p/\cR H d p
def Et.vw(h:Et H s v):AM H s.d v:=by
 by_cases e:s.m=.val;obtain⟨m,d⟩:=s;cases e;exact .inl h;exact .inr ((dA e).mp h)
inductive EX(H:Hp):List D->List V->Prop
 |nil:EX H [] []
 |cons {d:D} {r:List D} {x:V} {xs:List V}:AM H d x->EX H r xs->EX H (d::r) (x::xs)
def iO(Z:Sg)(σV:St)(a:Addr):Prop:=∃(i:Nat) (s:Sl),Z[i]?=some (some s)/\s.m.mt=true/\σV[i]?=some (some (.ref a))
def zS(Z:Sg)(σV:St)(a:Addr):Prop:=∃(i:Nat) (s:Sl),Z[i]?=some (some s)/\s.m≠.val/\σV[i]?=some (some (.ref a))
def iO.nv(h:iO Z σV a):zS Z σV a:=by
 obtain⟨i,s,c,b,d⟩:=h;exact⟨i,s,c,λz=>(by rw[z]at b;cases b),d⟩
structure Gm where
 H₀:Hp
 pr:Addr->Prop
structure eH(Γ:Gm)(H:Hp)(Z:Sg)(σV:St):Prop where
 rel:∀(i:Nat) s,Z[i]?=some (some s)->∃v,σV[i]?=some (some v)/\Et H s v
 dis:∀(i j:Nat) s t p,i≠j->Z[i]?=some (some s)->Z[j]?=some (some t)->s.m.mt=true->t.m≠.val->σV[i]?=some (some (.ref p))->σV[j]?=some (some (.ref p))->False
 own:∀(i:Nat) s p,Z[i]?=some (some s)->s.m=.own->σV[i]?=some (some (.ref p))->Γ.H₀ p=none
 par:∀(i:Nat) s p,Z[i]?=some (some s)->s.m=.par->σV[i]?=some (some (.ref p))->Γ.pr p
 keep:∀a o,Γ.H₀ a=some o->¬Γ.pr a->H a=some o
 dom:∀a,H a=none->Γ.H₀ a=none
 len:Z.length=σV.length
structure hJ(Z:Sg)(σV:St)(H:Hp)(σ':Sg)(σV':St)(H':Hp):Prop where
 fr:∀a o,H a=some o->¬iO Z σV a->H' a=some o
 dom:∀a,H' a=none->H a=none
 mu:∀a,iO σ' σV' a->iO Z σV a\/H a=none
 nv:∀a,zS σ' σV' a->zS Z σV a\/H a=none
 kp:∀(i:Nat) s,Z[i]?=some (some s)->∃s',σ'[i]?=some (some s')
 fix:∀(i:Nat) s,Z[i]?=some (some s)->(s.m=.par\/s.m=.lent)->∃s',σ'[i]?=some (some s')/\s'.m=s.m/\(s.m=.lent->s'.d=s.d)/\σV'[i]?=σV[i]?
 lt:∀(i:Nat) s',σ'[i]?=some (some s')->s'.m=.lent->∃s,Z[i]?=some (some s)/\s.m=.lent
def hJ.refl:hJ Z σV H Z σV H:=⟨λ_ _ h _=>h,λ_ h=>h,λ_ h=>.inl h,λ_ h=>.inl h,λi s h=>⟨s,h⟩,λi s h _=>⟨s,h,rfl,λ_=>rfl,rfl⟩,λi s h m=>⟨s,h,m⟩⟩
def hJ.trans(a:hJ Z σV H σ1 σV1 H1)(b:hJ σ1 σV1 H1 σ2 σV2 H2):hJ Z σV H σ2 σV2 H2 where
 fr:=λc o h n=>b.fr c o (a.fr c o h n) λz=>by
  rcases a.mu c z with q|q;exact n q
  lia
 dom:=λc h=>a.dom c (b.dom c h)
 mu:=λc h=>by
  rcases b.mu c h with q|q;exact a.mu c q;exact .inr (a.dom c q)
 nv:=λc h=>by
  rcases b.nv c h with q|q;exact a.nv c q;exact .inr (a.dom c q)
 kp:=λi s h=>by
  obtain⟨s1,d⟩:=a.kp i s h;exact b.kp i s1 d
 fix:=λi s h hm=>by
  obtain⟨s1,d,e,f,g⟩:=a.fix i s h hm;obtain⟨s2,j,k,l,p⟩:=b.fix i s1 d (by simp_all)
  simp_all
 lt:=λi s h m=>by
  obtain⟨s1,d,e⟩:=b.lt i s h m;exact a.lt i s1 d e
def eH.mutObj(ok:eH Γ H Z σV)(h:zS Z σV a):∃o,H a=some o/\(∀xs,o≠.tup xs)/\∀ob u,o≠.frz ob u:=by
 obtain⟨i,s,b,c,d⟩:=h;obtain⟨v,e,r⟩:=ok.rel i s b;rw[d]at e;cases e;obtain⟨p,e,q⟩:=(dA c).mp r;cases e;exact q.obj
theorem hJ.ext(st:hJ Z σV H σ1 σV1 H1)(ok:eH Γ H Z σV):AX H H1:=by
 refine⟨λp xs h=>st.fr p _ h λz=>?_,λp o u h=>st.fr p _ h λz=>?_⟩;obtain⟨o,e,n,_⟩:=ok.mutObj z.nv;grind;obtain⟨o,e,_,n⟩:=ok.mutObj z.nv;grind
theorem Et.mono(r:Et H s v)(e:AX H H1)(b:∀p o,v=.ref p->s.m≠.val->H p=some o->H1 p=some o):Et H1 s v:=by
 by_cases q:s.m=.val;obtain⟨m,d⟩:=s;cases q;exact Rp.mono e r;obtain⟨p,a,c⟩:=(dA q).mp r;exact(dA q).mpr ⟨p,a,c.mono e λo=>b p o a q⟩
theorem eH.same(ok:eH Γ H Z σV)(h:mQ H H1):eH Γ H1 Z σV:=
 ⟨λi s e=>by
  obtain⟨v,b,r⟩:=ok.rel i s e;exact⟨v,b,r.mono (.same h) λp o _ _ q=>h p o q⟩,ok.dis,ok.own,ok.par,λa o e n=>h a o (ok.keep a o e n),λa e=>ok.dom a (by
  cases q:H a with
  |none=>rfl
  |some o=>rw[h a o q]at e;lia),ok.len⟩
def Wi(h:mQ H H1)(e:H1 a=none):H a=none:=by
 cases q:H a with
 |none=>rfl
 |some o=>rw[h a o q]at e;lia
def hJ.same(h:mQ H H1):hJ Z σV H Z σV H1:=⟨λa o e _=>h a o e,λa e=>Wi h e,λ_ h=>.inl h,λ_ h=>.inl h,λi s h=>⟨s,h⟩,λi s h _=>⟨s,h,rfl,λ_=>rfl,rfl⟩,λi s h m=>⟨s,h,m⟩⟩
inductive hQ where
 |val (d:D)|own (d:D)|slot (i:Nat)
def jR(Γ:Gm)(H:Hp)(Z:Sg)(σV:St)(r:hQ)(v:V):Prop:=match r with
 |.val d=>Rp H d v
 |.own d=>∃p,v=.ref p/\cR H d p/\¬zS Z σV p/\Γ.H₀ p=none
 |.slot i=>σV[i]?=some (some v)/\∃s,Z[i]?=some (some s)
noncomputable def rd(Z:Sg):hQ->Option D
 |.val d|.own d=>some d
 | .slot i=>match Z[i]? with
   |some (some s)=>some s.d
   |_=>none
theorem jR.vw(ok:eH Γ H Z σV)(h:jR Γ H Z σV r v)(e:rd Z r=some d):AM H d v:=by
 cases r with
 |val d'=>cases e;exact .inl h
 |own d'=>cases e;obtain⟨p,a,b,_⟩:=h;exact .inr ⟨p,a,b⟩
 | slot i=>
   obtain⟨f,s,c⟩:=h;have g:some s.d=some d:=by
    have:rd Z (.slot i)=some s.d:=by show(match Z[i]? with|some (some s)=>some s.d|_=>none)=_;rw[c]
    simp_all
   cases g;obtain⟨w,a,b⟩:=ok.rel i s c;rw[f]at a;cases a;exact b.vw
def jR.step(ok:eH Γ H Z σV)(h:jR Γ H Z σV r v)(st:hJ Z σV H σ1 σV H1):jR Γ H1 σ1 σV r v:=by
 cases r with
 |val d=>exact Rp.mono (st.ext ok) h
 | own d=>
   obtain⟨p,c,a,b,e⟩:=h;obtain⟨o,j,_⟩:=a.obj;refine⟨p,c,a.mono (st.ext ok) λo h=>st.fr p o h λz=>b z.nv,λz=>?_,e⟩;rcases st.nv p z with q|q;exact b q
   lia
 | slot i=>
   obtain⟨f,s,g⟩:=h;exact⟨f,st.kp i s g⟩
abbrev DE:=Sg->Option (hQ×Sg)
abbrev DT:=Sg->Option (Bool×Sg)
abbrev DA:=Sg->Option (List hQ×Sg)
inductive Ab(Γ:Gm)(H:Hp)(Z:Sg)(σV:St):List hQ->List V->Prop
 |nil:Ab Γ H Z σV [] []
 |cons {r:hQ} {rs:List hQ} {v:V} {vs:List V}:jR Γ H Z σV r v->Ab Γ H Z σV rs vs->(∀d p,r=.own d->v=.ref p->∀(j:Nat) d',rs[j]?=some (.own d')->vs[j]? ≠ some (.ref p))->Ab Γ H Z σV (r::rs) (v::vs)
def FL(H:Hp)(r:hQ)(v:V):Prop:=∀d p,r=.own d->v=.ref p->H p=none
def fC:FL H (.val d) v:=λ_ _ e=>nomatch e
def FL.back(f:FL c r v)(st:hJ Z σV H b a c):FL H r v:=λd p e g=>st.dom p (f d p e g)
def Bd(Γ:Gm)(r:DE):TE:=λσV H Q=>∃Z,eH Γ H Z σV/\∃res σ',r Z=some (res,σ') /\
 ∀v H',eH Γ H' σ' σV->jR Γ H' σ' σV res v->hJ Z σV H σ' σV H'->FL H res v->Q v H'
def Bi(h:PE X e t)(w:∀Z H Q,t' Z H Q->t Z H Q):PE X e t':=λpins s Z H Q I q=>h pins s Z H Q I (w Z H Q q)
def Jg(h:PT X e t)(w:∀Z H Q,t' Z H Q->t Z H Q):PT X e t':=λpins s Z H Q I q=>h pins s Z H Q I (w Z H Q q)
def MI(h:PW X e t)(w:∀Z H Q,t' Z H Q->t Z H Q):PW X e t':=λa pins s Z H Q I q=>h a pins s Z H Q I (w Z H Q q)
def MJ(h:PA X e t)(w:∀Z H Q,t' Z H Q->t Z H Q):PA X e t':=λa pins s Z H Q I q=>h a pins s Z H Q I (w Z H Q q)
def DB(h:PS X e t)(w:∀D Z H,t' D Z H->t D Z H):PS X e t':=λpins s Z H D I q=>h pins s Z H D I (w D Z H q)
def Ia(h:Bv X e t)(w:∀D Z H,t' D Z H->t D Z H):Bv X e t':=λpins s Z H D I q=>h pins s Z H D I (w D Z H q)
structure GE(X:Cx)(e:Expr)(r:DE):Prop where
 to:∀Γ,PE X e (Bd Γ r)
def DC(Γ:Gm)(r:DT):TT:=λσV H Q=>∃Z,eH Γ H Z σV/\∃b σ',r Z=some (b,σ')/\∀H',eH Γ H' σ' σV->hJ Z σV H σ' σV H'->Q b H'
structure GT(X:Cx)(e:Expr)(r:DT):Prop where
 to:∀Γ,PT X e (DC Γ r)
structure GW(X:Cx)(e:Expr)(r:DT):Prop where
 to:∀Γ,PW X e (DC Γ r)
def GW.gt(h:GW X e r):GT X e r:=.mk λΓ=>(h.to Γ).pt
def Wj(H:Hp)(rs:List hQ)(vs:List V):Prop:=∀(j:Nat) d p,rs[j]?=some (.own d)->vs[j]?=some (.ref p)->H p=none
def BQ(Γ:Gm)(r:DA):TA:=λσV H Q=>∃Z,eH Γ H Z σV/\∃rs σ',r Z=some (rs,σ')/\∀vs H',eH Γ H' σ' σV->Ab Γ H' σ' σV rs vs->hJ Z σV H σ' σV H'->Wj H rs vs->Q vs H'
structure GA(X:Cx)(es:List Expr)(r:DA):Prop where
 to:∀Γ,PA X es (BQ Γ r)
noncomputable def aC(i:Nat):DE:=λZ=>match Z[i]? with
 |some (some s)=>some (if s.m=.val then .val s.d else .slot i,Z)
 |_=>none
def Wk(h:PE X e (CZ i)):GE X e (aC i):=.mk λΓ=>Bi h λσV H Q Z1=>by
 obtain⟨Z,ok,res,σ',e,k⟩:=Z1;unfold aC at e;split at e;rename_i s hs;cases e;obtain⟨v,a,r⟩:=ok.rel i s hs;refine⟨v,a,k v H ok ?_ .refl (by split<;>exact λ_ _ e=>nomatch e)⟩;by_cases hm:s.m=.val;obtain⟨m,d⟩:=s;cases hm;exact r;rw[gX hm];exact⟨a,s,hs⟩;cases e
noncomputable def dC(d:D):DE:=λZ=>some (.val d,Z)
def Jh(h:PE X e (tC v))(a:∀H,Rp H d v):GE X e (dC d):=.mk λΓ=>Bi h λσV H Q Z1=>by
 obtain⟨Z,ok,res,σ',e,k⟩:=Z1;cases e;exact k v H ok (a H) .refl fC
def Wl:GE X (.Constant (.int i) j pos) (dC (.int i)):=Jh Su λ_=>.int i
def Wm:GE X (.Constant (.bool i) j pos) (dC (.bl i)):=Jh Sv λ_=>.bl i
def Wn:GE X (.Constant (.str i) j pos) (dC (.str i)):=Jh LM λ_=>.str i
def Wo:GE X (.Constant .none j pos) (dC .non):=Jh Sy λ_=>.non
def wY(H H':Hp)(r:hQ)(v:V):Prop:=match r with
 |.val d=>Rp H' d v
 |.own d=>∃p,v=.ref p/\H p=none/\cR H' d p
 |.slot _=>False
def wY.frh(h:wY H H' r v):FL H r v:=λd p a b=>by
 subst a b;obtain⟨q,e,c,_⟩:=h
 lia
def wY.res(h:wY H H' r v)(ok:eH Γ H Z σV):jR Γ H' Z σV r v:=by
 cases r with
 |val d=>exact h
 | own d=>
   obtain⟨p,a,b,c⟩:=h;refine⟨p,a,c,λz=>?_,ok.dom p b⟩;obtain⟨o,e,_⟩:=ok.mutObj z
   lia
 |slot i=>exact h.elim
abbrev F1:=D->Option hQ
abbrev F2:=D->D->Option hQ
abbrev FN:=List D->Option hQ
def GH(a:V->Hp->VK->Prop)(f:F1):Prop:=∀H d x Q res,AM H d x->f d=some res->(∀v H',mQ H H'->wY H H' res v->Q v H')->a x H Q
def oP(c:R2)(f:F2):Prop:=∀H a b x y Q res,AM H a x->AM H b y->f a b=some res->(∀v H',mQ H H'->wY H H' res v->Q v H')->c x y H Q
def Dd(b:List V->Hp->VK->Prop)(f:FN):Prop:=∀H a vs Q res,EX H a vs->f a=some res->(∀v H',mQ H H'->wY H H' res v->Q v H')->b vs H Q
def De(f:F1)(a:DE):DE:=λZ=>(a Z).bind λx=>(rd x.2 x.1).bind λd=>(f d).bind λr=>some (r,x.2)
def aK(f:F2)(a b:DE):DE:=λZ=>(a Z).bind λx=>(b x.2).bind λy=>(rd y.2 x.1).bind λd=>(rd y.2 y.1).bind λe=>(f d e).bind λr=>some (r,y.2)
def aA{c d:Type}{o:Option c}{f:c->Option d}{b:d}(h:o.bind f=some b):∃a,o=some a/\f a=some b:=by
 cases o with
 |none=>cases h
 |some a=>exact⟨a,rfl,h⟩
def kR(q:oP l f)(h:Bd Γ (aK f m n) σV H Q):Gu l (Bd Γ m) (Bd Γ n) σV H Q:=by
 obtain⟨Z,ok,res,σ',e,k⟩:=h;obtain⟨⟨x,c⟩,s,e⟩:=aA e;obtain⟨⟨y,i⟩,t,e⟩:=aA e;obtain⟨u,w,e⟩:=aA e;obtain⟨z,A,e⟩:=aA e;obtain⟨r,B,e⟩:=aA e;cases e;refine⟨Z,ok,x,c,s,λC I d D g _=>⟨c,d,y,i,t,λE F a G b _=>?_⟩⟩;have j:=D.step d b;refine q F u z C E Q _ (j.vw a w) (G.vw a A) B λv H' o p=>?_;exact k v H' (a.same o) (p.res a) ((g.trans b).trans (.same o)) (p.frh.back (g.trans b))
def zT(l:GH d f)(h:Bd Γ (De f g) σV H Q):LX d (Bd Γ g) σV H Q:=by
 obtain⟨Z,ok,res,σ',e,k⟩:=h;obtain⟨⟨x,c⟩,m,e⟩:=aA e;obtain⟨n,o,e⟩:=aA e;obtain⟨r,p,e⟩:=aA e;cases e;refine⟨Z,ok,x,c,m,λq s a t b _=>?_⟩;refine l s n q Q _ (t.vw a o) p λv H' i j=>?_;exact k v H' (a.same i) (j.res a) (b.trans (.same i)) (j.frh.back b)
def nP(e:Ak X (binaryOp c) d)(g:oP d f)(ha:GE X a ra)(hb:GE X b rb):GE X (.BinOp a c b pos) (aK f ra rb):=
 .mk λΓ=>Bi (Tt e (ha.to Γ) (hb.to Γ)) λ_ _ _=>kR g
def Wq(d:IU X (unaryOp b) c)(e:GH c f)(ha:GE X a ra):GE X (.UnaryOp b a pos) (De f ra):=
 .mk λΓ=>Bi (Tu d (ha.to Γ)) λ_ _ _=>zT e
def uB(e:Ak X (compareOp c) d)(g:oP d f)(ha:GE X a ra)(hb:GE X b rb)(hm:behindInMarks c b=false):GE X (.Compare a [c] [b] pos) (aK f ra rb):=
 .mk λΓ=>Bi (TQ e (ha.to Γ) (hb.to Γ) hm) λ_ _ _=>kR g
def dE(r:DE):DT:=λZ=>(r Z).bind λx=>(rd x.2 x.1).bind λd=>match d with
 |.bl b=>some (b,x.2)
 |_=>none
def zU(h:dE r Z=some (b,σ')):∃x,r Z=some (x,σ')/\rd σ' x=some (.bl b):=by
 obtain⟨⟨x,a⟩,c,e⟩:=aA h;obtain⟨d,f,e⟩:=aA e;split at e
 ·simp_all
 ·cases e
def Ib(h:AM H (.bl b) v):v=.bl b:=by
 rcases h with h|⟨p,_,h⟩;cases h;rfl;exact h.elim
def zV(h:DC Γ (dE r) σV H Q):Bd Γ r σV H (λx H'=>∃k,x=.bl k/\Q k H'):=by
 obtain⟨Z,ok,b,σ',e,k⟩:=h;obtain⟨x,c,d⟩:=zU e;refine⟨Z,ok,x,σ',c,λv H' a f st _=>⟨b,Ib (f.vw a d),k H' a st⟩⟩
def mF(e:Ak X (compareOp c) d)(g:oP d f)(ha:GE X a ra)(hb:GE X b rb)(hm:behindInMarks c b=false):GT X (.Compare a [c] [b] pos) (dE (aK f ra rb)):=
 .mk λΓ=>Jg (TU e (ha.to Γ) (hb.to Γ) hm) λZ H Q h=>kR g (zV h)
def Wr(h:GE X e r)(b:∀a,isTrue e X.env a=(do let v ← a;standAt e.pos;holding [v] (truthy v)):=by intro _;rfl):GT X e (dE r):=
 .mk λΓ=>Jg (SD (h.to Γ) b) λ_ _ _ h=>zV h
noncomputable def Kw:D->Option Bool
 |.non=>some false
 |.bl b=>some b
 |.int i=>some (i != 0)
 |.str x=>if x.length<=sizeLine then some ((x.length:Int) != 0)else none
 |.lst l|.tup l=>some (!l.isEmpty)
 |_=>none
def GJ(r:DE):DT:=λZ=>(r Z).bind λx=>(rd x.2 x.1).bind λd=>(Kw d).bind λb=>some (b,x.2)
def dF(h:AM H (.tup l) v):∃ p xs,v=.ref p/\H p=some (.tup xs)/\Rps H l xs:=by
 rcases h with h|⟨p,_,h⟩
 ·cases h with
  |tup h r=>exact⟨_,_,rfl,h,r⟩
 ·exact h.elim
def dS(h:AM H (.lst l) v):∃ p xs,v=.ref p/\cS H p=some (true,xs)/\Rps H l xs:=by
 rcases h with h|⟨p,e,xs,h,r⟩
 ·cases h with
  |lst h r=>exact⟨_,_,rfl,kO h,r⟩
 ·exact⟨p,xs,e,Vm h,r⟩
def bO(h:AM H (.int i) v):v=.int i:=by
 rcases h with h|⟨p,_,h⟩;cases h;rfl;exact h.elim
def gN(h:AM H (.str i) v):v=.str i:=by
 rcases h with h|⟨p,_,h⟩;cases h;rfl;exact h.elim
def ML(h:AM H .non v):v=.non:=by
 rcases h with h|⟨p,_,h⟩;cases h;rfl;exact h.elim
noncomputable def CH:D->Option (Bool×List D)
 |.lst l=>some (true,l)
 |.tup l=>some (false,l)
 |_=>none
def MM(h:AM H d v)(e:CH d=some (b,l)):∃p xs,v=.ref p/\cS H p=some (b,xs)/\Rps H l xs:=by
 cases d with
 |lst a=>cases e;exact dS h
 |tup a=>cases e;obtain⟨p,xs,c,f,g⟩:=dF h;exact⟨p,xs,c,aV f,g⟩
 |_=>cases e
def Ws(ha:GE X a ra)(o:∀f,isTrue a X.env f=(do let v ← f;standAt a.pos;holding [v] (truthy v))):GT X a (GJ ra):=.mk λΓ=>Jg (TY (ha.to Γ) o) λσV H Q Z1=>by
 obtain⟨Z,ok,b,σ',e,k⟩:=Z1;obtain⟨⟨x,q⟩,r,e⟩:=aA e;obtain⟨d,s,e⟩:=aA e;obtain⟨t,g,e⟩:=aA e;cases e;refine⟨Z,ok,x,_,r,λv H' h u st _=>⟨b,?_,k H' h st⟩⟩;have vw:=u.vw h s;cases d with
 |non=>cases g;rw[ML vw];rfl
 |bl c=>cases g;rw[Ib vw];rfl
 |int i=>cases g;rw[bO vw];rfl
 | str z=>
   rw[gN vw];have j:(if z.length<=sizeLine then some ((z.length:Int) != 0)else none)=some b:=g;split at j;rename_i w;cases j;exact⟨w,rfl⟩
   simp_all
 | lst l=>
   cases g;obtain⟨p,xs,rfl,m,n⟩:=dS vw;refine .inl ⟨xs,eR m,?_⟩;have:=n.length;cases l<;>cases xs<;>simp_all
 | tup l=>
   cases g;obtain⟨p,xs,rfl,m,n⟩:=dF vw;refine .inr (.inl ⟨xs,dD (aV m),?_⟩);have:=n.length;cases l<;>cases xs<;>simp_all
 |dic ks vs=>cases g
noncomputable def FO(t u:DT):DT:=λZ=>(t Z).bind λx=>if x.1=true then u x.2 else some (false,x.2)
noncomputable def GL(t u:DT):DT:=λZ=>(t Z).bind λx=>if x.1=true then some (true,x.2)else u x.2
noncomputable def Ic(t:DT):DT:=λZ=>(t Z).bind λx=>some (!x.1,x.2)
def Wt(ha:GT X a tA):GW X (.BoolOp .And [a] pos) tA:=.mk λΓ=>SI (ha.to Γ)
def Wu(ha:GT X a tA):GW X (.BoolOp .Or [a] pos) tA:=.mk λΓ=>SJ (ha.to Γ)
def Wv{tB:DT}{fH:List Expr}(ha:GT X a tA)(hb:GW X (.BoolOp .And (b::fH) pos) tB):GW X (.BoolOp .And (a::b::fH) pos) (FO tA tB):=.mk λΓ=>MI (SM (ha.to Γ) (hb.to Γ)) λσV H Q Z1=>by
 obtain⟨Z,ok,c,σ',e,k⟩:=Z1;obtain⟨⟨x,d⟩,j,e⟩:=aA e;refine⟨Z,ok,x,d,j,λn f g=>?_⟩;split at e;rename_i l;rw[fI l];exact⟨d,f,c,σ',e,λm h i=>k m h (g.trans i)⟩
 simp_all
def Ww{tB:DT}{fH:List Expr}(ha:GT X a tA)(hb:GW X (.BoolOp .Or (b::fH) pos) tB):GW X (.BoolOp .Or (a::b::fH) pos) (GL tA tB):=.mk λΓ=>MI (SN (ha.to Γ) (hb.to Γ)) λσV H Q Z1=>by
 obtain⟨Z,ok,c,σ',e,k⟩:=Z1;obtain⟨⟨x,d⟩,j,e⟩:=aA e;refine⟨Z,ok,x,d,j,λn f g=>?_⟩;split at e
 ·simp_all
 ·rename_i l;rw[gX l];exact⟨d,f,c,σ',e,λm h i=>k m h (g.trans i)⟩
def Wx(ha:GT X a tA):GT X (.UnaryOp .Not a pos) (Ic tA):=.mk λΓ=>Jg (SO (ha.to Γ)) λσV H Q Z1=>by
 obtain⟨Z,ok,c,σ',e,k⟩:=Z1;obtain⟨⟨x,f⟩,g,e⟩:=aA e;cases e;exact⟨Z,ok,x,_,g,λh b d=>k h b d⟩
def GP(t u:DE):DE:=λZ=>(dE t Z).bind λx=>if x.1=true then u x.2 else some (.val (.bl false),x.2)
def Wy(h:GE X a r):GE X (.BoolOp op [a] pos) r:=.mk λΓ=>SR (h.to Γ)
def Wz{fH:List Expr}(ha:GE X a ra)(hb:GE X (.BoolOp .And (b::fH) pos) rb):GE X (.BoolOp .And (a::b::fH) pos) (GP ra rb):=.mk λΓ=>Bi (SS (ha.to Γ) (hb.to Γ)) λσV H Q Z1=>by
 obtain⟨Z,ok,c,σ',e,k⟩:=Z1;obtain⟨⟨x,g⟩,l,e⟩:=aA e;obtain⟨y,m,n⟩:=zU l;refine⟨Z,ok,y,g,m,λv o d p f _=>⟨x,Ib (p.vw d n),?_⟩⟩;split at e;rename_i h;rw[fI h];exact⟨g,d,c,σ',e,λq r i s j t=>k q r i s (f.trans j) (t.back f)⟩;rename_i h;rw[gX h];cases e;exact k _ o d (.bl false) f fC
noncomputable def GQ(t:DT)(ra rb:DE):DE:=λZ=>(t Z).bind λx=>if x.1=true then ra x.2 else rb x.2
def WA(hc:GT X c tA)(ha:GE X a ra)(hb:GE X b rb):GE X (.IfExp c a b pos) (GQ tA ra rb):=.mk λΓ=>Bi (SV (hc.to Γ) (ha.to Γ) (hb.to Γ)) λσV H Q Z1=>by
 obtain⟨Z,ok,r,σ',e,k⟩:=Z1;obtain⟨⟨x,f⟩,p,e⟩:=aA e;refine⟨Z,ok,x,f,p,λq i d=>?_⟩;split at e;rename_i j;rw[fI j];exact⟨f,i,r,σ',e,λl m g n h o=>k l m g n (d.trans h) (o.back d)⟩;rename_i j;rw[gX j];exact⟨f,i,r,σ',e,λl m g n h o=>k l m g n (d.trans h) (o.back d)⟩
def Fz:HO->Prop
 |.lst _|.dK _|.dT _|.dM _=>True
 |_=>False
def MN{Z:St}(I:dX X pins Z H s)(h:H p=some u)(d:Fz u):∃ o,dX X pins Z (gY H p (.frz o u)) s:=by
 have nt:∀b xs,H b=some (.tup xs)->b≠p:=λb xs e z=>by subst z;rw[h]at e;cases e;exact d
 have i:∀b o x,H b=some (.frz o x)->b≠p:=λb o x e z=>by subst z;rw[h]at e;cases e;exact d
 have no:∀b x,H b=some (.own x)->b≠p:=λb x e z=>by subst z;rw[h]at e;cases e;exact d
 have nb:∀b x,H b=some (.tbl x)->b≠p:=λb x e z=>by subst z;rw[h]at e;cases e;exact d
 have nn:∀b,H b=none->b≠p:=λb e z=>by lia
 obtain⟨o,j⟩:∃ o,s.heap.get? p=some o:=by
  have:=I.hok p u h;have l:=this.lt;cases q:s.heap.get? p with
  |some o=>exact⟨o,rfl⟩
  | none=>
    cases u with
    |lst xs=>obtain⟨_,_,_,_,e⟩:=this;rw[q]at e;cases e
    |dK kvs|dT kvs|dM kvs=>obtain⟨_,_,_,_,ob,_,_,e,_⟩:=this;rw[q]at e;cases e
    |_=>exact d.elim
 have st:∀a x,cH X.prog X.w H s.heap a x->cH X.prog X.w (gY H p (.frz o u)) s.heap a x:=λa x k=>
  k.stay (λ_ _ _ e=>e) (λb e=>by rw[aG (no b _ e)];exact e) λb xs e=>by rw[aG (nt b _ e)];exact e
 refine⟨o,{I with base:=?_,free:=?_,freeC:=?_,pin:=?_,hok:=?_}⟩
 ·exact⟨I.base.keep,I.base.slot,λb ob q n r=>by
    have:=I.base.free b ob q n r;rw[aG (nn b this)];exact this,I.base.there,λb xs e=>by
    have:=I.base.tups b xs e;rw[aG (nt b _ this)];exact this,λb ob x e=>by
    have:=I.base.frzs b ob x e;rw[aG (i b _ _ this)];exact this,λb ps e=>by
    obtain⟨m,f⟩:=I.base.tbls b ps e;exact⟨m,by rw[aG (nb b _ f)];exact f⟩⟩
 ·rw[aG (nn _ I.free)];exact I.free
 ·intro x c e;rw[aG (nn _ (I.freeC x c e))];exact I.freeC x c e
 ·intro q t;obtain⟨v,g,y⟩:=I.pin q t;exact⟨v,by rw[aG (nn _ g)];exact g,y⟩
 ·intro a x e;by_cases ha:a=p;subst ha;rw[aJ]at e;cases e;exact⟨j,st a u (I.hok a u h)⟩;rw[aG ha]at e;exact st a x (I.hok a x e)
def WB(t:TE):TE:=λZ H Q=>t Z H λv H1=>Q v H1\/∃p u,v=.ref p/\H1 p=some u/\Fz u/\∀o,Q v (gY H1 p (.frz o u))
def WC(h:PE X e t):PE X e (WB t):=λpins s Z H Q I q=>
 thn (h pins s Z H _ I q) λu s1 Z1=>by
  obtain⟨v,d,b,c,a⟩:=Z1;rcases a with a|⟨p,x,j,f,g,a⟩;exact⟨v,d,b,c,a⟩;obtain⟨o,i⟩:=MN b f g;exact⟨v,_,i,c,a o⟩
def MO(h:cR H d p):∃ u,H p=some u/\Fz u/\∀ o H',AX H H'->H' p=some (.frz o u)->Rp H' d (.ref p):=by
 unfold cR at h;split at h;obtain⟨xs,b,a⟩:=h;exact⟨_,b,True.intro,λo H' x e=>.lst e (a.mono x)⟩
 ·obtain⟨u,ws,b,a,c⟩:=h;refine⟨u,b,?_,λo H' x e=>.dic e a (c.mono x)⟩;cases u with
  |dK _|dT _|dM _=>exact True.intro
  |_=>exact a.elim
 simp_all
def MQ(h:H p=some u)(a:Fz u):AX H (gY H p (.frz o u)):=
 ⟨λb xs e=>by rw[aG (λz=>by subst z;rw[h]at e;cases e;exact a)];exact e,λb ob x e=>by rw[aG (λz=>by subst z;rw[h]at e;cases e;exact a)];exact e⟩
noncomputable def MR(Z:Sg):hQ->Option (D×Sg)
 |.val d|.own d=>some (d,Z)
 | .slot i=>match Z[i]? with
   |some (some s)=>if s.m=.own then some (s.d,Z.set i (some ⟨.val,s.d⟩))else if s.m=.val then some (s.d,Z)else none
   |_=>none
def iB(r:DE):DE:=λZ=>(r Z).bind λx=>(MR x.2 x.1).bind λy=>some (.val y.1,y.2)
def aP{a:Type}{l:List a}{x y:a}(h:(l.set i x)[j]?=some y):(j=i/\y=x/\i<l.length)\/(j≠i/\l[j]?=some y):=by
 rw[List.getElem?_set]at h;split at h
 ·simp_all
 ·rename_i e;exact .inr ⟨λz=>e z.symm,h⟩
def WD(h:GE X e r):GE X e (iB r):=.mk λΓ=>Bi (WC (h.to Γ)) λσV H Q Z1=>by
 obtain⟨Z,ok,res,σ',e,k⟩:=Z1;obtain⟨⟨x,σ1⟩,U,e⟩:=aA e;obtain⟨⟨d,L⟩,C,e⟩:=aA e;cases e;refine⟨Z,ok,x,σ1,U,λv S b A c V=>?_⟩;dsimp only at C;cases x with
 |val d'=>cases C;exact .inl (k v S b A c fC)
 | own d'=>
   cases C;obtain⟨p,rfl,M,W,Y⟩:=A;obtain⟨u,F,G,N⟩:=MO M;have hn:H p=none:=V _ p rfl rfl;refine .inr ⟨p,u,rfl,F,G,λo=>?_⟩;have x:=MQ (o:=o) F G;refine k _ _ ⟨λi s e=>?_,b.dis,b.own,b.par,λa ob e n=>?_,λa e=>?_,b.len⟩ (N o _ x aJ) ⟨λa ob e n=>?_,λa e=>?_,c.mu,c.nv,c.kp,c.fix,c.lt⟩ fC;obtain⟨w,D,B⟩:=b.rel i s e;refine⟨w,D,B.mono x λq ob π m C=>?_⟩;rw[aG (λz=>W ⟨i,s,e,m,by rw[D,π,z]⟩)];exact C;rw[aG (λz=>by subst z;rw[Y]at e;cases e)];exact b.keep a ob e n;by_cases z:a=p;subst z;rw[aJ]at e;cases e;rw[aG z]at e;exact b.dom a e;rw[aG (λz=>by subst z;rw[hn]at e;cases e)];exact c.fr a ob e n;by_cases z:a=p;subst z;rw[aJ]at e;cases e;rw[aG z]at e;exact c.dom a e
 | slot i=>
   obtain⟨A,s,hs⟩:=A;have g:(match σ1[i]? with|some (some s)=>if s.m=.own then some (s.d,σ1.set i (some ⟨.val,s.d⟩))else if s.m=.val then some (s.d,σ1)else none|_=>none)=some (d,L):=C;rw[hs]at g;dsimp only at g;obtain⟨w,D,B⟩:=b.rel i s hs;rw[A]at D;cases D;split at g
   ·rename_i hm;cases g;obtain⟨m,d⟩:=s;cases hm;obtain⟨p,rfl,M⟩:=(dA (s:=⟨.own,d⟩) (λz=>nomatch z)).mp B;obtain⟨u,F,G,N⟩:=MO M;refine .inr ⟨p,u,rfl,F,G,λo=>?_⟩;have x:=MQ (o:=o) F G;have T:=N o _ x aJ;have σ:i < σ1.length:=(sS.mp hs).1;have pm:iO σ1 σV p:=⟨i,_,hs,rfl,A⟩;have sub:∀ (j:Nat) t,(σ1.set i (some ⟨.val,d⟩))[j]? = some (some t)->t.m≠.val->j≠i/\σ1[j]? = some (some t):=λj t f hm=>by
     rcases aP f with⟨_,z,_⟩|z;cases z;exact absurd rfl hm;exact z
    have I:∀t:Sl,t.m.mt=true->t.m≠.val:=λt h z=>by rw[z]at h;cases h
    refine k _ _ ⟨λj t f=>?_,λj l t E q n f el m m'=>?_,λj t q f m=>?_,λj t q f m=>?_,λa ob e n=>?_,λa e=>?_,?_⟩ T
     ⟨λa ob e n=>?_,λa e=>?_,λa ⟨j,t,f,m,P⟩=>?_,λa ⟨j,t,f,m,P⟩=>?_,λj t f=>?_,λj t f m=>?_,λj t f m=>c.lt j t (sub j t f (by rw[m];exact λz=>nomatch z)).2 m⟩ fC
    ·rcases aP f with⟨z,K,_⟩|⟨z,K⟩;cases K;rw[z];exact⟨_,A,T⟩;obtain⟨w,D,R⟩:=b.rel j t K;refine⟨w,D,R.mono x λq ob π m C=>?_⟩;rw[aG (λy=>b.dis i j _ t p (iA z) hs K rfl m A (by rw[D,π,y]))];exact C
    ·exact b.dis j l t E q n (sub j t f (I t m)).2 (sub l E el m').2 m m'
    ·exact b.own j t q (sub j t f (by rw[m];exact λz=>nomatch z)).2 m
    ·exact b.par j t q (sub j t f (by rw[m];exact λz=>nomatch z)).2 m
    ·have hp:=b.own i _ p hs rfl A;rw[aG (λz=>by subst z;rw[hp]at e;cases e)];exact b.keep a ob e n
    ·by_cases z:a=p;subst z;rw[aJ]at e;cases e;rw[aG z]at e;exact b.dom a e
    ·rw[Dx];exact b.len
    ·by_cases z:a=p;subst z;rcases c.mu a pm with y|y;exact absurd y n;rw[e]at y;cases y;rw[aG z];exact c.fr a ob e n
    ·by_cases z:a=p;subst z;rw[aJ]at e;cases e;rw[aG z]at e;exact c.dom a e
    ·exact c.mu a ⟨j,t,(sub j t f (I t m)).2,m,P⟩
    ·exact c.nv a ⟨j,t,(sub j t f m).2,m,P⟩
    ·obtain⟨E,J⟩:=c.kp j t f;by_cases z:j=i;subst z;exact⟨_,by rw[Bo σ]⟩;exact⟨E,by rw[Ac (iA z)];exact J⟩
    ·obtain⟨E,J,h⟩:=c.fix j t f m;refine⟨E,?_,h⟩;rw[Ac (λz=>?_)];exact J;subst z;rw[hs]at J;cases J;rcases m with m|m;have:=h.1;rw[m]at this;cases this;have:=h.1;rw[m]at this;cases this
   ·split at g;rename_i hm;cases g;obtain⟨m,d⟩:=s;cases hm;exact .inl (k v S b B c fC);cases g
noncomputable def aH:DA:=λZ=>some ([],Z)
noncomputable def aB(r:DE)(rs:DA):DA:=λZ=>(r Z).bind λx=>(rs x.2).bind λy=>some (x.1::y.1,y.2)
def FP(Z:Sg):List hQ->Option (List D)
 |[]=>some []
 |r::rs=>(rd Z r).bind λd=>(FP Z rs).bind λa=>some (d::a)
noncomputable def vals:List hQ->Option (List D)
 |[]=>some []
 |.val d::rs=>(vals rs).bind λa=>some (d::a)
 |_=>none
def qS(ok:eH Γ H Z σV)(h:Ab Γ H Z σV rs vs)(e:FP Z rs=some a):EX H a vs:=by
 induction h generalizing a with
 |nil=>cases e;exact .nil
 | cons h _ _ i=>
   obtain⟨d,b,e⟩:=aA e;obtain⟨a,c,e⟩:=aA e;cases e;exact .cons (h.vw ok b) (i c)
def kS(h:Ab Γ H Z σV rs vs)(e:vals rs=some a):Rps H a vs:=by
 induction h generalizing a with
 |nil=>cases e;exact .nil
 | @cons r _ _ _ h _ _ i=>
   cases r with
   | val d=>
     obtain⟨a,b,e⟩:=aA e;cases e;exact .cons h (i b)
   |_=>cases e
def WE:GA X [] aH:=.mk λΓ=>MJ Kk λσV H Q Z1=>by
 obtain⟨Z,ok,res,σ',e,k⟩:=Z1;cases e;exact k [] H ok .nil .refl (λj d p e=>by simp)
def WG(ha:GE X e r)(n:GA X es rs)(hs:starEach (e::es) X.env=(false,eval e X.env)::starEach es X.env:=by kernel_rfl):GA X (e::es) (aB r rs):=.mk λΓ=>MJ (wJ (ha.to Γ) (n.to Γ) hs) λσV H Q Z1=>by
 obtain⟨Z,ok,res,σ',e,k⟩:=Z1;obtain⟨⟨x,a⟩,s,e⟩:=aA e;obtain⟨⟨ys,t⟩,u,e⟩:=aA e;cases e;refine⟨Z,ok,x,a,s,λv C b l c w=>⟨a,b,ys,_,u,λvs y i z f m=>?_⟩⟩;refine k (v::vs) y i (.cons (l.step b f) z λd p g h j d' A B=>?_) (c.trans f) λj d p g h=>?_
 ·subst g h;obtain⟨q,D,ow,_⟩:=l;obtain⟨o,E,_⟩:=ow.obj;have:=m j d' p A B
  lia
 ·cases j with
  |zero=>simp at g h;subst g h;exact w d p rfl rfl
  |succ j=>exact c.dom p (m j d p (by simp_all) (by simp_all))
def hR(f:FN)(a:DA):DE:=λZ=>(a Z).bind λx=>(FP x.2 x.1).bind λb=>(f b).bind λr=>some (r,x.2)
def nQ(j:Dd c f)(h:∀Γ,PE X e (Gy c (BQ Γ d))):GE X e (hR f d):=.mk λΓ=>Bi (h Γ) λσV H Q Z1=>by
 obtain⟨Z,ok,res,σ',e,k⟩:=Z1;obtain⟨⟨x,l⟩,m,e⟩:=aA e;obtain⟨n,o,e⟩:=aA e;obtain⟨r,p,e⟩:=aA e;cases e;refine⟨Z,ok,x,_,m,λvs q a s b t=>?_⟩;refine j q n vs Q _ (qS a s o) p λv H' g i=>?_;exact k v H' (a.same g) (i.res a) (b.trans (.same g)) (i.frh.back b)
def DD(b:DA):DE:=λZ=>(b Z).bind λx=>(vals x.1).bind λa=>if a.length<=sizeLine then some (.val (.tup a),x.2)else none
def iR(b:DA):DE:=λZ=>(b Z).bind λx=>(vals x.1).bind λa=>if a.length<=sizeLine then some (.own (.lst a),x.2)else none
def WH(h:GA X es rs):GE X (.Tuple es g pos) (DD rs):=.mk λΓ=>Bi (Uh (h.to Γ)) λσV H Q Z1=>by
 obtain⟨Z,ok,res,σ',e,k⟩:=Z1;obtain⟨⟨x,i⟩,j,e⟩:=aA e;obtain⟨q,l,e⟩:=aA e;split at e;rename_i m;cases e;refine⟨Z,ok,x,_,j,λvs d a n b r=>?_⟩;have f:=kS n l;refine⟨by rw[← f.length];exact m,λp o=>?_⟩;have c:mQ d (gY d p (.tup vs)):=aM o;exact k _ _ (a.same c) (.tup aJ (f.mono (.same c))) (b.trans (.same c)) fC;cases e
def WI(h:GA X es rs):GE X (.List es pos) (iR rs):=.mk λΓ=>Bi (Me (h.to Γ)) λσV H Q Z1=>by
 obtain⟨Z,ok,res,σ',e,k⟩:=Z1;obtain⟨⟨x,j⟩,l,e⟩:=aA e;obtain⟨m,n,e⟩:=aA e;split at e;rename_i o;cases e;refine⟨Z,ok,x,_,l,λvs c a q b r=>?_⟩;have f:=kS q n;refine⟨by rw[← f.length];exact o,λp g=>?_⟩;have d:mQ c (gY c p (.lst vs)):=aM g;have i:wY c (gY c p (.lst vs)) (.own (.lst m)) (.ref p):=⟨p,rfl,g,vs,aJ,f.mono (.same d)⟩;exact k _ _ (a.same d) (i.res a) (b.trans (.same d)) (i.frh.back b);cases e
def eH.ownAt{i:Nat}(ok:eH Γ H Z σV)(hs:Z[i]?=some (some s))(hm:s.m≠.val):∃p,σV[i]?=some (some (.ref p))/\cR H s.d p:=by
 obtain⟨v,e,r⟩:=ok.rel i s hs;obtain⟨p,rfl,a⟩:=(dA hm).mp r;exact⟨p,e,a⟩
def fZ{m:Md}(h:m.mt=true):m≠.val:=λz=>by rw[z]at h;cases h
theorem cR.ext(h:cR H d p):AX H (gY H p o'):=by
 obtain⟨o,e,n1,n2⟩:=h.obj;exact⟨λb xs q=>by rw[aG (λz=>by grind)];exact q,λb ob x q=>by rw[aG (λz=>by grind)];exact q⟩
def eH.write(ok:eH Γ H Z σV)(hs:Z[i]? = some (some s))(hm:s.m.mt=true)(h:σV[i]? = some (some (.ref p)))(ow:cR (gY H p o') d' p) :
  eH Γ (gY H p o') (Z.set i (some ⟨s.m,d'⟩)) σV/\hJ Z σV H (Z.set i (some ⟨s.m,d'⟩)) σV (gY H p o'):=by
 obtain⟨J,v,o⟩:=ok.ownAt hs (fZ hm);rw[h]at v;cases v;have x:AX H (gY H p o'):=o.ext;have A:i<Z.length:=(sS.mp hs).1;have back:∀(j:Nat) t,(Z.set i (some ⟨s.m,d'⟩))[j]?=some (some t)->∃t',Z[j]?=some (some t')/\t'.m=t.m:=λj t b=>by
  rcases aP b with⟨z,g,_⟩|⟨z,g⟩;cases g;subst z;exact⟨s,hs,rfl⟩;exact⟨t,g,rfl⟩
 refine⟨⟨λj t b=>?_,λj l t t' q n b C m m'=>?_,λj t q b m=>?_,λj t q b m=>?_,λa ob e n=>?_,λa e=>?_,by rw[Dx];exact ok.len⟩,
  ⟨λa ob e n=>?_,λa e=>?_,λa ⟨j,t,b,m,r⟩=>?_,λa ⟨j,t,b,m,r⟩=>?_,λj t b=>?_,λj t b m=>?_,λj t b m=>?_⟩⟩
 ·rcases aP b with⟨z,g,_⟩|⟨z,g⟩;cases g;subst z;exact⟨_,h,(dA (s:=⟨s.m,d'⟩) (fZ hm)).mpr ⟨p,rfl,ow⟩⟩;obtain⟨w,B,u⟩:=ok.rel j t g;refine⟨w,B,u.mono x λq ob D m E=>?_⟩;rw[aG (λy=>ok.dis i j _ t p (iA z) hs g hm m h (by rw[B,D,y]))];exact E
 ·obtain⟨c,d,f⟩:=back j t b;obtain⟨F,G,I⟩:=back l t' C;exact ok.dis j l c F q n d G (by rw[f];exact m) (by rw[I];exact m')
 ·obtain⟨c,d,f⟩:=back j t b;exact ok.own j c q d (f.trans m)
 ·obtain⟨c,d,f⟩:=back j t b;exact ok.par j c q d (f.trans m)
 ·have:a≠p:=λz=>by
   subst z;cases k:s.m with
   |own=>rw[ok.own i s a hs k h]at e;cases e
   |par=>exact n (ok.par i s a hs k h)
   |val|lent=>rw[k]at hm;cases hm
  rw[aG this];exact ok.keep a ob e n
 ·by_cases z:a=p;subst z;rw[aJ]at e;cases e;rw[aG z]at e;exact ok.dom a e
 ·rw[aG (λz=>n ⟨i,s,hs,hm,by rw[z];exact h⟩)];exact e
 ·by_cases z:a=p;subst z;rw[aJ]at e;cases e;rw[aG z]at e;exact e
 ·obtain⟨c,d,f⟩:=back j t b;exact .inl ⟨j,c,d,by rw[f];exact m,r⟩
 ·obtain⟨c,d,f⟩:=back j t b;exact .inl ⟨j,c,d,by rw[f];exact m,r⟩
 ·by_cases z:j=i;subst z;exact⟨_,by rw[Bo A]⟩;exact⟨t,by rw[Ac (iA z)];exact b⟩
 ·by_cases z:j=i;subst z;rw[hs]at b;cases b;exact⟨⟨s.m,d'⟩,by rw[Bo A],rfl,λq=>(by rw[q]at hm;cases hm),rfl⟩;exact⟨t,by rw[Ac (iA z)];exact b,rfl,λ_=>rfl,rfl⟩
 ·obtain⟨c,d,f⟩:=back j t b;exact⟨c,d,f.trans m⟩
abbrev FM:=D->List D->Option (D×D)
def FR(r:V->List V->Hp->VK->Prop)(f:FM):Prop:=∀H d p a vs Q d' e,cR H d p->Rps H a vs->f d a=some (d',e)->(∀o' v,cR (gY H p o') d' p->Rp (gY H p o') e v->Q v (gY H p o'))->r (.ref p) vs H Q
def MT(r:V->List V->Hp->VK->Prop)(f:FM):Prop:=∀H d p a vs Q d' e,cR H d p->EX H a vs->f d a=some (d',e)->(∀o' v,cR (gY H p o') d' p->Rp (gY H p o') e v->Q v (gY H p o'))->r (.ref p) vs H Q
def Df(f:FM)(i:Nat)(a:List D)(Z:Sg):Option (hQ×Sg):=match Z[i]? with
 |some (some s)=>if s.m.mt=true then(f s.d a).bind λy=>some (.val y.2,Z.set i (some ⟨s.m,y.1⟩))else none
 |_=>none
noncomputable def Eu(T:String):D->Bool
 |.lst _=>T=="list"
 |_=>false
def EY(T:String)(i:Nat)(Z:Sg):Bool:=match Z[i]? with
 |some (some s)=>decide (s.m≠.val)&&Eu T s.d
 |_=>false
def fD(T:String)(i:Nat)(f:FM)(a:DA):DE:=λZ=>if EY T i Z=true then(a Z).bind λx=>(vals x.1).bind λb=>Df f i b x.2 else none
def qT(T:String)(i:Nat)(f:FM)(a:DA):DE:=λZ=>if EY T i Z=true then(a Z).bind λx=>(FP x.2 x.1).bind λb=>Df f i b x.2 else none
def wZ(T:String)(i:Nat)(f:FM):DE:=λZ=>if EY T i Z=true then Df f i [] Z else none
def Kx(h:cR H d p)(e:Eu T d=true):HV K T (.ref p) H:=by
 unfold cR at h;split at h;obtain⟨xs,a,_⟩:=h;exact .inl ⟨by simpa[Eu]using e,xs,AL.of a⟩;cases e
 simp_all
set_option tactic.hygienic true in
def fK(h:Df f i a Z=some (res,σ')):∃s d' e,Z[i]?=some (some s)/\s.m.mt=true/\f s.d a=some (d',e)/\res=.val e/\σ'=Z.set i (some ⟨s.m,d'⟩):=by
 unfold Df at h;split at h;rename_i s hs;split at h;rename_i hm;obtain⟨⟨d',e⟩,b,c⟩:=aA h;cases c;exact⟨s,d',e,hs,hm,b,rfl,rfl⟩;cases h;cases h
def mV(h:EY T i Z=true):∃s,Z[i]?=some (some s)/\s.m≠.val/\Eu T s.d=true:=by
 unfold EY at h;split at h
 ·simp_all
 ·cases h
def qU(u:FR r f)(h:∀Γ,PE X e (FH K T r (CZ i) (BQ Γ ra))):GE X e (fD T i f ra):=.mk λΓ=>Bi (h Γ) λσV H Q Z1=>by
 obtain⟨Z,ok,res,σ',e,k⟩:=Z1;unfold fD at e;split at e;rename_i hn;obtain⟨⟨x,c⟩,w,e⟩:=aA e;obtain⟨z,A,e⟩:=aA e;obtain⟨s,d',y,hs,hm,B,rfl,rfl⟩:=fK e;obtain⟨F,g,j,l⟩:=mV hn;obtain⟨p,ep,ow⟩:=ok.ownAt g j;refine⟨_,ep,Kx ow l,Z,ok,x,c,w,λvs C a D m G=>?_⟩;obtain⟨I,b,n⟩:=a.ownAt hs (fZ hm);rw[ep]at b;cases b;refine u C s.d p z vs Q d' y n (kS D A) B λo' v o E=>?_;obtain⟨q,t⟩:=a.write hs hm ep o;exact k v _ q E (m.trans t) fC;cases e
def WJ(u:MT r f)(h:∀Γ,PE X e (FH K T r (CZ i) (BQ Γ ra))):GE X e (qT T i f ra):=.mk λΓ=>Bi (h Γ) λσV H Q Z1=>by
 obtain⟨Z,ok,res,σ',e,k⟩:=Z1;unfold qT at e;split at e;rename_i hn;obtain⟨⟨x,c⟩,w,e⟩:=aA e;obtain⟨z,A,e⟩:=aA e;obtain⟨s,d',y,hs,hm,B,rfl,rfl⟩:=fK e;obtain⟨F,g,j,l⟩:=mV hn;obtain⟨p,ep,ow⟩:=ok.ownAt g j;refine⟨_,ep,Kx ow l,Z,ok,x,c,w,λvs C a D m G=>?_⟩;obtain⟨I,b,n⟩:=a.ownAt hs (fZ hm);rw[ep]at b;cases b;refine u C s.d p z vs Q d' y n (qS a D A) B λo' v o E=>?_;obtain⟨q,t⟩:=a.write hs hm ep o;exact k v _ q E (m.trans t) fC;cases e
def WK(o:FR r f)(h:PE X e (Ko K T r (CZ i))):GE X e (wZ T i f):=.mk λΓ=>Bi h λσV H Q Z1=>by
 obtain⟨Z,ok,res,σ',e,k⟩:=Z1;unfold wZ at e;split at e;rename_i hn;obtain⟨s,d',y,hs,hm,q,rfl,rfl⟩:=fK e;obtain⟨u,b,c,g⟩:=mV hn;obtain⟨p,ep,ow⟩:=ok.ownAt b c;refine⟨_,ep,Kx ow g,?_⟩;obtain⟨w,a,j⟩:=ok.ownAt hs (fZ hm);rw[ep]at a;cases a;refine o H s.d p [] [] Q d' y j .nil q λo' v l t=>?_;obtain⟨m,n⟩:=ok.write hs hm ep l;exact k v _ m t n fC;cases e
inductive Cc where
 |nx (Z:Sg)|rt (r:hQ) (Z:Sg)|bk (Z:Sg)|ct (Z:Sg)|ex (c:Str) (f:Option (Str×D)) (Z:Sg)
abbrev DS:=Sg->Option Cc
structure Ex where
 ok:Hp->Str->Option (Str×D)->Value->Option Addr->Prop
 to:St->XK
noncomputable def Ex.no:Ex:=⟨λ_ _ _ _ _=>False,λ_ _ _ _=>False⟩
def Ie(Γ:Gm)(E:Ex)(Z:Sg)(σV:St)(H:Hp)(o:Cc)(D:Bh):Prop:=match o with
 |.nx σ'=>∀σV' H',eH Γ H' σ' σV'->hJ Z σV H σ' σV' H'->D.nx σV' H'
 |.rt r σ'=>∀v σV' H',eH Γ H' σ' σV'->jR Γ H' σ' σV' r v->hJ Z σV H σ' σV' H'->D.rt v H'
 |.bk σ'=>∀σV' H',eH Γ H' σ' σV'->hJ Z σV H σ' σV' H'->D.bk σV' H'
 |.ct σ'=>∀σV' H',eH Γ H' σ' σV'->hJ Z σV H σ' σV' H'->D.ct σV' H'
 |.ex c f σ'=>∀x d σV' H',eH Γ H' σ' σV'->E.ok H' c f x d->hJ Z σV H σ' σV' H'->E.to σV' x d H'
def Ct(Γ:Gm)(E:Ex)(r:DS):TS:=λD σV H=>∃Z,eH Γ H Z σV/\∃o,r Z=some o/\Ie Γ E Z σV H o D
structure GS(E:Ex)(X:Cx)(s:Stmt)(r:DS):Prop where
 to:∀Γ,PS X s (Ct Γ E r)
structure CI(E:Ex)(X:Cx)(s:List Stmt)(r:DS):Prop where
 to:∀Γ,Bv X s (Ct Γ E r)
def Ie.after{D:Bh}(h:Ie Γ E Z σV H o D)(st:hJ Z σV H b a e):Ie Γ E b a e o D:=by
 cases o with
 |nx σ'=>exact λσV' H' ok s=>h σV' H' ok (st.trans s)
 |rt r σ'=>exact λv σV' H' ok q s=>h v σV' H' ok q (st.trans s)
 |bk σ' | ct σ'=>exact λσV' H' ok s=>h σV' H' ok (st.trans s)
 |ex c f σ'=>exact λx d σV' H' ok q s=>h x d σV' H' ok q (st.trans s)
noncomputable def eJ:DS:=λZ=>some (.nx Z)
noncomputable def aS(a b:DS):DS:=λZ=>(a Z).bind λo=>match o with
 |.nx c=>b c
 |o=>some o
noncomputable def gK(r:DE):DS:=λZ=>(r Z).bind λx=>some (.nx x.2)
noncomputable def gO(r:DE):DS:=λZ=>(r Z).bind λx=>some (.rt x.1 x.2)
noncomputable def jL(c:DT)(a b:DS):DS:=λZ=>(c Z).bind λx=>if x.1=true then a x.2 else b x.2
def WL:CI E X [] eJ:=.mk λΓ=>Ia SY λD σV H Z1=>by
 obtain⟨Z,ok,o,e,k⟩:=Z1;cases e;exact k σV H ok .refl
def MU(h:GS E X st a):CI E X [st] a:=.mk λΓ=>qH (h.to Γ)
def WM{D:Bh}(h:Ct Γ E (aS a b) D σV H):HN (Ct Γ E a) (Ct Γ E b) D σV H:=by
 obtain⟨Z,ok,o,e,k⟩:=h;obtain⟨j,m,e⟩:=aA e;refine⟨Z,ok,j,m,?_⟩;cases j with
 |nx d=>exact λl n g i=>⟨d,g,o,e,k.after i⟩
 |rt r σ' | bk σ' | ct σ' | ex c f σ'=>cases e;exact k
def zW{fH:List Stmt}(h1:GS E X st a)(c:CI E X fH b):CI E X (st::fH) (aS a b):=.mk λΓ=>Ia (mT (h1.to Γ) (c.to Γ)) λ_ _ _=>WM
def WN(d:GE X e r)(hs:swapsWith e none pos.line X.env=pure false:=by rfl):GS E X (.Expr e pos) (gK r):=.mk λΓ=>DB (LN (d.to Γ) hs) λD σV H Z1=>by
 obtain⟨Z,ok,o,e,k⟩:=Z1;obtain⟨⟨x,a⟩,f,e⟩:=aA e;cases e;exact⟨Z,ok,x,a,f,λv g b h c _=>k σV g b c⟩
def WO(d:GE X e r):GS E X (.Return (some e) pos) (gO r):=.mk λΓ=>DB (LO (d.to Γ)) λD σV H Z1=>by
 obtain⟨Z,ok,o,e,k⟩:=Z1;obtain⟨⟨x,a⟩,f,e⟩:=aA e;cases e;exact⟨Z,ok,x,a,f,λv g b h c _=>k v σV g b h c⟩
def WQ(hc:GT X c t)(ha:CI E X l a)(hb:CI E X m b):GS E X (.If c l m pos) (jL t a b):=.mk λΓ=>DB (Tb (hc.to Γ) (ha.to Γ) (hb.to Γ)) λD σV H Z1=>by
 obtain⟨Z,ok,o,e,k⟩:=Z1;obtain⟨⟨x,d⟩,i,e⟩:=aA e;refine⟨Z,ok,x,d,i,λj f g=>?_⟩;split at e;rename_i h;rw[fI h];exact⟨d,f,o,e,k.after g⟩;rename_i h;rw[gX h];exact⟨d,f,o,e,k.after g⟩
noncomputable def fE(Z:Sg)(i:Nat):Bool:=match Z[i]? with
 |some none=>true
 |some (some s)=>decide (s.m=.val)||decide (s.m=.own)
 |none=>false
def zX(h:fE Z i=true):i<Z.length:=by
 unfold fE at h;split at h;rename_i e;exact(sS.mp e).1;rename_i e;exact(sS.mp e).1;cases h
def WR(h:fE Z i=true)(hs:Z[i]?=some (some s)):s.m=.val\/s.m=.own:=by
 unfold fE at h
 simp_all
def eH.put(ok:eH Γ H Z σV)(p:fE Z i=true)(r:Rp H d v):eH Γ H (Z.set i (some ⟨.val,d⟩)) (σV.set i (some v)) where
 rel:=λj t c=>by
  rcases aP c with⟨z,a,_⟩|⟨z,a⟩;cases a;subst z;exact⟨v,by rw[Bo (by rw[← ok.len];simp_all)],r⟩;obtain⟨w,h,f⟩:=ok.rel j t a;exact⟨w,by rw[Ac (iA z)];exact h,f⟩
 dis:=λj l t k q n c o m m' b e=>by
  rcases aP c with⟨z,a,_⟩|⟨z,a⟩;cases a;cases m;rcases aP o with⟨y,g,_⟩|⟨y,g⟩
  ·lia
  ·rw[Ac (iA z)]at b;rw[Ac (iA y)]at e;exact ok.dis j l t k q n a g m m' b e
 own:=λj t q c m b=>by
  rcases aP c with⟨z,a,_⟩|⟨z,a⟩
  ·simp_all
  ·rw[Ac (iA z)]at b;exact ok.own j t q a m b
 par:=λj t q c m b=>by
  rcases aP c with⟨z,a,_⟩|⟨z,a⟩
  ·simp_all
  ·rw[Ac (iA z)]at b;exact ok.par j t q a m b
 keep:=ok.keep
 dom:=ok.dom
 len:=by rw[Dx,Dx];exact ok.len
def hJ.put(st:hJ σ0 σV0 H0 Z σV H)(n:fE Z i=true)(m:Md)(hm:m=.val\/m=.own/\∀ p,v=.ref p->H0 p=none):hJ σ0 σV0 H0 (Z.set i (some ⟨m,d⟩)) (σV.set i (some v)) H:=by
 have b:m≠.lent:=by lia
 have w:=zX n;have o:∀t,Z[i]?=some (some t)->t.m≠.par/\t.m≠.lent:=λt e=>by
  rcases WR n e with z|z<;>(lia)
 refine⟨st.fr,st.dom,λa ⟨j,t,f,mt,g⟩=>?_,λa ⟨j,t,f,nv,g⟩=>?_,λj t f=>?_,λj t f h=>?_,λj t f h=>?_⟩
 ·rcases aP f with⟨z,c,_⟩ | ⟨z,c⟩
  ·cases c;subst z;rcases hm with rfl|⟨_,q⟩;cases mt;have:=sS.mp g
   simp_all
  ·rw[Ac (iA z)]at g;exact st.mu a ⟨j,t,c,mt,g⟩
 ·rcases aP f with⟨z,c,_⟩ | ⟨z,c⟩
  ·cases c;subst z;rcases hm with rfl|⟨_,q⟩;exact absurd rfl nv;have:=sS.mp g
   simp_all
  ·rw[Ac (iA z)]at g;exact st.nv a ⟨j,t,c,nv,g⟩
 ·obtain⟨k,l⟩:=st.kp j t f;by_cases z:j=i
  ·simp_all
  ·exact⟨k,by rw[Ac (iA z)];exact l⟩
 ·obtain⟨k,l,r,s,u⟩:=st.fix j t f h;have z:j≠i:=λz=>by grind
  exact⟨k,by rw[Ac (iA z)];exact l,r,s,by rw[Ac (iA z)];exact u⟩
 ·rcases aP f with⟨z,c,_⟩|⟨z,c⟩;cases c;exact absurd h b;exact st.lt j t c h
def eH.putOwn(ok:eH Γ H Z σV)(r:fE Z i=true)(ow:cR H d p)(hn:¬ zS Z σV p)(h0:Γ.H₀ p=none):eH Γ H (Z.set i (some ⟨.own,d⟩)) (σV.set i (some (.ref p))) where
 rel:=λj t e=>by
  rcases aP e with⟨z,a,_⟩|⟨z,a⟩;cases a;subst z;exact⟨.ref p,by rw[Bo (by rw[← ok.len];simp_all)],p,rfl,ow⟩;obtain⟨w,s,g⟩:=ok.rel j t a;exact⟨w,by rw[Ac (iA z)];exact s,g⟩
 dis:=λj l t h q n e k m m' c b=>by
  have o:i<σV.length:=by rw[← ok.len];exact zX r
  rcases aP e with⟨z,a,_⟩|⟨z,a⟩
  ·subst z;rw[Bo o]at c;cases c;rcases aP k with⟨y,f,_⟩|⟨y,f⟩
   ·simp_all
   ·rw[Ac (iA y)]at b;exact hn ⟨l,h,f,m',b⟩
  ·rw[Ac (iA z)]at c;rcases aP k with⟨y,f,_⟩|⟨y,f⟩;subst y;rw[Bo o]at b;cases b;exact hn ⟨j,t,a,fZ m,c⟩;rw[Ac (iA y)]at b;exact ok.dis j l t h q n a f m m' c b
 own:=λj t q e m c=>by
  rcases aP e with⟨z,a,_⟩|⟨z,a⟩
  ·subst z;rw[Bo (by rw[← ok.len];simp_all)]at c
   lia
  ·rw[Ac (iA z)]at c;exact ok.own j t q a m c
 par:=λj t q e m c=>by
  rcases aP e with⟨z,a,_⟩|⟨z,a⟩
  ·lia
  ·rw[Ac (iA z)]at c;exact ok.par j t q a m c
 keep:=ok.keep
 dom:=ok.dom
 len:=by rw[Dx,Dx];exact ok.len
def MV(i:Nat)(r:hQ)(Z:Sg):Option Sg:=match r with
 |.val d=>if fE Z i=true then some (Z.set i (some ⟨.val,d⟩))else none
 |.own d=>if fE Z i=true then some (Z.set i (some ⟨.own,d⟩))else none
 |.slot _=>none
def bD(i:Nat)(r:DE):DS:=λZ=>(r Z).bind λx=>(MV i x.1 x.2).bind λa=>some (.nx a)
def zY{D:Bh}(h:Ct Γ E (bD i r) D σV H):Bd Γ r σV H (λx n=>D.nx (σV.set i (some x)) n):=by
 obtain⟨Z,ok,o,e,k⟩:=h;obtain⟨⟨x,a⟩,s,e⟩:=aA e;obtain⟨c,m,e⟩:=aA e;cases e;refine⟨Z,ok,x,a,s,λv n f q g t=>?_⟩;cases x with
 | val d=>
   have b:(if fE a i=true then some (a.set i (some ⟨.val,d⟩))else none)=some c:=m;split at b;rename_i l;cases b;exact k _ _ (f.put l q) (g.put l .val (.inl rfl))
   simp_all
 | own d=>
   have b:(if fE a i=true then some (a.set i (some ⟨.own,d⟩))else none)=some c:=m;split at b;rename_i l;cases b;obtain⟨p,rfl,u,w,y⟩:=q;exact k _ _ (f.putOwn l u w y) (g.put l .own (.inr ⟨rfl,λp e=>t _ p rfl e⟩))
   simp_all
 |slot j=>cases m
def WS(h:∀Γ,PS X st (FF (Bd Γ r) (iM i))):GS E X st (bD i r):=.mk λΓ=>DB (h Γ) λ_ _ _ h=>zY h
noncomputable def jV(x:Str):List D:=x.cps.toList.map λc=>.str ⟨#[c]⟩
def uC(x:Str):Rps H (jV x) (eU x):=by
 unfold jV eU
 induction x.cps.toList with
 |nil=>exact .nil
 |cons a r b=>exact .cons (.str _) b
abbrev DG:=D->Sg->Option Sg
abbrev Ig:=List D->Sg->Option Sg
def Dg(own:List Nat)(g:TG)(gd:DG):Prop:=∀Γ H b a c Z σV d v σ' Q,eH Γ H Z σV->hJ b a c Z σV H->Rp H d v->gd d Z=some σ' ->
 (∀σV',eH Γ H σ' σV'->hJ b a c σ' σV' H->σV'.length=σV.length->(∀i,i∉own->σV'[i]?=σV[i]? /\ σ'[i]?=Z[i]?)->Q σV' H)->g v σV H Q
def Ji(own:List Nat)(g:ET)(gd:Ig):Prop:=∀Γ H b a c Z σV d vs σ' Q,eH Γ H Z σV->hJ b a c Z σV H->Rps H d vs->gd d Z=some σ' ->
 (∀σV',eH Γ H σ' σV'->hJ b a c σ' σV' H->σV'.length=σV.length->(∀i,i∉own->σV'[i]?=σV[i]? /\ σ'[i]?=Z[i]?)->Q σV' H)->g vs σV H Q
def hC(i:Nat):DG:=λd Z=>if fE Z i=true then some (Z.set i (some ⟨.val,d⟩))else none
noncomputable def dJ:Ig:=λa Z=>if a.isEmpty then some Z else none
noncomputable def aL(g:DG)(b:Ig):Ig:=λc Z=>match c with
 |d::r=>(g d Z).bind λa=>b r a
 |[]=>none
def cT(n:Nat)(a:Ig):DG:=λd Z=>match d with
 |.tup l=>if l.length=n then a l Z else none
 |.str z=>if z.length=n then a (jV z) Z else none
 |_=>none
def bB(h:i∈own):Dg own (iM i) (hC i):=by
 intro Γ H c a f Z σV d v σ' Q ok st r e k;unfold hC at e;split at e
 ·rename_i b;cases e;refine k _ (ok.put b r) (st.put b .val (.inl rfl)) (by simp) λj hj=>?_;have:i≠j:=λz=>hj (by simp_all)
  simp_all
 ·cases e
def fQ:Ji own EU dJ:=by
 intro Γ H b a c Z σV d vs σ' Q ok st r e k;cases r with
 |nil=>cases e;exact⟨rfl,k _ ok st rfl λ_ _=>⟨rfl,rfl⟩⟩
 |cons _ _=>cases e
def aT(h1:Dg own g gd)(v:Ji own p c):Ji own (nB g p) (aL gd c):=by
 intro Γ H d b q Z σV x vs σ' Q ok st r e k;cases r with
 |nil=>cases e
 | cons a t=>
   obtain⟨f,w,e⟩:=aA e;refine⟨_,_,rfl,h1 Γ H d b q Z σV _ _ f _ ok st a w λh l m l1 s=>?_⟩;refine v Γ H d b q f h _ _ σ' _ l m t e λj n o l2 u=>?_;exact k j n o (l2.trans l1) λi hi=>⟨(u i hi).1.trans (s i hi).1,(u i hi).2.trans (s i hi).2⟩
def iV(h:Ji own i a):Dg own (nN K n i) (cT n a):=by
 intro Γ H c b j Z σV d v σ' Q ok st r e k;cases d with
 | tup l=>
   have f:(if l.length=n then a l Z else none)=some σ':=e;split at f;rename_i g;obtain⟨p,xs,rfl,o,m⟩:=dF (.inl r);exact⟨xs,aV o,by rw[← m.length];exact g,h Γ H c b j Z σV l xs σ' Q ok st m f k⟩
   simp_all
 | str z=>
   have f:(if z.length=n then a (jV z) Z else none)=some σ':=e;split at f;rename_i g;cases r;exact⟨g,h Γ H c b j Z σV _ _ σ' Q ok st (uC z) f k⟩
   simp_all
 |_=>cases e
noncomputable def FU(g:DG)(r:DE):DS:=λZ=>(r Z).bind λx=>match x.1 with
 |.val d=>(g d x.2).bind λa=>some (.nx a)
 |_=>none
def MW(n:Dg own g gd)(h:∀Γ,PS X st (FF (Bd Γ r) g)):GS E X st (FU gd r):=.mk λΓ=>DB (h Γ) λD σV H Z1=>by
 obtain⟨Z,ok,o,e,k⟩:=Z1;obtain⟨⟨x,a⟩,p,e⟩:=aA e;refine⟨Z,ok,x,a,p,λv m c q f t=>?_⟩;cases x with
 | val d=>
   obtain⟨i,s,e⟩:=aA e;cases e;exact n Γ m Z σV H a σV d v i _ c f q s λb j l _ _=>k b m j l
 |own d|slot d=>cases e
def GR(i j:Nat)(a:DA):DS:=λZ=>(a Z).bind λx=>(vals x.1).bind λb=>match b with
 |[d,e]=>if fE x.2 i=true/\fE x.2 j=true/\i≠j then some (.nx ((x.2.set i (some ⟨.val,d⟩)).set j (some ⟨.val,e⟩)))else none
 |_=>none
set_option tactic.hygienic true in
def WT(h:∀ Γ,PS X st (LS i j (BQ Γ p))):GS E X st (GR i j p):=.mk λΓ=>DB (h Γ) λD σV H Z1=>by
 obtain⟨Z,ok,o,e,k⟩:=Z1;obtain⟨⟨x,c⟩,q,e⟩:=aA e;obtain⟨v,r,e⟩:=aA e;refine⟨Z,ok,x,c,q,λvs w l s m z=>?_⟩;have u:=kS s r;split at e
 ·split at e
  ·rename_i d y g;cases e;cases u with
   | cons a t=>cases t with
     | cons b t=>cases t with
       | nil=>
         refine⟨_,_,rfl,?_⟩;have n:=l.put g.1 a;have f:fE (c.set i (some ⟨.val,d⟩)) j=true:=by
          unfold fE;rw[Ac g.2.2];exact g.2.1
         exact k _ _ (n.put f b) ((m.put g.1 .val (.inl rfl)).put f .val (.inl rfl))
  ·cases e
 ·cases e
def lend(i:Nat)(Z:Sg):Sg:=match Z[i]? with
 |some (some s)=>if s.m.mt=true then Z.set i (some ⟨.lent,s.d⟩)else Z
 |_=>Z
def Dh(i:Nat)(a Z:Sg):Sg:=match a[i]?,Z[i]? with
 |some (some s0),some (some s)=>if s0.m.mt=true then Z.set i (some ⟨s0.m,s.d⟩)else Z
 |_,_=>Z
def lendO(l:Option Nat)(Z:Sg):Sg:=match l with
 |some i=>lend i Z
 |none=>Z
def wC(l:Option Nat)(a Z:Sg):Sg:=match l with
 |some i=>Dh i a Z
 |none=>Z
def qV(hs:Z[i]?=some (some s))(hm:s.m.mt=true):lend i Z=Z.set i (some ⟨.lent,s.d⟩):=by
 unfold lend;simp_all
def xA(h:∀s,Z[i]?=some (some s)->s.m.mt=false):lend i Z=Z:=by
 unfold lend;split
 ·simp_all
 rfl
theorem eH.lend(ok:eH Γ H Z σV):eH Γ H (lend i Z) σV:=by
 by_cases f:∃s,Z[i]?=some (some s)/\s.m.mt=true
 ·obtain⟨s,hs,hm⟩:=f;rw[qV hs hm];obtain⟨p,ep,ow⟩:=ok.ownAt hs (fZ hm);have back:∀ (j:Nat) t,(Z.set i (some ⟨.lent,s.d⟩))[j]? = some (some t)->(j=i/\t=⟨.lent,s.d⟩)\/(j≠i/\Z[j]? = some (some t)):=λj t a=>by
   rcases aP a with⟨z,g,_⟩|z;cases g;exact .inl ⟨z,rfl⟩;exact .inr z
  refine⟨λj t a=>?_,λj l t e q n a h m m' b c=>?_,λj t q a m b=>?_,λj t q a m b=>?_,ok.keep,ok.dom,by rw[Dx];exact ok.len⟩;rcases back j t a with⟨rfl,rfl⟩|⟨_,z⟩;exact⟨_,ep,p,rfl,ow⟩;exact ok.rel j t z;rcases back j t a with⟨rfl,rfl⟩|⟨_,z⟩;cases m;rcases back l e h with⟨rfl,rfl⟩|⟨_,y⟩;exact ok.dis j l t s q n z hs m (fZ hm) b c;exact ok.dis j l t e q n z y m m' b c;rcases back j t a with⟨rfl,rfl⟩|⟨_,z⟩;cases m;exact ok.own j t q z m b;rcases back j t a with⟨rfl,rfl⟩|⟨_,z⟩;cases m;exact ok.par j t q z m b
 ·rw[xA λs hs=>by grind];exact ok
set_option tactic.hygienic true in
def WU(ok:eH Γ H1 σ1 σV)(c:eH Γ H2 σ2 σV2)(st:hJ (lend i σ1) σV H1 σ2 σV2 H2):eH Γ H2 (Dh i σ1 σ2) σV2/\hJ σ1 σV H1 (Dh i σ1 σ2) σV2 H2:=by
 by_cases π:∃s,σ1[i]?=some (some s)/\s.m.mt=true
 ·obtain⟨s,hs,hm⟩:=π;have U:i < σ1.length:=(sS.mp hs).1;rw[qV hs hm]at st;have I:(σ1.set i (some ⟨.lent,s.d⟩))[i]? = some (some ⟨.lent,s.d⟩):=by rw[Bo U]
  obtain⟨s2,H,V,d2,P⟩:=st.fix i _ I (.inr rfl);have A:s2.m=.lent:=V;have B:i<σ2.length:=(sS.mp H).1;have J:Dh i σ1 σ2=σ2.set i (some ⟨s.m,s2.d⟩):=by unfold Dh;rw[hs,H];simp only[hm,if_true]
  rw[J];obtain⟨p,ep,ow⟩:=ok.ownAt hs (fZ hm);have f:σV2[i]?=some (some (.ref p)):=P.trans ep;obtain⟨p',Q,K⟩:=c.ownAt H (by rw[A];exact λz=>nomatch z);rw[f]at Q;cases Q;have C:∀(j:Nat) t,j≠i->σ2[j]?=some (some t)->t.m=.lent->σV2[j]? ≠ some (some (.ref p)):=λj t hj b L e=>by
   obtain⟨D,x,E⟩:=st.lt j t b L;rw[Ac (iA hj)]at x;have W:(σ1.set i (some ⟨.lent,s.d⟩))[j]?=some (some D):=by rw[Ac (iA hj)];exact x
   obtain⟨_,_,_,_,X⟩:=st.fix j D W (.inr E);rw[X]at e;exact ok.dis i j s D p (iA hj) hs x hm (by rw[E];exact λz=>nomatch z) ep e
  have r:∀ (j:Nat) t,j≠i->σ2[j]? = some (some t)->t.m≠.val->σV2[j]? ≠ some (some (.ref p)):=λj t hj b L e=>by
   by_cases R:t.m=.lent;exact C j t hj b R e;have M:t.m.mt=true:=by
    cases q:t.m with
    |val=>exact absurd q L
    |own|par=>rfl
    |lent=>exact absurd q R
   exact c.dis j i t s2 p hj b H M (by rw[A];exact λz=>nomatch z) e f
  have back:∀(j:Nat) t,(σ2.set i (some ⟨s.m,s2.d⟩))[j]?=some (some t)->(j=i/\t=⟨s.m,s2.d⟩)\/(j≠i/\σ2[j]?=some (some t)):=λj t b=>by
   rcases aP b with⟨z,v,_⟩|z;cases v;exact .inl ⟨z,rfl⟩;exact .inr z
  have sub:∀a,iO (σ1.set i (some ⟨.lent,s.d⟩)) σV a->iO σ1 σV a:=λa Z1=>by
   obtain⟨j,t,b,m,k⟩:=Z1;rcases aP b with⟨z,v,_⟩|⟨z,v⟩;cases v;cases m;exact⟨j,t,v,m,k⟩
  have F:∀a,zS (σ1.set i (some ⟨.lent,s.d⟩)) σV a->zS σ1 σV a:=λa Z1=>by
   obtain⟨j,t,b,m,k⟩:=Z1;rcases aP b with⟨z,v,_⟩|⟨z,v⟩;subst z;exact⟨j,s,hs,fZ hm,k⟩;exact⟨j,t,v,m,k⟩
  constructor
  ·refine⟨λj t b=>?_,λj l t w q n b S m m' g u=>?_,λj t q b m g=>?_,λj t q b m g=>?_,c.keep,c.dom,by rw[Dx];exact c.len⟩;rcases back j t b with⟨rfl,rfl⟩|⟨_,z⟩;exact⟨_,f,(dA (s:=⟨s.m,s2.d⟩) (fZ hm)).mpr ⟨p,rfl,K⟩⟩;exact c.rel j t z
   ·rcases back j t b with⟨rfl,rfl⟩|⟨zn,z⟩;rw[f]at g;have g:=Ap (Ap g);cases g;rcases back l w S with⟨rfl,rfl⟩|⟨T,y⟩;exact n rfl;exact r l w T y m' u;rcases back l w S with⟨rfl,rfl⟩|⟨T,y⟩;rw[f]at u;have u:=Ap (Ap u);cases u;exact r j t zn z (fZ m) g;exact c.dis j l t w q n z y m m' g u
   ·rcases back j t b with⟨rfl,rfl⟩|⟨_,z⟩;rw[f]at g;have g:=Ap (Ap g);cases g;exact ok.own j s p hs m ep;exact c.own j t q z m g
   ·rcases back j t b with⟨rfl,rfl⟩|⟨_,z⟩;rw[f]at g;have g:=Ap (Ap g);cases g;exact ok.par j s p hs m ep;exact c.par j t q z m g
  ·refine⟨λa o e n=>st.fr a o e λz=>n (sub a z),st.dom,λa ⟨j,t,b,m,k⟩=>?_,λa ⟨j,t,b,m,k⟩=>?_,λj t b=>?_,λj t b m=>?_,λj t b m=>?_⟩;rcases back j t b with⟨rfl,rfl⟩|⟨_,z⟩;rw[f]at k;have k:=Ap (Ap k);cases k;exact .inl ⟨j,s,hs,hm,ep⟩;rcases st.mu a ⟨j,t,z,m,k⟩with y|y;exact .inl (sub a y);exact .inr y;rcases back j t b with⟨rfl,rfl⟩|⟨_,z⟩;rw[f]at k;have k:=Ap (Ap k);cases k;exact .inl ⟨j,s,hs,fZ hm,ep⟩;rcases st.nv a ⟨j,t,z,m,k⟩with y|y;exact .inl (F a y);exact .inr y;by_cases z:j=i;subst z;exact⟨_,by rw[Bo B]⟩;obtain⟨w,N⟩:=st.kp j t (by rw[Ac (iA z)];exact b);exact⟨w,by rw[Ac (iA z)];exact N⟩;by_cases z:j=i;subst z;rw[hs]at b;cases b;refine⟨⟨s.m,s2.d⟩,by rw[Bo B],rfl,λq=>?_,P⟩;rw[q]at hm;cases hm;obtain⟨w,N,h⟩:=st.fix j t (by rw[Ac (iA z)];exact b) m;exact⟨w,by rw[Ac (iA z)];exact N,h⟩;rcases back j t b with⟨rfl,rfl⟩|⟨zn,z⟩;have m':s.m=.lent:=m;rw[m']at hm;cases hm;obtain⟨D,x,Y⟩:=st.lt j t z m;rw[Ac (iA zn)]at x;exact⟨D,x,Y⟩
 ·have G:∀ s,σ1[i]? = some (some s)->s.m.mt=false:=λs hs=>by
   cases e:s.m.mt with
   |false=>rfl
   |true=>exact absurd ⟨s,hs,e⟩ π
  rw[xA G]at st;have J:Dh i σ1 σ2=σ2:=by
   unfold Dh;split;rename_i σ s' h0 h';rw[gX (by rw[G σ h0];exact Fx)];rfl
  rw[J];exact⟨c,st⟩
theorem eH.lendO(ok:eH Γ H Z σV):eH Γ H (lendO l Z) σV:=by
 cases l with
 |none=>exact ok
 |some i=>exact ok.lend
def qW(ok:eH Γ H1 σ1 σV)(a:eH Γ H2 σ2 σV2)(st:hJ (lendO l σ1) σV H1 σ2 σV2 H2):eH Γ H2 (wC l σ1 σ2) σV2/\hJ σ1 σV H1 (wC l σ1 σ2) σV2 H2:=by
 cases l with
 |none=>exact⟨a,st⟩
 |some i=>exact WU ok a st
set_option tactic.hygienic true in
def WV(st:hJ (lendO l σ1) σV H1 σ2 σV2 H2)(h:jR Γ H2 σ2 σV2 r v):jR Γ H2 (wC l σ1 σ2) σV2 r v:=by
 cases l with
 |none=>exact h
 | some i=>
   show jR Γ H2 (Dh i σ1 σ2) σV2 r v;have st':hJ (lend i σ1) σV H1 σ2 σV2 H2:=st;unfold Dh;split
   ·rename_i f s' h0 h';split
    ·rename_i hm;cases r with
     |val d=>exact h
     | own d=>
       obtain⟨p,a,b,g,k⟩:=h;refine⟨p,a,b,λ⟨j,t,n,m,c⟩=>g ?_,k⟩;rcases aP n with⟨z,e,_⟩|⟨z,e⟩;subst z;rw[qV h0 hm]at st';obtain⟨o,q,s,_⟩:=st'.fix j ⟨.lent,f.d⟩ (by rw[Bo (sS.mp h0).1]) (.inr rfl);exact⟨j,o,q,by lia,c⟩
       ·exact⟨j,t,e,m,c⟩
     | slot j=>
       obtain⟨a,t,b⟩:=h;refine⟨a,?_⟩;by_cases z:j=i;subst z;exact⟨_,by rw[Bo (sS.mp h').1]⟩
       ·exact⟨t,by rw[Ac (iA z)];exact b⟩
    ·exact h
   ·exact h
structure Jj(J:It)(items:List D)(P:Hp->Prop):Prop where
 go:∀H i d,P H->items[i]?=some d->J.go i H
 yld:∀H i d y H',P H->items[i]?=some d->J.yld i H y H'->mQ H H'/\Rp H' d y
 stop:∀H,P H->J.stop items.length H
def uD(w:Dz J xs P):Jj J items (λH=>P H/\Rps H items xs) where
 go:=λH i d ⟨h,r⟩ e=>by
  obtain⟨x,ex,_⟩:=r.get e;exact w.go H i x h ex
 yld:=λH i d y H' ⟨h,r⟩ e q=>by
  obtain⟨x,ex,a⟩:=r.get e;obtain⟨rfl,rfl⟩:=w.yld H i x y H' h ex q;exact⟨.refl _,a⟩
 stop:=λH Z1=>by
  obtain⟨h,r⟩:=Z1;refine w.stop H _ h ?_;have:=r.length
  grind
abbrev DI:=Sg->Option (List D×Option Nat×Sg)
def Ew(Γ:Gm)(ri:DI):TI:=λσV H R=>∃Z,eH Γ H Z σV/\∃items l a,ri Z=some (items,l,a)/\∀J c P,eH Γ c a σV->hJ Z σV H a σV c->Jj J items P ->
 (∀d b e,hJ (lendO l a) σV c d b e->P e)->R J c
structure GI(X:Cx)(tg iter:Expr)(ri:DI):Prop where
 to:∀Γ,PI X tg iter (Ew Γ ri)
def Ih(h:PI X tg e t)(w:∀Z H Q,t' Z H Q->t Z H Q):PI X tg e t':=λpins s Z H Q I q=>h pins s Z H Q I (w Z H Q q)
def pI:D->Option (List D)
 |.lst l|.tup l=>some l
 |.str x=>some (jV x)
 |_=>none
def Az(r:DE):DI:=λZ=>(r Z).bind λx=>(rd x.2 x.1).bind λd=>(pI d).bind λl=>some (l,(match x.1 with|.slot i=>some i|_=>none),x.2)
def fN(h:H p=some o)(h1:a p=some o):cS a p=cS H p:=by unfold cS;rw[h,h1]
def uE(u:eH Γ g a σV)(h:jR Γ g a σV x v)(M:rd a x=some d)(C:pI d=some items)(vw:AM g d v) :
  ∀p b xs,v=.ref p->cS g p=some (b,xs)->Rps g items xs->∀y k A,hJ (lendO (match x with|.slot i=>some i|_=>none) a) σV g y k A->cS A p=some (b,xs)/\Rps A items xs:=by
 intro p b xs n r R y k A l;have ext:AX g A:=l.ext (Γ:=Γ) u.lendO;refine⟨?_,R.mono ext⟩;cases x with
 | val d'=>
   cases M;subst n;cases d with
   |tup F=>obtain⟨_,_,e,f,_⟩:=dF vw;cases e;rw[fN f (ext.tup _ _ f)];exact r
   | lst F=>
     cases h with
     |lst f _=>rw[fN f (ext.frz _ _ _ f)];exact r
   |dic ks vs=>cases C
   |str z=>cases h
   |_=>cases C
 | own d'=>
   obtain⟨q,N,ow,nn,_⟩:=h;rw[n]at N;cases N;obtain⟨o,B,_⟩:=ow.obj;rw[fN B (l.fr p o B (λz=>nn z.nv))];exact r
 | slot i=>
   obtain⟨h,s,hs⟩:=h;have c:eH Γ g a σV:=u;by_cases hm:s.m=.val
   ·obtain⟨w,π,G⟩:=c.rel i s hs;rw[h]at π;cases π;subst n;obtain⟨m,P⟩:=s;cases hm;have H:some P=some d:=by
     have:rd a (.slot i)=some P:=by show(match a[i]? with|some (some s)=>some s.d|_=>none)=_;rw[hs]
     rw[← this];exact M
    cases H;have I:Rp g d (.ref p):=G;cases d with
    |tup F=>obtain⟨_,_,e,f,_⟩:=dF (.inl I);cases e;rw[fN f (ext.tup _ _ f)];exact r
    | lst F=>
      cases I with
      |lst f _=>rw[fN f (ext.frz _ _ _ f)];exact r
    |dic ks vs=>cases C
    |str z=>cases I
    |_=>cases C
   ·obtain⟨q,J,ow⟩:=c.ownAt hs hm;rw[h]at J;rw[n]at J;cases J;obtain⟨o,B,_⟩:=ow.obj;have S:¬ iO (lend i a) σV p:=by
     rintro⟨j,t,E,m,Q⟩;by_cases K:s.m.mt=true;rw[qV hs K]at E;rcases aP E with⟨_,L,_⟩|⟨z,L⟩;cases L;cases m;exact c.dis j i t s p z L hs m hm Q (by rw[h,n]);rw[xA (λs' T=>by lia)]at E;by_cases z:j=i
     ·lia
     ·exact c.dis j i t s p z E hs m hm Q (by rw[h,n])
    rw[fN B (l.fr p o B S)];exact r
def WW(K:W.Frag)(w:X.K=K)(h:GE X e r):GI X tg e (Az r):=.mk λΓ=>Ih (VU K w (h.to Γ)) λσV H R Z1=>by
 obtain⟨Z,ok,items,l,y,e,k⟩:=Z1;obtain⟨⟨x,A⟩,B,e⟩:=aA e;obtain⟨d,t,e⟩:=aA e;obtain⟨its,i,e⟩:=aA e;cases e;refine⟨Z,ok,x,_,B,λv n b u g D=>?_⟩;have vw:=u.vw b t;have stay:=uE b u t i vw;cases d with
 | lst C=>
   cases i;obtain⟨p,xs,rfl,j,o⟩:=dS vw;refine .inl ⟨xs,j,k _ n _ b g (uD (Vq (xs:=xs))) λc a m f=>?_⟩;obtain⟨q,s⟩:=stay p true xs rfl j o c a m f;exact⟨eR q,s⟩
 | tup C=>
   cases i;obtain⟨p,xs,rfl,j,o⟩:=dF vw;refine .inr ⟨xs,aV j,k _ n _ b g (uD (Vr (xs:=xs))) λc a m f=>?_⟩;obtain⟨q,s⟩:=stay p false xs rfl (aV j) o c a m f;exact⟨dD q,s⟩
 | str z=>
   cases i;obtain rfl:=gN vw;exact k _ n (λH=>True/\Rps H (jV z) (eU z)) b g (uD Vs) λc a m f=>⟨True.intro,uC z⟩
 |_=>cases i
noncomputable def Di(lo:Int)(n:Nat):List D:=(range n).map λ(i:Nat)=>D.int (lo+(i:Int))
def MX(lo:Int)(n:Nat):Rps H (Di lo n) (FJ lo n):=by
 unfold Di FJ
 induction range n with
 |nil=>exact .nil
 |cons a r b=>exact .cons (.int _) b
def wD(a:DA):DI:=λZ=>(a Z).bind λx=>(FP x.2 x.1).bind λb=>match b with
 |[.int j]=>if -(2^62)<=j/\j<2^62 then some (Di 0 j.toNat,none,x.2)else none
 |[.int i,.int j]=>if(-(2^62)<=i/\i<2^62) /\ -(2^62)<=j/\j<2^62 then some (Di i (j-i).toNat,none,x.2)else none
 |_=>none
def WX(h:∀ Γ,PI X tg e (LV (BQ Γ d)))(h1:∀ Z rs σ',d Z=some (rs,σ')->rs.length=1):GI X tg e (wD d):=.mk λΓ=>Ih (h Γ) λσV H R Z1=>by
 obtain⟨Z,ok,items,l,m,e,k⟩:=Z1;obtain⟨⟨x,n⟩,g,e⟩:=aA e;obtain⟨o,p,e⟩:=aA e;refine⟨Z,ok,x,_,g,λvs r c i f w=>?_⟩;have vw:=qS c i p;have s:=h1 _ _ _ g;dsimp only at e;rcases o with _|⟨q,_|⟨y,z⟩⟩;exact aI e
 ·cases q<;>try exact aI e
  dsimp only at e;split at e
  ·rename_i hj;cases e;cases vw with
   | cons a t=>
     cases t;obtain rfl:=bO a;exact⟨_,rfl,hj.1,hj.2,k _ r (λH=>True/\Rps H _ _) c f (uD zK) λu j A v=>⟨True.intro,MX _ _⟩⟩
  ·cases e
 ·exfalso;cases vw with
  | cons a t=>cases t with
    | cons b t=>
      cases i with
      | cons _ q _=>cases q with
        |cons _ q _=>simp at s
def WY(h:∀ Γ,PI X tg e (LW (BQ Γ d)))(h1:∀ Z rs σ',d Z=some (rs,σ')->rs.length=2):GI X tg e (wD d):=.mk λΓ=>Ih (h Γ) λσV H R Z1=>by
 obtain⟨Z,ok,items,l,m,e,k⟩:=Z1;obtain⟨⟨x,n⟩,g,e⟩:=aA e;obtain⟨v,o,e⟩:=aA e;refine⟨Z,ok,x,_,g,λvs p c i f w=>?_⟩;have vw:=qS c i o;have r:=h1 _ _ _ g;dsimp only at e;split at e
 ·exfalso;cases vw with
  | cons a t=>
    cases t;cases i with
    |cons _ q _=>cases q;simp at r
 ·split at e
  ·rename_i hj;cases e;cases vw with
   | cons a t=>cases t with
     | cons b t=>
       cases t;obtain rfl:=bO a;obtain rfl:=bO b;exact⟨_,_,rfl,⟨hj.1.1,hj.1.2,hj.2.1,hj.2.2⟩,k _ p (λH=>True/\Rps H _ _) c f (uD zK) λs j y u=>⟨True.intro,MX _ _⟩⟩
  ·cases e
 ·cases e
theorem cI5:∀Z rs σ',aB r aH Z=some (rs,σ')->rs.length=1:=λZ rs σ' e=>by
 obtain⟨x,_,e⟩:=aA e;cases e;rfl
def dX8:∀Z rs σ',aB r (aB a aH) Z=some (rs,σ')->rs.length=2:=λZ rs σ' e=>by
 obtain⟨x,_,e⟩:=aA e;obtain⟨y,h,e⟩:=aA e;cases e;have:=cI5 _ _ _ h;simp[this]
noncomputable def EZ(g:DG)(b:DS):List D->Sg->Option Cc
 |[],Z=>some (.nx Z)
 | d::r,Z=>(g d Z).bind λe=>(b e).bind λo=>match o with
   |.nx a|.ct a=>EZ g b r a
   |.bk a=>some (.nx a)
   |.rt x a=>some (.rt x a)
   |.ex c f a=>some (.ex c f a)
def zZ(l:Option Nat)(a:Sg):Cc->Cc
 |.nx Z=>.nx (wC l a Z)
 |.rt r Z=>.rt r (wC l a Z)
 |.bk Z=>.bk (wC l a Z)
 |.ct Z=>.ct (wC l a Z)
 |.ex c f Z=>.ex c f (wC l a Z)
def mR(ri:DI)(g:DG)(b:DS):DS:=λZ=>(ri Z).bind λx=>(EZ g b x.1 (lendO x.2.1 x.2.2)).bind λo=>some (zZ x.2.1 x.2.2 o)
def WZ{D:Bh}(hg:Dg own g gd)(h:Ct Γ E (mR ri gd b) D σV H):HQ (Ew Γ ri) g (Ct Γ E b) D σV H:=by
 obtain⟨Z,ok,o,e,k⟩:=h;obtain⟨⟨items,l,u⟩,e1,e⟩:=aA e;obtain⟨T,e2,e⟩:=aA e;cases e;refine⟨Z,ok,items,l,u,e1,λJ S P F M N stay=>?_⟩;have K:∀n a w,eH Γ w n a->hJ (lendO l u) σV S n a w->∀U,U=T->(∀σ',U=.nx σ'->∀σV' H',eH Γ H' σ' σV'->hJ (lendO l u) σV S σ' σV' H'->D.nx σV' H'):=by
  intro n a w G B U ho σ' V σV' H' W st';subst ho V;obtain⟨π,Q⟩:=qW F W st';exact k σV' H' π (M.trans Q)
 refine⟨λi m a w=>m=items.length-i/\i<=items.length/\∃n,EZ gd b (items.drop i) n=some T/\eH Γ w n a/\hJ (lendO l u) σV S n a w,⟨items.length,by simp,sY _,lendO l u,by simpa using e2,F.lendO,.refl⟩,?_⟩;rintro i m a w ⟨rfl,hi,n,A,G,B⟩;have X:=stay n a w B;by_cases I:i<items.length
 ·have ei:items[i]? = some items[i]:=nL I;refine .inr ⟨N.go w i _ X ei,λC R=>∃ m',m' < items.length-i/\m'=items.length-(i+1)/\i+1<=items.length/\∃ z,EZ gd b (items.drop (i+1)) z=some T/\eH Γ R z C/\hJ (lendO l u) σV S z C R,λσ' H' q=>q,λy R hy=>?_⟩;obtain⟨sm,ry⟩:=N.yld w i _ y R X ei hy;rw[drop_eq_getElem_cons I]at A;obtain⟨z,eg,A⟩:=aA A;obtain⟨ob,eb,A⟩:=aA A;refine hg Γ R _ _ _ n a _ y z _ (G.same sm) (B.trans (.same sm)) ry eg λC Y t _ _=>?_;refine⟨z,Y,ob,eb,?_⟩;cases ob with
  |nx s|ct s=>exact λj L r p=>⟨_,by grind,rfl,I,s,A,r,t.trans p⟩
  | bk s=>
    cases A;exact λj L r p=>K s j L r (t.trans p) _ rfl s rfl j L r (t.trans p)
  | rt x s=>
    cases A;intro v j L r σ p;obtain⟨π,Q⟩:=qW F r (t.trans p);exact k v j L π (WV (t.trans p) σ) (M.trans Q)
  | ex c f s=>
    cases A;intro v d j L r σ p;obtain⟨π,Q⟩:=qW F r (t.trans p);exact k v d j L π σ (M.trans Q)
 ·have e0:i=items.length:=by lia
  subst e0;rw[drop_length]at A;cases A;exact .inl ⟨N.stop w X,K n a w G B _ rfl n rfl a w G B⟩
def Jk(a:Dg own g gd)(h:∀Γ,PS X st (HQ (Ew Γ ri) g (Ct Γ E b))):GS E X st (mR ri gd b):=.mk λΓ=>DB (h Γ) λ_ _ _=>WZ a
def MY:∃n:Nat,1000000<=n:=⟨_,hF _⟩
noncomputable def GU:Nat:=Classical.choose MY
def Xa:1000000<=GU:=Classical.choose_spec MY
noncomputable def mG(c:DT)(b:DS):Nat->Sg->Option Cc
 |0,_=>none
 | n+1,Z=>(c Z).bind λx=>if x.1=true then(b x.2).bind λo=>match o with
   |.nx a|.ct a=>mG c b n a
   |.bk a=>some (.nx a)
   |.rt r a=>some (.rt r a)
   |.ex c f a=>some (.ex c f a)else some (.nx x.2)
def pJ(c:DT)(b:DS):DS:=λZ=>mG c b GU Z
def Xb{D:Bh}(h:Ct Γ E (pJ c b) D σV H):Kc (DC Γ c) (Ct Γ E b) D σV H:=by
 obtain⟨Z,ok,o,e,k⟩:=h;refine⟨λm l A=>∃u,mG c b m u=some o/\eH Γ A u l/\hJ Z σV H u l A,⟨GU,Z,e,ok,.refl⟩,?_⟩;rintro m l A ⟨u,s,B,p⟩;cases m with
 |zero=>cases s
 | succ n=>
   obtain⟨⟨t,y⟩,G,s⟩:=aA s;refine⟨u,B,t,y,G,λI z r=>?_⟩;split at s
   ·rename_i C;rw[fI C];obtain⟨ob,J,s⟩:=aA s;refine⟨λa w=>∃m',m' < n+1/\∃g,mG c b m' g=some o/\eH Γ w g a/\hJ Z σV H g a w,λ_ _ q=>q,y,z,ob,J,?_⟩;cases ob with
    |nx g|ct g=>exact λa w i j=>⟨n,HF n,g,s,i,(p.trans r).trans j⟩
    |bk g=>cases s;exact λa w i j=>k a w i ((p.trans r).trans j)
    |rt x g=>cases s;exact λv a w i F j=>k v a w i F ((p.trans r).trans j)
    |ex c f g=>cases s;exact λv d a w i F j=>k v d a w i F ((p.trans r).trans j)
   ·rename_i C;rw[gX C];cases s;exact k l I z (p.trans r)
def Xc(h:∀Γ,PS X st (Kc (DC Γ c) (Ct Γ E b))):GS E X st (pJ c b):=.mk λΓ=>DB (h Γ) λ_ _ _=>Xb
noncomputable def aX(ow:List Nat)(Z:Sg):Sg:=ow.foldl (λZ i=>Z.set i none) Z
noncomputable def jS(ow:List Nat)(Z a:Sg):Sg:=ow.foldl (λa i=>a.set i (Z[i]?.getD none)) a
theorem fR{a:Type}:∀(ow:List Nat) (Z:List (Option a)),(ow.foldl (λZ i=>Z.set i none) Z).length=Z.length
 |[],_=>rfl
 |i::r,Z=>(fR r (Z.set i none)).trans (by simp)
theorem eV{a:Type}:∀ (ow:List Nat) (Z:List (Option a)) (j:Nat),j∉ow->(ow.foldl (λZ i=>Z.set i none) Z)[j]? = Z[j]?
 |[],_,_,_=>rfl
 | i::r,Z,j,h=>by
   have b:i≠j:=λz=>h (by rw[z];simp);have c:j∉r:=λz=>h (Ah _ z);show(r.foldl _ (Z.set i none))[j]?=_;rw[eV r _ j c,Ac b]
theorem bE{a:Type}:∀ (ow:List Nat) (Z:List (Option a)) (j:Nat) (x:a),(ow.foldl (λZ i=>Z.set i none) Z)[j]? = some (some x)->j∉ow/\Z[j]? = some (some x)
 |[],_,_,_,h=>⟨by simp,h⟩
 | i::r,Z,j,x,h=>by
   obtain⟨c,b⟩:=bE r (Z.set i none) j x h;rcases aP b with⟨_,z,_⟩|⟨z,d⟩;cases z
   simp_all
theorem mH:∀(ow:List Nat) (Z a:Sg),(jS ow Z a).length=a.length
 |[],_,_=>rfl
 |i::r,Z,a=>(mH r Z (a.set i (Z[i]?.getD none))).trans (by simp)
theorem iW:∀ (ow:List Nat) (Z a:Sg) (j:Nat),j∉ow->(jS ow Z a)[j]? = a[j]?
 |[],_,_,_,_=>rfl
 | i::r,Z,a,j,h=>by
   have b:i≠j:=λz=>h (by rw[z];simp);have c:j∉r:=λz=>h (Ah _ z);show(jS r Z (a.set i (Z[i]?.getD none)))[j]?=_;rw[iW r Z _ j c,Ac b]
theorem mW:∀ (ow:List Nat) (Z a:Sg) (j:Nat),j∈ow->Z.length=a.length->(jS ow Z a)[j]? = Z[j]?
 |[],_,_,_,h,_=>by simp at h
 | i::r,Z,a,j,h,hl=>by
   show(jS r Z (a.set i (Z[i]?.getD none)))[j]?=_;by_cases b:j∈r;exact mW r Z _ j b (by simp[hl])
   ·rw[iW r Z _ j b]
    grind
def eH.blank(ok:eH Γ H τ σV2)(h:σV3.length=σV2.length)(e:∀ j,j∉ow->σV3[j]? = σV2[j]?):eH Γ H (aX ow τ) σV3 where
 rel:=λj t b=>by
  obtain⟨c,d⟩:=bE ow τ j t b;rw[e j c];exact ok.rel j t d
 dis:=λj l t g q n b i m m' a f=>by
  obtain⟨c,d⟩:=bE ow τ j t b;obtain⟨k,o⟩:=bE ow τ l g i;rw[e j c]at a;rw[e l k]at f;exact ok.dis j l t g q n d o m m' a f
 own:=λj t q b m a=>by
  obtain⟨c,d⟩:=bE ow τ j t b;rw[e j c]at a;exact ok.own j t q d m a
 par:=λj t q b m a=>by
  obtain⟨c,d⟩:=bE ow τ j t b;rw[e j c]at a;exact ok.par j t q d m a
 keep:=ok.keep
 dom:=ok.dom
 len:=by rw[aX,fR,h];exact ok.len
def hJ.blank(hb:∀ (j:Nat) t,c[j]? = some (some t)->j∉ow)(st:hJ c σV H1 τ σV2 H2)(i:∀ j,j∉ow->σV3[j]? = σV2[j]?):hJ c σV H1 (aX ow τ) σV3 H2 where
 fr:=st.fr
 dom:=st.dom
 mu:=λa Z1=>by
  obtain⟨j,t,b,m,f⟩:=Z1;obtain⟨e,d⟩:=bE ow τ j t b;rw[i j e]at f;exact st.mu a ⟨j,t,d,m,f⟩
 nv:=λa Z1=>by
  obtain⟨j,t,b,m,f⟩:=Z1;obtain⟨e,d⟩:=bE ow τ j t b;rw[i j e]at f;exact st.nv a ⟨j,t,d,m,f⟩
 kp:=λj t b=>by
  obtain⟨g,h⟩:=st.kp j t b;exact⟨g,by rw[aX,eV ow τ j (hb j t b)];exact h⟩
 fix:=λj t b m=>by
  obtain⟨g,h,e,d,k⟩:=st.fix j t b m;exact⟨g,by rw[aX,eV ow τ j (hb j t b)];exact h,e,d,by simp_all⟩
 lt:=λj t b m=>by
  obtain⟨e,d⟩:=bE ow τ j t b;exact st.lt j t d m
def Xd(c:eH Γ H1 σ1 σV)(ok:eH Γ H τ σV2)(x:∀ j,j∉ow->σV2[j]? = σV[j]?)(N:σV2.length=σV.length)(st:hJ (aX ow σ1) σV2 H1 τ σV2 H) :
  eH Γ H (jS ow σ1 τ) σV/\hJ σ1 σV H1 (jS ow σ1 τ) σV H:=by
 have A:σ1.length=τ.length:=by rw[c.len,ok.len,N]
 have π:eH Γ H1 (aX ow σ1) σV2:=c.blank N x;have ext:AX H1 H:=st.ext π;have get:∀(j:Nat) t,(jS ow σ1 τ)[j]?=some (some t)->(j∈ow/\σ1[j]?=some (some t))\/(j∉ow/\τ[j]?=some (some t)):=λj t e=>by
  by_cases h:j∈ow;rw[mW ow σ1 τ j h A]at e;exact .inl ⟨h,e⟩;rw[iW ow σ1 τ j h]at e;exact .inr ⟨h,e⟩
 have B:∀(j:Nat) t,(aX ow σ1)[j]?=some (some t)->j∉ow/\σ1[j]?=some (some t):=λj t e=>bE ow σ1 j t e;have G:∀(j:Nat),j∉ow->(aX ow σ1)[j]?=σ1[j]?:=λj h=>eV ow σ1 j h;have s:∀a,iO (aX ow σ1) σV2 a->∃(j:Nat) (t:Sl),j∉ow/\σ1[j]?=some (some t)/\t.m.mt=true/\σV[j]?=some (some (.ref a)):=λa Z1=>by
  obtain⟨j,t,b,m,u⟩:=Z1;obtain⟨k,f⟩:=B j t b;rw[x j k]at u;exact⟨j,t,k,f,m,u⟩
 have I:∀a,zS (aX ow σ1) σV2 a->∃(j:Nat) (t:Sl),j∉ow/\σ1[j]?=some (some t)/\t.m≠.val/\σV[j]?=some (some (.ref a)):=λa Z1=>by
  obtain⟨j,t,b,m,u⟩:=Z1;obtain⟨k,f⟩:=B j t b;rw[x j k]at u;exact⟨j,t,k,f,m,u⟩
 have C:∀(j l:Nat) t g q,j∈ow->σ1[j]?=some (some t)->l∉ow->τ[l]?=some (some g)->t.m≠.val->g.m≠.val->(t.m.mt=true\/g.m.mt=true)->σV[j]?=some (some (.ref q))->σV[l]?=some (some (.ref q))->False:=by
  intro j l t g q hj b P K m m' L i d;rw[← x l P]at d;obtain⟨p,ep,Q⟩:=c.ownAt b m;rw[i]at ep;have ep:=Ap (Ap ep);cases ep;obtain⟨o,S,_⟩:=Q.obj;rcases L with L|L;rcases st.nv q ⟨l,g,K,m',d⟩with z|z;obtain⟨D,E,k,f,v,F⟩:=I q z;exact c.dis j D t E q (λy=>k (by rw[← y];exact hj)) b f L v i F;rw[S]at z;cases z;rcases st.mu q ⟨l,g,K,L,d⟩with z|z;obtain⟨D,E,k,f,v,F⟩:=s q z;exact c.dis D j E t q (λy=>k (by rw[y];exact hj)) f b v m F i;rw[S]at z;cases z
 constructor
 ·refine⟨λj t b=>?_,λj l t g q n b K m m' i d=>?_,λj t q b m i=>?_,λj t q b m i=>?_,ok.keep,ok.dom,by rw[mH,ok.len,N]⟩;rcases get j t b with⟨h,e⟩|⟨h,e⟩;obtain⟨w,M,r⟩:=c.rel j t e;refine⟨w,M,r.mono ext λp o ep m U=>st.fr p o U λz=>?_⟩;obtain⟨D,E,k,f,v,F⟩:=s p z;exact c.dis D j E t p (λy=>k (by rw[y];exact h)) f e v m F (by rw[M,ep]);obtain⟨w,M,r⟩:=ok.rel j t e;exact⟨w,by rw[← x j h];exact M,r⟩
  ·rcases get j t b with⟨h,e⟩|⟨h,e⟩;rcases get l g K with⟨h',J⟩|⟨h',J⟩;exact c.dis j l t g q n e J m m' i d;exact C j l t g q h e h' J (fZ m) m' (.inl m) i d;rcases get l g K with⟨h',J⟩|⟨h',J⟩;exact C l j g t q h' J h e m' (fZ m) (.inr m) d i;rw[← x j h]at i;rw[← x l h']at d;exact ok.dis j l t g q n e J m m' i d
  ·rcases get j t b with⟨h,e⟩|⟨h,e⟩;exact c.own j t q e m i;rw[← x j h]at i;exact ok.own j t q e m i
  ·rcases get j t b with⟨h,e⟩|⟨h,e⟩;exact c.par j t q e m i;rw[← x j h]at i;exact ok.par j t q e m i
 ·refine⟨λa o e n=>st.fr a o e λz=>?_,st.dom,λa ⟨j,t,b,m,u⟩=>?_,λa ⟨j,t,b,m,u⟩=>?_,λj t b=>?_,λj t b m=>?_,λj t b m=>?_⟩;obtain⟨D,E,k,f,v,F⟩:=s a z;exact n ⟨D,E,f,v,F⟩;rcases get j t b with⟨h,e⟩|⟨h,e⟩;exact .inl ⟨j,t,e,m,u⟩;rw[← x j h]at u;rcases st.mu a ⟨j,t,e,m,u⟩with z|z;obtain⟨D,E,k,f,v,F⟩:=s a z;exact .inl ⟨D,E,f,v,F⟩;exact .inr z;rcases get j t b with⟨h,e⟩|⟨h,e⟩;exact .inl ⟨j,t,e,m,u⟩;rw[← x j h]at u;rcases st.nv a ⟨j,t,e,m,u⟩with z|z;obtain⟨D,E,k,f,v,F⟩:=I a z;exact .inl ⟨D,E,f,v,F⟩;exact .inr z;by_cases h:j∈ow;exact⟨t,by rw[mW ow σ1 τ j h A];exact b⟩;obtain⟨g,R⟩:=st.kp j t (by rw[G j h];exact b);exact⟨g,by rw[iW ow σ1 τ j h];exact R⟩;by_cases h:j∈ow;exact⟨t,by rw[mW ow σ1 τ j h A];exact b,rfl,λ_=>rfl,rfl⟩;obtain⟨g,R,k,f,v⟩:=st.fix j t (by rw[G j h];exact b) m;exact⟨g,by rw[iW ow σ1 τ j h];exact R,k,f,rfl⟩;rcases get j t b with⟨h,e⟩|⟨h,e⟩;exact⟨t,e,m⟩;obtain⟨T,V,W⟩:=st.lt j t e m;exact⟨T,(B j T V).2,W⟩
def xB(ow:List Nat)(g:DG)(t:DT)(e:DE):List D->Sg->Option (List D×Sg)
 |[],a=>some ([],a)
 | d :: r,a=>(g d a).bind λb=>(t b).bind λx=>if x.1=true then(e x.2).bind λy=>match y.1 with
     |.val d'=>(xB ow g t e r (aX ow y.2)).bind λz=>some (d'::z.1,z.2)
     |_=>none else xB ow g t e r (aX ow x.2)
noncomputable def fS:DT:=λZ=>some (true,Z)
def bY(ow:List Nat)(ri:DI)(g:DG)(t:DT)(e:DE):DE:=λZ=>(ri Z).bind λx=>if x.1.length<=sizeLine then(xB ow g t e x.1 (aX ow (lendO x.2.1 x.2.2))).bind λy=>
 some (.own (.lst y.1),wC x.2.1 x.2.2 (jS ow (lendO x.2.1 x.2.2) y.2))else none
set_option tactic.hygienic true in
def uF(hg:Dg ow g gd)(h:Bd Γ (bY ow ri gd t e) σV H Q) :
  HY ow (Ew Γ ri) g (DC Γ t) (Bd Γ e) σV H Q:=by
 obtain⟨Z,ok,res,σ',er,k⟩:=h;obtain⟨⟨items,l,c⟩,e1,er⟩:=aA er;dsimp only at er;split at er
 case isFalse=>cases er
 case isTrue hlen=>
 obtain⟨⟨all,σ⟩,e2,er⟩:=aA er;cases er;refine⟨Z,ok,items,l,c,e1,λJ F P G I z stay=>?_⟩;have bl:(blank ow σV).length=σV.length:=fR ow σV;have bo:∀j,j∉ow->(blank ow σV)[j]?=σV[j]?:=λj hj=>eV ow σV j hj;have K:eH Γ F (lendO l c) σV:=G.lendO;have okB:eH Γ F (aX ow (lendO l c)) (blank ow σV):=K.blank bl bo;have hb:∀(j:Nat) t,(aX ow (lendO l c))[j]?=some (some t)->j∉ow:=λj t ej=>(bE ow _ j t ej).1
 have q:∀o d,eH Γ d o (blank ow σV)->hJ (aX ow (lendO l c)) (blank ow σV) F o (blank ow σV) d->eH Γ d (jS ow (lendO l c) o) σV/\hJ (lendO l c) σV F (jS ow (lendO l c) o) σV d:=
  λo d r s=>Xd K r bo bl s
 refine⟨λi m ys d=>m=items.length-i/\i<=items.length/\∃o don fH,xB ow gd t e (items.drop i) o=some (fH,σ)/\don++fH=all/\don.length<=i/\Rps d don ys/\eH Γ d o (blank ow σV)/\hJ (aX ow (lendO l c)) (blank ow σV) F o (blank ow σV) d,
  ⟨items.length,by simp,zero_le _,aX ow (lendO l c),[],all,by simpa using e2,rfl,sY _,.nil,okB,.refl⟩,?_⟩
 rintro i m ys d ⟨rfl,hi,o,don,fH,f,n,L,W,r,s⟩;have hyl:=W.length;obtain⟨okw,M⟩:=q o d r s;have hP:=stay _ σV d M;refine⟨by lia,?_⟩;by_cases u:i<items.length
 ·have ei:items[i]?=some items[i]:=nL u;refine .inr ⟨z.go d i _ hP ei,λy X hy=>?_⟩;obtain⟨A,ry⟩:=z.yld d i _ y X hP ei hy;rw[drop_eq_getElem_cons u]at f;obtain⟨N,eg,f⟩:=aA f;obtain⟨⟨b,B⟩,et,f⟩:=aA f;refine hg Γ X _ _ _ o (blank ow σV) _ y N _ (r.same A) (s.trans (.same A)) ry eg λσV3 π R l3 Y=>?_;have w:AX d X:=.same A;refine⟨N,π,b,B,et,λH4 C D=>?_⟩;have x:AX X H4:=D.ext π;dsimp only at f;split at f;rename_i hbt;dsimp only;rw[fI hbt];obtain⟨⟨r5,S⟩,ee,f⟩:=aA f;refine⟨B,C,r5,S,ee,λv H5 ok5 r5' T f5=>?_⟩;dsimp only at f;split at f;rename_i d';obtain⟨⟨E,τe'⟩,ec',f⟩:=aA f;cases f;refine⟨_,by grind,rfl,u,aX ow S,don++[d'],E,ec',by rw[← n];simp,by simp;exact L,?_,ok5.blank (by rw[l3]) (λj hj=>((Y j hj).1).symm),hJ.blank hb ((R.trans D).trans T) λj hj=>((Y j hj).1).symm⟩;exact((W.mono w).mono x |>.mono (T.ext C)).append (.cons r5' .nil);cases f;rename_i hbf;dsimp only;rw[gX hbf];refine⟨_,by grind,rfl,u,aX ow B,don,fH,f,n,le_succ_of_le L,(W.mono w).mono x,C.blank (by rw[l3]) (λj hj=>((Y j hj).1).symm),hJ.blank hb (R.trans D) λj hj=>((Y j hj).1).symm⟩
 ·have e0:i=items.length:=by lia
  subst e0;rw[drop_length]at f;cases f;rw[Dw]at n;subst n;refine .inl ⟨z.stop d hP,λp hp=>?_⟩;obtain⟨U,V⟩:=qW G okw M;have A:mQ d (gY d p (.lst ys)):=aM hp;have nw:wY d (gY d p (.lst ys)) (.own (.lst don)) (.ref p):=⟨p,rfl,hp,ys,aJ,W.mono (.same A)⟩;exact k _ _ (U.same A) (nw.res U) ((I.trans V).trans (.same A)) (nw.frh.back (I.trans V))
def xC(a:Dg ow g gd)(h:∀Γ,PE X ex (HY ow (Ew Γ ri) g (DC Γ t) (Bd Γ e))):GE X ex (bY ow ri gd t e):=.mk λΓ=>Bi (h Γ) λ_ _ _=>uF a
def Xe:DZ X [] (DC Γ fS):=λpins s Z H Q I ⟨a,ok,b,σ',e,k⟩=>Ve pins s Z H Q I (by cases e;exact k H ok .refl)
def Xf(h:GT X c t):DZ X [c] (DC Γ t):=Vf (h.to Γ)
def pK(a:Dg ow g gd)(h:∀Γ,PS X st (λD Z H=>HY ow (Ew Γ ri) g (DC Γ t) (Bd Γ e) Z H λv b=>D.nx (Z.set i (some v)) b)):GS E X st (bD i (bY ow ri gd t e)):=.mk λΓ=>DB (h Γ) λD σV H h=>uF a (zY h)
abbrev Aa4:=List Sl->Option (hQ×List Sl)
structure BR(H:Hp)(as:List Sl)(vs:List V):Prop where
 len:as.length=vs.length
 rel:∀(i:Nat) s,as[i]?=some s->∃v,vs[i]?=some v/\Et H s v
 dis:∀(i j:Nat) s t p,i≠j->as[i]?=some s->as[j]?=some t->s.m.mt=true->t.m≠.val->vs[i]?=some (.ref p)->vs[j]?=some (.ref p)->False
 own:∀(i:Nat) s,as[i]?=some s->s.m≠.own
def GV(as:List Sl)(vs:List V)(a:Addr):Prop:=∃(i:Nat) (s:Sl),as[i]?=some s/\s.m.mt=true/\vs[i]?=some (.ref a)
structure By(as:List Sl)(vs:List V)(H:Hp)(as':List Sl)(H':Hp):Prop where
 rel:∀(i:Nat) s,as[i]?=some s->s.m.mt=true->∃s' v,as'[i]?=some s'/\s'.m=s.m/\vs[i]?=some v/\Et H' s' v
 fr:∀a o,H a=some o->¬GV as vs a->H' a=some o
 dom:∀a,H' a=none->H a=none
def Am(n:Nat)(run:Aa4):Sp:=λvs H Q _=>∃as res as',BR H as vs/\as.length=n/\run as=some (res,as')/\∀v H',By as vs H as' H'->wY H H' res v->Q v H'
noncomputable def Jl(Z:Sg):hQ->Option hQ
 |.val d=>some (.val d)
 |.own d=>some (.own d)
 | .slot i=>match Z[i]? with
   |some (some s)=>if s.m=.own then some (.own s.d)else if s.m=.val then some (.val s.d)else none
   |_=>none
noncomputable def qX:List Sl->Sg->List Sl
 |[],_=>[]
 |a::as,some s::Z=>(if a.m=.val then a else s)::qX as Z
 |a::as,_::Z=>a::qX as Z
 |a::as,[]=>a::as
noncomputable def Ey(len:Nat)(as:List Sl):Sg:=as.map some++replicate (len-as.length) none
def jM(len:Nat)(a:DS):Aa4:=λas=>(a (Ey len as)).bind λo=>match o with
 |.nx Z=>some (.val .non,qX as Z)
 |.rt r Z=>(Jl Z r).bind λb=>some (b,qX as Z)
 |_=>none
def jY{i:Nat}:(Ey len as)[i]?=some (some s)↔as[i]?=some s:=by
 unfold Ey;by_cases h:i<as.length;rw[BM (by simp_all),Ar];simp;rw[DN (by simp_all),List.getElem?_replicate,EI.mpr (Em h)];simp
def gP{i:Nat}:(PySem.iN N vs)[i]?=some (some v)↔vs[i]?=some v:=by
 unfold PySem.iN;by_cases h:i<vs.length;rw[BM (by simp_all),Ar];simp;rw[DN (by simp_all),List.getElem?_replicate,EI.mpr (Em h)];simp
theorem MZ:∀ {as:List Sl} {Z:Sg} {i:Nat} {a s:Sl},as[i]? = some a->Z[i]? = some (some s)->(qX as Z)[i]? = some (if a.m=.val then a else s)
 |[],_,_,_,_,h,_|_::_,[],_,_,_,_,h=>by simp at h
 | a::as,o::Z,0,b,s,h,h'=>by
   simp at h h';subst h h';rfl
 | a::as,o::Z,i+1,b,s,h,h'=>by
   have:=MZ (as:=as) (Z:=Z) (i:=i) (a:=b) (s:=s) (by simpa using h) (by simpa using h');cases o<;>(unfold qX;simp_all)
abbrev MS:=Sg->(Cc->Prop)->Prop
abbrev MC:=List Sl->(hQ->List Sl->Prop)->Prop
def GX(m:MS):Prop:=∀Z (Q a:Cc->Prop),(∀o,Q o->a o)->m Z Q->m Z a
def Ky(Γ:Gm)(E:Ex)(m:MS):TS:=λD σV H=>∃Z,eH Γ H Z σV/\m Z λo=>Ie Γ E Z σV H o D
structure GM(E:Ex)(X:Cx)(ss:List Stmt)(m:MS):Prop where
 to:∀Γ,Bv X ss (Ky Γ E m)
 mon:GX m
def Xg(n:Nat)(C:MC):Sp:=λvs H Q _=>∃as,BR H as vs/\as.length=n/\C as λres as'=>∀v H',By as vs H as' H'->wY H H' res v->Q v H'
def Xh(as:List Sl)(K:hQ->List Sl->Prop)(o:Cc):Prop:=match o with
 |.nx Z=>K (.val .non) (qX as Z)
 |.rt r Z=>∃a,Jl Z r=some a/\K a (qX as Z)
 |_=>False
def Xi(len:Nat)(m:MS):MC:=λas K=>m (Ey len as) (Xh as K)
def Xj(F:EW K x qual st f fd)(S:Ay N ps (cF st))(R:ps.length<=N.length)(m:MS)(hm:GX m)
  (hb:∀(cdv:Value) (A:Around) (outer:List Env) (s:Shared) (H:Hp) (E:XK),Af k (A.deeper (PyProof.Rows.envOfC qual (cF st) s.heap.objs.size f cdv))->∀Γ,Bv (EV DX P w K mg base N qual (cF st) f cdv A outer s H E).nox (jW st) (Ky Γ Ex.no m)) :
  AR P w K mg base DX (k+1) f fd ps (Xg ps.length (Xi N.length m)):=by
 refine F.ok S (λvs H Q E Z1=>by obtain⟨as,ok,J,_⟩:=Z1;rw[← ok.len];exact J) λcdv A outer s H vs Q E T h=>?_;obtain⟨as,ok,J,h⟩:=h;refine⟨_,hb cdv A outer s H E T ⟨H,GV as vs⟩,Ey N.length as,?_,hm _ _ _ (λo k=>?_) h⟩;refine⟨λi s e=>?_,λi j s t p n l G m m' e U=>?_,λi s p l m=>?_,λi s p l m e=>?_,λa o e _=>e,λa e=>e,?_⟩;obtain⟨v,y,r⟩:=ok.rel i s (jY.mp e);exact⟨v,gP.mpr y,r⟩;exact ok.dis i j s t p n (jY.mp l) (jY.mp G) m m' (gP.mp e) (gP.mp U);exact absurd m (ok.own i s (jY.mp l));exact⟨i,s,jY.mp l,by rw[m];rfl,gP.mp e⟩;unfold Ey PySem.iN;have:=ok.len;simp;simp_all;have u:∀ Z σV' H',eH ⟨H,GV as vs⟩ H' Z σV'->hJ (Ey N.length as) (PySem.iN N vs) H Z σV' H'->By as vs H (qX as Z) H':=λZ σV' H' b st'=>by
  have V:∀a,iO (Ey N.length as) (PySem.iN N vs) a->GV as vs a:=λa ⟨j,t,G,m,W⟩=>⟨j,t,jY.mp G,m,gP.mp W⟩;refine⟨λi a l m=>?_,λa o e n=>st'.fr a o e λz=>n (V a z),st'.dom⟩;have L:a.m=.par:=by
   have h0:=ok.own i a l;cases q:a.m with
   |par=>rfl
   |own=>exact absurd q h0
   |val|lent=>rw[q]at m;cases m
  obtain⟨s',es,X,_,C⟩:=st'.fix i a (jY.mpr l) (.inl L);obtain⟨v,y,r⟩:=b.rel i s' es;obtain⟨Y,M,_⟩:=ok.rel i a l;have:some (some v)=some (some Y):=by rw[← y,C];exact gP.mpr M
  cases this;refine⟨s',v,?_,X,M,r⟩;rw[MZ l es,gX (by rw[L];exact λz=>nomatch z)]
 cases o with
 | nx Z=>
   exact λσV' H' b st'=>k .non H' (u Z σV' H' b st') .non
 | rt r Z=>
   obtain⟨res,y,k⟩:=k;intro v σV' H' b I st';refine k v H' (u Z σV' H' b st') ?_;cases r with
   |val d=>cases y;exact I
   | own d=>
     cases y;obtain⟨p,D,B,q3,σ⟩:=I;exact⟨p,D,σ,B⟩
   | slot i=>
     obtain⟨D,s',B⟩:=I;have g:(match Z[i]? with|some (some s)=>if s.m=.own then some (hQ.own s.d)else if s.m=.val then some (.val s.d)else none|_=>none)=some res:=y;rw[B]at g;dsimp only at g;obtain⟨v',C,π⟩:=b.rel i s' B;rw[D]at C;cases C;split at g
     ·rename_i hm;cases g;obtain⟨p,rfl,ow⟩:=(dA (by rw[hm];exact λz=>nomatch z)).mp π;exact⟨p,rfl,b.own i s' p B hm D,ow⟩
     ·split at g;rename_i hm;cases g;obtain⟨m,d⟩:=s';cases hm;exact π;cases g
 |bk Z|ct Z|ex c f Z=>exact k.elim
def aQ(F:EW K x qual st f fd)(S:Ay N ps (cF st))(d:ps.length<=N.length)(b:DS)
  (hb:∀(cdv:Value) (A:Around) (outer:List Env) (s:Shared) (H:Hp) (E:XK),Af k (A.deeper (PyProof.Rows.envOfC qual (cF st) s.heap.objs.size f cdv))->CI Ex.no (EV DX P w K mg base N qual (cF st) f cdv A outer s H E).nox (jW st) b) :
  AR P w K mg base DX (k+1) f fd ps (Am ps.length (jM N.length b)):=
 (Xj F S d (λZ Q=>∃ o,b Z=some o/\Q o) (λZ Q l w ⟨o,e,q⟩=>⟨o,e,w o q⟩) λcdv A outer s H E g Γ=>Ia ((hb cdv A outer s H E g).to Γ) λD σV H ⟨Z,ok,o,e,q⟩=>⟨Z,ok,o,e,q⟩).imp
  λvs H Q E Z1=>by
   obtain⟨as,res,as',ok,h,a,k⟩:=Z1;obtain⟨o,i,a⟩:=aA a;refine⟨as,ok,h,o,i,?_⟩;cases o with
   |nx Z=>cases a;exact k
   | rt r Z=>
     obtain⟨m,j,a⟩:=aA a;cases a;exact⟨_,j,k⟩
   |bk Z|ct Z|ex c f Z=>cases a
def xD(Z:Sg):hQ->Option Sl
 |.val d=>some ⟨.val,d⟩
 |.own d=>some ⟨.par,d⟩
 | .slot i=>match Z[i]? with
   |some (some s)=>some ⟨if s.m.mt=true then .par else s.m,s.d⟩
   |_=>none
def pL(Z:Sg):List hQ->Option (List Sl)
 |[]=>some []
 |r::rs=>(xD Z r).bind λa=>(pL Z rs).bind λas=>some (a::as)
noncomputable def Ez(i:Nat):List hQ->Bool
 |[]=>false
 |.slot j::rs=>decide (i=j)||Ez i rs
 |_::rs=>Ez i rs
def eG:List hQ->Bool
 |[]=>true
 |.slot i::rs=>!Ez i rs&&eG rs
 |_::rs=>eG rs
noncomputable def iX(j:Nat):List hQ->List Sl->Option Sl
 |.slot i::rs,a::as=>if i=j then some a else iX j rs as
 |_::rs,_::as=>iX j rs as
 |_,_=>none
def iY(rs:List hQ)(as:List Sl):Nat->Sg->Sg
 |_,[]=>[]
 | k,some s::Z=>(match iX k rs as with
   |some a=>some (if s.m.mt=true then⟨s.m,a.d⟩else s)
   |none=>some s)::iY rs as (k+1) Z
 |k,none::Z=>none::iY rs as (k+1) Z
def aF(n:Nat)(run:Aa4)(a:DA):DE:=λZ=>(a Z).bind λx=>(pL x.2 x.1).bind λas=>if as.length=n/\eG x.1=true then(run as).bind λy=>some (y.1,iY x.1 y.2 0 x.2)else none
theorem pM:∀ {rs:List hQ} {as:List Sl},pL Z rs=some as->as.length=rs.length/\∀ (k:Nat) r,rs[k]? = some r->∃ a,as[k]? = some a/\xD Z r=some a
 |[],as,h=>by cases h;exact⟨rfl,λk r e=>by simp at e⟩
 | r::rs,as,h=>by
   obtain⟨a,b,h⟩:=aA h;obtain⟨as',c,h⟩:=aA h;cases h;obtain⟨l,g⟩:=pM c;refine⟨by simp[l],λk d e=>?_⟩;cases k with
   |zero=>simp at e;subst e;exact⟨a,rfl,b⟩
   | succ k=>
     simp_all
def Ab.get(h:Ab Γ H Z σV rs vs):rs.length=vs.length/\∀(k:Nat) r,rs[k]?=some r->∃v,vs[k]?=some v/\jR Γ H Z σV r v:=by
 induction h with
 |nil=>exact⟨rfl,λk r e=>by cases e⟩
 | cons h _ _ i=>
   refine⟨Cq (· + 1) i.1,λk r e=>?_⟩;cases k with
   |zero=>obtain rfl:=Ap e;exact⟨_,rfl,h⟩
   |succ k=>exact i.2 k r e
def Ab.dis(h:Ab Γ H Z σV rs vs):∀ (k l:Nat) d d' p,k < l->rs[k]? = some (.own d)->rs[l]? = some (.own d')->vs[k]? = some (.ref p)->vs[l]? ≠ some (.ref p):=by
 induction h with
 |nil=>intro k l d d' p _ e;cases e
 | cons h t q i=>
   intro k l d d' p a e b c;cases l with
   |zero=>lia
   | succ l=>
     cases k with
     | zero=>
       simp_all
     | succ k=>
       exact i k l d d' p (DV a) e b c
theorem mX:∀ {rs:List hQ} {k:Nat},rs[k]? = some (.slot i)->Ez i rs=true
 |[],_,h=>by simp at h
 |r::rs,0,h=>by simp at h;subst h;simp[Ez]
 | r::rs,k+1,h=>by
   have:=mX (rs:=rs) (k:=k) (by simpa using h);cases r<;>simp[Ez,this]
theorem lO:∀ {rs:List hQ},eG rs=true->∀ (k l i:Nat),rs[k]? = some (.slot i)->rs[l]? = some (.slot i)->k=l
 |[],_,k,l,i,h,_=>by simp at h
 | r::rs,hn,k,l,i,h,h'=>by
   cases k with
   | zero=>
     cases l with
     |zero=>rfl
     | succ l=>
       simp at h;subst h;unfold eG at hn;rw[mX (k:=l) (by simpa using h')]at hn;simp at hn
   | succ k=>
     cases l with
     | zero=>
       simp at h';subst h';unfold eG at hn;rw[mX (k:=k) (by simpa using h)]at hn;simp at hn
     | succ l=>
       have a:eG rs=true:=by
        cases r with
        |slot j=>unfold eG at hn;lia
        |val d|own d=>exact hn
       exact Cq Nat.succ (lO a k l i (by simpa using h) (by simpa using h'))
theorem fO:∀ {rs:List hQ} {as:List Sl} {a:Sl},iX j rs as=some a->∃ k:Nat,rs[k]? = some (.slot j)/\as[k]? = some a
 |[],_,_,h=>by simp[iX]at h
 |r::rs,[],_,h=>by cases r<;>simp[iX]at h
 | r::rs,a::as,b,h=>by
   cases r with
   | slot i=>
     have h':(if i=j then some a else iX j rs as)=some b:=h;split at h';rename_i e;cases h';subst e;exact⟨0,rfl,rfl⟩
     ·obtain⟨k,c,f⟩:=fO h';exact⟨k+1,by simp_all,by simp_all⟩
   |val d|own d=>obtain⟨k,c,f⟩:=fO (rs:=rs) (as:=as) h;exact⟨k+1,by simp_all,by simp_all⟩
def kU(rs:List hQ)(as:List Sl)(k:Nat)(o:Option Sl):Option Sl:=match o with
 | some s=>(match iX k rs as with
   |some a=>some (if s.m.mt=true then⟨s.m,a.d⟩else s)
   |none=>some s)
 |none=>none
theorem iZ:∀ (k:Nat) (Z:Sg) (j:Nat),(iY rs as k Z)[j]? = (Z[j]?).map (kU rs as (k+j))
 |_,[],_=>rfl
 |k,o::Z,0=>by cases o<;>simp[iY,kU]
 | k,o::Z,j+1=>by
   have:=iZ (rs:=rs) (as:=as) (k+1) Z j;have e:k+1+j=k+(j+1):=by lia
   rw[e]at this;cases o<;>simpa[iY]using this
theorem mI:∀(k:Nat) (Z:Sg),(iY rs as k Z).length=Z.length
 |_,[]=>rfl
 |k,o::Z=>by cases o<;>simp[iY,mI (k+1) Z]
set_option tactic.hygienic true in
def Xk(e2:pL c rs=some as)(hc:eG rs=true)(w:eH Γ Y c σV)(r1:Ab Γ Y c σV rs vs)(C:hJ Z σV H c σV Y)
  (f1:∀(j:Nat) d p,rs[j]?=some (.own d)->vs[j]?=some (.ref p)->H p=none) :
  BR Y as vs/\∀r as' v σ,By as vs Y as' σ->wY Y σ r v->eH Γ σ (iY rs as' 0 c) σV/\jR Γ σ (iY rs as' 0 c) σV r v/\hJ Z σV H (iY rs as' 0 c) σV σ/\FL H r v:=by
 obtain⟨la,ga⟩:=pM e2;obtain⟨lv,gv⟩:=r1.get;have π:∀(i:Nat) a,as[i]?=some a->∃r v,rs[i]?=some r/\xD c r=some a/\vs[i]?=some v/\jR Γ Y c σV r v:=λi a x=>by
  have hi:i<rs.length:=by rw[← la];exact(sS.mp x).1
  have er:rs[i]?=some rs[i]:=nL hi;obtain⟨a',P,h2⟩:=ga i _ er;rw[x]at P;cases P;obtain⟨v,h3,h4⟩:=gv i _ er;exact⟨_,v,er,h2,h3,h4⟩
 have f:∀i a,xD c (.slot i)=some a->∃s,c[i]?=some (some s)/\a=⟨if s.m.mt=true then .par else s.m,s.d⟩:=λi a x=>by
  have W:(match c[i]? with|some (some s)=>some (⟨if s.m.mt=true then .par else s.m,s.d⟩:Sl)|_=>none)=some a:=x;split at W
  ·rename_i s hs;cases W;exact⟨s,hs,rfl⟩
  ·cases W
 have K:∀ a,GV as vs a->iO c σV a\/(H a=none/\¬ zS c σV a/\Γ.H₀ a=none):=λa Z1=>by
  obtain⟨i,s,Q,m,F⟩:=Z1;obtain⟨r,v,er,x,D,L⟩:=π i s Q;rw[F]at D;cases D;cases r with
  |val d=>cases x;cases m
  | own d=>
    obtain⟨p,B,R,X,q4⟩:=L;cases B;exact .inr ⟨f1 i d a er F,X,q4⟩
  | slot j=>
    obtain⟨s',hs,rfl⟩:=f j s x;obtain⟨B,_⟩:=L;refine .inl ⟨j,s',hs,?_,B⟩;by_cases hm:s'.m.mt=true;exact hm;simp only[hm]at m;exact absurd m hm
 have I:BR Y as vs:=by
  refine⟨by rw[la,lv],λi a Q=>?_,λi j s t p nij Q g m m' F D=>?_,λi a Q=>?_⟩
  ·obtain⟨r,v,er,x,F,L⟩:=π i a Q;refine⟨v,F,?_⟩;cases r with
   |val d=>cases x;exact L
   |own d=>cases x;obtain⟨p,B,R,_⟩:=L;exact⟨p,B,R⟩
   | slot j=>
     obtain⟨s',hs,rfl⟩:=f j a x;obtain⟨B,_⟩:=L;obtain⟨v',e4,r4⟩:=w.rel j s' hs;rw[B]at e4;cases e4;by_cases hm:s'.m.mt=true;simp only[hm,if_true];exact(dA (s:=⟨.par,s'.d⟩) (λz=>nomatch z)).mpr ((dA (fZ hm)).mp r4);simp only[hm];exact r4
  ·obtain⟨r,v,er,x,S,L⟩:=π i s Q;obtain⟨r2,v2,er2,ea2,ev2,rv2⟩:=π j t g;rw[F]at S;cases S;rw[D]at ev2;cases ev2;have E:∀ l a,xD c (.slot l)=some a->a.m≠.val->∃ s,c[l]? = some (some s)/\s.m≠.val/\(a.m.mt=true->s.m.mt=true):=λl a x hm=>by
    obtain⟨s',hs,rfl⟩:=f l a x;refine⟨s',hs,?_,?_⟩;intro z;simp only[z,Md.mt]at hm;exact hm rfl;intro z;by_cases T:s'.m.mt=true;exact T;simp only[T]at z;exact z
   cases r with
   |val d=>cases x;cases m
   | own d=>
     obtain⟨q,B,R,X,q4⟩:=L;cases B;cases r2 with
     |val d=>cases ea2;exact m' rfl
     | own d2=>
       rcases Nat.lt_or_gt_of_ne nij with z|z;exact r1.dis i j d d2 p z er er2 F D
       ·exact r1.dis j i d2 d p z er2 er D F
     | slot l=>
       obtain⟨s',hs,T,_⟩:=E l t ea2 m';exact X ⟨l,s',hs,T,rv2.1⟩
   | slot l=>
     obtain⟨s',hs,T,hmt⟩:=E l s x (fZ m);cases r2 with
     |val d=>cases ea2;exact m' rfl
     | own d2=>
       obtain⟨q,B,R,X,q4⟩:=rv2;cases B;exact X ⟨l,s',hs,T,L.1⟩
     | slot l2=>
       obtain⟨s2,hs2,hm2,_⟩:=E l2 t ea2 m';refine w.dis l l2 s' s2 p (λz=>?_) hs hs2 (hmt m) hm2 L.1 rv2.1;subst z;exact nij (lO hc i j l er er2)
  ·obtain⟨r,v,er,x,S,L⟩:=π i a Q;cases r with
   |val d|own d=>cases x;exact λz=>nomatch z
   | slot j=>
     obtain⟨s',hs,rfl⟩:=f j a x;intro z;by_cases hm:s'.m.mt=true;simp only[hm,if_true]at z;cases z;simp only[hm]at z;have z':s'.m=.own:=z;rw[z']at hm;exact hm rfl
 refine⟨I,λr as' v σ po nw=>?_⟩;have extA:AX Y σ:=by
  refine⟨λp xs h=>po.fr p _ h λz=>?_,λp o u h=>po.fr p _ h λz=>?_⟩;obtain⟨i,s,Q,m,F⟩:=z;obtain⟨v,e4,r4⟩:=I.rel i s Q;rw[F]at e4;cases e4;obtain⟨q,eq,ow⟩:=(dA (fZ m)).mp r4;cases eq;obtain⟨o,ho,n1,_⟩:=ow.obj;rw[h]at ho;cases ho;exact n1 _ rfl;obtain⟨i,s,Q,m,F⟩:=z;obtain⟨v,e4,r4⟩:=I.rel i s Q;rw[F]at e4;cases e4;obtain⟨q,eq,ow⟩:=(dA (fZ m)).mp r4;cases eq;obtain⟨o',ho,_,n1⟩:=ow.obj;rw[h]at ho;cases ho;exact n1 _ _ rfl
 have back:∀ (j:Nat) t,(iY rs as' 0 c)[j]? = some (some t)->∃ s,c[j]? = some (some s)/\t.m=s.m/\(t=s\/(s.m.mt=true/\∃ (k:Nat) (a:Sl),rs[k]? = some (.slot j)/\as'[k]? = some a/\t=⟨s.m,a.d⟩)):=λj t g=>by
  rw[iZ,Bq]at g;cases q:c[j]? with
  |none=>rw[q]at g;cases g
  | some o=>
    rw[q]at g;cases o with
    |none=>cases g
    | some s=>
      have A:kU rs as' j (some s)=some t:=Ap g;unfold kU at A;refine⟨s,rfl,?_⟩;dsimp only at A;split at A;rename_i a ha;obtain⟨U,P,h2⟩:=fO ha;have M:=Ap A;by_cases hm:s.m.mt=true;rw[fI hm]at M;subst M;exact⟨rfl,.inr ⟨hm,U,a,P,h2,rfl⟩⟩;rw[gX hm]at M;subst M;exact⟨rfl,.inl rfl⟩;cases A;exact⟨rfl,.inl rfl⟩
 have fwd:∀(j:Nat) s,c[j]?=some (some s)->∃t,(iY rs as' 0 c)[j]?=some (some t)/\t.m=s.m/\(s.m.mt=false->t=s):=λj s g=>by
  rw[iZ,Bq,g];show ∃t,some (kU rs as' j (some s))=some (some t)/\_;unfold kU;dsimp only;split;refine⟨_,rfl,?_,λz=>?_⟩;split<;>rfl;rw[gX (by rw[z];exact Fx)];exact⟨s,rfl,rfl,λ_=>rfl⟩
 have quiet:∀ (j:Nat) s t p,c[j]? = some (some s)->(iY rs as' 0 c)[j]? = some (some t)->t=s->s.m≠.val->σV[j]? = some (some (.ref p))->(∀ k:Nat,s.m.mt=true->rs[k]? ≠ some (.slot j))->¬ GV as vs p:=by
  intro j s t p hs _ _ hm F hno ⟨i,a,Q,m,evi⟩;obtain⟨r,v,er,x,S,L⟩:=π i a Q;rw[evi]at S;cases S;cases r with
  |val d=>cases x;cases m
  | own d=>
    obtain⟨q,B,R,X,q4⟩:=L;cases B;exact X ⟨j,s,hs,hm,F⟩
  | slot l=>
    obtain⟨s',G,rfl⟩:=f l a x;have hmt:s'.m.mt=true:=by
     by_cases h':s'.m.mt=true;exact h';simp only[h']at m;exact absurd m h'
    by_cases z:l=j;subst z;rw[hs]at G;cases G;exact hno i hmt er;exact w.dis l j s' s p z G hs hmt hm L.1 F
 have okB:eH Γ σ (iY rs as' 0 c) σV:=by
  refine⟨λj t g=>?_,λj l t t' q n g el m m' eq eq'=>?_,λj t q g m eq=>?_,λj t q g m eq=>?_,λa o e n=>?_,λa e=>w.dom a (po.dom a e),by rw[mI];exact w.len⟩
  ·obtain⟨s,hs,N,hc'⟩:=back j t g;obtain⟨w',ew,rw'⟩:=w.rel j s hs;refine⟨w',ew,?_⟩;by_cases J:s.m.mt=true/\∃ U:Nat,rs[U]? = some (.slot j)
   ·obtain⟨hm,U,hk'⟩:=J;obtain⟨a,ha,hao⟩:=ga U _ hk';obtain⟨v',hv',rv'⟩:=gv U _ hk';have D:σV[j]? = some (some v'):=rv'.1;rw[ew]at D;cases D;obtain⟨s',G,W⟩:=f j a hao;rw[hs]at G;cases G;have am:a.m=.par:=by rw[W,fI hm]
    obtain⟨a2,w2,P,h2,h3,h4⟩:=po.rel U a ha (by rw[am];rfl);rw[hv']at h3;cases h3;have ht:t=⟨s.m,a2.d⟩:=by
     rw[iZ,Bq,hs]at g;have A:kU rs as' j (some s)=some t:=Ap g;unfold kU at A;dsimp only at A;split at A;rename_i b hb;obtain⟨k2,B,R⟩:=fO hb;obtain rfl:=lO hc k2 U j B hk';rw[P]at R;cases R;have:=Ap A;rw[fI hm]at this;exact this.symm;rename_i hb
     exfalso;have:∀ {rs:List hQ} {as:List Sl} {kk:Nat} {a:Sl},rs[kk]? = some (.slot j)->as[kk]? = some a->iX j rs as≠none:=by
      intro rs
      induction rs with
      |nil=>intro as kk a h;simp at h
      | cons r rs ih=>
        intro as kk a h h';cases as with
        |nil=>simp at h'
        | cons b as=>
          cases kk with
          |zero=>simp at h;subst h;simp[iX]
          | succ kk=>
            have:=ih (as:=as) (kk:=kk) (a:=a) (by simpa using h) (by simpa using h');cases r with
            |slot i=>simp only[iX];split;exact λz=>nomatch z;exact this
            |val d|own d=>exact this
     exact this hk' P hb
    subst ht;have h5:=(dA (s:=a2) (by rw[h2,am];exact λz=>nomatch z)).mp h4;exact(dA (s:=⟨s.m,a2.d⟩) (fZ hm)).mpr h5
   ·have ht:t=s:=by
     rcases hc' with h|⟨hm,U,a,P,_⟩;exact h;exact absurd ⟨hm,U,P⟩ J
    rw[ht];refine rw'.mono extA λp o ep m hp=>po.fr p o hp ?_;exact quiet j s t p hs g ht m (by rw[ew,ep]) λU hm hk=>J ⟨hm,U,hk⟩
  ·obtain⟨s,hs,N,_⟩:=back j t g;obtain⟨s',G,mm',_⟩:=back l t' el;exact w.dis j l s s' q n hs G (by rw[← N];exact m) (by rw[← mm'];exact m') eq eq'
  ·obtain⟨s,hs,N,_⟩:=back j t g;exact w.own j s q hs (N.symm.trans m) eq
  ·obtain⟨s,hs,N,_⟩:=back j t g;exact w.par j s q hs (N.symm.trans m) eq
  ·refine po.fr a o (w.keep a o e n) λz=>?_;rcases K a z with⟨j,s,hs,m,F⟩ | ⟨_,_,z0⟩
   ·cases hq:s.m with
    |own=>rw[w.own j s a hs hq F]at e;cases e
    |par=>exact n (w.par j s a hs hq F)
    |val|lent=>rw[hq]at m;cases m
   ·rw[z0]at e;cases e
 have stB:hJ Z σV H (iY rs as' 0 c) σV σ:=by
  refine⟨λa o e n=>?_,λa e=>C.dom a (po.dom a e),λa ⟨j,t,g,m,x⟩=>?_,λa ⟨j,t,g,m,x⟩=>?_,λj t g=>?_,λj t g m=>?_,λj t g m=>?_⟩
  ·refine po.fr a o (C.fr a o e n) λz=>?_;rcases K a z with y|⟨y,_⟩;rcases C.mu a y with y|y;exact n y;rw[e]at y;cases y;rw[e]at y;cases y
  ·obtain⟨s,hs,N,_⟩:=back j t g;exact C.mu a ⟨j,s,hs,by rw[← N];exact m,x⟩
  ·obtain⟨s,hs,N,_⟩:=back j t g;exact C.nv a ⟨j,s,hs,by rw[← N];exact m,x⟩
  ·obtain⟨s,hs⟩:=C.kp j t g;obtain⟨t',P,_⟩:=fwd j s hs;exact⟨t',P⟩
  ·obtain⟨s,hs,B,R,X⟩:=C.fix j t g m;obtain⟨t',P,h2,h3⟩:=fwd j s hs;refine⟨t',P,h2.trans B,λz=>?_,X⟩;rw[h3 (by rw[B,z];rfl)];exact R z
  ·obtain⟨s,hs,N,_⟩:=back j t g;exact C.lt j s hs (N.symm.trans m)
 refine⟨okB,?_,stB,nw.frh.back C⟩;cases r with
 |val d=>exact nw
 | own d=>
   obtain⟨p,B,R,X⟩:=nw;refine⟨p,B,X,λZ0=>?_,w.dom p R⟩;obtain⟨j,t,g,m,x⟩:=Z0;obtain⟨s,hs,N,_⟩:=back j t g;obtain⟨o,ho,_⟩:=w.mutObj ⟨j,s,hs,by rw[← N];exact m,x⟩;rw[R]at ho;cases ho
 |slot i=>exact nw.elim
def Xl{run:Aa4}(h:Bd Γ (aF n run f) σV H Q):Km (Am n run) [] E (BQ Γ f) σV H Q:=by
 obtain⟨Z,ok,res,σ',e,k⟩:=h;obtain⟨⟨rs,a⟩,i,e⟩:=aA e;obtain⟨as,j,e⟩:=aA e;split at e
 case isFalse=>cases e
 case isTrue hc=>
 obtain⟨⟨r,as'⟩,l,e⟩:=aA e;cases e;refine⟨Z,ok,rs,a,i,λvs m b o d p=>?_⟩;show Am n run (vs++[]) m Q E;rw[Dw];obtain⟨q,c⟩:=Xk j hc.2 b o d p;refine⟨as,r,as',q,hc.1,l,λv g po s=>?_⟩;obtain⟨t,u,w,x⟩:=c r as' v g po s;exact k v g t u w x
def Xm{run:Aa4}(h:∀Γ,PE X e (Km (Am n run) [] E (BQ Γ a))):GE X e (aF n run a):=.mk λΓ=>Bi (h Γ) λ_ _ _=>Xl
def oQ(i j:Int):Prop:=HS i j\/(Builtin.Int.intBits i<=2^20/\Builtin.Int.intBits j<=2^20)
theorem oQ.ok(h:oQ i j):IntMulOk i j:=by
 rcases h with h|h;exact h.ok;exact IntMulOk.of_bits h.1 h.2
def Xn:Ak X (binaryOp .Mult) (rI oQ λi j=>.int (i*j)):=HR λ_ _ _ _ _ _ _ hc q=>PyProof.Rows.mul_int q hc.ok
section
open Classical
noncomputable def ii(f:Int->Int->D):F2:=λd e=>match d,e with
 |.int i,.int j=>some (.val (f i j))
 |_,_=>none
noncomputable def Ii(C:Int->Int->Prop)(f:Int->Int->D):F2:=λd e=>match d,e with
 |.int i,.int j=>if C i j then some (.val (f i j))else none
 |_,_=>none
noncomputable def iu(f:Int->D):F1:=λd=>match d with
 |.int i=>some (.val (f i))
 |_=>none
end
def Jm(h:∀H i j,Rp H (f i j) (g i j)):oP (Dc g) (ii f):=by
 intro H c d x y Q res a b e k;unfold ii at e;split at e;cases e;obtain rfl:=bO a;obtain rfl:=bO b;exact⟨_,_,rfl,rfl,k _ H (.refl _) (h H _ _)⟩;cases e
def xE(h:∀H i j,Rp H (f i j) (g i j)):oP (rI C g) (Ii C f):=by
 intro H c d x y Q res a b e k;unfold Ii at e;split at e;split at e;rename_i hc;cases e;obtain rfl:=bO a;obtain rfl:=bO b;exact⟨_,_,rfl,rfl,hc,k _ H (.refl _) (h H _ _)⟩;cases e;cases e
def Xo(h:∀H i,Rp H (f i) (g i)):GH (rU g) (iu f):=by
 intro H d x Q res a e k;unfold iu at e;split at e;cases e;obtain rfl:=bO a;exact⟨_,rfl,k _ H (.refl _) (h H _)⟩;cases e
def GY:F2:=ii λi j=>.int (i-j)
def CJ:F2:=Ii (λ_ j=>0<j) λi j=>.int (i % j)
def Jn:F2:=Ii Gv λi j=>.int (i^j.toNat)
def GZ:F2:=ii λi j=>.bl (decide (i<j))
def CL:F2:=ii λi j=>.bl (decide (j<i))
def Jo:F2:=ii λi j=>.bl (decide (j<=i))
def Kz:F1:=iu λi=>.int (-i)
def Xp:oP (Dc λi j=>.int (i-j)) GY:=Jm λ_ _ _=>.int _
def Xq:oP (rI (λ_ j=>0<j) λi j=>.int (i % j)) CJ:=xE λ_ _ _=>.int _
def Xr:oP (rI Gv λi j=>.int (i^j.toNat)) Jn:=xE λ_ _ _=>.int _
def Na:oP (Dc λi j=>.bl (decide (i<j))) GZ:=Jm λ_ _ _=>.bl _
def Nb:oP (Dc λi j=>.bl (decide (j<i))) CL:=Jm λ_ _ _=>.bl _
def Xs:oP (Dc λi j=>.bl (decide (j<=i))) Jo:=Jm λ_ _ _=>.bl _
def Xt:GH (rU λi=>.int (-i)) Kz:=Xo λ_ _=>.int _
def qY{Z:St}(I:dX X pins Z H s)(h:cS H l=some (true,xs)):xs.length<=sizeLine/\∃(its:List Value) (n:Nat),bJ xs its/\xs.length=its.length/\s.heap.get? l=some {cls:=.type "list",data:=.seq its.toArray n}:=by
 rcases qL h with⟨_,e⟩|⟨z,_⟩|⟨_,o,e⟩;exact I.lstM e;cases z;obtain⟨_,z,its,n,r,e⟩:=I.hok l _ e;exact⟨z,its,n,r,r.length,e⟩
def Nc:R2:=λx y H Q=>∃l b xs zs,x=.ref l/\y=.ref b/\cS H l=some (true,xs)/\cS H b=some (true,zs)/\xs.length+zs.length<=sizeLine/\∀p,H p=none->Q (.ref p) (gY H p (.lst (xs++zs)))
def Xu:Ak X (binaryOp .Add) Nc:=by
 intro pins s Z H x y v u Q I c d h;obtain⟨l,b,xs,zs,rfl,rfl,f,g,o,q⟩:=h;cases c;cases d;obtain⟨z,its,n,r,p,e⟩:=qY I f;obtain⟨t,a,n2,i,j,k⟩:=qY I g;refine PySem.P.add_list e k ?_ (by grind);have m:its.toArray++a.toArray=(its++a).toArray:=by simp
 rw[m];exact⟨.ref _,_,I.lnew (t':=s.toks) (r.append i) (by simp_all),rfl,q _ I.fresh⟩
def Nd:R2:=λx y H Q=>Ks x y H Q\/Nc x y H Q
def Xv:Ak X (binaryOp .Add) Nd:=VE.or Xu
noncomputable def jT:F2:=λd e=>match d,e with
 |.int i,.int j=>some (.val (.int (i+j)))
 |.str a,.str b=>if a.length+b.length<=sizeLine then some (.val (.str (a++b)))else none
 |.lst l,.lst m=>if l.length+m.length<=sizeLine then some (.own (.lst (l++m)))else none
 |.tup l,.tup m=>if l.length+m.length<=sizeLine then some (.val (.tup (l++m)))else none
 |_,_=>none
def qZ(a:H p=none)(r:Rps H l xs):wY H (gY H p (.lst xs)) (.own (.lst l)) (.ref p):=⟨p,rfl,a,xs,aJ,r.mono (.same (aM a))⟩
def jA(a:H p=none)(r:Rps H l xs):wY H (gY H p (.tup xs)) (.val (.tup l)) (.ref p):=.tup aJ (r.mono (.same (aM a)))
set_option tactic.hygienic true in
def Xw:oP Nd jT:=by
 intro H o s x y Q res d f e k;unfold jT at e;cases o<;>(try exact aI e)<;>cases s<;>try exact aI e
 ·cases e;obtain rfl:=bO d;obtain rfl:=bO f;exact .inl (k _ H (.refl _) (.int _))
 ·dsimp only at e;split at e;rename_i j;cases e;obtain rfl:=gN d;obtain rfl:=gN f;exact .inl ⟨j,k _ H (.refl _) (.str _)⟩;cases e
 ·dsimp only at e;split at e;rename_i l m j;cases e;obtain⟨p,xs,rfl,g,a⟩:=dF d;obtain⟨q,ys,rfl,h,b⟩:=dF f;have t:=a.length;have u:=b.length;refine .inl (.inr ⟨xs,ys,aV g,aV h,by simp_all,λi=>?_,λi n=>?_,λi n r c=>k _ _ (aM c) (jA c (a.append b))⟩);subst i;have:l=[]:=DM t;subst this;exact k _ H (.refl _) (.tup h b);subst n;have:m=[]:=DM u;subst this;rw[Dw]at k;exact k _ H (.refl _) (.tup g a);cases e
 ·dsimp only at e;split at e;cases e;obtain⟨p,xs,rfl,g,a⟩:=dS d;obtain⟨q,ys,rfl,h,b⟩:=dS f;have:=a.length;have:=b.length;exact .inr ⟨p,q,xs,ys,rfl,rfl,g,h,by simp_all,λr c=>k _ _ (aM c) (qZ c (a.append b))⟩;cases e
section
open Classical
noncomputable def tG:F2:=λd e=>match d,e with
 |.int i,.int j=>if oQ i j then some (.val (.int (i*j)))else none
 |.str z,.int i=>if z.length<=1000/\0<=i/\i<=1000 then some (.val (.str (Txt.mul z i)))else none
 |_,_=>none
end
def Nf:R2:=λx y H Q=>rI oQ (λi j=>.int (i*j)) x y H Q\/Kr x y H Q
def Xx:Ak X (binaryOp .Mult) Nf:=Xn.or VC
def Xy:oP Nf tG:=by
 intro H c d x y Q res a b e k;unfold tG at e;cases c<;>(try exact aI e)<;>cases d<;>try exact aI e
 ·dsimp only at e;split at e;rename_i hc;cases e;obtain rfl:=bO a;obtain rfl:=bO b;exact .inl ⟨_,_,rfl,rfl,hc,k _ H (.refl _) (.int _)⟩;cases e
 ·dsimp only at e;split at e;rename_i hc;cases e;obtain rfl:=gN a;obtain rfl:=bO b;exact .inr ⟨hc.1,hc.2.1,hc.2.2,λy _ e=>by subst e;exact k _ H (.refl _) (.str _)⟩;cases e
def sL:F2:=λd e=>match d,e with
 |.lst l,.int i|.tup l,.int i=>(atI l i).map .val
 |.str z,.int i=>if z.length<=sizeLine then(atI z.cps.toList i).map λc=>.val (.str ⟨#[c]⟩)else none
 |_,_=>none
theorem Rps.atI(r:Rps H l xs)(h:PySem.atI l i=some d):∃x,PySem.atI xs i=some x/\Rp H d x:=by
 unfold PySem.atI at h ⊢;obtain⟨j,a,b⟩:=aA h;rw[← r.length,a];exact r.get b
def Xz:oP Mo sL:=by
 intro H l m x y Q res f g e k;unfold sL at e;cases l<;>(try exact aI e)<;>cases m<;>try exact aI e
 ·dsimp only at e;split at e;rename_i n;obtain rfl:=bO g;obtain rfl:=gN f;obtain⟨c,a,b⟩:=Bf.mp e;cases b;exact⟨_,Vu n a,k _ H (.refl _) (.str _)⟩
  lia
 ·obtain rfl:=bO g;obtain⟨p,xs,rfl,h,i⟩:=dF f;obtain⟨d,a,b⟩:=Bf.mp e;cases b;obtain⟨x,j,r⟩:=i.atI a;exact⟨x,Mv (aV h) j,k _ H (.refl _) r⟩
 ·obtain rfl:=bO g;obtain⟨p,xs,rfl,h,i⟩:=dS f;obtain⟨d,a,b⟩:=Bf.mp e;cases b;obtain⟨x,j,r⟩:=i.atI a;exact⟨x,Mv h j,k _ H (.refl _) r⟩
def XA(ha:GE X a c)(hb:GE X b d)(hs:Mh b):GE X (.Subscript a b pos) (aK sL c d):=.mk λΓ=>Bi (UB Vn (ha.to Γ) (hb.to Γ) hs) λ_ _ _=>kR Xz
noncomputable def lL:FN:=λa=>match a with
 |[.lst l]|[.tup l]=>some (.val (.int l.length))
 |[.str z]=>if z.length<=sizeLine then some (.val (.int z.length))else none
 |_=>none
def Cu(h:EX H [d] vs):∃x,vs=[x]/\AM H d x:=by
 cases h with
 |cons a t=>cases t;exact⟨_,rfl,a⟩
def Ij(h:EX H [d,e] vs):∃x y,vs=[x,y]/\AM H d x/\AM H e y:=by
 cases h with
 | cons a t=>
   obtain⟨y,rfl,b⟩:=Cu t;exact⟨_,_,rfl,a,b⟩
def XB:Dd Mp lL:=by
 intro H c vs Q res vw e k;unfold lL at e;rcases c with _|⟨d,_|_⟩<;>(try exact aI e)<;>cases d<;>try exact aI e
 ·dsimp only at e;split at e;rename_i f;cases e;obtain⟨x,rfl,v⟩:=Cu vw;obtain rfl:=gN v;exact⟨_,_,rfl,Vt f,k _ H (.refl _) (.int _)⟩;cases e
 ·cases e;obtain⟨x,rfl,v⟩:=Cu vw;obtain⟨p,xs,rfl,a,b⟩:=dF v;refine⟨_,_,rfl,zL (aV a),?_⟩;rw[← b.length];exact k _ H (.refl _) (.int _)
 ·cases e;obtain⟨x,rfl,v⟩:=Cu vw;obtain⟨p,xs,rfl,a,b⟩:=dS v;refine⟨_,_,rfl,zL a,?_⟩;rw[← b.length];exact k _ H (.refl _) (.int _)
def DF(l:List D)(lo hi:Option Int):List D:=(l.drop (PySem.sIx l.length 0 lo)).take (PySem.sIx l.length l.length hi-PySem.sIx l.length 0 lo)
def Rps.cut(r:Rps H l xs)(lo hi:Option Int):Rps H (DF l lo hi) (wK xs lo hi):=by
 unfold DF wK;rw[r.length];exact(r.drop _).take _
def XC(h:PySem.sIx xs.length 0 lo=0/\PySem.sIx xs.length xs.length hi=xs.length):wK xs lo hi=xs:=by
 unfold wK
 simp_all
section
open PyProof.Rows Spec
def getItem_tuple_all{lo hi:Option Int}(a:IsTup s.heap t items)(hs:s.heap.IsSliceOf sl f g .none)(pl:IsPart f lo)(i:IsPart g hi)
  (k:sIx items.size 0 lo=0/\sIx items.size items.size hi=items.size) (h:Q (.ref t) s):wpAny (model prog w) A (getItem (.ref t) (.ref sl)) Q E s:=by
 obtain⟨os,c,d,j⟩:=id hs;have e:s.TypeIs (.ref sl) "slice":=⟨os,c,d⟩;unfold getItem
 try with_reducible refine AE ?_
 refine dV (wpAny_sequenceKey a.typeIs (rfl) ?_);refine dV (wpAny_callSpecial?_slot (name:=ofString "__getitem__") a.typeIs Gj
  (Cp Gj a.typeIs entry_tuple_getitem ?_ (args_tuple_getitem _ _)))
 show wpAny _ _ (tupleItemsOf (.ref t) >>= _) _ _ s;refine dV (tupleItemsOf_ a ?_);refine dV (DK e ?_);refine dV (iL hs pl i ?_);have b:(((sIx items.size 0 lo:Nat):Int)==0&&(1:Int)==1&&(sIx items.size items.size hi-sIx items.size 0 lo)==items.size)=true:=by simp_all
 show wpAny _ _ (if(((sIx items.size 0 lo:Nat):Int)==0&&(1:Int)==1&&(sIx items.size items.size hi-sIx items.size 0 lo)==items.size)=true then _ else _) _ _ s;rw[fI b];refine dV ?_;refine dV (DK a.typeIs (gV ?_));refine dV (BJ ?_);exact gV ⟨_,rfl,gV h⟩
end
def Ng:V->Option Int->Option Int->Hp->VK->Prop:=λx lo hi H Q=>match x with
 |.str z=>z.length<=sizeLine/\Q (.str (slice z lo hi)) H
 | .ref p=>(∃ xs,cS H p=some (true,xs)/\∀ r,H r=none->Q (.ref r) (gY H r (.lst (wK xs lo hi)))) \/
   ∃xs,cS H p=some (false,xs)/\(wK xs lo hi=xs->Q (.ref p) H)/\∀r,H r=none->Q (.ref r) (gY H r (.tup (wK xs lo hi)))
 |_=>False
set_option tactic.hygienic true in
def XD:Gz X Ng:=by
 intro pins s Z H x v d e lo hi sl Q I b hs pl c h;unfold Ng at h;split at h;exact Kq pins s Z H _ v d e lo hi sl Q I b hs pl c h
 ·rename_i p;rcases h with h | ⟨xs,g,j,k⟩;exact Kq pins s Z H _ v d e lo hi sl Q I b hs pl c (.inl h);by_cases f:PySem.sIx xs.length 0 lo=0/\PySem.sIx xs.length xs.length hi=xs.length
  ·cases b;obtain⟨its,r,i,l⟩:=I.tuple (dD g);have a:its.toArray.size=xs.length:=by exact r.length.symm
   refine⟨"tuple",_,Gj.lookup,i.typeIs,?_⟩;exact PySem.getItem_tuple_all i hs pl c (by rw[a];exact f) ⟨.ref p,H,I,rfl,j (XC f)⟩
  ·exact Kq pins s Z H _ v d e lo hi sl Q I b hs pl c (.inr ⟨xs,g,f,k⟩)
 simp_all
abbrev DO:=Sg->Option (Option Int×Sg)
def XE(Γ:Gm)(r:DO):TO:=λσV H Q=>∃Z,eH Γ H Z σV/\∃o σ',r Z=some (o,σ')/\∀H',eH Γ H' σ' σV->hJ Z σV H σ' σV H'->Q o H'
structure GO(X:Cx)(e:Option Expr)(r:DO):Prop where
 to:∀Γ,PO X e (XE Γ r)
def Nh(h:PO X e t)(w:∀Z H Q,t' Z H Q->t Z H Q):PO X e t':=λpins s Z H Q I q=>h pins s Z H Q I (w Z H Q q)
noncomputable def CM:DO:=λZ=>some (none,Z)
def dP(r:DE):DO:=λZ=>(r Z).bind λx=>(rd x.2 x.1).bind λd=>match d with
 |.int i=>some (some i,x.2)
 |_=>none
def XF:GO X none CM:=.mk λΓ=>Nh Ut λσV H Q Z1=>by obtain⟨Z,ok,o,σ',e,k⟩:=Z1;cases e;exact k H ok .refl
def XG(h:GE X e r):GO X (some e) (dP r):=.mk λΓ=>Nh (Uu (h.to Γ)) λσV H Q Z1=>by
 obtain⟨Z,ok,o,σ',e,k⟩:=Z1;obtain⟨⟨x,c⟩,f,e⟩:=aA e;obtain⟨d,g,e⟩:=aA e;split at e;cases e;exact⟨Z,ok,x,_,f,λv i a j b _=>⟨_,bO (j.vw a g),k i a b⟩⟩;cases e
def KA(d:D)(lo hi:Option Int):Option hQ:=match d with
 |.str z=>if z.length<=sizeLine then some (.val (.str (slice z lo hi)))else none
 |.lst l=>some (.own (.lst (DF l lo hi)))
 |.tup l=>some (.val (.tup (DF l lo hi)))
 |_=>none
def Cw(r:DE)(a b:DO):DE:=λZ=>(r Z).bind λx=>(a x.2).bind λy=>(b y.2).bind λz=>(rd z.2 x.1).bind λd=>(KA d y.1 z.1).bind λw=>some (w,z.2)
def XH(C:GE X e r)(ha:GO X lo a)(hb:GO X hi b):GE X (.Subscript e (.Slice lo hi none B) pos) (Cw r a b):=.mk λΓ=>Bi (Uw XD (C.to Γ) (ha.to Γ) (hb.to Γ)) λσV H Q Z1=>by
 obtain⟨Z,ok,res,σ',e,k⟩:=Z1;obtain⟨⟨x,i⟩,D,e⟩:=aA e;obtain⟨⟨lo,j⟩,E,e⟩:=aA e;obtain⟨⟨hi,y⟩,F,e⟩:=aA e;obtain⟨d,G,e⟩:=aA e;obtain⟨w,h,e⟩:=aA e;cases e;refine⟨Z,ok,x,i,D,λv L l I m _=>⟨i,l,lo,j,E,λM n c=>⟨j,n,hi,y,F,λs f g=>?_⟩⟩⟩;have vw:=((I.step l c).step n g).vw f G;have fin:∀v H',mQ s H'->wY s H' res v->Q v H':=λv H' z A=>k v H' (f.same z) (A.res f) (((m.trans c).trans g).trans (.same z)) (A.frh.back ((m.trans c).trans g));unfold KA at h;split at h
 ·split at h;rename_i J;cases h;obtain rfl:=gN vw;exact⟨J,fin _ s (.refl _) (.str _)⟩
  simp_all
 ·cases h;obtain⟨p,xs,rfl,t,u⟩:=dS vw;exact .inl ⟨xs,t,λq o=>fin _ _ (aM o) (qZ o (u.cut lo hi))⟩
 ·cases h;obtain⟨p,xs,rfl,t,u⟩:=dF vw;refine .inr ⟨xs,aV t,λK=>fin _ s (.refl _) ?_,λq o=>fin _ _ (aM o) (jA o (u.cut lo hi))⟩;have:=u.cut lo hi;rw[K]at this;exact .tup t this
 simp_all
def Ni(K:W.Frag):List V->Hp->VK->Prop:=λxs H Q=>∃(a:Addr) (bs:List Bool),xs=[.ref a]/\AL K H a (bs.map V.bl)/\Q (.bl (bs.all id)) H
noncomputable def Ha:List D->Option (List Bool)
 |[]=>some []
 |.bl b::r=>(Ha r).bind λbs=>some (b::bs)
 |_=>none
def XI(h:Ha l=some zs):l=zs.map D.bl:=by
 induction l generalizing zs with
 |nil=>cases h;rfl
 | cons d r i=>
   cases d with
   | bl s=>
     obtain⟨l,a,b⟩:=aA h;cases b;rw[i a];rfl
   |_=>cases h
def XJ(bs:List Bool):Ha (bs.map D.bl)=some bs:=by
 induction bs with
 |nil=>rfl
 |cons b r a=>show(Ha (r.map D.bl)).bind _=_;simp_all
def Hb:FN:=λa=>match a with
 |[.lst l]=>(Ha l).map λbs=>.val (.bl (bs.all id))
 |_=>none
def XM:Dd (Ni K) Hb:=by
 intro H f vs Q res vw e k;unfold Hb at e;split at e;obtain⟨bs,c,d⟩:=Bf.mp e;cases d;obtain⟨x,rfl,v⟩:=Cu vw;obtain⟨p,xs,rfl,a,b⟩:=dS v;rw[XI c]at b;rw[b.bls_inv]at a;exact⟨p,bs,rfl,eR a,k _ H (.refl _) (.bl _)⟩;cases e
def XN(K:W.Frag)(a:X.K=K)(hc:X.calm=true):iT X (.builtin "all") (Ni K):=by rw[← a];exact Vh hc
noncomputable def Hc:FN:=λa=>match a with
 |[.int i,.int j]=>some (.val (.int (if j > i then j else i)))
 |_=>none
noncomputable def oR:FN:=λa=>match a with
 |[.int i,.int j]=>some (.val (.int (if j<i then j else i)))
 |_=>none
def XO:Dd (λxs H Q=>∃i j,xs=[.int i,.int j]/\Q (.int (if j > i then j else i)) H) Hc:=by
 intro H c vs Q res vw e k;unfold Hc at e;rcases c with _|⟨d,_|⟨f,_|_⟩⟩<;>(try exact aI e)<;>cases d<;>(try exact aI e)<;>cases f<;>try exact aI e
 ·cases e;obtain⟨x,y,rfl,a,b⟩:=Ij vw;obtain rfl:=bO a;obtain rfl:=bO b;exact⟨_,_,rfl,k _ H (.refl _) (.int _)⟩
def XP:Dd (λxs H Q=>∃i j,xs=[.int i,.int j]/\Q (.int (if j<i then j else i)) H) oR:=by
 intro H c vs Q res vw e k;unfold oR at e;rcases c with _|⟨d,_|⟨f,_|_⟩⟩<;>(try exact aI e)<;>cases d<;>(try exact aI e)<;>cases f<;>try exact aI e
 ·cases e;obtain⟨x,y,rfl,a,b⟩:=Ij vw;obtain rfl:=bO a;obtain rfl:=bO b;exact⟨_,_,rfl,k _ H (.refl _) (.int _)⟩
noncomputable def FV:FN:=λa=>match a with
 |[.int i]=>some (.val (.int i))
 |[.bl b]=>some (.val (.int (if b then 1 else 0)))
 |_=>none
def XQ:Dd (λxs H Q=>(∃i,xs=[.int i]/\Q (.int i) H)\/∃k,xs=[.bl k]/\Q (.int (if k then 1 else 0)) H) FV:=by
 intro H b vs Q res vw e k;unfold FV at e;rcases b with _|⟨c,_|_⟩<;>(try exact aI e)<;>cases c<;>try exact aI e
 ·cases e;obtain⟨x,rfl,a⟩:=Cu vw;obtain rfl:=Ib a;exact .inr ⟨_,rfl,k _ H (.refl _) (.int _)⟩
 ·cases e;obtain⟨x,rfl,a⟩:=Cu vw;obtain rfl:=bO a;exact .inl ⟨_,rfl,k _ H (.refl _) (.int _)⟩
noncomputable def oS:FN:=λa=>match a with
 |[.lst l]|[.tup l]=>some (.own (.lst l))
 |_=>none
def XR:Dd Mw oS:=by
 intro H f vs Q res vw e k;unfold oS at e;rcases f with _|⟨g,_|_⟩<;>(try exact aI e)<;>cases g<;>try exact aI e
 ·cases e;obtain⟨x,rfl,a⟩:=Cu vw;obtain⟨p,xs,rfl,c,d⟩:=dF a;exact⟨p,false,xs,rfl,aV c,λq b=>k _ _ (aM b) (qZ b d)⟩
 ·cases e;obtain⟨x,rfl,a⟩:=Cu vw;obtain⟨p,xs,rfl,c,d⟩:=dS a;exact⟨p,true,xs,rfl,c,λq b=>k _ _ (aM b) (qZ b d)⟩
noncomputable def pN:FN:=λa=>match a with
 |[.lst l]|[.tup l]=>some (.val (.tup l))
 |_=>none
def XS:Dd Mx pN:=by
 intro H f vs Q res vw e k;unfold pN at e;rcases f with _|⟨g,_|_⟩<;>(try exact aI e)<;>cases g<;>try exact aI e
 ·cases e;obtain⟨x,rfl,a⟩:=Cu vw;obtain⟨p,xs,rfl,b,c⟩:=dF a;exact⟨p,false,xs,rfl,aV b,k _ H (.refl _) (.tup b c)⟩
 ·cases e;obtain⟨x,rfl,a⟩:=Cu vw;obtain⟨p,xs,rfl,b,c⟩:=dS a;exact⟨p,true,xs,rfl,b,λq d=>k _ _ (aM d) (jA d c)⟩
noncomputable def XT:D->String
 |.non=>"NoneType"
 |.bl _=>"bool"
 |.int _=>"int"
 |.str _=>"str"
 |.lst _=>"list"
 |.tup _=>"tuple"
 |.dic _ _=>"dict"
def Ik(c:String):F1:=λd=>match d with
 |.dic _ _=>none
 |d=>some (.val (.bl (wU (XT d) c)))
noncomputable def Cy:FM:=λd a=>match d,a with
 |.lst l,[e]=>if l.length<sizeLine then some (.lst (l++[e]),.non)else none
 |_,_=>none
def jB(h:cR H (.lst l) p):∃xs,H p=some (.lst xs)/\Rps H l xs:=h
set_option tactic.hygienic true in
def XU:FR nJ Cy:=by
 intro H d p h vs Q d' e ow r b k;unfold Cy at b;split at b
 ·split at b
  ·rename_i l x f;cases b;obtain⟨xs,g,c⟩:=jB ow;cases r with
   | cons a t=>
     cases t;exact⟨p,xs,_,rfl,rfl,g,by rw[← c.length];exact f,k _ _ ⟨_,aJ,(c.append (.cons a .nil)).mono (cR.ext ow)⟩ .non⟩
  simp_all
 simp_all
noncomputable def Fb:FM:=λd a=>match d,a with
 |.lst l,[.lst m]=>if l.length+m.length<=sizeLine then some (.lst (l++m),.non)else none
 |_,_=>none
def Nj:V->List V->Hp->VK->Prop:=λx vs H Q=>∃l b xs zs,x=.ref l/\vs=[.ref b]/\H l=some (.lst xs)/\cS H b=some (true,zs)/\xs.length+zs.length<=sizeLine/\Q .non (gY H l (.lst (xs++zs)))
def XW:GB X "list.extend" Nj:=by
 intro pins s Z H x vs v us Q I g i h;obtain⟨l,b,xs,zs,rfl,rfl,f,j,t,q⟩:=h;cases g;obtain⟨u,rfl,k⟩:=i.one;cases k;obtain⟨z,its,n,r,w,e⟩:=I.lstM f;obtain⟨y,a,n2,m,o,p⟩:=qY I j;have d:its.toArray.size+a.toArray.size<=sizeLine:=by grind
 have c:¬(!its.toArray.isEmpty&&listTooLong (its.toArray.size+a.toArray.size))=true:=by
  rw[zH d,Bool.and_false];simp
 refine BL F.slot_list_extend ⟨_,e,rfl⟩ F.entry_list_extend (F.args_list_extend_2 _ _)
  (AutoSeq1.list_extend_list_list_0 l its.toArray n b a.toArray n2 c (by simp_all) (le_succ_of_le d)) ⟨e,p,?_⟩
 refine⟨.non,_,I.lset (its':=its++a) f e (by simp) (r.append m) ?_,rfl,q⟩
 simp_all
def XX:MT Nj Fb:=by
 intro H d p g vs Q d' e ow r b k;unfold Fb at b;cases d<;>(try exact aI b)<;>rcases g with _|⟨h,_|_⟩<;>(try exact aI b)<;>cases h<;>try exact aI b
 ·dsimp only at b;split at b;cases b;obtain⟨xs,i,c⟩:=jB ow;obtain⟨x,rfl,a⟩:=Cu r;obtain⟨q,ys,rfl,j,f⟩:=dS a;have:=c.length;have:=f.length;exact⟨p,q,xs,ys,rfl,rfl,i,j,by simp_all,k _ _ ⟨_,aJ,(c.append f).mono (cR.ext ow)⟩ .non⟩
  simp_all
noncomputable def Il:FM:=λd a=>match d,a with
 |.lst l,[]=>(l[l.length-1]?).map λy=>(.lst l.dropLast,y)
 |_,_=>none
theorem Rps.dropLast(r:Rps H l xs):Rps H l.dropLast xs.dropLast:=by
 rw[List.dropLast_eq_take,List.dropLast_eq_take,r.length];exact r.take _
def XY:FR Ml Il:=by
 intro H d p i vs Q d' e ow r a k;unfold Il at a;split at a;obtain⟨y,c,f⟩:=Bf.mp a;cases f;cases r;obtain⟨xs,g,b⟩:=jB ow;obtain⟨x,ex,h⟩:=b.get c;exact⟨p,xs,x,rfl,rfl,g,by rw[← b.length];exact ex,k _ _ ⟨_,aJ,b.dropLast.mono (cR.ext ow)⟩ (h.mono (cR.ext ow))⟩
 simp_all
def uG:FM:=λd a=>match d,a with
 |.lst l,[.int i]=>if -(2^63)<=i/\i<2^63 then(AH l.length i).bind λj=>(l[j]?).map λy=>(.lst (l.eraseIdx j),y)else none
 |_,_=>none
set_option tactic.hygienic true in
def XZ:FR Mm uG:=by
 intro H d p f vs Q d' e ow r b k;unfold uG at b;cases d<;>(try exact aI b)<;>rcases f with _|⟨g,_|_⟩<;>(try exact aI b)<;>cases g<;>try exact aI b
 ·dsimp only at b;split at b
  ·rename_i l i hi;obtain⟨j,h,b⟩:=aA b;obtain⟨y,m,n⟩:=Bf.mp b;cases n;obtain⟨xs,o,c⟩:=jB ow;obtain⟨x,ex,q⟩:=c.get m;cases r with
   | cons a t=>
     cases t;cases a;exact⟨p,xs,i,j,x,rfl,rfl,o,hi.1,hi.2,by rw[← c.length];exact(wL h).1,ex,k _ _ ⟨_,aJ,(c.eraseIdx j).mono (cR.ext ow)⟩ (q.mono (cR.ext ow))⟩
  lia
def Jp(i:Int)(e:D):D->Option D
 |.lst l=>(AH l.length i).map λj=>.lst (l.set j e)
 |_=>none
def FW(k:Nat)(ri c:DE):DS:=λZ=>(c Z).bind λx=>match x.1 with
 | .val d=>if EY "list" k x.2=true then(ri x.2).bind λy=>(rd y.2 y.1).bind λe=>match e with
   |.int i=>(Df (λa _=>(Jp i d a).map λb=>(b,.non)) k [] y.2).bind λz=>some (.nx z.2)
   |_=>none else none
 |_=>none
set_option tactic.hygienic true in
def Ya(h:∀ Γ,PS X st (FF (Bd Γ G) (LQ (CZ k) (Bd Γ ri) Mi))):GS E X st (FW k ri G):=.mk λΓ=>DB (h Γ) λD σV H Z1=>by
 obtain⟨Z,ok,o,e,L⟩:=Z1;obtain⟨⟨x,f⟩,M,e⟩:=aA e;refine⟨Z,ok,x,f,M,λv H1 g N u f1=>?_⟩;cases x with
 |own d|slot d=>cases e
 | val d=>
   have c:(if EY "list" k f=true then(ri f).bind λy=>(rd y.2 y.1).bind λI=>match I with
    |.int i=>(Df (λa _=>(Jp i d a).map λb=>(b,.non)) k [] y.2).bind λz=>some (.nx z.2)
    |_=>none else none)=some o:=e
   split at c
   ·rename_i hn;obtain⟨⟨y,w⟩,π,c⟩:=aA c;obtain⟨I,P,c⟩:=aA c;obtain⟨s0,A,B,Q⟩:=mV hn;obtain⟨p,ep,ow⟩:=g.ownAt A B;dsimp only at c;split at c
    ·rename_i i;obtain⟨⟨z,R⟩,S,c⟩:=aA c;cases c;obtain⟨s,d',y',hs,hm,T,rfl,rfl⟩:=fK S;obtain⟨b,J,U⟩:=Bf.mp T;cases U;refine⟨_,ep,f,g,y,w,π,λvi V n W q f2=>?_⟩;obtain rfl:=bO (W.vw n P);obtain⟨p',r,t⟩:=n.ownAt hs (fZ hm);rw[ep]at r;cases r;have Y:Rp V d v:=Rp.mono (q.ext g) N;obtain⟨m,σ⟩:=s;cases σ with
     | lst l=>
       obtain⟨j,e8,e9⟩:=Bf.mp J;cases e9;obtain⟨xs,h1,K⟩:=jB t;refine⟨p,xs,i,j,rfl,rfl,h1,by rw[← K.length];exact e8,?_⟩;obtain⟨C,F⟩:=n.write (d':=.lst (l.set j d)) (o':=.lst (xs.set j v)) hs hm ep ⟨_,aJ,(K.set j Y).mono (cR.ext t)⟩;exact L _ _ C ((u.trans q).trans F)
     |_=>cases J
    simp_all
   simp_all
def He(i j:Int):Prop:=0<j/\j<340282366920938463463374607431768211456
def Yb:Ak X (binaryOp .FloorDiv) (rI He λi j=>.int (i / j)):=HR λi j _ _ _ _ _ hc q=>by
 have a:(0:Int)<j:=hc.1;have c:j<340282366920938463463374607431768211456:=hc.2;refine PyProof.Rows.floordiv_int (by lia) (by rw[Int.fdiv_eq_ediv_of_nonneg i (Int.le_of_lt a)];exact q) (.inl (PyProof.noPylong_of_log2 ?_));have h0:j.natAbs≠0:=by (simp;omega)
 have b:j.natAbs.log2<128:=(Nat.log2_lt h0).mpr (by grind);lia
def FX:F2:=Ii He λi j=>.int (i / j)
def Yc:oP (rI He λi j=>.int (i / j)) FX:=xE λ_ _ _=>.int _
mutual
def fL:D->PyData
 |.non=>.none
 |.bl b=>.bool b
 |.int i=>.int i
 |.str x=>.str x
 |.tup l=>.tuple (toPys l)
 |.lst l=>.list (toPys l)
 |.dic _ _=>.dict []
def toPys:List D->List PyData
 |[]=>[]
 |d::r=>fL d::toPys r
end
def uH{Z:St}(I:dX X pins Z H s)(h:Rps H l vs):bJ vs us->canLayAll0 (toPys l)=true->∃ as,ReadsAll s.heap us (toPys l) as:=by
 refine Rps.rec (motive_1:=λd v _=>∀u,cE v u->(fL d).canLay0=true->∃as,Reads s.heap u (fL d) as) (motive_2:=λl vs _=>∀us,bJ vs us->canLayAll0 (toPys l)=true->∃as,ReadsAll s.heap us (toPys l) as) ?_ ?_ ?_ ?_ ?_ ?_ ?_ ?_ ?_ h us;intro u r _;cases r;exact⟨_,.none⟩;intro b u r _;cases r;exact⟨_,.bool b⟩;intro i u r _;obtain⟨t,rfl⟩:=r;exact⟨_,.int i t⟩;intro x u r _;obtain⟨t,rfl⟩:=r;exact⟨_,.str x t⟩;intro _ _ _ h _ i u r hc;cases r;obtain⟨_,its,c,⟨o,k,f,n,hd⟩,_⟩:=I.hok _ _ h;obtain⟨as,g⟩:=i _ c hc;exact⟨_,.tuple k f hd (by simpa using g)⟩;intro _ _ _ _ h _ i u r hc;cases r;obtain⟨_,_,its,n,c,e⟩:=I.hok _ _ h;obtain⟨as,g⟩:=i _ c hc;exact⟨_,.list e rfl rfl (by simpa using g)⟩
 ·intros;contradiction
 ·intro us r _;cases r;exact⟨_,.nil⟩
 ·intro d l _ _ _ _ i j us r hc;cases r with
  | cons m p=>
    have a:(fL d).canLay0=true/\canLayAll0 (toPys l)=true:=by simpa[toPys,canLayAll0]using hc
    obtain⟨as,q⟩:=i _ m a.1;obtain⟨bs,w⟩:=j _ p a.2;exact⟨_,.cons q w⟩
def Yd{Z:St}(I:dX X pins Z H s)(h:Rp H d v)(r:cE v u)(hc:(fL d).canLay0=true):∃as,Reads s.heap u (fL d) as:=by
 obtain⟨as,q⟩:=uH I (.cons h .nil) (.cons r .nil) (by simp[toPys,canLayAll0,hc]);cases q with|cons a _=>exact⟨_,a⟩
def gB{Z:St}(I:dX X pins Z H s)(h:AM H d v)(r:cE v u)(hc:(fL d).canLay0=true):∃as,Reads s.heap u (fL d) as:=by
 rcases h with h|⟨p,rfl,h⟩;exact Yd I h r hc;cases r;cases d with
 | lst l=>
   obtain⟨xs,a,b⟩:=jB h;obtain⟨_,its,n,c,e⟩:=I.hok _ _ a;obtain⟨as,f⟩:=uH I b c hc;exact⟨_,.list e rfl rfl (by simpa using f)⟩
 |dic ks vs=>exact nomatch hc
 |_=>exact h.elim
noncomputable def wE(d e:D):Bool:=PyData.eqv (fL d) (fL e)
noncomputable def dU(d:D):Bool:=(fL d).canLay0&&decide ((fL d).depth<=60)
def KC(neg:Bool):R2:=λx y H Q=>∃d e,AM H d x/\AM H e y/\dU d=true/\dU e=true/\Q (.bl (if neg then !wE d e else wE d e)) H
def bP(h:dU d=true):(fL d).canLay0=true/\(fL d).depth<=60:=by
 unfold dU at h
 simp_all
def Nk(l:X.A.units+64<cLine):Ak X (compareOp .Eq) (KC false):=by
 intro pins s Z H x y v u Q I a b h;obtain⟨d,e,c,f,g,i,q⟩:=h;obtain⟨a1,m⟩:=bP g;obtain⟨a2,n⟩:=bP i;obtain⟨as,j⟩:=gB I c a a1;obtain⟨bs,k⟩:=gB I f b a2;exact SeqAt.rcAt_reads j k a1 a2 (by lia) _ _ _ _ ⟨.bl _,H,I,rfl,q⟩
def Ye(l:X.A.units+64<cLine):Ak X (compareOp .NotEq) (KC true):=by
 intro pins s Z H x y v u Q I a b h;obtain⟨d,e,c,f,g,i,q⟩:=h;obtain⟨a1,m⟩:=bP g;obtain⟨a2,n⟩:=bP i;obtain⟨as,j⟩:=gB I c a a1;obtain⟨bs,k⟩:=gB I f b a2;exact SeqAt.rcNeAt_reads j k a1 a2 (by lia) _ _ _ _ ⟨.bl _,H,I,rfl,q⟩
def Av(neg:Bool):F2:=λd e=>if dU d=true/\dU e=true then some (.val (.bl (if neg then !wE d e else wE d e)))else none
def KD:oP (KC neg) (Av neg):=by
 intro H a b x y Q res c d e k;unfold Av at e;split at e;rename_i hc;cases e;exact⟨a,b,c,d,hc.1,hc.2,k _ H (.refl _) (.bl _)⟩;cases e
def KG(neg:Bool):R2:=λx y H Q=>(∃i j,x=.str i/\y=.str j/\Q (.bl (if neg then(occurrences j i 0 j.length 1).isEmpty else !(occurrences j i 0 j.length 1).isEmpty)) H) \/
 ∃d e b l,AM H d x/\AM H e y/\CH e=some (b,l)/\dU d=true/\dU e=true/\Q (.bl (if neg then !(l.any λy=>wE y d)else l.any λy=>wE y d)) H
theorem nR(d:D):∀l:List D,(toPys l).any (λy=>PyData.eqv y (fL d))=l.any λy=>wE y d
 |[]=>rfl
 |e::r=>by show(PyData.eqv (fL e) (fL d)||(toPys r).any _)=_;rw[nR d r];rfl
def uI(h:CH e=some (b,l)):depthAll (toPys l)<=(fL e).depth/\((fL e).canLay0=true->canLayAll0 (toPys l)=true):=by
 cases e with
 |lst a=>cases h;exact⟨by show _<=depth (.list (toPys l));simp only[depth];lia,λz=>z⟩
 |tup a=>cases h;exact⟨by show _<=depth (.tuple (toPys l));simp only[depth];lia,λz=>z⟩
 |_=>cases h
def Nl(o:X.A.units+64<cLine):Ak X (compareOp .In) (KG false):=by
 intro pins s Z H x y v u Q I a c h;rcases h with⟨i,j,rfl,rfl,q⟩|⟨d,e,b,l,v1,v2,hs,k,m,q⟩;exact TN pins s Z H _ _ v u Q I a c ⟨_,_,rfl,rfl,by simp_all⟩;obtain⟨a1,p⟩:=bP k;obtain⟨a2,r⟩:=bP m;obtain⟨as,f⟩:=gB I v1 a a1;obtain⟨bs,g⟩:=gB I v2 c a2;obtain⟨dp,cl⟩:=uI hs;have fin:EP X pins Z Q (.bool ((toPys l).any λy=>PyData.eqv y (fL d))) s:=⟨.bl _,H,I,by rw[nR];rfl,q⟩;cases e with
 |lst n=>cases hs;exact SeqAt.in_list_reads g f (cl a2) a1 (by lia) fin
 |tup n=>cases hs;exact SeqAt.in_tuple_reads g f (cl a2) a1 (by lia) fin
 |_=>cases hs
def Yf(o:X.A.units+64<cLine):Ak X (compareOp .NotIn) (KG true):=by
 intro pins s Z H x y v u Q I a c h;rcases h with⟨i,j,rfl,rfl,q⟩|⟨d,e,b,l,v1,v2,hs,k,m,q⟩;exact tM pins s Z H _ _ v u Q I a c ⟨_,_,rfl,rfl,by simp_all⟩;obtain⟨a1,p⟩:=bP k;obtain⟨a2,r⟩:=bP m;obtain⟨as,f⟩:=gB I v1 a a1;obtain⟨bs,g⟩:=gB I v2 c a2;obtain⟨dp,cl⟩:=uI hs;have fin:EP X pins Z Q (.bool (!(toPys l).any λy=>PyData.eqv y (fL d))) s:=⟨.bl _,H,I,by rw[nR];rfl,q⟩;cases e with
 |lst n=>cases hs;exact SeqAt.notIn_list_reads g f (cl a2) a1 (by lia) fin
 |tup n=>cases hs;exact SeqAt.notIn_tuple_reads g f (cl a2) a1 (by lia) fin
 |_=>cases hs
def Be(neg:Bool):F2:=λd e=>match d,e with
 |.str i,.str j=>some (.val (.bl (if neg then(occurrences j i 0 j.length 1).isEmpty else !(occurrences j i 0 j.length 1).isEmpty)))
 | d,e=>match CH e with
   |some (_,l)=>if dU d=true/\dU e=true then some (.val (.bl (if neg then !(l.any λy=>wE y d)else l.any λy=>wE y d)))else none
   |none=>none
set_option tactic.hygienic true in
def KH:oP (KG neg) (Be neg):=by
 intro H d f x y Q res a c e k;unfold Be at e;split at e;cases e;obtain rfl:=gN a;obtain rfl:=gN c;exact .inl ⟨_,_,rfl,rfl,k _ H (.refl _) (.bl _)⟩;split at e;rename_i b l hs;split at e;rename_i hc;cases e;exact .inr ⟨d,f,b,l,a,c,hs,hc.1,hc.2,k _ H (.refl _) (.bl _)⟩;cases e;cases e
def KI(K:W.Frag):List V->Hp->VK->Prop:=λxs H Q=>∃x c t,xs=[x,.ty c]/\AG K H x (.type t)/\(t="NoneType"\/t="int"\/t="bool"\/t="str"\/t="list"\/t="tuple") /\
 (c="int"\/c="bool"\/c="str"\/c="list"\/c="tuple")/\Q (.bl (wU t c)) H
def Yg(K:W.Frag)(a:X.K=K):iT X (.builtin "isinstance") (KI K):=by
 subst a;intro pins s Z H xs us Q I r h;obtain⟨x,c,t,rfl,ty,b,d,q⟩:=h;exact wP pins s Z H _ us Q I r ⟨x,c,.type t,_,rfl,ty,VT b d,q⟩
def Yh(K:W.Frag)(hc:c="int"\/c="bool"\/c="str"\/c="list"\/c="tuple")(h:∀ Γ,PE X e (Gy (KI K) (Kj (Bd Γ r) (Kj (tC (.ty c)) IV)))):GE X e (De (Ik c) r):=.mk λΓ=>Bi (h Γ) λσV H Q g=>by
 have j:GH (λx H Q=>KI K [x,.ty c] H Q) (Ik c):=by
  intro H d x Q res a e k;cases d with
  |non=>cases e;obtain rfl:=ML a;exact⟨_,_,_,rfl,.non,.inl rfl,hc,k _ H (.refl _) (.bl _)⟩
  |bl b=>cases e;obtain rfl:=Ib a;exact⟨_,_,_,rfl,.bl b,.inr (.inr (.inl rfl)),hc,k _ H (.refl _) (.bl _)⟩
  |int i=>cases e;obtain rfl:=bO a;exact⟨_,_,_,rfl,.int i,.inr (.inl rfl),hc,k _ H (.refl _) (.bl _)⟩
  |str i=>cases e;obtain rfl:=gN a;exact⟨_,_,_,rfl,.str i,.inr (.inr (.inr (.inl rfl))),hc,k _ H (.refl _) (.bl _)⟩
  |tup l=>cases e;obtain⟨p,xs,rfl,f,_⟩:=dF a;exact⟨_,_,_,rfl,.tup f,.inr (.inr (.inr (.inr (.inr rfl)))),hc,k _ H (.refl _) (.bl _)⟩
  | lst l=>
    cases e;rcases a with a|⟨p,rfl,a⟩
    ·cases a with
     |lst f _=>exact⟨_,_,_,rfl,.frz f,.inr (.inr (.inr (.inr (.inl rfl)))),hc,k _ H (.refl _) (.bl _)⟩
    ·obtain⟨xs,f,_⟩:=jB a;exact⟨_,_,_,rfl,.lst f,.inr (.inr (.inr (.inr (.inl rfl)))),hc,k _ H (.refl _) (.bl _)⟩
  |dic ks vs=>cases e
 exact zT j g
def gE(h:GE X e r)(Γ:Gm):PE X e (Bd Γ r):=h.to Γ
def gA(h:GA X e r)(Γ:Gm):PA X e (BQ Γ r):=h.to Γ
def gT(h:GT X e r)(Γ:Gm):PT X e (DC Γ r):=h.to Γ
def gI(h:GI X tg e r)(Γ:Gm):PI X tg e (Ew Γ r):=h.to Γ
def Im(h:CI E X e r)(Γ:Gm):Bv X e (Ct Γ E r):=h.to Γ
noncomputable def KJ(K:W.Frag):Bool:=K.all λp=>match p.2.cls with
 |.type n=>!(n=="list")
 |_=>true
def Yi{ns:List Int}(b:KJ K=true)(f:HW H)(hS:AL K H a (ns.map V.int)):BR H [⟨.val,.lst (ns.map D.int)⟩] [.ref a]:=by
 have c:∃ o,H a=some (.frz o (.lst (ns.map V.int))):=by
  rcases hS with hS|⟨o,its,n,g,hc,_⟩
  ·rcases hS with hS|⟨o,hS⟩;rcases f a with z|⟨o,xs,z⟩;rw[hS]at z;cases z;rw[hS]at z;cases z;exact⟨o,hS⟩
  ·exfalso;unfold KJ at b;rw[Ds]at b;have hm:(a,o)∈K:=by
    clear b f;have:∀ (l:List (Addr×Obj)),List.lookup a l=some o->(a,o)∈l:=by
     intro l
     induction l with
     |nil=>intro h;simp at h
     | cons p r k=>
       intro h;rw[lookup_cons]at h;split at h
       ·rename_i e;have:a=p.1:=by simpa using e
        cases h;rw[this];exact sT
       ·exact Ah _ (k h)
    exact this K g
   have:=b _ hm;rw[hc]at this;simp at this
 obtain⟨o,c⟩:=c;refine⟨rfl,λi s e=>?_,λi j s t p n d q m=>?_,λi s e=>?_⟩
 ·cases i with
  |zero=>simp at e;subst e;exact⟨_,rfl,.lst c (zR ns)⟩
  |succ i=>simp at e
 ·cases i with
  |zero=>simp at d;subst d;cases m
  |succ i=>simp at d
 ·cases i with
  |zero=>simp at e;subst e;exact λz=>nomatch z
  |succ i=>simp at e
def Yj{run:Aa4}{ns:List Int}(b:KJ K=true)(c:HW H)(hS:AL K H a (ns.map V.int))(h:∃ as',run [⟨.val,.lst (ns.map D.int)⟩]=some (.val (.bl true),as')) :
  Am 1 run [.ref a] H (λv _=>v=.bl true) (λ_ _ _=>False):=by
 obtain⟨as',h⟩:=h;exact⟨_,_,as',Yi b c hS,rfl,h,λv H' po d=>by cases d;rfl⟩
def dY{b:Type}(o:Option b)(K:b->Prop):Prop:=match o with
 |some a=>K a
 |none=>False
def RE(r:DE)(Z:Sg)(Q:hQ->Sg->Prop):Prop:=dY (r Z) λx=>Q x.1 x.2
def RT(r:DT)(Z:Sg)(Q:Bool->Sg->Prop):Prop:=dY (r Z) λx=>Q x.1 x.2
def RA(r:DA)(Z:Sg)(Q:List hQ->Sg->Prop):Prop:=dY (r Z) λx=>Q x.1 x.2
def RS(r:DS)(Z:Sg)(Q:Cc->Prop):Prop:=dY (r Z) Q
def RI(r:DI)(Z:Sg)(Q:List D->Option Nat->Sg->Prop):Prop:=dY (r Z) λx=>Q x.1 x.2.1 x.2.2
def RO(r:DO)(Z:Sg)(Q:Option Int->Sg->Prop):Prop:=dY (r Z) λx=>Q x.1 x.2
theorem aE{f:b->Option c}:dY (o.bind f) K=dY o λa=>dY (f a) K:=by cases o<;>rfl
theorem aW{K:b->Prop}:dY (some a) K=K a:=rfl
def uJ{f:b->c}:dY (o.map f) K=dY o λa=>K (f a):=by cases o<;>rfl
theorem aO{a:Type}{c:Prop}[Decidable c]{o:Option a}{K:a->Prop}:dY (if c then o else none) K=(c/\dY o K):=by
 by_cases h:c
 ·lia
 ·rw[gX h];exact propext ⟨λq=>q.elim,λq=>h q.1⟩
def cU{K:b->Prop}:dY o K↔∃a,o=some a/\K a:=by
 cases o with
 |none=>exact⟨λq=>q.elim,λ⟨_,e,_⟩=>nomatch e⟩
 |some a=>exact⟨λq=>⟨a,rfl,q⟩,λZ1=>by obtain⟨_,e,q⟩:=Z1;cases e;exact q⟩
def bQ{K c:b->Prop}(h:dY o K)(w:∀a,K a->c a):dY o c:=by
 cases o with
 |none=>exact h
 |some a=>exact w a h
def Fc:Nat->Sg->Nat->Sg->(hQ->Sg->Prop)->Prop
 |0,some s::_,i,Z,Q=>Q (if s.m=.val then .val s.d else .slot i) Z
 |n+1,_::r,i,Z,Q=>Fc n r i Z Q
 |_,_,_,_,_=>False
def Yk:∀(n:Nat) (r:Sg) (i:Nat) (Z:Sg) (Q:hQ->Sg->Prop),Fc n r i Z Q=dY (match r[n]? with|some (some s)=>some (if s.m=.val then hQ.val s.d else hQ.slot i,Z)|_=>none) λx=>Q x.1 x.2:=by
 intro n r i Z Q
 induction n generalizing r with
 |zero=>cases r with|nil=>rfl|cons o r=>cases o<;>rfl
 |succ n j=>cases r with|nil=>rfl|cons o r=>exact j r
def GK:Nat->Sg->(D->Prop)->Prop
 |0,some s::_,K=>K s.d
 |n+1,_::r,K=>GK n r K
 |_,_,_=>False
theorem Nm:∀ (n:Nat) (r:Sg) (K:D->Prop),GK n r K=dY (match r[n]? with | some (some s)=>some s.d | _=>none) K
 |0,[],_ | 0,none::_,_ | 0,some s::_,_|n+1,[],_=>rfl
 | n+1,_::r,K=>by
   show GK n r K=_;rw[Nm n r K,EJ]
def RD(Z:Sg)(r:hQ)(K:D->Prop):Prop:=dY (rd Z r) K
def PK:Nat->Sg->Sl->(Sg->Prop)->Prop
 |0,none::r,s,K | 0,some ⟨.val,_⟩::r,s,K | 0,some ⟨.own,_⟩::r,s,K=>K (some s::r)
 |n+1,o::r,s,K=>PK n r s λa=>K (o::a)
 |_,_,_,_=>False
def Yl{r:Sg}:fE (o::r) (n+1)=fE r n:=rfl
theorem Jq:∀ (n:Nat) (r:Sg) (s:Sl) (K:Sg->Prop),PK n r s K=dY (if fE r n=true then some (r.set n (some s))else none) K
 |0,[],s,K | 0,none::r,s,K | 0,some ⟨.val,_⟩::r,s,K | 0,some ⟨.own,_⟩::r,s,K | 0,some ⟨.par,_⟩::r,s,K | 0,some ⟨.lent,_⟩::r,s,K|n+1,[],s,K=>rfl
 | n+1,o::r,s,K=>by
   show PK n r s (λa=>K (o::a))=_;rw[Jq n r s _,aO,aO,Yl,List.set_cons_succ];rfl
def MK:Nat->Sg->FM->List D->(D->Sg->Prop)->Prop
 |0,some ⟨.own,d⟩::r,f,ds,K=>dY (f d ds) λy=>K y.2 (some ⟨.own,y.1⟩::r)
 |0,some ⟨.par,d⟩::r,f,ds,K=>dY (f d ds) λy=>K y.2 (some ⟨.par,y.1⟩::r)
 |n+1,o::r,f,ds,K=>MK n r f ds λe a=>K e (o::a)
 |_,_,_,_,_=>False
def Nn:∀(n:Nat) (r:Sg) (f:FM) (a:List D) (K:D->Sg->Prop),MK n r f a K=dY (Df f n a r) λx=>dY (match x.1 with|.val d=>some d|_=>none) λd=>K d x.2
:=by
 intro n r f ds K
 induction n generalizing r K with
 | zero=>
   cases r with|nil=>rfl|cons o r=>
   cases o with|none=>rfl|some s=>
   obtain⟨m,d⟩:=s;cases m with
   |val|lent=>rfl
   | own=>
     show dY (f d ds) _=dY ((f d ds).bind λy=>some (hQ.val y.2,some (⟨.own,y.1⟩:Sl)::r)) _;rw[aE];rfl
   | par=>
     show dY (f d ds) _=dY ((f d ds).bind λy=>some (hQ.val y.2,some (⟨.par,y.1⟩:Sl)::r)) _;rw[aE];rfl
 | succ n i=>
   cases r with|nil=>rfl|cons o r=>
   show MK n r f ds (λe r'=>K e (o::r'))=_;rw[i r _];unfold Df;rw[EJ];cases q:r[n]? with
   |none=>rfl
   | some x=>cases x with
     |none=>rfl
     | some s=>
       dsimp only;by_cases hm:s.m.mt=true;rw[fI hm,fI hm,aE,aE];rfl;rw[gX hm,gX hm];rfl
def TK:String->Nat->Sg->Prop->Prop
 |T,0,some ⟨.own,d⟩::_,P|T,0,some ⟨.par,d⟩::_,P|T,0,some ⟨.lent,d⟩::_,P=>Eu T d=true/\P
 |T,n+1,_::r,P=>TK T n r P
 |_,_,_,_=>False
def Jr:False=(false=true/\P):=propext ⟨elim,λh=>nomatch h.1⟩
def Js(T:String)(n:Nat)(r:Sg)(P:Prop):TK T n r P=(EY T n r=true/\P):=by
 induction n generalizing r with
 | zero=>
   cases r with
   |nil=>exact Jr
   | cons o r=>
     cases o with
     |none=>exact Jr
     |some s=>obtain⟨m,d⟩:=s;cases m<;>first|rfl|exact Jr
 | succ n i=>
   cases r with
   |nil=>exact Jr
   |cons o r=>exact i r
theorem Np:RE (dC d) Z Q=Q (.val d) Z:=rfl
theorem uK{τ:Sg}:RE (aC i) (ω::τ) Q=Fc i (ω::τ) i (ω::τ) Q:=(Yk i (ω::τ) i (ω::τ) Q).symm
theorem uL{r:Sg}:Fc (n+1) (o::r) i Z Q=Fc n r i Z Q:=rfl
theorem uM{r:Sg}:Fc 0 (some ⟨.val,d⟩::r) i Z Q=Q (.val d) Z:=rfl
theorem uN{r:Sg}:Fc 0 (some ⟨.own,d⟩::r) i Z Q=Q (.slot i) Z:=rfl
theorem Ym{r:Sg}:Fc 0 (some ⟨.par,d⟩::r) i Z Q=Q (.slot i) Z:=rfl
theorem Nq{τ:Sg}:RE (aK f a b) (ω::τ) Q=RE a (ω::τ) λx g=>RE b g λy c=>RD c x λd=>RD c y λe=>dY (f d e) λr=>Q r c:=by
 unfold RE aK RD;simp only[aE,aW]
theorem Yn{τ:Sg}:RE (De f1 a) (ω::τ) Q=RE a (ω::τ) λx b=>RD b x λd=>dY (f1 d) λr=>Q r b:=by
 unfold RE De RD;simp only[aE,aW]
theorem Nr:RD Z (.val d) K=K d:=rfl
theorem uO:RD Z (.own d) K=K d:=rfl
theorem Nt{τ:Sg}:RD (ω::τ) (.slot i) K=GK i (ω::τ) K:=(Nm i (ω::τ) K).symm
theorem uP{r:Sg}:GK 0 (some ⟨m,d⟩::r) K=K d:=rfl
theorem uQ{r:Sg}:GK (n+1) (o::r) K=GK n r K:=rfl
theorem Nu{τ:Sg}:RT (dE a) (ω::τ) QT=RE a (ω::τ) λx c=>RD c x λd=>dY (match d with|.bl b=>some b|_=>none) λb=>QT b c:=by
 unfold RT RE dE RD;simp only[aE];congr 1;funext x;congr 1;funext d;cases d<;>rfl
theorem Yo{τ:Sg}:RT (GJ a) (ω::τ) QT=RE a (ω::τ) λx c=>RD c x λd=>dY (Kw d) λb=>QT b c:=by
 unfold RT RE GJ RD;simp only[aE,aW]
theorem Yp{τ:Sg}:RT (FO t u) (ω::τ) QT=RT t (ω::τ) λb a=>if b=true then RT u a QT else QT false a:=by
 unfold RT FO;simp only[aE];congr 1;funext x;by_cases h:x.1=true<;>simp[h,dY]
theorem Yq{τ:Sg}:RT (GL t u) (ω::τ) QT=RT t (ω::τ) λb a=>if b=true then QT true a else RT u a QT:=by
 unfold RT GL;simp only[aE];congr 1;funext x;by_cases h:x.1=true<;>simp[h,dY]
theorem Yr{τ:Sg}:RT (Ic t) (ω::τ) QT=RT t (ω::τ) λb a=>QT (!b) a:=by
 unfold RT Ic;simp only[aE,aW]
theorem nT:RT fS Z QT=QT true Z:=rfl
theorem xF{τ:Sg}:RE (GP a b) (ω::τ) Q=RT (dE a) (ω::τ) λt c=>if t=true then RE b c Q else Q (.val (.bl false)) c:=by
 unfold RT RE GP;simp only[aE];congr 1;funext x;by_cases h:x.1=true<;>simp[h,dY]
theorem Ys{τ:Sg}:RE (GQ t a b) (ω::τ) Q=RT t (ω::τ) λt c=>if t=true then RE a c Q else RE b c Q:=by
 unfold RT RE GQ;simp only[aE];congr 1;funext x;by_cases h:x.1=true<;>simp[h]
theorem Nv:RA aH Z QA=QA [] Z:=rfl
theorem rA{τ:Sg}:RA (aB a ra) (ω::τ) QA=RE a (ω::τ) λx b=>RA ra b λxs c=>QA (x::xs) c:=by
 unfold RA RE aB;simp only[aE,aW]
def Eb(Z:Sg)(rs:List hQ)(K:List D->Prop):Prop:=dY (FP Z rs) K
def Dj(rs:List hQ)(K:List D->Prop):Prop:=dY (vals rs) K
theorem rB:Eb Z [] K=K []:=rfl
theorem rC{τ:Sg}:Eb (ω::τ) (x::xs) K=RD (ω::τ) x λd=>Eb (ω::τ) xs λa=>K (d::a):=by
 show dY ((rd (ω::τ) x).bind λd=>(FP (ω::τ) xs).bind λa=>some (d::a)) K=_;unfold Eb RD;simp only[aE,aW]
theorem Nw:Dj [] K=K []:=rfl
theorem Nx:Dj (.val d::xs) K=Dj xs λa=>K (d::a):=by
 show dY ((vals xs).bind λa=>some (d::a)) K=_;unfold Dj;simp only[aE,aW]
theorem KL{τ:Sg}:RE (hR fn ra) (ω::τ) Q=RA ra (ω::τ) λxs a=>Eb a xs λb=>dY (fn b) λr=>Q r a:=by
 unfold RE RA Eb hR;simp only[aE,aW]
theorem Ny{τ:Sg}:RE (DD ra) (ω::τ) Q=RA ra (ω::τ) λxs a=>Dj xs λb=>b.length<=sizeLine/\Q (.val (.tup b)) a:=by
 unfold RE RA Dj DD;simp only[aE,aO,aW]
theorem Nz{τ:Sg}:RE (iR ra) (ω::τ) Q=RA ra (ω::τ) λxs a=>Dj xs λb=>b.length<=sizeLine/\Q (.own (.lst b)) a:=by
 unfold RE RA Dj iR;simp only[aE,aO,aW]
def FK(r:hQ)(Z:Sg)(K:D->Sg->Prop):Prop:=dY (MR Z r) λx=>K x.1 x.2
def FY:Nat->Sg->(D->Sg->Prop)->Prop
 |0,some ⟨.own,d⟩::r,K | 0,some ⟨.val,d⟩::r,K=>K d (some ⟨.val,d⟩::r)
 |n+1,o::r,K=>FY n r λd a=>K d (o::a)
 |_,_,_=>False
def Yt:∀ (n:Nat) (r:Sg) (K:D->Sg->Prop),FY n r K=FK (.slot n) r K:=by
 intro n r K
 induction n generalizing r K with
 |zero=>cases r with|nil=>rfl|cons o r=>cases o with|none=>rfl|some s=>obtain⟨m,d⟩:=s;cases m<;>rfl
 | succ n i=>
   cases r with|nil=>rfl|cons o r=>
   show FY n r (λd c=>K d (o::c))=_;rw[i r _];show dY (match r[n]? with|some (some s)=>if s.m=.own then some (s.d,r.set n (some ⟨.val,s.d⟩))else if s.m=.val then some (s.d,r)else none|_=>none) _ =
    dY (match (o::r)[n+1]? with|some (some s)=>if s.m=.own then some (s.d,(o::r).set (n+1) (some ⟨.val,s.d⟩))else if s.m=.val then some (s.d,o::r)else none|_=>none) _
   rw[EJ];cases r[n]? with
   |none=>rfl
   | some x=>cases x with
     |none=>rfl
     | some s=>
       dsimp only;by_cases a:s.m=.own;rw[fI a,fI a];rfl;rw[gX a,gX a];by_cases b:s.m=.val;rw[fI b,fI b];rfl;rw[gX b,gX b];rfl
theorem NA{τ:Sg}:RE (iB a) (ω::τ) Q=RE a (ω::τ) λx b=>FK x b λd c=>Q (.val d) c:=by
 unfold RE iB FK;simp only[aE,aW]
theorem NB:FK (.val d) Z K=K d Z:=rfl
theorem NC:FK (.own d) Z K=K d Z:=rfl
theorem ND{τ:Sg}:FK (.slot i) (ω::τ) K=FY i (ω::τ) K:=(Yt i (ω::τ) K).symm
theorem NF{r:Sg}:FY 0 (some ⟨.own,d⟩::r) K=K d (some ⟨.val,d⟩::r):=rfl
theorem NG{r:Sg}:FY (n+1) (o::r) K=FY n r λd a=>K d (o::a):=rfl
theorem rD:RS eJ Z QS=QS (.nx Z):=rfl
def Jt(y:DS)(QS:Cc->Prop):Cc->Prop
 |.nx Z=>RS y Z QS
 |o=>QS o
def NH:RS (aS x y) Z QS=RS x Z (Jt y QS):=by
 unfold RS aS;rw[aE];congr 1;funext o;cases o<;>rfl
theorem pO{τ:Sg}:RS (aS x y) (ω::τ) QS=RS x (ω::τ) (Jt y QS):=NH
theorem gQ{τ:Sg}:Jt y QS (.nx (ω::τ))=RS y (ω::τ) QS:=rfl
theorem Yu:Jt y QS (.rt v Z)=QS (.rt v Z):=rfl
theorem rE{τ:Sg}:RS (gK a) (ω::τ) QS=RE a (ω::τ) λ_ b=>QS (.nx b):=by unfold RS RE gK;simp only[aE,aW]
theorem NI{τ:Sg}:RS (gO a) (ω::τ) QS=RE a (ω::τ) λx b=>QS (.rt x b):=by unfold RS RE gO;simp only[aE,aW]
theorem NJ{τ:Sg}:RS (jL t x y) (ω::τ) QS=RT t (ω::τ) λb a=>if b=true then RS x a QS else RS y a QS:=by
 unfold RS RT jL;simp only[aE];congr 1;funext z;by_cases h:z.1=true<;>simp[h]
def PtK(i:Nat)(r:hQ)(Z:Sg)(K:Sg->Prop):Prop:=dY (MV i r Z) K
theorem uR{τ:Sg}:RS (bD i a) (ω::τ) QS=RE a (ω::τ) λx b=>PtK i x b λc=>QS (.nx c):=by unfold RS RE PtK bD;simp only[aE,aW]
theorem NK{τ:Sg}:PtK i (.val d) (ω::τ) K=PK i (ω::τ) ⟨.val,d⟩ K:=(Jq i (ω::τ) _ K).symm
theorem NL{τ:Sg}:PtK i (.own d) (ω::τ) K=PK i (ω::τ) ⟨.own,d⟩ K:=(Jq i (ω::τ) _ K).symm
theorem NM{r:Sg}:PK 0 (none::r) s K=K (some s::r):=rfl
theorem uT{r:Sg}:PK 0 (some ⟨.val,d⟩::r) s K=K (some s::r):=rfl
theorem NN{r:Sg}:PK 0 (some ⟨.own,d⟩::r) s K=K (some s::r):=rfl
theorem uU{r:Sg}:PK (n+1) (o::r) s K=PK n r s λa=>K (o::a):=rfl
theorem xG{τ:Sg}:RE (wZ T i b) (ω::τ) Q=TK T i (ω::τ) (MK i (ω::τ) b [] λd a=>Q (.val d) a):=by
 rw[Js,Nn];unfold RE wZ;rw[aO];congr 1;apply propext;rw[cU,cU];constructor;rintro⟨⟨x,s⟩,e,q⟩;obtain⟨_,_,_,_,_,_,rfl,_⟩:=fK e;exact⟨_,e,q⟩;rintro⟨⟨x,s⟩,e,q⟩;obtain⟨_,_,_,_,_,_,rfl,_⟩:=fK e;exact⟨_,e,q⟩
theorem Ju{Q:hQ->Sg->Prop}:dY (Df b i c Z) (λx=>Q x.1 x.2)=MK i Z b c λd a=>Q (.val d) a:=by
 rw[Nn];apply propext;rw[cU,cU];constructor;rintro⟨⟨x,s⟩,e,q⟩;obtain⟨_,_,_,_,_,_,rfl,_⟩:=fK e;exact⟨_,e,q⟩;rintro⟨⟨x,s⟩,e,q⟩;obtain⟨_,_,_,_,_,_,rfl,_⟩:=fK e;exact⟨_,e,q⟩
theorem rF{τ:Sg}:RE (fD T i c ra) (ω::τ) Q=TK T i (ω::τ) (RA ra (ω::τ) λxs a=>Dj xs λe=>MK i a c e λd b=>Q (.val d) b):=by
 rw[Js];unfold RE fD RA Dj;rw[aO];simp only[aE,Ju]
theorem xH{τ:Sg}:RE (qT T i c ra) (ω::τ) Q=TK T i (ω::τ) (RA ra (ω::τ) λxs a=>Eb a xs λe=>MK i a c e λd b=>Q (.val d) b):=by
 rw[Js];unfold RE qT RA Eb;rw[aO];simp only[aE,Ju]
theorem NO{r:Sg}:TK T 0 (some ⟨.own,d⟩::r) P=(Eu T d=true/\P):=rfl
theorem Yv{r:Sg}:TK T 0 (some ⟨.par,d⟩::r) P=(Eu T d=true/\P):=rfl
theorem NP{r:Sg}:TK T (n+1) (o::r) P=TK T n r P:=rfl
theorem NQ{r:Sg}:MK 0 (some ⟨.own,d⟩::r) a b K=dY (a d b) λy=>K y.2 (some ⟨.own,y.1⟩::r):=rfl
theorem Yw{r:Sg}:MK 0 (some ⟨.par,d⟩::r) a b K=dY (a d b) λy=>K y.2 (some ⟨.par,y.1⟩::r):=rfl
theorem NR{r:Sg}:MK (n+1) (o::r) a b K=MK n r a b λe c=>K e (o::c):=rfl
theorem Yx{τ:Sg}:RS (FW i a b) (ω::τ) QS=RE b (ω::τ) λx c=>dY (match x with | .val d=>some d | _=>none) λd=>TK "list" i c (RE a c λy f=>RD f y λg=>dY (match g with | .int k=>some k | _=>none) λk=>
  MK i f (λa _=>(Jp k d a).map λb=>(b,.non)) [] λ_ e=>QS (.nx e)):=by
 unfold RS RE RD FW;rw[aE];congr 1;funext x;obtain⟨x,c⟩:=x;cases x with
 |own d|slot d=>rfl
 | val d=>
   show dY _ _=TK _ _ _ _;rw[Js];rw[aO];simp only[aE];congr 1;congr 1;funext y;congr 1;funext g;cases g with
   | int k=>
     rw[aE];show _=MK _ _ _ _ _;rw[← Ju (Q:=λ_ e=>QS (.nx e))];rfl
   |_=>rfl
theorem Yy{τ:Sg}:RS (FU g a) (ω::τ) QS=RE a (ω::τ) λx b=>dY (match x with | .val d=>some d | _=>none) λd=>dY (g d b) λc=>QS (.nx c):=by
 unfold RS RE FU;rw[aE];congr 1;funext x;obtain⟨x,b⟩:=x;cases x with
 |own d|slot d=>rfl
 | val d=>
   rw[aE];rfl
theorem KN{τ:Sg}:dY (hC i d (ω::τ)) K=PK i (ω::τ) ⟨.val,d⟩ K:=(Jq i (ω::τ) _ K).symm
theorem nU{τ:Sg}:dY (cT n a (.tup l) (ω::τ)) K=(l.length=n/\dY (a l (ω::τ)) K):=by
 show dY (if l.length=n then a l (ω::τ)else none) K=_;rw[aO]
theorem kW{τ:Sg}:dY (aL g b (d::l) (ω::τ)) K=dY (g d (ω::τ)) λa=>dY (b l a) K:=by
 show dY ((g d (ω::τ)).bind λa=>b l a) K=_;rw[aE]
theorem nV:dY (dJ [] Z) K=K Z:=rfl
theorem Yz{τ:Sg}:RS (GR i j ra) (ω::τ) QS=RA ra (ω::τ) λxs a=>Dj xs λds=>dY (match ds with|[d,e]=>some (d,e)|_=>none) λp=>(fE a i=true/\fE a j=true/\i≠j)/\QS (.nx ((a.set i (some ⟨.val,p.1⟩)).set j (some ⟨.val,p.2⟩))):=by
 unfold RS RA Dj GR;simp only[aE];congr 1;funext x;congr 1;funext ds
 match ds with
 |[]|[_]=>rfl
 |[d,e]=>rw[aO];rfl
 |_::_::_::_=>rfl
def CK(run:Aa4)(as:List Sl)(K:hQ->List Sl->Prop):Prop:=dY (run as) λy=>K y.1 y.2
def AK(Z:Sg)(rs:List hQ)(K:List Sl->Prop):Prop:=dY (pL Z rs) K
def A1(Z:Sg)(r:hQ)(K:Sl->Prop):Prop:=dY (xD Z r) K
def HK:Nat->Sg->(Sl->Prop)->Prop
 |0,some ⟨m,d⟩::_,K=>K ⟨if m.mt=true then .par else m,d⟩
 |n+1,_::r,K=>HK n r K
 |_,_,_=>False
theorem NS:∀ (n:Nat) (r:Sg) (K:Sl->Prop),HK n r K=A1 r (.slot n) K
 |0,[],_ | 0,none::_,_ | 0,some s::_,_|n+1,[],_=>rfl
 | n+1,_::r,K=>by
   show HK n r K=_;rw[NS n r K];rfl
def UK:Nat->Sg->D->(Sg->Prop)->Prop
 |0,some ⟨.own,_⟩::r,d,K=>K (some ⟨.own,d⟩::r)
 |0,some ⟨.par,_⟩::r,d,K=>K (some ⟨.par,d⟩::r)
 |0,o::r,_,K=>K (o::r)
 |n+1,o::r,d,K=>UK n r d λa=>K (o::a)
 |_,[],_,K=>K []
def uS(Z:Sg)(i:Nat)(d:D):Sg:=match Z[i]? with
 |some (some s)=>if s.m.mt=true then Z.set i (some ⟨s.m,d⟩)else Z
 |_=>Z
theorem NT:∀ (n:Nat) (r:Sg) (d:D) (K:Sg->Prop),UK n r d K=K (uS r n d)
 |0,[],_,_|n+1,[],_,_ | 0,none::r,d,K | 0,some ⟨.val,_⟩::r,d,K | 0,some ⟨.own,_⟩::r,d,K | 0,some ⟨.par,_⟩::r,d,K | 0,some ⟨.lent,_⟩::r,d,K=>rfl
 | n+1,o::r,d,K=>by
   show UK n r d (λa=>K (o::a))=_;rw[NT n r d _];unfold uS;rw[EJ];cases r[n]? with
   |none=>rfl
   | some x=>cases x with
     |none=>rfl
     | some s=>
       grind
def sB:List hQ->List Sl->Sg->Sg
 |.slot i::rs,a::as,Z=>sB rs as (uS Z i a.d)
 |_::rs,_::as,Z=>sB rs as Z
 |_,_,Z=>Z
def YA:(uS Z i d)[j]? = (Z[j]?).map λo=>if j=i then(match o with | some s=>some (if s.m.mt=true then⟨s.m,d⟩else s) | none=>none)else o:=by
 unfold uS;by_cases hj:j=i
 ·subst hj;cases h:Z[j]? with
  |none=>rw[h];rfl
  | some o=>
    cases o with
    |none=>simp_all
    | some s=>
      dsimp only;by_cases hm:s.m.mt=true;rw[fI hm,Bo (sS.mp h).1];simp[hm]
      simp_all
 ·have:∀ x:Option Sl,(Z.set i x)[j]? = Z[j]?:=λx=>Ac (iA hj);split
  ·split
   ·simp_all
   simp
  simp_all
theorem KO:∀ (rs:List hQ) (as:List Sl) (Z:Sg) (j:Nat),eG rs=true->(sB rs as Z)[j]? = (Z[j]?).map (kU rs as j)
 |[],as,Z,j,_=>by cases as<;>(show Z[j]?=_;cases Z[j]? with|none=>rfl|some o=>cases o<;>simp[kU,iX])
 |r::rs,[],Z,j,_=>by cases r<;>(show Z[j]?=_;cases Z[j]? with|none=>rfl|some o=>cases o<;>simp[kU,iX])
 |.val d::rs,a::as,Z,j,h|.own d::rs,a::as,Z,j,h=>KO rs as Z j h
 | .slot i::rs,a::as,Z,j,h=>by
   have h':eG rs=true/\Ez i rs=false:=by
    unfold eG at h
    lia
   show(sB rs as (uS Z i a.d))[j]?=_;rw[KO rs as _ j h'.1,YA];cases Z[j]? with
   |none=>rfl
   | some o=>
     cases o with
     |none=>by_cases hj:j=i<;>simp[kU,hj]
     | some s=>
       by_cases hj:j=i
       ·subst hj;have c:iX j rs as=none:=by
         cases q:iX j rs as with
         |none=>rfl
         | some b=>
           obtain⟨k,e,_⟩:=fO q;rw[mX e]at h';lia
        simp[kU,c,iX]
       ·have:¬i=j:=λz=>hj z.symm;simp[kU,hj,iX,this]
def NU(h:eG rs=true):iY rs as 0 Z=sB rs as Z:=by
 apply Fy;intro j;rw[iZ,KO rs as Z j h,Bq]
def BK(rs:List hQ)(as:List Sl)(Z:Sg)(K:Sg->Prop):Prop:=K (sB rs as Z)
def Jv(as:List Sl)(K:hQ->List Sl->Prop):Cc->Prop
 |.nx Z=>K (.val .non) (qX as Z)
 |.rt r Z=>dY (Jl Z r) λa=>K a (qX as Z)
 |_=>False
theorem rG{τ:Sg}{run:Aa4}:RE (aF n run ra) (ω::τ) Q=RA ra (ω::τ) λrs a=>AK a rs λas=>(as.length=n/\eG rs=true)/\CK run as λy as'=>BK rs as' a λb=>Q y b:=by
 unfold RE RA AK CK aF;simp only[aE,aO,aW];congr 1;funext x;congr 1;funext as;apply propext;constructor;rintro⟨h,q⟩;refine⟨h,bQ q λy q=>?_⟩;unfold BK;rw[← NU h.2];exact q;rintro⟨h,q⟩;refine⟨h,bQ q λy q=>?_⟩;unfold BK at q;rw[← NU h.2]at q;exact q
theorem NW:BK [] as Z K=K Z:=rfl
theorem NX:BK (.val d::rs) (a::as) Z K=BK rs as Z K:=rfl
theorem YB:BK (.own d::rs) (a::as) Z K=BK rs as Z K:=rfl
theorem YC{τ:Sg}:BK (.slot i::rs) (⟨m,d⟩::as) (ω::τ) K=UK i (ω::τ) d λσ'=>BK rs as σ' K:=by
 rw[NT];rfl
theorem YD{r:Sg}:UK 0 (some ⟨.own,e⟩::r) d K=K (some ⟨.own,d⟩::r):=rfl
theorem YE{r:Sg}:UK 0 (some ⟨.par,e⟩::r) d K=K (some ⟨.par,d⟩::r):=rfl
theorem YF{r:Sg}:UK (n+1) (o::r) d K=UK n r d λa=>K (o::a):=rfl
def bF:CK (jM len b) as K=RS b (Ey len as) (Jv as K):=by
 unfold CK RS jM;rw[aE];congr 1;funext o;cases o with
 |rt x s=>rw[aE];rfl
 |_=>rfl
def FZ:Nat->Sg->(hQ->Prop)->Prop
 |0,some ⟨.own,d⟩::_,K=>K (.own d)
 |0,some ⟨.val,d⟩::_,K=>K (.val d)
 |n+1,_::r,K=>FZ n r K
 |_,_,_=>False
theorem NY:∀ (n:Nat) (r:Sg) (K:hQ->Prop),FZ n r K=dY (Jl r (.slot n)) K
 |0,[],_ | 0,none::_,_ | 0,some ⟨.val,_⟩::r,K | 0,some ⟨.own,_⟩::r,K | 0,some ⟨.par,_⟩::r,K | 0,some ⟨.lent,_⟩::r,K|n+1,[],_=>rfl
 | n+1,o::r,K=>by
   show FZ n r K=_;rw[NY n r K];rfl
theorem xI:Jv as K (.rt (.val d) Z)=K (.val d) (qX as Z):=rfl
theorem rH:Jv as K (.rt (.own d) Z)=K (.own d) (qX as Z):=rfl
theorem xJ{τ:Sg}:Jv as K (.rt (.slot i) (ω::τ))=FZ i (ω::τ) λr=>K r (qX as (ω::τ)):=(NY i (ω::τ) _).symm
theorem YG{r:Sg}:FZ 0 (some ⟨.own,d⟩::r) KR=KR (.own d):=rfl
theorem YH{r:Sg}:FZ (n+1) (o::r) KR=FZ n r KR:=rfl
theorem rJ:qX [] Z=[]:=rfl
theorem rK{r:Sg}:qX (⟨.val,d⟩::as) (some s::r)=⟨.val,d⟩::qX as r:=rfl
theorem xK{r:Sg}:qX (⟨.par,d⟩::as) (some s::r)=s::qX as r:=rfl
theorem NZ:AK Z [] K=K []:=rfl
theorem Oa{τ:Sg}:AK (ω::τ) (x::xs) K=A1 (ω::τ) x λa=>AK (ω::τ) xs λas=>K (a::as):=by
 show dY ((xD (ω::τ) x).bind λa=>(pL (ω::τ) xs).bind λas=>some (a::as)) K=_;unfold AK A1;simp only[aE,aW]
theorem Ob:A1 Z (.val d) K=K ⟨.val,d⟩:=rfl
theorem YI:A1 Z (.own d) K=K ⟨.par,d⟩:=rfl
theorem YJ{τ:Sg}:A1 (ω::τ) (.slot i) K=HK i (ω::τ) K:=(NS i (ω::τ) K).symm
theorem YK{r:Sg}:HK 0 (some ⟨.own,d⟩::r) K=K ⟨.par,d⟩:=rfl
theorem YL{r:Sg}:HK 0 (some ⟨.par,d⟩::r) K=K ⟨.par,d⟩:=rfl
theorem YM{r:Sg}:HK (n+1) (o::r) K=HK n r K:=rfl
def YN{τ:Sg}:RS (mR ri g b) (ω::τ) QS=RI ri (ω::τ) λitems l a=>dY (EZ g b items (lendO l a)) λo=>QS (zZ l a o):=by
 unfold RS RI mR;simp only[aE,aW]
theorem KP{τ:Sg}:RI (Az a) (ω::τ) K=RE a (ω::τ) λx b=>RD b x λd=>dY (pI d) λl=>K l (match x with|.slot i=>some i|_=>none) b:=by
 unfold RI RE RD Az;simp only[aE,aW];try rfl
def Oc:List D->Option (List D)
 |[.int j]=>if -(2^62)<=j/\j<2^62 then some (Di 0 j.toNat)else none
 |[.int i,.int j]=>if(-(2^62)<=i/\i<2^62) /\ -(2^62)<=j/\j<2^62 then some (Di i (j-i).toNat)else none
 |_=>none
theorem Od{τ:Sg}:RI (wD ra) (ω::τ) K=RA ra (ω::τ) λxs a=>Eb a xs λds=>dY (Oc ds) λl=>K l none a:=by
 unfold RI RA Eb wD;simp only[aE];congr 1;funext x;congr 1;funext ds
 match ds with
 |[]=>rfl
 |[.int j]=>show dY (if -(2^62)<=j/\j<2^62 then _ else none) _=dY (if -(2^62)<=j/\j<2^62 then _ else none) _;rw[aO,aO];rfl
 |[.int i,.int j]=>show dY (if(-(2^62)<=i/\i<2^62) /\ -(2^62)<=j/\j<2^62 then _ else none) _=dY (if(-(2^62)<=i/\i<2^62) /\ -(2^62)<=j/\j<2^62 then _ else none) _;rw[aO,aO];rfl
 |[.non]|[.bl _]|[.str _]|[.tup _]|[.lst _]|[.dic _ _]|.non::_::_|.bl _::_::_|.str _::_::_|.tup _::_::_|.lst _::_::_|.dic _ _::_::_|.int _::.non::_|.int _::.bl _::_|.int _::.str _::_|.int _::.tup _::_|.int _::.lst _::_|.int _::.dic _ _::_|.int _::.int _::_::_=>rfl
theorem rL:dY (Oc [.int j]) K=((-(2^62)<=j/\j<2^62)/\K (Di 0 j.toNat)):=by
 show dY (if -(2^62)<=j/\j<2^62 then some (Di 0 j.toNat)else none) K=_;rw[aO];rfl
def YO(P:Nat->Sg->Prop)(h0:P 0 Z)(hs:∀i d Z,items[i]?=some d->P i Z->dY (g d Z) λc=>RS b c λo=>∃a,(o=.nx a\/o=.ct a)/\P (i+1) a)(k:∀σ',P items.length σ'->K (.nx σ')):dY (EZ g b items Z) K:=by
 induction items generalizing P Z with
 |nil=>exact k Z h0
 | cons d r f=>
   show dY ((g d Z).bind _) K;rw[aE];refine bQ (hs 0 d Z rfl h0) λc h=>?_;rw[aE];refine bQ h λo j=>?_;obtain⟨a,l,m⟩:=j;have go:dY (EZ g b r a) K:=f (λi=>P (i+1)) m (λi d Z e p=>hs (i+1) d Z (by simp_all) p) λσ' p=>k σ' (by simp_all);rcases l with rfl|rfl;exact go
   simp_all
theorem pP(P:Nat->Sg->Prop)(hs:∀ m Z,P m Z->RT c Z λt d=>if t=true then RS b d λo=>(∃ a m',(o=.nx a\/o=.ct a)/\m' < m/\P m' a)\/(∃ x a,o=.rt x a/\K (.rt x a))\/(∃ a,o=.bk a/\K (.nx a))else K (.nx d)) :
  ∀(n m:Nat) (Z:Sg),m<n->P m Z->dY (mG c b n Z) K
 |0,m,Z,h,_=>by lia
 | n+1,m,Z,h,p=>by
   show dY ((c Z).bind _) K;rw[aE];refine bQ (hs m Z p) λx e=>?_;dsimp only at e;by_cases f:x.1=true
   ·rw[fI f]at e ⊢;rw[aE];refine bQ e λo g=>?_;rcases g with⟨a,m',i,hm,j⟩ | ⟨x,a,rfl,q⟩ | ⟨a,rfl,q⟩
    ·have go:=pP P hs n m' a (by lia) j;rcases i with rfl|rfl;exact go
     simp_all
    ·exact q
    ·exact q
   ·rw[gX f]at e ⊢;exact e
def YP(P:Nat->Sg->Prop)(m:Nat)(hm:m<1000000)(h0:P m Z)(hs:∀m Z,P m Z->RT c Z λt d=>if t=true then RS b d λo=>(∃a m',(o=.nx a\/o=.ct a)/\m' < m/\P m' a)\/(∃x a,o=.rt x a/\QS (.rt x a))\/(∃a,o=.bk a/\QS (.nx a))else QS (.nx d)):dY (mG c b GU Z) QS:=
 pP P hs GU m Z (Ax hm Xa) h0
def YQ{τ:Sg}:RE (bY ow ri g t e) (ω::τ) Q=RI ri (ω::τ) λitems l a=>items.length<=sizeLine/\dY (xB ow g t e items (aX ow (lendO l a))) λy=>Q (.own (.lst y.1)) (wC l a (jS ow (lendO l a) y.2)):=by
 unfold RE RI bY;simp only[aE,aO,aW]
def YR(items:List D):∀ (τ:Sg) (P:Nat->List D->Sg->Prop),P 0 [] τ ->
  (∀i d acc τ,items[i]?=some d->P i acc τ->dY (g d τ) λc=>RT t c λb f=>if b=true then RE e f λr l=>∃v,r=.val v/\P (i+1) (acc++[v]) (aX ow l)else P (i+1) acc (aX ow f)) ->
  (∀acc τ,P items.length acc τ->K (acc,τ))->dY (xB ow g t e items τ) K:=by
 induction items generalizing K with
 |nil=>exact λτ P h0 _ k=>k [] τ h0
 | cons d r m=>
   intro τ P h0 hs k;show dY ((g d τ).bind _) K;rw[aE];refine bQ (hs 0 d [] τ rfl h0) λc o=>?_;rw[aE];refine bQ o λx h=>?_;dsimp only at h;by_cases n:x.1=true;rw[fI n]at h ⊢;rw[aE];refine bQ h λy q=>?_;obtain⟨v,s,p⟩:=q;rw[s];rw[aE];exact m _ (λi acc τ=>P (i+1) (v::acc) τ) p (λi d' acc a u j=>by simpa using hs (i+1) d' (v::acc) a (by simp_all) j) λacc a j=>k (v::acc) a (by simp_all);rw[gX n]at h ⊢;exact m _ (λi acc τ=>P (i+1) acc τ) h (λi d' acc a u j=>hs (i+1) d' acc a (by simp_all) j) λacc a j=>k acc a (by simp_all)
theorem YS:dY (jT (.int i) (.int j)) K=K (.val (.int (i+j))):=rfl
theorem xL:dY (jT (.lst l) (.lst m)) K=(l.length+m.length<=sizeLine/\K (.own (.lst (l++m)))):=by
 show dY (if l.length+m.length<=sizeLine then some (hQ.own (.lst (l++m)))else none) K=_;rw[aO];rfl
theorem xM:dY (jT (.str x) (.str y)) K=(x.length+y.length<=sizeLine/\K (.val (.str (x++y)))):=by
 show dY (if x.length+y.length<=sizeLine then some (hQ.val (.str (x++y)))else none) K=_;rw[aO];rfl
theorem YT:dY (GY (.int i) (.int j)) K=K (.val (.int (i-j))):=rfl
theorem YU:dY (tG (.int i) (.int j)) K=(oQ i j/\K (.val (.int (i*j)))):=@aO _ (oQ i j) (Classical.propDecidable _) _ _
theorem YV:dY (FX (.int i) (.int j)) K=(He i j/\K (.val (.int (i / j)))):=@aO _ (He i j) (Classical.propDecidable _) _ _
theorem YW:dY (CJ (.int i) (.int j)) K=(0<j/\K (.val (.int (i % j)))):=@aO _ (0<j) (Classical.propDecidable _) _ _
theorem YX:dY (Jn (.int i) (.int j)) K=(Gv i j/\K (.val (.int (i^j.toNat)))):=@aO _ (Gv i j) (Classical.propDecidable _) _ _
theorem YY:dY (GZ (.int i) (.int j)) K=K (.val (.bl (decide (i<j)))):=rfl
theorem YZ:dY (CL (.int i) (.int j)) K=K (.val (.bl (decide (j<i)))):=rfl
theorem Za:dY (Jo (.int i) (.int j)) K=K (.val (.bl (decide (j<=i)))):=rfl
theorem Zb:dY (Kz (.int i)) K=K (.val (.int (-i))):=rfl
theorem Zc:dY (sL (.lst l) (.int i)) K=dY (atI l i) λd=>K (.val d):=by
 show dY ((atI l i).map hQ.val) K=_;rw[uJ]
theorem Oe:dY (sL (.tup l) (.int i)) K=dY (atI l i) λd=>K (.val d):=by
 show dY ((atI l i).map hQ.val) K=_;rw[uJ]
theorem rM:dY (lL [.lst l]) K=K (.val (.int l.length)):=rfl
theorem xN:dY (lL [.tup l]) K=K (.val (.int l.length)):=rfl
theorem xO:dY (FV [.bl b]) K=K (.val (.int (if b then 1 else 0))):=rfl
theorem Zd:dY (Hc [.int i,.int j]) K=K (.val (.int (if j > i then j else i))):=rfl
theorem Ze:dY (oR [.int i,.int j]) K=K (.val (.int (if j<i then j else i))):=rfl
theorem xP:dY (oS [.lst l]) K=K (.own (.lst l)):=rfl
theorem rN:dY (oS [.tup l]) K=K (.own (.lst l)):=rfl
theorem Of:dY (pN [.lst l]) K=K (.val (.tup l)):=rfl
theorem Zf:dY (Av false (.int i) (.int j)) K=K (.val (.bl (decide (i=j)))):=rfl
theorem Zg:dY ((Jp k e (.lst l)).map λb=>(b,D.non)) K=dY (AH l.length k) λj=>K (.lst (l.set j e),.non):=by
 show dY (((AH l.length k).map λj=>D.lst (l.set j e)).map λb=>(b,D.non)) K=_;rw[uJ,uJ]
theorem Og:dY (Cy (.lst l) [e]) K=(l.length<sizeLine/\K (.lst (l++[e]),.non)):=by
 show dY (if l.length<sizeLine then some (D.lst (l++[e]),D.non)else none) K=_;rw[aO];rfl
theorem Oh{bs:List Bool}:dY (Hb [.lst (bs.map D.bl)]) K=K (.val (.bl (bs.all id))):=by
 show dY ((Ha (bs.map D.bl)).map λbs=>hQ.val (.bl (bs.all id))) K=_;rw[XJ];rfl
def SK(d:D)(lo hi:Option Int)(K:hQ->Prop):Prop:=dY (KA d lo hi) K
theorem Zh:RE (Cw a x y) Z Q=RE a Z λr c=>RO x c λlo e=>RO y e λhi b=>RD b r λd=>SK d lo hi λv=>Q v b:=by
 unfold RE RO RD SK Cw;simp only[aE,aW]
theorem Zi:RO CM Z K=K none Z:=rfl
theorem Zj:RO (dP a) Z K=RE a Z λx b=>RD b x λd=>dY (match d with|.int k=>some k|_=>none) λk=>K (some k) b:=by
 unfold RO RE RD dP;simp only[aE];congr 1;funext x;congr 1;funext d;cases d<;>rfl
theorem Zk:SK (.lst l) lo hi K=K (.own (.lst (DF l lo hi))):=rfl
theorem Zl{K:D->Prop}:dY (atI (x::l) 0) K=K x:=by
 show dY ((AH (x::l).length 0).bind λj=>(x::l)[j]?) K=_;unfold AH;rw[fI (Int.le_refl 0),fI (by simp)];rfl
theorem Zm{K:D->Prop}:dY (atI (x::y::l) 1) K=K y:=by
 show dY ((AH (x::y::l).length 1).bind λj=>(x::y::l)[j]?) K=_;unfold AH;rw[fI (by decide),fI (by first|rfl|(simp;simp +arith))];rfl
theorem Zn{x:D}:dY (AH (x::l).length 0) K=K 0:=by
 unfold AH;rw[fI (Int.le_refl 0),fI (by simp)];rfl
theorem Zo{x y:D}:dY (AH (x::y::l).length 1) K=K 1:=by
 unfold AH;rw[fI (by decide),fI (by first|rfl|(simp;simp +arith))];rfl
theorem Zp(h1:-(2^64)<j)(a:j<2^64):oQ i j=True:=eq_true (.inl (.inr ⟨h1,a⟩))
theorem Zq(h1:-(2^64)<i)(a:i<2^64):oQ i j=True:=eq_true (.inl (.inl ⟨h1,a⟩))
theorem Zr[Decidable p]:oQ i (if p then 1 else 0)=True:=eq_true (.inl (.inr (by split<;>decide)))
theorem Oi(h1:0<j)(a:j<18446744073709551616):He i j=True:=eq_true ⟨h1,Int.lt_trans a (by decide)⟩
theorem Zs(h1:0<=j)(a:j<=1000000)(b:-18446744073709551616<i)(c:i<18446744073709551616):Gv i j=True:=eq_true ⟨h1,a,by lia⟩
theorem Oj:lendO none Z=Z:=rfl
theorem Ol:zZ none Z o=o:=by cases o<;>rfl
theorem Om:wC none Z σ'=σ':=rfl
theorem Oo:(Eu "list" (.lst l)=true)=True:=by simp[Eu]
noncomputable def kX:List D->Option (List Str)
 |[]=>some []
 |.str s::r=>(kX r).bind λl=>some (s::l)
 |_::_=>none
def gC(h:kX l=some zs):l=zs.map D.str:=by
 induction l generalizing zs with
 |nil=>cases h;rfl
 | cons d r i=>
   cases d with
   | str s=>
     obtain⟨l,a,b⟩:=aA h;cases b;rw[i a];rfl
   |_=>cases h
def jC(zs:List Str):kX (zs.map D.str)=some zs:=by
 induction zs with
 |nil=>rfl
 |cons b r a=>show(kX (r.map D.str)).bind _=_;simp_all
def Hf(sep:Str):F1:=λd=>match d with
 |.lst l=>(kX l).bind λys=>if(ys.map (·.length)).sum+ys.length*sep.length<=16777216 then some (.val (.str (Txt.join sep ys)))else none
 |_=>none
def Zt(K:W.Frag)(h:∀ Γ,PE X e (FH K "str" (IZ K) (tC (.str sep)) (BQ Γ (aB r aH)))):GE X e (De (Hf sep) r):=.mk λΓ=>Bi (h Γ) λσV H Q m=>by
 have n:GH (λx H Q=>IZ K (.str sep) [x] H Q) (Hf sep):=by
  intro H d x Q res o e k;unfold Hf at e;split at e;obtain⟨ys,f,e⟩:=aA e;split at e;rename_i hs;cases e;obtain⟨p,xs,rfl,i,b⟩:=dS o;rw[gC f]at b;rw[b.strs_inv]at i;exact⟨sep,p,ys,rfl,rfl,eR i,hs,k _ H (.refl _) (.str _)⟩;cases e;cases e
 obtain⟨Z,ok,res,σ',e,k⟩:=m;obtain⟨⟨x,g⟩,f,e⟩:=aA e;obtain⟨q,s,e⟩:=aA e;obtain⟨r,u,e⟩:=aA e;cases e;refine⟨rfl,Z,ok,[x],g,?_,λvs w a b c _=>?_⟩;show((_:Option _).bind _)=_;rw[f];rfl;cases b with
 | cons b t=>
   cases t;refine n w q _ Q _ (b.vw a s) u λv H' j l=>?_;exact k v H' (a.same j) (l.res a) (c.trans (.same j)) (l.frh.back c)
def Zu:dY (Hf sep (.lst (zs.map D.str))) K=((zs.map (·.length)).sum+zs.length*sep.length<=16777216/\K (.val (.str (Txt.join sep zs)))):=by
 show dY ((kX (zs.map D.str)).bind _) K=_;rw[jC];show dY (if _ then _ else none) K=_;rw[aO];rfl
def Zv(K:W.Frag)(a:X.K=K):Es X "str.join" (IZ K):=by rw[← a];exact Vl
def Io:FM:=λd a=>match d,a with
 |.lst l,[.str z]=>(kX l).bind λzs=>if z∈zs/\zs.Nodup then some (.lst ((zs.erase z).map D.str),.non)else none
 |_,_=>none
theorem mY:∀ {zs:List Str} {z:Str} {j:Nat},zs.Nodup->zs[j]? = some z->zs.eraseIdx j=zs.erase z
 |[],_,_,_,h=>rfl
 |y::r,z,0,_,h=>by simp_all
 | y::r,z,j+1,hn,h=>by
   have hm:z∈r:=AV h;rw[CD]at hn;have a:y≠z:=λe=>hn.1 (e▸hm);rw[List.eraseIdx_cons_succ,List.erase_cons_tail (by simp_all),mY hn.2 h]
set_option tactic.hygienic true in
def Zw:FR My Io:=by
 intro H d p h vs Q d' e ow r b k;unfold Io at b;cases d<;>(try exact aI b)<;>rcases h with _|⟨i,_|_⟩<;>(try exact aI b)<;>cases i<;>try exact aI b
 ·dsimp only at b;obtain⟨zs,m,b⟩:=aA b;split at b
  ·rename_i l z _ c;cases b;obtain⟨xs,f,g⟩:=jB ow;rw[gC m]at g;rw[g.strs_inv]at f;cases r with
   | cons a t=>
     cases t;cases a;refine⟨p,zs,z,rfl,rfl,f,c.1,λj hj=>?_⟩;rw[mY c.2 hj];exact k _ _ ⟨_,aJ,Wg _⟩ .non
  simp_all
def Zx{zs:List Str}:dY (Io (.lst (zs.map D.str)) [.str z]) K=((z∈zs/\zs.Nodup)/\K (.lst ((zs.erase z).map D.str),.non)):=by
 show dY ((kX (zs.map D.str)).bind _) K=_;rw[jC];show dY (if _ then _ else none) K=_;rw[aO];rfl
theorem Oq:∀{l:List D} {xs:List V},l.length=xs.length->(∀(j:Nat) d x,l[j]?=some d->xs[j]?=some x->Rp H d x)->Rps H l xs
 |[],[],_,_=>.nil
 |[],_::_,e,_|_::_,[],e,_=>by simp at e
 |d::l,x::xs,e,h=>.cons (h 0 d x rfl rfl) (Oq (by simp_all) λj d' a b c=>h (j+1) d' a (by simp_all) (by simp_all))
noncomputable def Hg(l m:List D):List D:=(l.zip m).map λp=>.tup [p.1,p.2]
def Hi:FN:=λa=>match a with
 |[.lst l,.lst m]=>some (.val (.tup (Hg l m)))
 |_=>none
def Zy(a:s.heap.IsTupleIter it t i)(e:s.heap.IsTuple t its)(f:its[i]? = some x)
  (q:∀h',h'.IsTupleIter it t (i+1)->SameBut it s.heap h'->Q x {s with heap:=h'}):wpAny (model prog w) A (nextOf (.ref it)) Q E s:=by
 obtain⟨o,b,hc,hd⟩:=id a;obtain⟨g,c,_,nt,d⟩:=e;refine dV (wpAny_callSpecial?_slot (name:=ofString "__next__") a.typeIs IP (Cp IP a.typeIs F.entry_tuple_iterator_next ?_ (F.args_tuple_iterator_next_1 _)));show wpAny _ _ (field (.ref it) 0 >>= _) _ _ s;refine dV (AW b hd (x:=.ref t) rfl ?_);refine dV (AW b hd (x:=.int i 0) rfl ?_);refine dV (CB c d ?_);simp only[toNat_natCast,f];refine dV (Hz b hd (by simp) (wpAny_pure ⟨x,rfl,wpAny_pure (q _ ⟨_,Heap.get?_update_self _ b (Obj.isFreed_of_fields (Obj.data_mapFields hd _)),(Obj.cls_mapFields ..).trans hc,by rw[Obj.data_mapFields hd];rfl⟩ (EK ..))⟩))
def uV(g:A.handled=none)(b:s.heap.IsTupleIter it t i)(h:s.heap.IsTuple t its)(j:its[i]? = none)
  (q:∀h' e,ExtBut it s.heap h'->(∃o,h'.get? e=some o/\o.cls=.type "StopIteration")->E (.ref e) {s with heap:=h'}):wpAny (model prog w) A (nextOf (.ref it)) Q E s:=by
 obtain⟨o,c,hc,hd⟩:=id b;obtain⟨k,d,_,nt,f⟩:=h;refine dV (wpAny_callSpecial?_slot (name:=ofString "__next__") b.typeIs IP (Cp IP b.typeIs F.entry_tuple_iterator_next ?_ (F.args_tuple_iterator_next_1 _)));show wpAny _ _ (field (.ref it) 0 >>= _) _ _ s;refine dV (AW c hd (x:=.ref t) rfl ?_);refine dV (AW c hd (x:=.int i 0) rfl ?_);refine dV (CB d f ?_);simp only[toNat_natCast,j];refine dV (BJ (dV (Hz c hd (by simp) ?_)));refine dV ?_;refine dV (m:=firstArgMember _ _) (wpAny_of_eq (a:=Value.none) (rfl) ?_);refine EG ?_ (by size_fits);refine dV (wpAny_handled ?_);rw[show A.in1.handled=none from g];refine dV (gV (wpAny_throw ?_));exact q _ _ (((EK ..).extBut.push _).push _) ⟨_,Ad _ rfl,rfl⟩
def Draws.tup{prog:Program}{w:World}{A:Around}(f:A.handled=none)(it t:Addr)(c:t≠it)(its:Array Value) :
  Draws prog w A it [it,t] its.size (λi v=>its[i]?=some v) (λi h=>h.IsTupleIter it t i/\h.IsTuple t its) where
 live:=λ_ _ st=>st.1.imp λ_ z=>z.1
 frame:=λ_ _ _ st d=>⟨st.1.at λo e=>d it (by simp) o e,st.2.at λo e=>d t (by simp) o e⟩
 item:=λi s Q E hi st g=>Zy st.1 st.2 (x:=its[i]) (by simp) λh' a b=>g _ h' s.toks (by simp) ⟨a,st.2.at λo e=>(b.2 t c).trans e⟩ b
 done:=λs Q E st j=>uV f st.1 st.2 (by simp) j
section
open PyProof.Rows
def dX.spun{Z:St}{ch:List Addr}{a:Addr}(I:dX X pins Z H s)(d:∀ b∈ch,Dy X pins H b)(k:∀ b u,b∉ch->s.heap.get? b=some u->h'.get? b=some u)(f:s.heap.objs.size<=a)
  (g:cH X.prog X.w (gY H a o) h' a o):dX X pins Z (gY H a o) {s with heap:=h',toks:=t'}:=by
 have ha:H a=none:=I.hok.fresh f;have h:∀b u,H b=some u->b∉ch:=λb u e z=>by rw[(d b z).1]at e;lia
 refine I.step (g':=s.gens) (d':=s.drawn) (ch:=ch) (λb hb=>?_) (λb u _ _ hc e _=>k b u hc e) (λb u _ _ hc e _=>⟨u.slots,k b u hc e⟩) (λb u _ e n=>?_) (λb u hc e=>⟨u,k b u hc e⟩)
  (λb xs e=>by rw[aG (bL e ha)];exact e) (λb u v e=>by rw[aG (bL e ha)];exact e) (λb ps e=>⟨#[],by rw[aG (bL e ha),e];simp⟩) (λm hm=>?_) (λb u e=>?_) I.bare
 ·obtain⟨x,i,y,j,l,p⟩:=d b hb;exact⟨j,i,l,p⟩
 ·rw[aG (An (Ax (kN e) f))];exact n
 ·obtain⟨u,es,ep,t,r⟩:=hm;exact⟨u,es,ep,k _ u (λz=>(d _ z).2.1 rfl) t,r⟩
 ·by_cases hb:b=a;subst hb;rw[aJ]at e;lia;rw[aG hb]at e;refine(I.hok b u e).stay (λc v hc q=>k c v ?_ q) (λc q=>by rw[aG (bL q ha)];exact q) λc xs q=>by rw[aG (bL q ha)];exact q
  rcases hc with z|z
  ·simp_all
  simp_all
def dX.spun0{Z:St}{ch:List Addr}(I:dX X pins Z H s)(a:∀ b∈ch,Dy X pins H b)(k:∀ b u,b∉ch->s.heap.get? b=some u->h'.get? b=some u):dX X pins Z H {s with heap:=h',toks:=t'}:=by
 have d:∀b u,H b=some u->b∉ch:=λb u e z=>by rw[(a b z).1]at e;lia
 refine I.step (g':=s.gens) (d':=s.drawn) (ch:=ch) (λb hb=>?_) (λb u _ _ hc e _=>k b u hc e) (λb u _ _ hc e _=>⟨u.slots,k b u hc e⟩) (λb u _ e n=>n) (λb u hc e=>⟨u,k b u hc e⟩)
  (λb xs e=>e) (λb u v e=>e) (λb ps e=>⟨#[],by simp_all⟩) (λm hm=>?_) (λb u e=>?_) I.bare
 ·obtain⟨l,f,o,g,h,i⟩:=a b hb;exact⟨g,f,h,i⟩
 ·obtain⟨u,es,ep,j,r⟩:=hm;exact⟨u,es,ep,k _ u (λz=>(a _ z).2.1 rfl) j,r⟩
 ·refine(I.hok b u e).stay (λc v hc q=>k c v ?_ q) (λc q=>q) λc xs q=>q;rcases hc with z|z
  ·simp_all
  simp_all
end
noncomputable def AF(i:Nat):Stmt:=PySem.Challenge.pw_mostrows_k53_houses_thinned.main.body.getD i (.Pass ⟨0,0,0,0⟩)
structure Fi where
 n:Str
 s:Stmt
 N:List Str
 p:Nat
def tb:List Fi:=[⟨"_law_take",AF 40,["_law_box_here","_law_many","_law_digit","_law_one"],2⟩,
 ⟨"_law_names",AF 42,["_law_box_here","_law_many","_law_letters","_law_stem","_law_at","_law_first","_law_form","_law_x","_law_y","_law_z","_law_some","_law_found","_law_k","_law_word","_law_own"],2⟩,
 ⟨"_law_order",AF 41,["_law_box_here","_law_things","_law_left","_law_found"],2⟩,
 ⟨"_law_some_columns",AF 43,["_law_box_here","_law_names_here","_law_many"],3⟩,
 ⟨"_law_ear_tables",AF 45,["_law_box_here","_law_names_here","_law_left","_law_found","_law_k","_law_own","_law_one","_law_j"],2⟩,
 ⟨"_law_question",AF 47,["_law_box_here","_law_kind","_law_columns_here","_law_tables","_law_way","_law_sets"],2⟩,
 ⟨"_law_box",AF 39,["_law_script","_law_k","_law_cell","_law_seed"],2⟩,
 ⟨"_law_columns",AF 48,["_law_question_here","_law_found","_law_kt","_law_own","_law_column"],1⟩,
 ⟨"_law_value",AF 49,["_law_box_here","_law_span","_law_value_here"],2⟩,
 ⟨"_law_house",AF 50,["_law_box_here","_law_question_here","_law_ceiling","_law_columns_here","_law_span","_law_planted","_law_even","_law_room","_law_is_even","_law_found","_law_kt","_law_own","_law_limit","_law_rows","_law_k","_law_column","_law_row"],3⟩,
 ⟨"_law_answers",AF 51,["_law_question_here","_law_house_here","_law_columns_here","_law_found","_law_kt","_law_own","_law_rows","_law_places","_law_more","_law_one","_law_row","_law_known","_law_column","_law_place","_law_value_here"],2⟩,
 ⟨"_law_cut_row",AF 52,["_law_question_here","_law_kt","_law_row","_law_columns_here","_law_column"],3⟩,
 ⟨"_law_due",AF 53,["_law_question_here","_law_house_here","_law_rows","_law_kt","_law_own","_law_row"],2⟩,
 ⟨"without",AF 20,["question","name","pair"],2⟩,
 ⟨"columns_of",AF 5,["question","found","name","columns","column"],1⟩,
 ⟨"has_all",AF 21,["columns","some","column"],2⟩,
 ⟨"holders_of",AF 22,["left","name","columns","others","shared","column","other","held"],3⟩,
 ⟨"ears_in",AF 23,["left","found","name","columns","holder"],1⟩,
 ⟨"taken_off",AF 24,["question","left","taken","found"],1⟩,
 ⟨"ears",AF 25,["question","taken"],1⟩,
 ⟨"list_of_ears",AF 26,["question","told"],1⟩,
 ⟨"tables_of",AF 34,["question","house","pair","rows"],2⟩,
 ⟨"names_of",AF 4,["question","name","columns"],1⟩,
 ⟨"named_tables",AF 35,["question","house"],2⟩,
 ⟨"common_columns",AF 30,["one","other","column"],2⟩,
 ⟨"picked",AF 29,["row","places","place"],2⟩,
 ⟨"places_of",AF 28,["columns","some","column"],2⟩,
 ⟨"grouped",AF 31,["table","columns","others","places","other_places","groups","row"],3⟩,
 ⟨"thinned_by",AF 32,["one","other","common","there","places","row"],2⟩,
 ⟨"thinned",AF 37,["question","house","held","tables","name","holder"],2⟩,
 ⟨"law",AF 54,["_law_script","_law_asked","_law_k","_law_question_here","_law_house_here","_law_due_here","_law_found"],1⟩]
def pz(i:Nat):List Str:=match tb[i]? with
 |some f=>f.N.take f.p
 |none=>[]
structure KQ where
 p:Nat->Addr
 d:Nat->FuncData
structure Txt(K:W.Frag)(mg:Str->Option Value)(a:KQ):Prop where
 m:∀i f,tb[i]?=some f->mg f.n=some (.ref (a.p i))
 F:∀i f,tb[i]?=some f->EW K f.n f.n f.s (a.p i) (a.d i)
 o:∀x:Str,x∈(["all","dict","int","isinstance","len","list","max","min","range","reversed","set","sorted","tuple","zip"]:List Str)->mg x=none
def Zz:bootBuiltins "all"=some (.builtin "all"):=by decide +kernel
def uW:bootBuiltins "dict"=some (.type "dict"):=by decide +kernel
def ZA:bootBuiltins "int"=some (.type "int"):=by decide +kernel
def nW:bootBuiltins "isinstance"=some (.builtin "isinstance"):=by decide +kernel
def ZC:bootBuiltins "len"=some (.builtin "len"):=by decide +kernel
def ZE:bootBuiltins "list"=some (.type "list"):=by decide +kernel
def ZF:bootBuiltins "max"=some (.builtin "max"):=by decide +kernel
def ZG:bootBuiltins "min"=some (.builtin "min"):=by decide +kernel
def rO:bootBuiltins "reversed"=some (.type "reversed"):=by decide +kernel
def ZH:bootBuiltins "set"=some (.type "set"):=by decide +kernel
def xQ:bootBuiltins "sorted"=some (.builtin "sorted"):=by decide +kernel
def lP:bootBuiltins "tuple"=some (.type "tuple"):=by decide +kernel
def rP:bootBuiltins "zip"=some (.type "zip"):=by decide +kernel
def rQ{a:Type}{Q:Nat->a->Prop}{x:a}{l:List a}(h:Q 0 x)(t:∀i f,l[i]?=some f->Q (i+1) f):∀i f,(x::l)[i]?=some f->Q i f
 |0,_,e=>by cases e;exact h
 |i+1,f,e=>t i f e
def Jw{a:Type}{Q:Nat->a->Prop}:∀i f,([]:List a)[i]?=some f->Q i f:=λ_ _ e=>nomatch e
def sc:∀i f,tb[i]?=some f->Ay f.N (pz i) (cF f.s):=by
 unfold tb
 repeat' first|exact Jw|refine rQ ⟨rfl,rfl,rfl,by decide +kernel,rfl,by decide +kernel,by decide +kernel⟩ ?_
@[elab_as_elim] def Jx{P:List Value->Prop}{n:Nat}{us:List Value}(b:us.length=n+1)(h:∀ a r,r.length=n->P (a::r)):P us:=by
  cases us with
  |nil=>cases b
  |cons a r=>exact h a r (Nat.succ.inj b)
@[elab_as_elim] def Ot{P:List Value->Prop}(b:us.length=1)(h:∀a,P [a]):P us:=Jx b λa r c=>List.length_eq_zero_iff.mp c▸h a
@[elab_as_elim] def Ou{P:List Value->Prop}(c:us.length=2)(h:∀a b,P [a,b]):P us:=Jx c λa r d=>Ot (P:=λr=>P (a::r)) d (h a)
@[elab_as_elim] def Ov{P:List Value->Prop}(d:us.length=3)(h:∀a b c,P [a,b,c]):P us:=Jx d λa r e=>Ou (P:=λr=>P (a::r)) e (h a)
@[elab_as_elim] def ZI{P:List Value->Prop}(e:us.length=4)(h:∀a b c d,P [a,b,c,d]):P us:=Jx e λa r f=>Ov (P:=λr=>P (a::r)) f (h a)
def ZL:∀i f,tb[i]?=some f->∀(kV doc pm:Value) (an1:Option Addr) (cdv ct:Value) (us:List Value),us.length=(pz i).length->bindArgs (W.fnOf f.n f.n (qJ f.s) (jW f.s) (cF f.s) .none kV doc pm an1 cdv ct) ⟨us,[]⟩=pure ((pz i).zip us):=by
 unfold tb
 repeat' first|exact Jw|refine rQ (λ_ _ _ _ _ _ us a=>?_) ?_
 all_goals first|exact Ot a λ_=>rfl|exact Ou a λ_ _=>rfl|exact Ov a λ_ _ _=>rfl|exact ZI a λ_ _ _ _=>rfl|exact us5 a λ_ _ _ _ _=>rfl|exact us6 a λ_ _ _ _ _ _=>rfl
def bn(T:Txt K mg a)(i:Nat)(f:Fi)(h:tb[i]?=some f):Gx K (a.d i) (pz i) []:=(T.F i f h).binds (ZL i f h)
abbrev Fk(P:Program)(w:World)(K:W.Frag)(mg:Str->Option Value)(base:Heap)(a:KQ)(i k:Nat)(sp:Sp):Prop:=AR P w K mg base DX k (a.p i) (a.d i) (pz i) sp
def ZM(b:X.N.Nodup)(hi:X.N[i]? = some x)(c:HM X.env.scope x)(d:GE X e r)(hs:swapsWith e (some (.Name x a)) pos.line X.env=pure false:=by rfl)(f:X.fn x=true\/X.env.scope.names.lookup x=some .local:=by first | exact .inl rfl | exact .inr rfl | assumption) :
  GS E X (.Assign [.Name x a] e pos) (bD i r):=WS λΓ=>LR b hi c (d.to Γ) hs f
theorem ZN:dY (sL (.str z) (.int i)) K=(z.length<=sizeLine/\dY (atI z.cps.toList i) λc=>K (.val (.str ⟨#[c]⟩))):=by
 show dY (if _ then _ else none) K=_;rw[aO,uJ]
def ZO(h:z.length<=sizeLine):dY (lL [.str z]) K=K (.val (.int z.length)):=by
 show dY (if _ then _ else none) K=_;rw[aO];exact propext ⟨λh=>h.2,λk=>⟨h,k⟩⟩
noncomputable def fo(x:Option (Bool×D)):Option Sl:=x.map λp=>⟨if p.1=true then .own else .val,p.2⟩
theorem Ox{r:Sg}:PK 0 (fo x::r) s K=K (some s::r):=by
 cases x with
 |none=>rfl
 | some p=>
   obtain⟨b,d⟩:=p;cases b<;>rfl
@[irreducible] def uX(ow:List Nat)(g:DG)(t:DT)(e:DE)(items:List D)(a:Sg):=xB ow g t e items a
@[irreducible] def Ip(g:DG)(b:DS)(items:List D)(Z:Sg):=EZ g b items Z
@[irreducible] def Jy(c:DT)(b:DS)(Z:Sg):=mG c b GU Z
theorem rR{τ:Sg}:RS (mR ri g b) (ω::τ) QS=RI ri (ω::τ) λitems l a=>dY (Ip g b items (lendO l a)) λo=>QS (zZ l a o):=by
 unfold Ip;exact YN
theorem nX{τ:Sg}:RS (pJ c b) (ω::τ) QS=dY (Jy c b (ω::τ)) QS:=by unfold Jy;rfl
theorem kY{τ:Sg}:RE (bY ow ri g t e) (ω::τ) Q=RI ri (ω::τ) λitems l a=>items.length<=sizeLine/\dY (uX ow g t e items (aX ow (lendO l a))) λy=>Q (.own (.lst y.1)) (wC l a (jS ow (lendO l a) y.2)):=by
 unfold uX;exact YQ
def eK(P:Nat->Sg->Prop)(h0:P 0 Z)(hs:∀i d Z,items[i]?=some d->P i Z->dY (g d Z) λc=>RS b c λo=>∃a,(o=.nx a\/o=.ct a)/\P (i+1) a)(k:∀σ',P items.length σ'->K (.nx σ')):dY (Ip g b items Z) K:=by
 unfold Ip;exact YO P h0 hs k
def pQ(P:Nat->Sg->Prop)(m:Nat)(hm:m<1000000)(h0:P m Z)(hs:∀m Z,P m Z->RT c Z λt d=>if t=true then RS b d λo=>(∃a m',(o=.nx a\/o=.ct a)/\m' < m/\P m' a)\/(∃x a,o=.rt x a/\QS (.rt x a))\/(∃a,o=.bk a/\QS (.nx a))else QS (.nx d)):dY (Jy c b Z) QS:=by
 unfold Jy;exact YP P m hm h0 hs
def gU(items:List D)(τ:Sg)(P:Nat->List D->Sg->Prop)(h0:P 0 [] τ)
  (hs:∀i d acc τ,items[i]?=some d->P i acc τ->dY (g d τ) λc=>RT t c λb a=>if b=true then RE e a λr f=>∃v,r=.val v/\P (i+1) (acc++[v]) (aX ow f)else P (i+1) acc (aX ow a))
  (k:∀acc τ,P items.length acc τ->K (acc,τ)):dY (uX ow g t e items τ) K:=by
 unfold uX;exact YR items τ P h0 hs k
section
open SetTable
noncomputable def gS:Nat->Nat
 |0=>0
 |n+1=>5*gS n+1
def uY(n:Nat):4*gS n+1=5^n:=by
 induction n with
 |zero=>rfl
 |succ n a=>rw[EO,← a];show 4*(5*gS n+1)+1=_;lia
def Oy(a b:Nat):gS (a+b)=gS a*5^b+gS b:=by
 have c:=uY (a+b);have d:=uY a;have e:=uY b
 grind
def Oz(n:Nat):5^n % 4=1:=by
 have:=uY n;lia
def ZP(n:Nat)(h:n % 2=1):gS n % 2=1:=by
 have a:∀m,gS m % 2=m % 2:=λm=>by
  induction m with
  |zero=>rfl
  |succ m b=>show(5*gS m+1) % 2=_;lia
 simp_all
def pR(hb:b % 2=1)(h:2 ^ k ∣ a*b):2 ^ k ∣ a:=by
 have hc:Nat.Coprime (2 ^ k) b:=by
  refine Nat.Coprime.pow_left k ?_;have:Nat.gcd 2 b=1:=by
   rw[Nat.gcd_rec,hb];rfl
  exact this
 exact Nat.Coprime.dvd_of_dvd_mul_right hc h
theorem OA:∀ (k n:Nat),2 ^ k ∣ gS n->2 ^ k ∣ n
 |0,n,_=>by simp
 | k+1,n,h=>by
   rcases Nat.mod_two_eq_zero_or_one n with e|e
   ·obtain⟨m,rfl⟩:∃ m,n=m+m:=⟨n / 2,by lia⟩;rw[Oy]at h;have f:=Oz m;obtain⟨q,a⟩:∃ q,5 ^ m+1=2*q:=⟨(5 ^ m+1) / 2,by lia⟩;have b:q % 2=1:=by lia
    have c:gS m*5^m+gS m=2*(gS m*q):=by
     have:gS m*5^m+gS m=gS m*(5^m+1):=rfl;rw[this,a,Nat.mul_left_comm]
    rw[c,EO,EN (2^k) 2]at h;have d:2^k ∣ gS m*q:=Nat.dvd_of_mul_dvd_mul_left (by decide) h;have g:=OA k m (pR b d);have i:m+m=2*m:=by lia
    rw[i,EO,EN (2^k) 2];exact Nat.mul_dvd_mul_left 2 g
   ·have o:=ZP n e;have:2 ∣ gS n:=Nat.dvd_trans ⟨2^k,by rw[EO,EN]⟩ h;lia
noncomputable def CN(k:Nat):Nat->Nat->Nat
 |0,x=>x % 2^k
 |n+1,x=>(5*CN k n x+1) % 2^k
def KS(k n x:Nat):CN k n x=(5 ^ n*x+gS n) % 2 ^ k:=by
 induction n with
 |zero=>simp[CN,gS]
 | succ n a=>
   show(5*CN k n x+1) % 2^k=_;rw[a];have e:5^(n+1)*x+gS (n+1)=5*(5^n*x+gS n)+1:=by
    show _+(5*gS n+1)=_
    grind
   rw[e,Nat.add_mod,Nat.mul_mod];simp
def OB(ha:a < b)(hb:b < 2 ^ k)(h:CN k a x=CN k b x):False:=by
 rw[KS,KS]at h;obtain⟨d,rfl⟩:∃d,b=a+d:=⟨b-a,by lia⟩;have hd:2^k ∣ (5^(a+d)*x+gS (a+d))-(5^a*x+gS a):=by
  exact Nat.dvd_of_mod_eq_zero (Nat.sub_mod_eq_zero_of_mod_eq h.symm)
 have e:(5 ^ (a+d)*x+gS (a+d))-(5 ^ a*x+gS a)=gS d*((4*x+1)*5 ^ a):=by
  have c:=uY d;have g:5^(a+d)*x=gS d*(4*x*5^a)+5^a*x:=by
   rw[Nat.pow_add,← c,mul_assoc,Nat.add_mul,one_mul,Nat.mul_add];rw[EN (4*x),EN 4 (gS d),mul_assoc,Nat.mul_left_comm]
  have i:gS (a+d)=gS d*5^a+gS a:=by rw[add_comm a d,Oy]
  rw[g,i,Nat.add_mul,one_mul,Nat.mul_add];lia
 rw[e]at hd;have j:((4*x+1)*5^a) % 2=1:=by
  have f:=Oz a
  lia
 have:=Nat.le_of_dvd (by simp_all) (OA k d (pR j hd));lia
theorem rS:∀ (N:Nat) (f:Nat->Nat),(∀ i,i < N->f i < N)->(∀ i j,i < j->j < N->f i≠f j)->∀ c,c < N->∃ i,i < N/\f i=c
 |0,_,_,_,c,h=>absurd h (FC c)
 | N+1,f,hb,hi,c,hc=>by
   by_cases d:∃i,i<N+1/\f i=c;exact d
   ·exfalso
    have b:∀i,i<N+1->f i≠c:=λi h e=>d ⟨i,h,e⟩
    let g:Nat->Nat:=λi=>if f i=N then c else f i
    have k:∀i,i<N+1->g i<N:=λi h=>by
     show(if f i=N then c else f i)<N;have l:=hb i h;have m:=b i h
     lia
    have gi:∀i j,i<j->j<N+1->g i≠g j:=λi j a hj=>by
     show(if f i=N then c else f i)≠if f j=N then c else f j
     have l:=hi i j a hj;have m:=b i (BN a hj);have o:=b j hj
     lia
    obtain⟨i,n,e⟩:=rS N g (λi h=>k i (Nat.lt_succ_of_lt h)) (λi j a hj=>gi i j a (by lia)) (g N) (k N (by lia))
    simp_all
def ZQ(hc:c<2^k):∃n,n<2^k/\CN k n x=c:=
 rS (2^k) (λn=>CN k n x) (λi _=>by rw[KS];exact mod_lt _ (Nat.two_pow_pos k)) (λi j a hj e=>OB a hj e) c hc
noncomputable def EA(mask:Nat)(p:Probe):Probe:=
 if p.more > 0 then{p with j:=p.j+1,more:=p.more-1}else
 {p with j:=(leap mask p.i p.perturb).1,more:=runEnd mask (leap mask p.i p.perturb).1-(leap mask p.i p.perturb).1,i:=(leap mask p.i p.perturb).1,perturb:=(leap mask p.i p.perturb).2}
noncomputable def ZR(mask:Nat)(h:Int):Probe:=⟨bits h % (mask+1),runEnd mask (bits h % (mask+1))-bits h % (mask+1),bits h % (mask+1),bits h,none⟩
def wk(mask:Nat)(h:Int):Nat->Probe
 |0=>ZR mask h
 |n+1=>EA mask (wk mask h n)
noncomputable def lp(mask:Nat)(h:Int):Nat->Nat×Nat
 |0=>(bits h % (mask+1),bits h)
 |l+1=>leap mask (lp mask h l).1 (lp mask h l).2
noncomputable def rT(mask i:Nat):Nat:=runEnd mask i-i
def ZS(mask i:Nat):rT mask i<=9:=by unfold rT runEnd;lia
def tm(mask:Nat)(h:Int):Nat->Nat
 |0=>0
 |l+1=>tm mask h l+rT mask (lp mask h l).1+1
def ZT(mask:Nat)(h:Int)(l:Nat):tm mask h l<=10*l:=by
 induction l with
 |zero=>exact hF _
 | succ l a=>
   have:=ZS mask (lp mask h l).1;show tm mask h l+rT mask (lp mask h l).1+1<=_;lia
theorem KU{mask:Nat}(e:wk mask h (tm mask h l)=⟨(lp mask h l).1,rT mask (lp mask h l).1,(lp mask h l).1,(lp mask h l).2,none⟩) :
  ∀r,r<=rT mask (lp mask h l).1->wk mask h (tm mask h l+r)=⟨(lp mask h l).1+r,rT mask (lp mask h l).1-r,(lp mask h l).1,(lp mask h l).2,none⟩
 |0,_=>e
 | r+1,a=>by
   have b:=KU e r (AQ a);show EA mask (wk mask h (tm mask h l+r))=_;rw[b];unfold EA
   lia
theorem xR(mask:Nat)(h:Int):∀ l,wk mask h (tm mask h l)=⟨(lp mask h l).1,rT mask (lp mask h l).1,(lp mask h l).1,(lp mask h l).2,none⟩
 |0=>rfl
 | l+1=>by
   have a:=KU (xR mask h l) (rT mask (lp mask h l).1) (hF _);show EA mask (wk mask h (tm mask h l+rT mask (lp mask h l).1))=_;rw[a];unfold EA;rw[gX (by simp)];rfl
theorem OC(mask:Nat)(h:Int):∀ l,(lp mask h l).2=bits h / 32 ^ l
 |0=>by show bits h=_;simp
 | l+1=>by
   show(lp mask h l).2 / 32=_;rw[OC mask h l,Nat.div_div_eq_div_mul,EO]
def ZU(h:Int):bits h<2^64:=by
 unfold bits
 lia
def ZV(mask:Nat)(h:Int)(a:13<=l):(lp mask h l).2=0:=by
 rw[OC];refine Nat.div_eq_of_lt (Ax (ZU h) ?_);refine oT (by decide:2^64<=32^13) (Nat.pow_le_pow_right (by decide) a)
def OD(mask:Nat)(h:Int):∀l,(lp mask h l).1<mask+1
 |0|l+1=>mod_lt _ (succ_pos _)
theorem KW{mask k:Nat}(a:mask+1=2 ^ k)(h:Int):∀ n,(lp mask h (13+n)).1=CN k n (lp mask h 13).1
 | 0=>by
   show _=_ % 2^k;rw[Nat.mod_eq_of_lt (by rw[← a];exact OD mask h 13)]
 | n+1=>by
   have e:(lp mask h (13+(n+1))).1=((lp mask h (13+n)).1*5+1+(lp mask h (13+n)).2 / 32) % (mask+1):=rfl;rw[e,ZV mask h (by simp),KW a h n,a];show _=(5*CN k n _+1) % 2^k;rw[EN 5]
def KX{mask i:Nat}(hi:i<=mask)(r:Nat)(a:r<=rT mask i):i+r<=mask:=by
 unfold rT runEnd at a
 lia
theorem KY{mask:Nat}(h:Int):∀ n,(wk mask h n).dummy=none/\(wk mask h n).j+(wk mask h n).more<=mask
 | 0=>⟨rfl,by
   have a:bits h % (mask+1)<=mask:=DV (mod_lt _ (succ_pos _));exact KX a _ (hF _)⟩
 | n+1=>by
   obtain⟨a,b⟩:=KY (mask:=mask) h n;show(EA mask (wk mask h n)).dummy=none/\(EA mask (wk mask h n)).j+(EA mask (wk mask h n)).more<=mask;unfold EA;split
   ·lia
   ·refine⟨a,?_⟩;exact KX (DV (mod_lt _ (succ_pos _))) _ (hF _)
def OE{mask:Nat}(h:Int)(n:Nat):(wk mask h n).j<=mask:=by
 have:=(KY (mask:=mask) h n).2;lia
def Iq(xs:Array Nat):Prop:=∀(i j:Nat) (a b:Nat),i<j->xs[i]?=some a->xs[j]?=some b->a<b
structure OF(xs:Array Nat)(j r:Nat):Prop where
 le:r<=xs.size
 lo:∀(i a:Nat),i<r->xs[i]?=some a->a<j
 hi:∀(i a:Nat),r<=i->xs[i]?=some a->j<=a
theorem rV(hs:Iq xs):∀ (b lo hi:Nat),hi-lo<=b->lo<=hi->hi<=xs.size->(∀ (i a:Nat),i < lo->xs[i]? = some a->a < j)->(∀ (i a:Nat),hi<=i->xs[i]? = some a->j<=a)->OF xs j (below.go xs j b lo hi)
 | 0,lo,hi,hf,hl,c,d,f=>by
   have:lo=hi:=by grind
   subst this;exact⟨c,d,f⟩
 | b+1,lo,hi,hf,hl,c,d,f=>by
   unfold below.go;split
   ·rename_i k;have hm:(lo+hi) / 2 < xs.size:=by lia
    have em:xs[(lo+hi) / 2]?=some xs[(lo+hi) / 2]:=BG hm;have l:xs.getD ((lo+hi) / 2) j=xs[(lo+hi) / 2]:=by rw[Array.getD_eq_getD_getElem?,em];rfl
    dsimp only;rw[l];split
    ·rename_i h;refine rV hs b _ hi (by (simp_all;omega)) (by lia) c (λi a g e=>?_) f;by_cases z:i=(lo+hi) / 2
     ·simp_all
     ·exact BN (hs i _ a _ (by lia) e em) h
    ·rename_i h;refine rV hs b lo _ (by (simp at *;omega)) (by lia) (AQ hm) d (λi a g e=>?_);by_cases z:i=(lo+hi) / 2
     ·simp_all
     ·have:=hs _ i _ a (by lia) em e;lia
   ·have:lo=hi:=by lia
    subst this;exact⟨c,d,f⟩
def jD(hs:Iq xs)(j:Nat):OF xs j (below xs j):=
 rV hs _ _ _ (by simp) (sY _) (hF _) (λi a h _=>absurd h (FC _)) λi a h e=>by grind
def jN(hs:Iq xs)(h:xs[i]? = some j):below xs j=i:=by
 have c:=jD hs j;have b:below xs j<=i:=by
  refine Em λz=>?_;have:=c.lo i j z h;lia
 have d:i<=below xs j:=by
  refine Em λz=>?_;have hb:below xs j<xs.size:=BN z (Gk.mp h).1;have a:xs[below xs j]?=some xs[below xs j]:=BG hb;have:=hs _ i _ j z a h;have:=c.hi _ _ (hF _) a;lia
 lia
def uZ{t:SetTable}(hs:Iq t.place)(h:t.place[i]?=some j):t.slot j=.live i:=by
 unfold slot;dsimp only;rw[jN hs h,h];simp
def ZW{t:SetTable}(hd:t.dummies=#[])(h:∀i:Nat,t.place[i]? ≠ some j):t.slot j=.empty:=by
 unfold slot;rw[gX (by simp_all),if_neg (by rw[hd];simp[has])]
def Br(t:SetTable)(j:Nat):Prop:=∃i:Nat,t.place[i]?=some j
structure CO(t:SetTable)(hs:List Int):Prop where
 pw:∃k,t.mask+1=2^k
 m7:7<=t.mask
 dm:t.dummies=#[]
 ri:Iq t.place
 lt:∀(i j:Nat),t.place[i]?=some j->j<=t.mask
 len:t.place.size=hs.length
 fit:t.place.size<=t.mask
 rea:∀(i:Nat) h,hs[i]?=some h->∃m j,t.place[i]?=some j/\(wk t.mask h m).j=j/\∀m',m' < m->Br t (wk t.mask h m').j
theorem OG(T:CO t hs)(q:¬ Br t (wk t.mask h M).j)(hb:∀ m,m < M->Br t (wk t.mask h m).j) :
  ∀ (a n:Nat),n<=M->M-n < a ->
    (∃m i,n<=m/\m<M/\t.place[i]?=some (wk t.mask h m).j/\hashAt i=h/\(∀m' b,n<=m'->m' < m->t.place[b]?=some (wk t.mask h m').j->hashAt b≠h)/\probe.go t hashAt h a (wk t.mask h n)=some (.candidate (wk t.mask h m).j i (wk t.mask h (m+1)))) \/
    ((∀m' b,n<=m'->m' < M->t.place[b]?=some (wk t.mask h m').j->hashAt b≠h)/\probe.go t hashAt h a (wk t.mask h n)=some (.empty (wk t.mask h M).j none))
 |0,n,_,hf=>by simp_all
 | a+1,n,hn,hf=>by
   have k:=(KY (mask:=t.mask) h n).1;unfold probe.go;by_cases c:n=M;subst c;refine .inr ⟨λm' b l g=>by lia,?_⟩;have:t.slot (wk t.mask h n).j=.empty:=ZW T.dm λi e=>q ⟨i,e⟩;rw[this];dsimp only;rw[k]
   ·obtain⟨i,o⟩:=hb n (lt_of_le_of_ne hn c);have p:=uZ T.ri o;rw[p];dsimp only;by_cases d:hashAt i=h;refine .inl ⟨n,i,hF _,by lia,o,d,λm' b l g=>by lia,?_⟩;rw[fI (by simpa using d)];rfl
    ·rw[gX (by simpa using d)];have f:∀ b,t.place[b]? = some (wk t.mask h n).j->b=i:=λb e=>by
      rw[← jN T.ri e,← jN T.ri o]
     rcases OG T q hb a (n+1) (by lia) (by lia)with⟨m,i2,a1,a2,a3,a4,a5,a6⟩|⟨a1,a2⟩
     ·refine .inl ⟨m,i2,AQ a1,a2,a3,a4,λm' b l g e=>?_,a6⟩;by_cases z:m'=n;subst z;rw[f b e];exact d
      grind
     ·refine .inr ⟨λm' b l g e=>?_,a2⟩;by_cases z:m'=n;subst z;rw[f b e];exact d;exact a1 m' b (by lia) g e
def Fd(xs:Array b)(d:p<=xs.size)(x:b)(i:Nat):(insertAt xs p x)[i]?=if i<p then xs[i]? else if i=p then some x else xs[i-1]?:=by
 rw[← Bg,toList_insertAt];have c:(xs.toList.take p).length=p:=by grind
 by_cases a:i<p;rw[fI a,BM (by simp[*]),List.getElem?_take_of_lt a,Bg];rw[gX a,DN (by simp_all),c]
 grind
def mZ(xs:Array a)(b:p<=xs.size)(x:a):(insertAt xs p x).size=xs.size+1:=by
 rw[← BX,toList_insertAt,AO,Ek,Ei,EM,BX];simp_all +arith
noncomputable def xS{α:Type}(l:List α)(p:Nat)(x:α):List α:=l.take p++x::l.drop p
def OH(l:List a)(b:p<=l.length)(x:a)(i:Nat):(xS l p x)[i]?=if i<p then l[i]? else if i=p then some x else l[i-1]?:=by
 have:=Fd l.toArray (p:=p) (by simp_all) x i;rw[← Bg,toList_insertAt]at this;simpa[xS]using this
def nY(l:List a)(b:p<=l.length)(x:a):(xS l p x).length=l.length+1:=by
 unfold xS
 grind
def vA(t:SetTable)(j:Nat)(hd:t.dummies=#[]):t.put j=({t with place:=insertAt t.place (below t.place j) j},below t.place j):=by
 unfold put;rw[hd];rfl
def ZX(a:below t.place j<=t.place.size)(e:t'.place=insertAt t.place (below t.place j) j):Br t' c↔Br t c\/c=j:=by
 constructor
 ·rintro⟨i,hi⟩;rw[e,Fd _ a]at hi;split at hi;exact .inl ⟨i,hi⟩;split at hi
  ·simp_all
  ·exact .inl ⟨i-1,hi⟩
 ·rintro(⟨i,hi⟩|rfl);by_cases hb:i<below t.place j;exact⟨i,by rw[e,Fd _ a,fI hb];exact hi⟩;exact⟨i+1,by rw[e,Fd _ a,gX (by lia),gX (by lia)];exact hi⟩;exact⟨below t.place c,by rw[e,Fd _ a,gX (by lia),fI rfl]⟩
theorem CO.put(T:CO t hs)(r:¬ Br t (wk t.mask h M).j)(hb:∀ m,m < M->Br t (wk t.mask h m).j)(s:t.place.size+1<=t.mask) :
  CO (t.put (wk t.mask h M).j).1 (xS hs (below t.place (wk t.mask h M).j) h):=by
 have c:=jD T.ri (wk t.mask h M).j;rw[vA t _ T.dm];have l:=c.le;have n:below t.place (wk t.mask h M).j<=hs.length:=by rw[← T.len];exact l
 have g:∀x,Br {t with place:=insertAt t.place (below t.place (wk t.mask h M).j) (wk t.mask h M).j} x↔Br t x\/x=(wk t.mask h M).j:=λx=>ZX l rfl;refine⟨T.pw,T.m7,T.dm,?_,?_,?_,?_,?_⟩
 ·intro i1 i2 a b hi f d;have q:∀i a,t.place[i]?=some a->a≠(wk t.mask h M).j:=λi a e z=>r ⟨i,by rw[e,z]⟩;dsimp only at f d;rw[Fd _ l]at f d;generalize (wk t.mask h M).j=j at *;split at f;split at d;exact T.ri _ _ _ _ hi f d;split at d;cases d;exact c.lo _ _ (by assumption) f;exact T.ri _ _ _ _ (by lia) f d;split at f;cases f;rw[gX (by lia),gX (by lia)]at d;have y:=c.hi _ _ (by lia:below t.place a<=i2-1) d;have A:=q _ _ d;lia;rw[gX (by lia),gX (by lia)]at d;exact T.ri _ _ _ _ (by grind) f d
 ·intro i j e;rcases(g j).mp ⟨i,e⟩with⟨u,v⟩|rfl;exact T.lt u j v;exact OE h M
 ·show(insertAt _ _ _).size=_;rw[mZ _ l,nY _ n,T.len]
 ·show(insertAt _ _ _).size<=_;rw[mZ _ l];exact s
 ·intro i h' e;rw[OH _ n]at e;show ∃ m j,(insertAt t.place (below t.place (wk t.mask h M).j) (wk t.mask h M).j)[i]? = some j/\_;rw[Fd _ l];have o:∀ p,hs[p]? = some h'->∃ m j,t.place[p]? = some j/\(wk t.mask h' m).j=j/\∀ m',m' < m->Br {t with place:=insertAt t.place (below t.place (wk t.mask h M).j) (wk t.mask h M).j} (wk t.mask h' m').j:=λp w=>by
   obtain⟨m,j,a1,a2,a3⟩:=T.rea p h' w;exact⟨m,j,a1,a2,λm' k=>(g _).mpr (.inl (a3 m' k))⟩
  split at e;rw[fI (by assumption)];exact o i e;split at e;cases e;rw[gX (by assumption),fI (by assumption)];exact⟨M,_,rfl,rfl,λm' k=>(g _).mpr (.inl (hb m' k))⟩;rw[gX (by assumption),gX (by assumption)];exact o (i-1) e
def CP(ow:Array (Option Nat))(j:Nat):Prop:=∃k,ow[j]?=some (some k)
structure Fe(mask:Nat)(ow:Array (Option Nat))(hs:List Int):Prop where
 sz:ow.size=mask+1
 bd:∀(j k:Nat),ow[j]?=some (some k)->k<hs.length
 one:∀(j j' k:Nat),ow[j]?=some (some k)->ow[j']?=some (some k)->j=j'
 rea:∀(k:Nat) h,hs[k]?=some h->∃m,ow[(wk mask h m).j]?=some (some k)/\∀m',m' < m->CP ow (wk mask h m').j
def KZ(hj:j < ow.size):(ow.getD j (some 0)).isNone=true↔¬ CP ow j:=by
 have e:ow[j]?=some ow[j]:=BG hj;rw[Array.getD_eq_getD_getElem?,e];constructor
 ·rintro h ⟨k,a⟩
  simp_all
 ·intro h;cases hc:ow[j]with
  |none=>rfl
  |some k=>exact absurd ⟨k,by rw[e,hc]⟩ h
set_option tactic.hygienic true in
theorem vB{mask:Nat}(hs:ow.size=mask+1)(h:Int)(o:¬ CP ow (lp mask h L).1) :
  ∀ (fuel l:Nat),l<=L->L < l+fuel->(∀ m,m < tm mask h l->CP ow (wk mask h m).j) ->
    ∃M,layClean.free mask ow fuel (lp mask h l).1 (lp mask h l).2=some (wk mask h M).j/\¬CP ow (wk mask h M).j/\∀m,m<M->CP ow (wk mask h m).j
 |0,l,p,q,_=>by grind
 | fuel+1,l,p,q,hb=>by
   have b:∀r,r<=rT mask (lp mask h l).1->(lp mask h l).1+r<ow.size:=λr e=>by
    have:=KX (DV (OD mask h l)) r e;simp_all +arith
   have f:runEnd mask (lp mask h l).1+1-(lp mask h l).1=rT mask (lp mask h l).1+1:=by
    unfold rT runEnd;split<;>simp +arith
   have g:∀r,r<=rT mask (lp mask h l).1->(wk mask h (tm mask h l+r)).j=(lp mask h l).1+r:=λr e=>by rw[KU (xR mask h l) r e]
   unfold layClean.free;split;rename_i k i;obtain⟨a1,a2,a3⟩:=List.find?_range_eq_some.mp i;rw[Cr,f]at a2;have c:k<=rT mask (lp mask h l).1:=DV a2;refine⟨tm mask h l+k,by rw[g k c],?_,λm hm=>?_⟩;rw[g k c];exact(KZ (b k c)).mp a1;by_cases d:m<tm mask h l;exact hb m d;obtain⟨r,rfl⟩:∃r,m=tm mask h l+r:=⟨m-tm mask h l,by simp_all⟩;rw[g r (by lia)];have:=a3 r (by simp_all);refine AU λz=>?_;rw[(KZ (b r (by lia))).mpr z]at this;cases this
   ·rename_i i;have a:∀ r,r<=rT mask (lp mask h l).1->CP ow ((lp mask h l).1+r):=λr e=>by
     have:=List.find?_eq_none.mp i r (by rw[Cr,f];exact lt_succ_of_le e);exact AU λz=>this ((KZ (b r e)).mpr z)
    have n:l≠L:=λz=>by
     subst z;exact o (by simpa using a 0 (sY _))
    refine vB hs h o fuel (l+1) (lt_of_le_of_ne p n) (by simp_all +arith) λm hm=>?_;have s:m<tm mask h l+rT mask (lp mask h l).1+1:=hm;by_cases d:m<tm mask h l;exact hb m d;obtain⟨r,rfl⟩:∃r,m=tm mask h l+r:=⟨m-tm mask h l,by simp_all⟩;rw[g r (by simp_all +arith)];exact a r (by simp_all +arith)
def Fe.free{mask:Nat}(T:Fe mask ow hs)(hn:hs.length<=mask):∃ c,c<=mask/\¬ CP ow c:=by
 refine AU λl=>?_;have d:∀c,c<=mask->CP ow c:=λc hc=>AU λz=>l ⟨c,hc,z⟩
 let f:Nat->Nat:=λc=>(ow.getD c none).getD 0
 have j:∀ c,c<=mask->ow[c]? = some (some (f c)):=λc hc=>by
  obtain⟨k,e⟩:=d c hc;have:f c=k:=by
   show(ow.getD c none).getD 0=k
   simp_all
  simp_all
 have n:∀a b,a<b->b<=mask->f a≠f b:=λa b g hb e=>by
  have m:=j a (by lia);rw[e]at m;have:=T.one a b _ m (j b hb);simp_all
 obtain⟨i,hi,e⟩:=rS hs.length f (λi h=>T.bd _ _ (j i (by lia))) (λa b g hb=>n a b g (by lia)) (f hs.length) (T.bd _ _ (j hs.length hn))
 simp_all
def Fe.lay{mask:Nat}(r:mask+1=2 ^ k)(T:Fe mask ow hs)(hn:hs.length<=mask)(h:Int):∃ j,layClean.free mask ow (turns mask) (bits h % (mask+1)) (bits h)=some j/\Fe mask (ow.setIfInBounds j (some hs.length)) (hs++[h]):=by
 obtain⟨c,hc,s⟩:=T.free hn;obtain⟨n,t,e⟩:=ZQ (k:=k) (x:=(lp mask h 13).1) (c:=c) (by lia);have u:¬CP ow (lp mask h (13+n)).1:=by rw[KW r h n,e];exact s
 obtain⟨M,v,q,w⟩:=vB T.sz h u (turns mask) 0 (sY _) (by show 13+n<0+(mask+15);lia) (λm hm=>absurd hm (FC _));refine⟨_,v,?_⟩;have hj:(wk mask h M).j<ow.size:=by rw[T.sz];exact lt_succ_of_le (OE h M)
 have g:∀c,(ow.setIfInBounds (wk mask h M).j (some hs.length))[c]?=if(wk mask h M).j=c then some (some hs.length)else ow[c]?:=λc=>by
  rw[Array.getElem?_setIfInBounds];split
  ·first|rfl|rw[fI hj]
  ·rfl
 have i:∀{c},CP ow c->CP (ow.setIfInBounds (wk mask h M).j (some hs.length)) c:=λ{c} Z1=>by
  obtain⟨b,a⟩:=Z1;refine⟨b,?_⟩;rw[g,gX (λz=>q ⟨b,by rw[z];exact a⟩)];exact a
 refine⟨by rw[Array.size_setIfInBounds];exact T.sz,λj b a=>?_,λj j' b l f=>?_,λb h' a=>?_⟩;rw[g]at a;rw[AO];split at a;cases a;simp;have:=T.bd _ _ a;simp;lia
 ·rw[g]at l f;split at l;cases l;split at f;lia;have:=T.bd _ _ f;lia;split at f;cases f;have:=T.bd _ _ l;lia;exact T.one _ _ _ l f
 ·by_cases o:b<hs.length;rw[BM o]at a;obtain⟨m,a1,a2⟩:=T.rea b h' a;refine⟨m,?_,λm' d=>i (a2 m' d)⟩;rw[g,gX (λz=>q ⟨b,by rw[z];exact a1⟩)];exact a1;rw[DN (Em o)]at a;have p:b=hs.length:=by grind
  subst p;have:h'=h:=by simpa using a.symm
  subst this;exact⟨M,by rw[g,fI rfl],λm' d=>i (w m' d)⟩
theorem kZ{mask k:Nat}(b:mask+1=2 ^ k):∀ (fH:List Int) (hs:List Int) (ow:Array (Option Nat)),Fe mask ow hs->hs.length+fH.length<=mask+1 ->
  ∃ a,fH.foldl (λacc h=>do
    let (owner,k) ← acc
    let j ← layClean.free mask owner (turns mask) (bits h % (mask+1)) (bits h)
    pure (owner.setIfInBounds j (some k),k+1)) (some (ow,hs.length))=some (a,hs.length+fH.length)/\Fe mask a (hs++fH)
 |[],hs,ow,T,_=>⟨ow,by simp,by simp_all⟩
 | h::fH,hs,ow,T,hl=>by
   rw[Ek]at hl;obtain⟨j,e,c⟩:=T.lay b (by lia) h;obtain⟨a,d,f⟩:=kZ b fH (hs++[h]) _ c (by grind);refine⟨a,?_,by simp_all⟩;rw[AO,length_singleton]at d
   grind
def ZY(mask:Nat):Fe mask (Array.replicate (mask+1) none) []:=by
 refine⟨by simp,λj k e=>?_,λj j' k e=>?_,λk h e=>by simp at e⟩
 all_goals
  rw[Array.getElem?_replicate]at e
  simp_all
def ZZ{mask k finger moves:Nat}{led plain:Bool}(G:mask+1=2 ^ k)(J:7<=mask)(hn:hashes.size<=mask) :
  ∃t order,laid mask finger moves led plain hashes=some (t,order)/\CO t (order.toList.filterMap (hashes[·]?))/\order.toList.Perm (range hashes.size)/\t.mask=mask/\t.place.size=hashes.size/\t.led=led/\t.plain=plain:=by
 obtain⟨ow,e,T⟩:=kZ G hashes.toList [] _ (ZY mask) (by rw[BX];simp;lia);rw[nil_append]at T;have K:layClean mask hashes=some ow:=by
  unfold layClean;rw[← Array.foldl_toList];have n:=e;rw[HI,Bq]at n;rw[n];rfl
 let g:Nat->Option (Nat×Nat):=λj=>(ow.getD j none).map (j,·)
 have gd:∀ j p,g j=some p↔p.1=j/\ow[j]? = some (some p.2):=λj p=>by
  show(ow.getD j none).map (j,·)=some p↔_;rw[Array.getD_eq_getD_getElem?];cases H:ow[j]? with
  |none=>simp
  | some o=>
    cases o with
    |none=>simp
    | some A=>
      obtain⟨a,b⟩:=p;simp;intro _;exact⟨λz=>z.symm,λz=>z.symm⟩
 let d:=(range (mask+1)).filterMap g
 have mem:∀p,p∈d↔ow[p.1]?=some (some p.2):=λp=>by
  rw[List.mem_filterMap];constructor;rintro⟨j,_,h⟩;obtain⟨rfl,h'⟩:=(gd j p).mp h;exact h';intro h;have:p.1<mask+1:=by rw[← T.sz];exact(Gk.mp h).1
  exact⟨p.1,Cr.mpr this,(gd _ _).mpr ⟨rfl,h⟩⟩
 have pw:d.Pairwise (λa b=>a.1<b.1):=List.Pairwise.filterMap g (λa S h b hb U B=>by
  rw[((gd _ _).mp hb).1,((gd _ _).mp B).1];exact h) List.pairwise_lt_range
 have ri:∀(i j:Nat) p q,i<j->d[i]?=some p->d[j]?=some q->p.1<q.1:=λi j p q s L M=>by
  obtain⟨hi,rfl⟩:=sS.mp L;obtain⟨hj,rfl⟩:=sS.mp M;exact List.pairwise_iff_getElem.mp pw i j hi hj s
 have nd:(d.map (·.2)).Nodup:=by
  rw[Eg,List.pairwise_map];refine List.Pairwise.imp_of_mem (λ{a b} ha hb N e=>?_) pw;have u:=(mem a).mp ha;have w:=(mem b).mp hb;rw[← e]at w;have:=T.one _ _ _ u w;simp_all
 have x:hashes.toList.length=hashes.size:=BX;have perm:(d.map (·.2)).Perm (range hashes.size):=(List.perm_ext_iff_of_nodup nd List.nodup_range).mpr λa=>by
  rw[Bc,Cr];constructor;rintro⟨p,v,rfl⟩;rw[← x];exact T.bd _ _ ((mem p).mp v);intro ha;obtain⟨m,u,_⟩:=T.rea a hashes.toList[a] (nL ha);exact⟨((wk mask hashes.toList[a] m).j,a),(mem _).mpr u,rfl⟩
 have I:d.length=hashes.size:=by have:=perm.length_eq;simpa using this
 have y:(d.map (·.2)).filterMap (hashes[·]?)=d.map λp=>hashes.toList.getD p.2 0:=by
  have C:∀ l:List (Nat×Nat),(∀ p∈l,p.2 < hashes.toList.length)->(l.map (·.2)).filterMap (hashes[·]?)=l.map λp=>hashes.toList.getD p.2 0:=by
   intro l
   induction l with
   |nil=>intro _;rfl
   | cons p r π=>
     intro hb;have u:=hb p sT;have f:hashes[p.2]?=some (hashes.toList.getD p.2 0):=by
      rw[← Bg,Dq,nL u];rfl
     rw[Bm,List.filterMap_cons,f,Bm,π λq H=>hb q (Ah _ H)]
  exact C d λp v=>T.bd _ _ ((mem p).mp v)
 refine⟨⟨mask,(d.map (·.1)).toArray,#[],finger,led,moves,plain⟩,(d.map (·.2)).toArray,?_,?_,perm,rfl,by simpa using I,rfl,rfl⟩;unfold laid;rw[K];rfl;have pl:∀(i j:Nat),(d.map (·.1)).toArray[i]?=some j↔∃p,d[i]?=some p/\p.1=j:=λi j=>by
  rw[Dr,Ar];exact Bf
 have D1:∀c,Br (⟨mask,(d.map (·.1)).toArray,#[],finger,led,moves,plain⟩:SetTable) c↔CP ow c:=λc=>by
  constructor;rintro⟨i,h⟩;obtain⟨p,f,rfl⟩:=(pl i c).mp h;exact⟨p.2,(mem p).mp (AV f)⟩;rintro⟨A,h⟩;obtain⟨i,hi,f⟩:=BY ((mem (c,A)).mpr h);exact⟨i,(pl i c).mpr ⟨(c,A),by rw[nL hi,f],rfl⟩⟩
 refine⟨⟨k,G⟩,J,rfl,?_,?_,?_,?_,?_⟩;intro i j a b s P Q;obtain⟨p,f,rfl⟩:=(pl i a).mp P;obtain⟨q,E,rfl⟩:=(pl j b).mp Q;exact ri i j p q s f E;intro i j n;obtain⟨p,f,rfl⟩:=(pl i j).mp n;have u:=(mem p).mp (AV f);have w:=(Gk.mp u).1;rw[T.sz]at w;exact DV w;show(d.map (·.1)).toArray.size=((d.map (·.2)).toArray.toList.filterMap (hashes[·]?)).length;rw[show(d.map (·.2)).toArray.toList=d.map (·.2)from rfl,y];simp;show(d.map (·.1)).toArray.size<=mask;simp[I];exact hn;intro i h' n;rw[show(d.map (·.2)).toArray.toList=d.map (·.2)from rfl,y,Ar]at n;obtain⟨p,f,E⟩:=Bf.mp n;have v:=(mem p).mp (AV f);have hb:=T.bd _ _ v;have R:hashes.toList[p.2]?=some h':=by
  rw[← E,Dq,nL hb];rfl
 obtain⟨m,a1,a2⟩:=T.rea p.2 h' R;have:=T.one _ _ _ a1 v;exact⟨m,p.1,(pl i p.1).mpr ⟨p,f,rfl⟩,this,λm' F=>(D1 _).mpr (a2 m' F)⟩
end
structure Ga(prog:Program)(w:World)(A:Around)(S I:Addr)(n:Nat)(P:Nat->Value->Prop)(J:Nat->Heap->Prop):Prop where
 put:∀i v (s:Shared) (Q:Bool->Shared->Prop) (E:Value->Shared->Prop),i<n->P i v->J i s.heap ->
  (∀b h' tk,J (i+1) h'->(∀c o,c≠S->s.heap.get? c=some o->h'.get? c=some o)->Q b {s with heap:=h',toks:=tk})->wpAny (model prog w) A (setAdd S v) Q E s
 stay:∀i h h',J i h->(∀c o,c≠I->h.get? c=some o->h'.get? c=some o)->J i h'
theorem vC(W:Walks prog w A.in1 I fp [I] n P St1)(F:Ga prog w A.in1 S I n P J)(hS:S∉fp) :
  ∀ (k i:Nat) (s:Shared),i+k=n->St1 i s.heap->J i s.heap ->
    (∀h' tk,J n h'->(∀c o,c≠S->c≠I->s.heap.get? c=some o->h'.get? c=some o)->R (.ok (.ret .none)) {s with heap:=h',toks:=tk}) ->
    codeAny (model prog w) A (.builtin "set.update.loop" ⟨[.ref S,.ref I],[]⟩) R s
 | 0,i,s,h,st,j,q=>by
   have hi:i=n:=h;subst hi;refine CV PyProof.Rows.F.entry_set_update_loop ?_;rw[DR JX _]
   (show wpAny _ A.in1 (pyNext (.ref I) >>= _) _ _ s;refine dV (W.done s _ _ st λh' tk a=>?_))
   have l:∀c o,c≠I->s.heap.get? c=some o->h'.get? c=some o:=λc o hc e=>a c o (by simpa using hc) e;exact gV (q h' tk (F.stay _ _ _ j l) λc o _ hc e=>l c o hc e)
 | k+1,i,s,h,st,j,q=>by
   have hi:i<n:=by lia
   refine CV PyProof.Rows.F.entry_set_update_loop ?_;rw[DR JX _]
   (show wpAny _ A.in1 (pyNext (.ref I) >>= _) _ _ s;refine dV (W.item i s _ _ hi st λv u x y d f=>?_))
   have m:∀c o,c≠I->s.heap.get? c=some o->u.get? c=some o:=λc o hc e=>f c o (by simpa using hc) e
   (show wpAny _ A.in1 (holding [v] (setAdd S v) >>= _) _ _ _;refine dV (AE ?_))
   refine F.put i v _ _ _ hi y (F.stay _ _ _ j m) λb B C D1 p=>?_;refine gV ⟨Dp JX _,?_⟩;have g:St1 (i+1) B:=W.frame _ _ _ d λc hc o e=>p c o (λz=>hS (z▸hc)) e;exact vC W F hS k (i+1) _ (by lia) g D1 λh' tk E G=>q h' tk E λc o r t e=>G c o r t (p c o r (m c o t e))
def c7(k:TypeCalled T b a)(l:checkTypeCall T ⟨args,[]⟩=pure ())
  (g:codeAny (model prog w) A.in1 (.call (.builtin b) ⟨.type T::args,[]⟩) (wants Q₁ E) s)
  (h:∀obj d,Q₁ obj d->d.TypeIs obj T/\codeAny (model prog w) A.in1 (.call (.builtin a) ⟨obj::args,[]⟩) (wants (λr i=>r=.none/\Q obj i) E) d) :
  wpAny (model prog w) A (call (.type T) args) Q E s:=by
 obtain⟨n1,n2,⟨c,n,n3⟩,o,p,q,j⟩:=k;have t:=j.lookup;refine wpAny_call (codeAny_of_tree (gV ⟨Code.quiet_builtin _ (by decide +kernel),CV F.entry_type_call ?_⟩));rw[Around.under_plain (weight_type_call_type T args []) rfl]
 repeat (any_goals (first|assumption|wp_step))
 refine HB g λr s1 f=>?_
 match r,f with
 |.error e,f=>exact f
 | .ok (.ret obj),f=>
   obtain⟨hT,hi⟩:=h obj s1 f;have hb:=j.bind obj
   repeat (any_goals (first|assumption|wp_step))
   refine HB hi λr s2 f=>?_
   match r,f with
   |.error e,f=>exact f
   | .ok (.ret x),⟨m,u⟩=>
     subst m
     repeat (any_goals (first|assumption|wp_step))
noncomputable abbrev CQ(es:Array (Int×Value))(ep:Nat)(t:SetTable):Obj:={cls:=.type "set",dict:=none,data:=.set es ep t}
noncomputable def fM(w:World):Bool:=!w.params.followText "set-order"
def c8(a:Value)(h:Q (.ref s.heap.objs.size) {s with heap:=s.heap.push (CQ #[] 0 (.fresh 0 0 (fM w)))}) :
  codeAny (model prog w) A (.call (.builtin "set.__new__") ⟨[.type "set",a],[]⟩) (wants Q E) s:=by
 refine codeAny_call_builtin F.plain_set_new F.entry_set_new (wpAny_of_eq (F.newCall_set_1 a) ?_);have b:=sub_set_self
 wp_walk
 refine Hx (gV ?_);exact dV (wpAny_alloc (gV (gV h)))
structure Ff(prog:Program)(w:World)(A:Around)(h₀:Heap)(l:Addr)(n:Nat)(P:Nat->Value->Prop) where
 T:String
 St:Addr->Nat->Heap->Prop
 ob:Obj
 ty:∃o,h₀.get? l=some o/\o.cls=.type T
 n1:isSubtype (.type T) (.type "set")=pure false
 n2:isSubtype (.type T) (.type "frozenset")=pure false
 n3:(type T==type "dict")=false
 iter:∀(A:Around) (s:Shared) (Q:Value->Shared->Prop) (E:Value->Shared->Prop),(∀b o,h₀.get? b=some o->s.heap.get? b=some o)->Q (.ref s.heap.objs.size) {s with heap:=s.heap.push ob}->wpAny (model prog w) A (pyIter (.ref l)) Q E s
 free:ob.isFreed=false
 walk:∀(A':Around),A'.handled=A.handled->∀I,l≠I->Walks prog w A' I [I,l] [I] n P (St I)
 iN:∀h:Heap,(∀b o,h₀.get? b=some o->h.get? b=some o)->St h.objs.size 0 (h.push ob)
def c9{s:Shared}(c:Ff prog w A s.heap l n P)
  (L:∀A':Around,A'.handled=A.handled->A'.units<=A.units+8->Ga prog w A' s.heap.objs.size (s.heap.objs.size+1) n P J)
  (v:∀(h':Heap),h'.get? s.heap.objs.size=some (CQ #[] 0 (.fresh 0 0 (fM w)))->(∀b o,s.heap.get? b=some o->h'.get? b=some o)->J 0 h')
  (q:∀h' tk,J n h'->(∀b o,s.heap.get? b=some o->h'.get? b=some o)->Q (.ref s.heap.objs.size) {s with heap:=h',toks:=tk}) :
  wpAny (model prog w) A (call (.type "set") [.ref l]) Q E s:=by
 obtain⟨T,St,ob,⟨⟨t,k,m,j⟩,f,g⟩,n1,n2,n3,iter,free,walk,iN⟩:=c;simp only at g;subst g;have h:l<s.heap.objs.size:=kN f;refine c7 (Q₁:=λobj s₁=>obj=.ref s.heap.objs.size/\s₁={s with heap:=s.heap.push (CQ #[] 0 (.fresh 0 0 (fM w)))}) F.called_set (F.typeCall_set_1 _) (c8 _ ⟨rfl,rfl⟩) λobj s₁ Z0=>?_;obtain⟨x,y⟩:=Z0;subst x y;have hS:(s.heap.push (CQ #[] 0 (.fresh 0 0 (fM w)))).get? s.heap.objs.size=some (CQ #[] 0 (.fresh 0 0 (fM w))):=Ad _ rfl;have a:∀b o,s.heap.get? b=some o->(s.heap.push (CQ #[] 0 (.fresh 0 0 (fM w)))).get? b=some o:=λb o e=>sU _ e;have hT:TypeIs {s with heap:=s.heap.push (CQ #[] 0 (.fresh 0 0 (fM w)))} (.ref s.heap.objs.size) "set":=⟨_,hS,rfl⟩;have B:TypeIs {s with heap:=s.heap.push (CQ #[] 0 (.fresh 0 0 (fM w)))} (.ref l) T:=⟨_,a l _ f,rfl⟩;refine⟨hT,codeAny_call_builtin F.called_set.init.plain F.entry_set_init (check_set_init_1 hT ?_)⟩;have C:=a l _ f;unfold Builtin.«set.__init__» noKeywords Builtin.Frozenset.updateFrom;generalize p:pyIter=PI1
 wp_walk
 subst p;refine iter _ _ _ _ a ?_;refine dV (wpAny_runValue ?_);have u:(s.heap.push (CQ #[] 0 (.fresh 0 0 (fM w)))).objs.size=s.heap.objs.size+1:=FD ..;have ne:l≠s.heap.objs.size+1:=λz=>absurd h (by rw[z];exact ER.mpr (le_succ _));have i:=iN _ a;rw[u]at i;have r:((s.heap.push (CQ #[] 0 (.fresh 0 0 (fM w)))).push ob).get? s.heap.objs.size=some (CQ #[] 0 (.fresh 0 0 (fM w))):=sU _ hS;have d:∀b o,s.heap.get? b=some o->((s.heap.push (CQ #[] 0 (.fresh 0 0 (fM w)))).push ob).get? b=some o:=λb o e=>sU _ (a b o e);show codeAny (model prog w) A.in1.in1 (.builtin "set.update.loop" ⟨[.ref s.heap.objs.size,.ref (s.heap.push (CQ #[] 0 (.fresh 0 0 (fM w)))).objs.size],[]⟩) _ _;rw[u];refine vC (walk A.in1.in1.in1 rfl (s.heap.objs.size+1) ne) (L A.in1.in1.in1 rfl (by show A.units+1+1+1<=A.units+8;simp)) ?_ n 0 _ (Bq n) i (v _ r d) λh' tk D1 G=>?_;simp only[mem_cons,not_mem_nil,or_false,not_or];exact⟨An (HF _),CF h⟩;refine gV (gV ⟨rfl,q h' tk D1 λb o e=>?_⟩);have hb:=kN e;exact G b o (An hb) (An (Nat.lt_succ_of_lt hb)) (d b o e)
def Ff.list{s:Shared}(d:A.handled=none)(a:s.heap.IsList l items):Ff prog w A s.heap l items.size (λi v=>items[i]?=some v) where
 T:="list"
 St:=λI i h=>h.IsListIter I l i/\h.IsList l items
 ob:={cls:=.type "list_iterator",data:=.fields #[.ref l,.int 0 0]}
 ty:=by obtain⟨o,f,hc,_⟩:=a;exact⟨o,f,hc⟩
 n1:=F.sub_list_set
 n2:=F.sub_list_frozenset
 n3:=by decide
 iter:=λA' s' Q E b g=>wpAny_pyIter_list (a.at λo e=>b l o e) g
 free:=rfl
 walk:=λA' ha I c=>Walks.list (ha.trans d) I l c items
 iN:=λh b=>⟨⟨_,Ad _ rfl,rfl,rfl⟩,(a.at λo e=>b l o e).push _⟩
def xT:isSubtype (.type "tuple") (.type "set")=pure false:=by rw[isSubtype_type];kernel_rfl
def oU:isSubtype (.type "tuple") (.type "frozenset")=pure false:=by rw[isSubtype_type];kernel_rfl
def Ff.tup{prog:Program}{w:World}{A:Around}{s:Shared}(d:A.handled=none){l:Addr}{items:Array Value}(a:s.heap.IsTuple l items):Ff prog w A s.heap l items.size (λi v=>items[i]?=some v) where
 T:="tuple"
 St:=λI i h=>h.IsTupleIter I l i/\h.IsTuple l items
 ob:={cls:=.type "tuple_iterator",data:=.fields #[.ref l,.int 0 0]}
 ty:=by obtain⟨o,f,hc,_⟩:=a;exact⟨o,f,hc⟩
 n1:=xT
 n2:=oU
 n3:=by decide
 iter:=λA' s' Q E b g=>Hv (a.at λo e=>b l o e) g
 free:=rfl
 walk:=λA' ha I c=>Walks.tuple (ha.trans d) I l c items
 iN:=λh b=>⟨⟨_,Ad _ rfl,rfl,rfl⟩,(a.at λo e=>sU _ (b l o e))⟩
section
open SetTable
def CO.stop2(T:CO t hs)(h:Int):∃ M,M<=10*(13+t.place.size)/\¬ Br t (wk t.mask h M).j/\∀ m,m < M->Br t (wk t.mask h m).j:=by
 obtain⟨k,s⟩:=T.pw;have w:=T.fit;have ex:∃ n,n<=t.place.size/\¬ Br t (wk t.mask h (tm t.mask h (13+n))).j:=by
  refine AU λhn=>?_;have l:∀n,n<=t.place.size->Br t (CN k n (lp t.mask h 13).1):=λn d=>AU λz=>hn ⟨n,d,by
   rw[xR,KW s h n];exact z⟩
  let f:Nat->Nat:=λn=>below t.place (CN k n (lp t.mask h 13).1)
  have o:∀n,n<=t.place.size->f n<t.place.size/\t.place[f n]?=some (CN k n (lp t.mask h 13).1):=λn d=>by
   obtain⟨i,e⟩:=l n d;have:f n=i:=jN T.ri e;rw[this];exact⟨(Gk.mp e).1,e⟩
  have u:∀a b,a<b->b<=t.place.size->f a≠f b:=λa b g hb e=>by
   have p:=(o a (by lia)).2;rw[e,(o b hb).2]at p;exact OB g (by lia:b<2^k) (Ap p).symm
  obtain⟨i,hi,e⟩:=rS t.place.size f (λi h=>(o i (AQ h)).1) (λa b g hb=>u a b g (by lia)) (f t.place.size) (o t.place.size (hF _)).1
  simp_all
 obtain⟨n,hn,q⟩:=ex;have r:∀ N,(∃ m,m < N/\¬ Br t (wk t.mask h m).j)->∃ M,M < N/\¬ Br t (wk t.mask h M).j/\∀ m,m < M->Br t (wk t.mask h m).j:=by
  intro N
  induction N with
  |zero=>simp
  | succ N v=>
    rintro⟨m,p,x⟩;by_cases hb:∃m,m<N/\¬Br t (wk t.mask h m).j
    ·obtain⟨M,a,b,c⟩:=v hb
     grind
    grind
 obtain⟨M,a,b,c⟩:=r (tm t.mask h (13+n)+1) ⟨_,HF _,q⟩;have:=ZT t.mask h (13+n);exact⟨M,by lia,b,c⟩
end
abbrev jU(prog:Program)(w:World)(h:Heap)(k:List Int)(a:Addr):Prop:=IsTupleKey (intKind prog w) h k a
def jU.at(x:jU prog w h k a)(e:∀o,h.get? a=some o->h'.get? a=some o):jU prog w h' k a:=by
 obtain⟨o,items,n,b,r⟩:=x;exact⟨o,items,n,e o b,r⟩
def lQ(h:ItemsAre (intKind prog w) k vs):∀v∈vs,∃i t,v=.int i t:=by
 induction h with
 |nil=>simp
 |cons h _ i=>exact List.forall_mem_cons.mpr ⟨(isInt_shape h).elim λt e=>⟨_,t,e⟩,i⟩
def d1(c:jU prog w s.heap k a)(h:Q true s):wpAny (model prog w) A (hashByValue 8 (.ref a)) Q E s:=by
 have hT:=c.typeIs;obtain⟨o,items,n,f,_,hd,hi⟩:=c;refine dV (Gh hT F.slot_tuple_hash.lookup ?_);refine dV (CB f hd ?_);dsimp only[getD_some];refine dV ?_;rw[← Array.forIn_toList];refine wpAny_forIn_list _ (λfH r s'=>r.1=none/\s'=s/\∀v∈fH,∃i t,v=.int i t) _ ?_ ?_ _ _ ⟨rfl,rfl,lQ hi⟩;rintro v fH r s' ⟨d,rfl,b⟩;obtain⟨i,t,rfl⟩:=b v sT;have e:hashByValue 7 (.int i t)=pure true:=rfl;exact gV ⟨rfl,rfl,λu g=>b u (Ah _ g)⟩;rintro⟨j,l⟩ s' ⟨d,rfl,_⟩;subst d;exact gV h
def OI(c:jU prog w s.heap k a)(h:Q false s):wpAny (model prog w) A (ofAClassStatement 8 (.ref a)) Q E s:=by
 have hT:=c.typeIs;obtain⟨o,items,n,f,_,hd,hi⟩:=c;unfold ofAClassStatement;refine dV (DK hT ?_);refine dV (gV ?_);refine dV (CB f hd ?_);refine dV ?_;rw[← Array.forIn_toList];refine wpAny_forIn_list _ (λfH r s'=>r.1=none/\s'=s/\∀v∈fH,∃i t,v=.int i t) _ ?_ ?_ _ _ ⟨rfl,rfl,lQ hi⟩;rintro v fH r s' ⟨d,rfl,b⟩;obtain⟨i,t,rfl⟩:=b v sT;have e:ofAClassStatement 7 (.int i t)=pure false:=rfl;exact gV ⟨rfl,rfl,λu g=>b u (Ah _ g)⟩;rintro⟨j,l⟩ s' ⟨d,rfl,_⟩;subst d;exact gV h
def d3(e:jU prog w s.heap k a)(l:List Value)(g:∀v∈l,∃d b,v=.ref b/\jU prog w s.heap d b)(h:Q false s):wpAny (model prog w) A (searchCouldBeSeen (.ref a) l) Q E s:=by
 refine dV ?_;refine wpAny_forIn_list _ (λfH r s'=>r.1=none/\s'=s/\∀v∈fH,∃d b,v=.ref b/\jU prog w s.heap d b) _ ?_ ?_ _ _ ⟨rfl,rfl,g⟩;rintro v fH r s' ⟨f,rfl,c⟩;obtain⟨d,b,rfl,hb⟩:=c v sT;have go:∀u∈fH,∃d b,u=Value.ref b/\jU prog w s'.heap d b:=λu i=>c u (Ah _ i);dsimp only;split;exact gV ⟨rfl,rfl,go⟩;refine dV (wpAny_eqIsQuiet_tuple e ?_);refine dV (wpAny_eqIsQuiet_tuple hb ?_);refine dV (OI e ?_);refine dV (OI hb ?_);exact gV ⟨rfl,rfl,go⟩;rintro⟨j,m⟩ s' ⟨f,rfl,_⟩;subst f;exact gV h
structure Cz(prog:Program)(w:World)(h:Heap)(S:Addr)(led:Bool)(N:Addr->Prop)(ks:List (List Int))(o:Obj)(es:Array (Int×Value))(ep:Nat)(t:SetTable):Prop where
 ob:h.get? S=some o
 ex:o.ExactSet
 dt:o.data=.set es ep t
 tk:CO t (es.toList.map (·.1))
 ful:t.place.size*5<t.mask*3
 ld:t.led=led
 pl:t.plain=true
 len:ks.length=es.size
 it:∀(i:Nat) e,es[i]?=some e->∃k a,ks[i]?=some k/\e=(tupleKeyHash (intKind prog w) k,.ref a)/\jU prog w h k a/\N a
 nd:ks.Nodup
theorem CO.fits(T:CO t hs)(hn:hs.length=n):t.fits n=true:=by
 have a:=T.len;have b:=T.fit;simp only[SetTable.fits,SetTable.fill,Bool.and_eq_true,beq_iff_eq,decide_eq_true_eq,T.dm]
 grind
theorem Cz.fits{s:Shared}(X:Cz prog w s.heap S led N ks o es ep t):t.fits es.size=true:=X.tk.fits (by simp)
def Cz.state(X:Cz prog w s.heap S led N ks o es ep t)(h:Q (es,ep,t) s):wpAny (model prog w) A (setState S) Q E s:=
 wpAny_setState_of X.ob X.dt X.fits h
def Cz.even{s:Shared}(X:Cz prog w s.heap S led N ks o es ep t):t.gaveWay=false:=by
 obtain⟨k,a⟩:=X.tk.pw;have b:=X.tk.m7;unfold SetTable.gaveWay;have:t.mask % 2=1:=by
  cases k with
  |zero|succ k=>lia
 simp_all
set_option tactic.hygienic true in
theorem pS(X:Cz prog w s.heap S led N ks o es ep t)(hu:A.units < cLine)(H:jU prog w s.heap k a)(hM:¬ Br t (wk t.mask (tupleKeyHash (intKind prog w) k) M).j)(hb:∀ m,m < M->Br t (wk t.mask (tupleKeyHash (intKind prog w) k) m).j)
  (q:M<10*SetTable.turns t.mask) :
  ∀ (d n:Nat) (c:Option SetTable.Probe) (Q:SetFound->Shared->Prop),c.getD (t.probeStart (tupleKeyHash (intKind prog w) k))=wk t.mask (tupleKeyHash (intKind prog w) k) n->n<=M->M-n < d ->
    (∀i:Nat,ks[i]?=some k->∃m j,n<=m/\t.place[i]?=some j/\(wk t.mask (tupleKeyHash (intKind prog w) k) m).j=j/\m<M) ->
    (k∈ks->Q (.there none) s)->(k∉ks->Q (.free (wk t.mask (tupleKeyHash (intKind prog w) k) M).j false) s)->wpAny (model prog w) A (setSearchFrom S (.ref a) (tupleKeyHash (intKind prog w) k) true d c) Q E s
 |0,n,c,Q,_,_,hf,_,_,_=>by simp_all
 | d+1,n,c,Q,I,hn,hf,r,q1,q2=>by
   refine dV (X.state ?_);dsimp only;rw[X.even,gX Fx,I];have hg:=OG X.tk (h:=tupleKeyHash (intKind prog w) k) (hashAt:=λi=>(es[i]?.map (·.1)).getD 0) hM hb (10*SetTable.turns t.mask) n hn (sub_lt_of_lt q);have u:∀(i:Nat) e,es[i]?=some e->((es[i]?.map (·.1)).getD 0)=e.1:=λi e G=>by rw[G];rfl
   split
   ·rename_i met f;rcases hg with⟨m,i,a1,a2,a3,a4,a5,a6⟩ | ⟨a1,a2⟩
    ·have e:met=.candidate (wk t.mask (tupleKeyHash (intKind prog w) k) m).j i (wk t.mask (tupleKeyHash (intKind prog w) k) (m+1)):=Ap (f.symm.trans a6);subst e;dsimp only;have hi:i < es.size:=by
      have h1:=(Gk.mp a3).1;have J:=X.tk.len;simp at J;simp_all
     have K:es[i]? = some es[i]:=BG hi;obtain⟨L,b,y,ee,π,_⟩:=X.it i _ K;have seen:∀ v∈((es.filter (λx=>x.1==tupleKeyHash (intKind prog w) k)).toList.map (·.2)),∃ L b,v=Value.ref b/\jU prog w s.heap L b:=λv hv=>by
      obtain⟨e,G,rfl⟩:=Bc.mp hv;have P:e∈es:=by
       rw[Array.mem_toList_iff]at G;exact(Array.mem_filter.mp G).1
      obtain⟨j,hj,ej⟩:=Array.getElem_of_mem P;obtain⟨k2,g,_,l,J,_⟩:=X.it j e (by rw[BG hj,ej]);exact⟨k2,g,by rw[l],J⟩
     cases hl:t.led
     all_goals
      simp only[Bool.not_true,Bool.not_false,false_eq_true,if_false,if_true]
      try
       refine dV (d3 H _ seen ?_);simp only[false_eq_true,if_false]
      rw[K,ee];dsimp only;refine dV (AE (wpAny_eqBool_tuple hu π H ?_));refine dV (X.state ?_);dsimp only;by_cases p:L=k;subst p;rw[Dm rfl];exact gV (q1 (AV y));rw[Ft p];have R:t.sameMemory t.moves t.mask=some true:=by unfold SetTable.sameMemory;simp
      rw[R];dsimp only;rw[fI rfl,uZ X.tk.ri a3];dsimp only;rw[K,ee];dsimp only;refine dV (wpAny_isSame_ref_self ?_);simp only[if_true];refine dV (gV ?_);dsimp only;refine pS X hu H hM hb q d (m+1) (some _) Q rfl a2 (by lia) (λi2 l=>?_) q1 q2;obtain⟨T,j2,U,g,B,V1⟩:=r i2 l;refine⟨T,j2,?_,g,B,V1⟩
      refine lt_of_not_le λhle=>?_;have W:i2<es.size:=by rw[← X.len];exact(sS.mp l).1
      have C:es[i2]?=some es[i2]:=BG W;obtain⟨k3,b5,D1,Y,_⟩:=X.it i2 _ C;rw[l]at D1;cases D1;by_cases z:T=m
      ·subst z;have:i2=i:=by rw[← jN X.tk.ri g,← jN X.tk.ri a3,B]
       subst this;rw[y]at l;exact p (Ap l)
      ·refine a5 T i2 U (by lia) (by rw[g,B]) ?_;show(es[i2]?.map (·.1)).getD 0=_;rw[u i2 _ C,Y]
    ·have e:met=.empty (wk t.mask (tupleKeyHash (intKind prog w) k) M).j none:=Ap (f.symm.trans a2);subst e;dsimp only;refine gV (q2 λhm=>?_);obtain⟨i,hi,e⟩:=BY hm;have y:ks[i]?=some k:=by rw[nL hi,e]
     obtain⟨m,j,U,g,B,V1⟩:=r i y;have σ:i<es.size:=by rw[← X.len];exact hi
     have C:es[i]?=some es[i]:=BG σ;obtain⟨k3,b5,D1,Y,_⟩:=X.it i _ C;rw[y]at D1;cases D1;refine a1 m i U V1 (by rw[g,B]) ?_;show(es[i]?.map (·.1)).getD 0=_;rw[u i _ C,Y]
   ·rename_i F;exfalso;rcases hg with⟨m,i,_,_,_,_,_,a6⟩|⟨_,a2⟩;exact F _ a6;exact F _ a2
section
open SetTable
theorem mJ(n:Nat):∀ (f k:Nat),n < 2 ^ k*2 ^ f->3<=k->∃ g,sizeAbove.go n f (2 ^ k)=2 ^ g/\k<=g/\n < 2 ^ g/\(2 ^ g=2 ^ k\/2 ^ g<=2*n)
 |0,k,h,i=>⟨k,rfl,hF _,by simp_all,.inl rfl⟩
 | f+1,k,h,i=>by
   unfold sizeAbove.go;split
   ·have e:2^k*2=2^(k+1):=(EO ..).symm;obtain⟨g,a,b,c,d⟩:=mJ n f (k+1) (by rw[EO,mul_assoc,EN 2 (2^f),← EO];exact h) (Nat.lt_succ_of_lt i)
    grind
   grind
def oV(n:Nat)(h:n<2^60):∃k,sizeAbove n=2^k/\3<=k/\n<2^k/\2^k<=8+2*n:=by
 obtain⟨k,a,b,c,d⟩:=mJ n 64 3 (Ax h (by decide)) (hF _);exact⟨k,a,b,c,by lia⟩
noncomputable def rel{α:Type}(l:List α)(od:List Nat):List α:=od.filterMap (l[·]?)
theorem xU{l:List a}:∀ {od:List Nat},(∀ j∈od,j < l.length)->∀ i:Nat,(rel l od)[i]? = (od[i]?).bind (l[·]?)
 |[],_,i=>rfl
 | j::od,h,i=>by
   have hj:=h j sT;have e:rel l (j::od)=l[j]::rel l od:=by
    unfold rel
    simp_all
   rw[e];cases i with
   |zero=>simp
   |succ i=>exact xU (λx b=>h x (Ah _ b)) i
def pT{l:List a}(h:∀ j∈od,j < l.length):(rel l od).length=od.length:=by
 induction od with
 |nil=>rfl
 | cons j od b=>
   have hj:=h j sT;have e:rel l (j::od)=l[j]::rel l od:=by
    unfold rel
    simp_all
   simp_all
def OJ{l:List a}(h:od.Perm (range l.length)):(rel l od).Perm l:=by
 have b:(rel l od).Perm (rel l (range l.length)):=h.filterMap _;have c:rel l (range l.length)=l:=by exact PySem.List.filterMap_getElem?_range_length l
 simp_all
def nZ(l:List b)(p:Nat)(x:b):(xS l p x).Perm (x::l):=by
 unfold xS;have:=List.perm_middle (a:=x) (l₁:=l.take p) (l₂:=l.drop p)
 simp_all
end
def vD(prog:Program)(w:World)(h:Heap)(S:Addr)(led:Bool)(N:Addr->Prop)(ks:List (List Int)):Prop:=∃o es ep t,Cz prog w h S led N ks o es ep t
def Cz.store{s:Shared}(X:Cz prog w s.heap S led N ks o es ep t)(T:CO t' (b.toList.map (·.1)))(m:t'.led=t.led)(p:t'.plain=true)(hn:c.length=b.size)(f:c.Nodup)
  (hi:∀(i:Nat) e,b[i]?=some e->∃k a,c[i]?=some k/\e=(tupleKeyHash (intKind prog w) k,.ref a)/\jU prog w s.heap k a/\N a) (q:t'.place.size*5<t'.mask*3) :
  Cz prog w (s.heap.update S (putSet b t')) S led N c {o with data:=.set b (ep+1) t'} b (ep+1) t':=by
 have r:(s.heap.update S (putSet b t')).get? S=some {o with data:=.set b (ep+1) t'}:=by
  have:=DQ (putSet b t') X.ob (by rw[Gi b t' X.dt];rfl);rw[Gi b t' X.dt]at this;exact this
 refine⟨r,X.ex,rfl,T,q,m.trans X.ld,p,hn,λi e u=>?_,f⟩;obtain⟨k,a,v,x,l,y⟩:=hi i e u;refine⟨k,a,v,x,l.at (λob g=>?_),y⟩;have h:a≠S:=λz=>by
  subst z;obtain⟨A,items,n,d,_,j,_⟩:=l;rw[X.ob]at d;cases d;rw[X.dt]at j
  lia
 rw[(EK s.heap S (putSet b t')).2 a h];exact g
def d4(X:Cz prog w s.heap S led N ks o es ep t)(hu:A.units < cLine)(hk:jU prog w s.heap k a)(haN:N a)(hn:ks.length < 4000)
  (q1:k∈ks->∀tk,Q false {s with toks:=tk}) (q2:k∉ks->∀h' tk J,vD prog w h' S led N J->J.Perm (k::ks)->(∀c ob,c≠S->s.heap.get? c=some ob->h'.get? c=some ob)->Q true {s with heap:=h',toks:=tk}) :
  wpAny (model prog w) A (setAdd S (.ref a)) Q E s:=by
 obtain⟨M,hMs,hM,hb⟩:=X.tk.stop2 (tupleKeyHash (intKind prog w) k);have hsz:t.place.size=es.size:=by have:=X.tk.len;simpa using this
 have hfit:=X.tk.fit;have hes:es.size<4000:=by rw[← X.len];exact hn
 unfold setAdd;refine AE (dV (wpAny_pyHash_tuple hu hk ?_));unfold setAddHashed;refine AE ?_;generalize hs':s.toks+(k.length+1)=d;have X':Cz prog w ({s with toks:=d}:Shared).heap S led N ks o es ep t:=X;have K:jU prog w ({s with toks:=d}:Shared).heap k a:=hk;unfold setAddHashedIn;refine dV (X'.state ?_);dsimp only;have hbs:byScan (.ref a) es=false:=rfl;rw[hbs,gX Fx];unfold setSearch;refine dV (pS X' hu K hM hb (by show M<10*(t.mask+15);lia) 100000 0 none _ rfl (sY _) (by lia) (λi ei=>?_) (λhm=>gV (q1 hm d)) λhm=>?_)
 ·have hi':i<es.size:=by rw[← X.len];exact(sS.mp ei).1
  have L:es[i]?=some es[i]:=BG hi';obtain⟨k3,b5,e4,e5,_⟩:=X.it i _ L;rw[ei]at e4;cases e4;obtain⟨m,j,c1,c2,c3⟩:=X.tk.rea i (tupleKeyHash (intKind prog w) k) (by rw[Ar,Bg,L,e5];rfl);refine⟨m,j,sY _,c1,c2,lt_of_not_le λz=>?_⟩;by_cases zz:M=m;subst zz;exact hM ⟨i,by rw[c1,c2]⟩;exact hM (c3 M (by lia))
 ·dsimp only;refine dV (X'.state ?_);dsimp only;have r:=vA t (wk t.mask (tupleKeyHash (intKind prog w) k) M).j X.tk.dm;have hf7:=X.tk.m7;have hful:=X.ful;have B:=X.tk.put hM hb (by lia);have l:=(jD X.tk.ri (wk t.mask (tupleKeyHash (intKind prog w) k) M).j).le;generalize hj:(wk t.mask (tupleKeyHash (intKind prog w) k) M).j=j at r B l ⊢;rw[r]at B ⊢;dsimp only at B ⊢;generalize hp:SetTable.below t.place j=p at B l ⊢;rw[fI X.pl];refine dV (d1 K ?_);rw[fI rfl];have C:p<=es.size:=by simp_all
  have π:p<=ks.length:=by rw[X.len];exact C
  have ehs:(SetTable.insertAt es p (tupleKeyHash (intKind prog w) k,Value.ref a)).toList.map (·.1)=xS (es.toList.map (·.1)) p (tupleKeyHash (intKind prog w) k):=by
   rw[SetTable.toList_insertAt];unfold xS;rw[Bp,Bm,map_take,List.map_drop]
  rw[← ehs]at B;have q:(SetTable.insertAt es p (tupleKeyHash (intKind prog w) k,Value.ref a)).size=es.size+1:=mZ es C _;have hpl:(SetTable.insertAt t.place p j).size=es.size+1:=by rw[mZ t.place l,hsz]
  have P:∀(i:Nat) e,(SetTable.insertAt es p (tupleKeyHash (intKind prog w) k,Value.ref a))[i]?=some e->∃R u,(xS ks p k)[i]?=some R/\e=(tupleKeyHash (intKind prog w) R,.ref u)/\jU prog w s.heap R u/\N u:=λi e h=>by
   rw[Fd _ C]at h;rw[OH _ π];split at h;rw[fI (by assumption)];exact X.it i e h;split at h;cases h;rw[gX (by assumption),fI (by assumption)];exact⟨k,a,rfl,rfl,hk,haN⟩;rw[gX (by assumption),gX (by assumption)];exact X.it (i-1) e h
  have T:(xS ks p k).Nodup:=(nZ ks p k).nodup_iff.mpr (CD.mpr ⟨hm,X.nd⟩);have f:(xS ks p k).length=(SetTable.insertAt es p (tupleKeyHash (intKind prog w) k,Value.ref a)).size:=by rw[nY _ π,q,X.len]
  have hz:es.size+1<=sizeLine:=by rw[DL];lia
  refine dV (wpAny_storeSet_of (s:={s with toks:=d}) X.ob X.dt ?_ (by rw[q];exact hz));have kept:∀(e2:Array (Int×Value)) (t2:SetTable) c ob,c≠S->s.heap.get? c=some ob->(s.heap.update S (putSet e2 t2)).get? c=some ob:=λe2 t2 c ob hc e=>by
   rw[(EK s.heap S (putSet e2 t2)).2 c hc];exact e
  by_cases U:({t with place:=SetTable.insertAt t.place p j}:SetTable).tooFull=true
  ·rw[U];simp only[Bool.not_false,Bool.and_self,if_true];refine dV ?_;unfold setRelay
   have hg:(s.heap.update S (putSet (SetTable.insertAt es p (tupleKeyHash (intKind prog w) k,Value.ref a)) {t with place:=SetTable.insertAt t.place p j})).get? S=some {o with data:=.set (SetTable.insertAt es p (tupleKeyHash (intKind prog w) k,Value.ref a)) (ep+1) {t with place:=SetTable.insertAt t.place p j}}:=by
    have:=DQ (putSet (SetTable.insertAt es p (tupleKeyHash (intKind prog w) k,Value.ref a)) {t with place:=SetTable.insertAt t.place p j}) X.ob (by rw[Gi _ _ X.dt];rfl);rw[Gi _ _ X.dt]at this;exact this
   refine dV (wpAny_setState_of (s:={s with heap:=s.heap.update S (putSet (SetTable.insertAt es p (tupleKeyHash (intKind prog w) k,Value.ref a)) {t with place:=SetTable.insertAt t.place p j}),toks:=d}) hg rfl (B.fits (by simp)) ?_);dsimp only;have hgr:SetTable.grown (es.size+1)=(es.size+1)*4:=by unfold SetTable.grown;rw[gX (by lia)]
   obtain⟨H,V1,sa2,sa3,sa4⟩:=oV ((es.size+1)*4) (by lia);rw[hgr,V1];rw[gX (by rw[DL];lia)];have W:1<=2^H:=Nat.one_le_two_pow;have h8:8<=2^H:=by
    have:2^3<=2^H:=Nat.pow_le_pow_right (by decide) sa2;simpa using this
   generalize hE:SetTable.insertAt es p (tupleKeyHash (intKind prog w) k,Value.ref a)=b at *;obtain⟨D1,od,l1,l2,Y,l4,l5,l6,l7⟩:=ZZ (mask:=2^H-1) (k:=H) (finger:=t.finger) (moves:=({t with place:=SetTable.insertAt t.place p j}:SetTable).movedTo (2^H-1)) (led:=t.led) (plain:=t.plain) (hashes:=b.map (·.1)) (sub_add_cancel W) (by lia) (by rw[size_map,q];lia);have hrl:({t with place:=SetTable.insertAt t.place p j}:SetTable).relaid (b.map (·.1)) ((es.size+1)*4)=some (D1,od):=by
    unfold SetTable.relaid;rw[V1];exact l1
   rw[size_map]at Y l5;have F:∀x∈od.toList,x<b.toList.length:=λx I=>by
    have:=Y.mem_iff.mp I;rw[Cr]at this;rw[BX];exact this
   have L:(od.filterMap (b[·]?)).toList=rel b.toList od.toList:=by
    rw[Array.toList_filterMap];unfold rel;congr 1;funext x;rw[Bg]
   have v:od.toList.length=b.size:=by have:=Y.length_eq;simpa using this
   have G:(od.filterMap (b[·]?)).size=b.size:=by
    rw[← BX,L,pT F,v]
   rw[hrl];refine dV ?_;show wpAny (model prog w) A (ite (((od.filterMap (b[·]?)).size != b.size)=true) _ _) _ _ _;dsimp only;rw[G];simp only[bne_self_eq_false,false_eq_true,if_false];refine gV ?_;dsimp only;refine wpAny_storeSet_of (s:={s with heap:=s.heap.update S (putSet b {t with place:=SetTable.insertAt t.place p j}),toks:=d}) hg rfl ?_ (by rw[G,q];exact hz);refine gV ?_
   have T3:CO D1 ((od.filterMap (b[·]?)).toList.map (·.1)):=by
    have e4:(od.filterMap (b[·]?)).toList.map (·.1)=od.toList.filterMap ((b.map (·.1))[·]?):=by
     rw[Array.toList_filterMap,List.map_filterMap];congr 1;funext x;rw[Array.getElem?_map]
    rw[e4];exact l2
   have σ:∀x∈od.toList,x<(xS ks p k).length:=λx I=>by rw[f,← BX];exact F x I
   refine q2 hm _ d (rel (xS ks p k) od.toList) ⟨{o with data:=.set (od.filterMap (b[·]?)) (ep+1+1) D1},od.filterMap (b[·]?),ep+1+1,D1,?_,X.ex,rfl,T3,?_,l6.trans X.ld,l7.trans X.pl,?_,?_,?_⟩ ?_ ?_;have:=DQ (putSet (od.filterMap (b[·]?)) D1) hg (by rw[Gi _ _ rfl];rfl);rw[Gi _ _ rfl]at this;exact this;rw[l4,l5,q];lia;rw[pT σ,v,G]
   ·intro i e h;rw[← Bg,L,xU F]at h;rw[xU σ];cases I:od.toList[i]? with
    |none=>rw[I]at h;cases h
    | some x=>
      rw[I]at h;have he':b[x]?=some e:=by rw[← Bg];exact h
      obtain⟨R,u,h1,h2,h3,h4⟩:=P x e he';refine⟨R,u,h1,h2,h3.at (λob hob=>?_),h4⟩;have y:u≠S:=λz=>by
       subst z;obtain⟨o2,items,n,ho2,_,hd2,_⟩:=h3;rw[X.ob]at ho2;cases ho2;rw[X.dt]at hd2;cases hd2
      rw[(EK _ S (putSet (od.filterMap (b[·]?)) D1)).2 u y];exact kept _ _ u ob y hob
   ·exact(OJ (by rw[f];exact Y)).nodup_iff.mpr T
   ·exact(OJ (by rw[f];exact Y)).trans (nZ ks p k)
   ·intro c ob hc e;rw[(EK _ S (putSet (od.filterMap (b[·]?)) D1)).2 c hc];exact kept _ _ c ob hc e
  ·have g:({t with place:=SetTable.insertAt t.place p j}:SetTable).tooFull=false:=by simpa using U
   rw[g];simp only[Bool.and_false,false_eq_true,if_false];refine gV (q2 hm _ d (xS ks p k) ⟨_,_,_,_,X.store B rfl X.pl f T P ?_⟩ (nZ ks p k) (kept _ _));unfold SetTable.tooFull SetTable.fill at g;simp only[X.tk.dm,decide_eq_false_iff_not,Nat.not_le]at g;simpa using g
def vD.stay(X:vD prog w h S led N ks)(hS:h'.get? S=h.get? S)(f:∀c ob,N c->h.get? c=some ob->h'.get? c=some ob):vD prog w h' S led N ks:=by
 obtain⟨o,es,ep,t,Y⟩:=X;refine⟨o,es,ep,t,hS.trans Y.ob,Y.ex,Y.dt,Y.tk,Y.ful,Y.ld,Y.pl,Y.len,λi e g=>?_,Y.nd⟩;obtain⟨k,a,j,l,m,d⟩:=Y.it i e g;exact⟨k,a,j,l,m.at (λob b=>f a ob d b),d⟩
def gD(prog:Program)(w:World)(h:Heap)(N:Addr->Prop)(ks:List (List Int))(items:Array Value):Prop:=ks.length=items.size/\∀(i:Nat) v,items[i]?=some v->∃k a,ks[i]?=some k/\v=.ref a/\jU prog w h k a/\N a
def gD.stay(X:gD prog w h N ks items)(f:∀c ob,N c->h.get? c=some ob->h'.get? c=some ob):gD prog w h' N ks items:=by
 refine⟨X.1,λi v e=>?_⟩;obtain⟨k,a,g,j,l,d⟩:=X.2 i v e;exact⟨k,a,g,j,l.at (λob b=>f a ob d b),d⟩
def d5(y:A.units < cLine)(f:¬ N S)(g:¬ N I)(j:S≠I)(hb:ks.length < 4000) :
  Ga prog w A S I items.size (λi v=>items[i]?=some v) (λi h=>gD prog w h N ks items/\∃us,vD prog w h S led N us/\us.length<=i/\∀x,x∈us↔x∈ks.take i) where
 put:=λi v s Q E hi B ⟨TA1,us,X,l,hm⟩ q=>by
  obtain⟨k,a,C,rfl,tk,ha⟩:=TA1.2 i v B;have D1:i<ks.length:=by rw[TA1.1];exact hi
  have n:ks.take (i+1)=ks.take i++[k]:=by rw[HH,C];rfl
  have F:=X;obtain⟨o,es,ep,t,Y⟩:=X;refine d4 Y y tk ha (by lia) (λd b=>?_) λd h' b m G p r=>?_;refine q _ s.heap b ⟨TA1,us,F,le_succ_of_le l,λx=>?_⟩ λc ob _ e=>e;rw[n,Au,Aq,hm x];refine⟨.inl,λh=>?_⟩;rcases h with h|rfl;exact h;exact(hm _).mp d;refine q _ h' b ⟨TA1.stay λc ob hc e=>r c ob (λz=>f (z▸hc)) e,m,G,by have:=p.length_eq;simp at this;simp_all,λx=>?_⟩ r;rw[p.mem_iff,Aj,n,Au,Aq,hm x];exact or_comm
 stay:=λi h h' ⟨TA1,us,X,l,hm⟩ k=>by
  have u:∀c ob,N c->h.get? c=some ob->h'.get? c=some ob:=λc ob hc e=>k c ob (λz=>g (z▸hc)) e;refine⟨TA1.stay u,us,X.stay ?_ u,l,hm⟩;obtain⟨o,es,ep,t,Y⟩:=X;rw[k S o j Y.ob,Y.ob]
def d6:Manifest.owners.lookup (String.ofList (['r','o','t','a','r','e','t','i','_','t','e','s']:List Char).reverse)=some Manifest.sig_set_iterator:=by kernel_rfl
def lA:Slot "set_iterator" "__next__" "set_iterator.__next__":=.of (owner:="set_iterator") (n:="__next__") (rfl) (rfl) (rfl) (rfl) (.inl (rfl)) (by rfl)
def vE:entryFor table "set_iterator.__next__"=some Builtin.«set_iterator.__next__»:=entryFor_of_tree (rfl)
def OK(a:Value):argsOk "set_iterator.__next__" ⟨[a],[]⟩:=by
 unfold argsOk;rw[signature?_of (id:="set_iterator.__next__") (n:=['_','_','t','x','e','n','_','_']) (o:=['r','o','t','a','r','e','t','i','_','t','e','s']) (rfl) d6];rfl
def oW:entryFor table "set.__iter__"=some Builtin.«frozenset.__iter__»:=entryFor_alias (id':="frozenset.__iter__") (rfl) rfl (by decide +kernel) (by kernel_rfl)
theorem xV{b:Type}:∀(l:List b) (i:Nat) (h:i<l.length),(l[i]::l.eraseIdx i).Perm l
 |[],i,h=>absurd h (FC i)
 |a::l,0,_=>.refl _
 |a::l,i+1,h=>(List.Perm.swap a _ _).trans (.cons a (xV l i (Nat.lt_of_succ_lt_succ h)))
theorem vF(next:Nat->Nat):∀ (fuel k:Nat) (left:List a) (out:Array a),left.length=fuel->(pickOrder.go next fuel k left out).toList.Perm (out.toList++left)
 | 0,k,left,out,h=>by
   have:left=[]:=DM h;subst this;rw[Dw];rfl
 | fuel+1,k,left,out,h=>by
   have b:next k % left.length<left.length:=mod_lt _ (by simp[*])
   unfold pickOrder.go;rw[nL b];have c:=vF next fuel (k+1) (left.eraseIdx (next k % left.length)) (out.push left[next k % left.length]) (by grind)
   refine c.trans ?_;rw[EL,append_assoc];exact append_left _ (xV left _ b)
def oX(next:Nat->Nat)(xs:Array a):(pickOrder next xs).toList.Perm xs.toList:=by
 have:=vF next xs.size 0 xs.toList #[] (by simp)
 simpa[pickOrder]using this
noncomputable abbrev Ir(slot i n ep:Nat)(S:Addr):Obj:={cls:=.type "set_iterator",data:=.fields #[.int slot 0,.int i 0,.ref S,.int n 0,.int ep 0]}
noncomputable def cG(w:World)(S:Addr)(ep:Nat)(es:Array (Int×Value)):Array (Int×Value):=if w.params.followText "set-order"=true then pickOrder (w.params.setOrder S ep) es else es
def oA(es:Array (Int×Value)):(cG w S ep es).toList.Perm es.toList:=by
 unfold cG;split;exact oX _ es
 rfl
def Jz(w:World)(h:Heap)(I S:Addr)(es:Array (Int×Value))(ep:Nat)(t:SetTable)(i:Nat):Prop:=
 ∃slot,h.get? I=some (Ir slot i es.size ep S)/\(w.params.followText "set-order"=false->SetTable.below t.place slot=i)
def d7:typeLookup (.type "set") "__len__"=pure (some (.builtin "set.__len__")):=by rw[typeLookup_type,Fq];rfl
def d8(hT:s.TypeIs (.ref S) "set")(h:∀b,Q b s):wpAny (model prog w) A (listLengthHint (.ref S)) Q E s:=by
 refine dV (Gh hT d7 ?_);refine dV (wpAny_isInstance (b:=true) hT sub_set_self ?_);refine dV (DK hT ?_);exact gV (h _)
section
open PyProof.Rows W
structure d9(c:Nat->Nat->Bool):Prop where
 ir:∀a,c a a=false
 tr:∀{a b d},c a b=true->c b d=true->c a d=true
 nt:∀{a b d},c b a=false->c d b=false->c d a=false
section
variable {N:Nat}{c:Nat->Nat->Bool}{cmp:Nat->Nat->(Bool->Shared->Prop)->Shared->Prop}{s:Shared}(π:d9 c)(hc:∀i j C,i<N->j<N->C (c i j) s->cmp i j C s)
include π hc
end
noncomputable def AN:List Int->List Int->Bool
 |_,[]=>false
 |[],_::_=>true
 |a::x,b::y=>if a=b then AN x y else decide (a<b)
theorem pU:∀x,AN x x=false
 |[]=>rfl
 |a::x=>by show(if a=a then AN x x else _)=false;rw[fI rfl];exact pU x
theorem JA:∀ {x y z},AN x y=true->AN y z=true->AN x z=true
 |_,[],_,h,_|_,_::_,[],_,h=>by simp[AN]at h
 |[],_::_,_::_,_,_=>rfl
 | a::x,b::y,d::z,i,j=>by
   have c:(if a=b then AN x y else decide (a<b))=true:=i;have e:(if b=d then AN y z else decide (b<d))=true:=j;show(if a=d then AN x z else decide (a<d))=true;by_cases f:a=b
   ·rw[fI f]at c;by_cases g:b=d;rw[fI g]at e;rw[fI (f.trans g)];exact JA c e
    simp_all
   grind
theorem xW:∀ {x y},AN x y=false->AN y x=false->x=y
 |[],[],_,_=>rfl
 |[],_::_,h,_|_::_,[],_,h=>by simp[AN]at h
 | a::x,b::y,f,g=>by
   have c:(if a=b then AN x y else decide (a<b))=false:=f;have d:(if b=a then AN y x else decide (b<a))=false:=g;by_cases e:a=b;rw[fI e]at c;rw[fI e.symm]at d;rw[e,xW c d]
   lia
def e7(i:Nat)(h:ItemsAre (intKind prog w) x xs)(h':ItemsAre (intKind prog w) y ys)(q:Q (AN x y) s):KatLex prog w A b (decide (xs.length < ys.length)) Q (xs.zip ys) i s:=by
 induction h generalizing y ys i with
 |nil=>cases h'<;>exact q
 | @cons a _ x _ f l j=>
   cases h' with
   |nil=>exact q
   |@cons d _ y _ g k=>
   obtain⟨t,rfl⟩:=isInt_shape f;obtain⟨u,rfl⟩:=isInt_shape g;rw[List.zip_cons_cons];refine kat_cons (wpAny_eqBool_int ?_);have c:Q (if a=d then AN x y else decide (a<d)) s:=q;by_cases e:a=d;rw[fI e]at c;rw[show(a==d)=true from Ef.mpr e];refine kat_yes ?_;have:=j (i+1) k c;simpa using this
   ·rw[gX e]at c;rw[show(a==d)=false by simp_all];refine kat_no ?_;cases (b&&i==0)with
    |true=>exact oneLt_int c
    |false=>exact kat_one _ _ (lt_int c)
def f3{vs:List Value}(T:gD prog w s.heap N ks vs.toArray)(z:0 < vs.length)(B:∀ k∈ks,k≠[])(q:Q (tuples' true) s):wpAny (model prog w) A (keyKind' vs.toArray) Q E s:=by
 have h:∀ (vs:List Value) (ks:List (List Int)),(∀ (i:Nat) v,vs[i]? = some v->∃ k a,ks[i]? = some k/\v=.ref a/\jU prog w s.heap k a)->(∀ k∈ks,k≠[])->∃ fs:List Value,KatTups s.heap vs fs/\fs.length=vs.length/\∀ v∈fs,∃ i t,v=.int i t:=by
  intro vs
  induction vs with
  |nil=>intro ks _ _;exact⟨[],KatTups.nil,rfl,by simp⟩
  | cons v r C=>
    intro ks c d;obtain⟨k,a,j,rfl,o,items,n,g,hc,hd,hi⟩:=c 0 v rfl;cases ks with
    |nil=>simp at j
    | cons J ks=>
      simp at j;subst j;obtain⟨fs,l,y,m⟩:=C ks (λi u D1=>c (i+1) u (by simpa using D1)) λx b=>d x (Ah _ b);have p:=d _ sT;cases hit:items.toList with
      | nil=>
        rw[hit]at hi;cases hi;exact absurd rfl p
      | cons f fH=>
        have F:items[0]?=some f:=by rw[← Bg,hit];rfl
        obtain⟨i,t,G⟩:=lQ hi f (by rw[hit];simp);refine⟨f::fs,KatTups.cons g hc hd F l,by simp[y],λx b=>?_⟩;rcases Aj.mp b with rfl|b;exact⟨i,t,G⟩;exact m x b
 obtain⟨fs,l,y,m⟩:=h vs ks (λi v e=>by
  obtain⟨k,a,c,d,H,_⟩:=T.2 i v (by simp_all);exact⟨k,a,c,d,H⟩) B
 refine kat_kind (T:=.type "int") l (by simp[*]) (λv I=>?_) (by decide) q;obtain⟨i,t,rfl⟩:=m v I;exact .now
def Dk(k:List Int):List (List Int)->List (List Int)
 |[]=>[k]
 |x::r=>if AN k x=true then k::x::r else if k=x then x::r else x::Dk k r
def Aa:List (List Int)->List (List Int)
 |[]=>[]
 |k::r=>Dk k (Aa r)
abbrev DH(l:List (List Int)):Prop:=l.Pairwise λa b=>AN a b=true
theorem rW(k:List Int):∀ (l:List (List Int)) (x:List Int),x∈Dk k l↔x=k\/x∈l
 |[],x=>by simp[Dk]
 | y::r,x=>by
   unfold Dk;split;simp
   ·split
    ·simp_all
    ·rw[Aj,rW k r x,Aj]
     lia
theorem OL(k:List Int):∀ (l:List (List Int)),DH l->DH (Dk k l)
 |[],_=>pairwise_singleton _ _
 | y::r,h=>by
   obtain⟨c,d⟩:=Eh.mp h;unfold Dk;split;rename_i b;refine Eh.mpr ⟨λx a=>?_,h⟩;rcases Aj.mp a with rfl|a;exact b;exact JA b (c x a)
   ·split;exact h
    ·rename_i hn e;refine Eh.mpr ⟨λx a=>?_,OL k r d⟩;rcases(rW k r x).mp a with rfl | a
     ·cases f:AN y x with
      |true=>rfl
      |false=>exact absurd (xW (by simp_all) f) e
     simp_all
theorem fF:∀ (l:List (List Int)) (x:List Int),x∈Aa l↔x∈l
 |[],x=>by rfl
 | k::r,x=>by
   show x∈Dk k (Aa r)↔_;rw[rW,fF r x,Aj]
theorem gM:∀(l:List (List Int)),DH (Aa l)
 |[]=>.nil
 |k::r=>OL k _ (gM r)
def f6(h:DH l):l.Nodup:=Eg.mpr (h.imp λ{a b} h e=>by subst e;rw[pU]at h;lia)
theorem vG:∀ {a b:List (List Int)},DH a->DH b->(∀ x,x∈a↔x∈b)->a=b
 |[],[],_,_,_=>rfl
 |[],y::b,_,_,h=>by have:=(h y).mpr sT;simp_all
 |x::a,[],_,_,h=>by have:=(h x).mp sT;simp_all
 | x::a,y::b,ha,hb,h=>by
   obtain⟨a1,a2⟩:=Eh.mp ha;obtain⟨d,g⟩:=Eh.mp hb;have c:x=y:=by
    rcases Aj.mp ((h x).mp sT)with e|e;exact e;rcases Aj.mp ((h y).mpr sT)with f|f
    ·simp_all
    ·have:=JA (d x e) (a1 y f);rw[pU]at this;lia
   subst c;have nx:x∉a:=λz=>by have:=a1 x z;rw[pU]at this;lia
   have i:x∉b:=λz=>by have:=d x z;rw[pU]at this;lia
   rw[vG a2 g λz=>?_]
   grind
end
section
variable {κ:Type}[DecidableEq κ]
end
section
variable {κ:Type}[DecidableEq κ]
end
section
open PyProof.Rows Spec
def g0{id U:String}
  (hc:∀pins s Z H vs us Q,dX X pins Z H s->bJ vs us->r vs H Q->wpAny (model X.prog X.w) X.A (call (.type U) us) (λu s1=>wpAny (model X.prog X.w) X.A (call (.builtin id) [u]) (EP X pins Z Q) X.xe s1) X.xe s)
  (l:Gl X x) (hm:X.mg x=none) (m:bootBuiltins x=some (.builtin id)) (d:Gl X y) (f:X.mg y=none) (g:bootBuiltins y=some (.type U)) (ha:PA X (e::es) t)
  (hn:x≠"__name__":=by decide) (i:(x==("__debug__":Str))=false:=by decide) (j:y≠"__name__":=by decide) (b:(y==("__debug__":Str))=false:=by decide)
  (n:starEach (e::es) X.env=(false,eval e X.env)::starEach es X.env:=by rfl) (k:(backTo a (starEach es X.env)).any (·.1)=false:=by rfl)
  (hs:starEach [.Call (.Name y c) (e::es) [] a] X.env=(false,eval (.Call (.Name y c) (e::es) [] a) X.env)::starEach [] X.env:=by rfl) :
  PE X (.Call (.Name x p) [.Call (.Name y c) (e::es) [] a] [] pos) (Gy r t):=by
 intro pins s Z H Q I h;refine Fs (iS I l hm m (PyProof.Rows.callWith_builtin1 ?_ hs (by rfl)) hn i)
 (refine Calls.spliced_cons (Fs (iS I d f g (EH ?_ n k) j b)))
 exact thn (ha a pins s Z H _ I h) λus s1 ⟨vs,o,q,v,z⟩=>thn (hc pins s1 Z o vs us Q q v z) λu s2 B=>Calls.spliced_nil B
def g7{Z:St}(I:dX X pins Z H s)(hc:X.calm=true)(h:cS H p=some (b,xs)) :
  ∃items:List Value,bJ xs items/\Nonempty (Ff X.prog X.w X.A s.heap p items.toArray.size λi v=>items.toArray[i]?=some v):=by
 cases b with
 | true=>
   obtain⟨its,r,⟨o,n,a,c,e,d⟩,_⟩:=I.list (eR h);exact⟨its,r,⟨Ff.list (I.ok.hd hc) ⟨o,a,c,n,d⟩⟩⟩
 | false=>
   obtain⟨its,r,q,_⟩:=I.tuple (dD h);exact⟨its,r,⟨Ff.tup (I.ok.hd hc) q⟩⟩
end
def OM(h:H p=some o):gY H p o=H:=by
 funext b;by_cases hb:b=p;subst hb;rw[aJ,h];rw[aG hb]
section
open PyProof.Rows Spec
theorem lB{prog:Program}{w:World}:∀ {k:List Int} {us:List Value},bJ (k.map V.int) us->ItemsAre (intKind prog w) k us
 |[],_,.nil=>.nil
 | i::r,_,.cons h t=>by
   obtain⟨tk,rfl⟩:=h;exact .cons (by simp[intKind,Value.isInt]) (lB t)
def xY{Z:St}(I:dX X pins Z H s)(h:H a=some (.tup (k.map V.int))):jU X.prog X.w s.heap k a:=by
 obtain⟨its,r,⟨o,b,hc,n,hd⟩,_⟩:=I.tuple (dD (aV h));exact⟨o,its.toArray,n,b,hc,hd,by simpa using lB r⟩
def ON(r:V->List V->Hp->VK->Prop)(to:TE)(t:TA):TE:=λZ H Q=>to Z H λx H1=>(∃p xs,x=.ref p/\H1 p=some (.tup xs))/\t Z H1 λxs a=>r x xs a Q
def g8{id:String}(slot:Slot "tuple" name id)(g:typeOf (.builtin id)=pure (.type "method_descriptor"))(hm:Es X id r)(m:PE X o to)(ha:PA X (e::es) t)
  (c:attributeBase o name X.env (eval o X.env)=eval o X.env:=by rfl)
  (f:((backTo cpos (starEach (e::es) X.env)).all (λx=>!x.1)&&(backToKw cpos (keywordEach [] X.env)).all (λx=>x.1.isSome)&&decide ((e::es).length+([]:List Keyword).length+(if([]:List Keyword).isEmpty then 0 else 1)<30))=true:=by rfl)
  (d:(apos.endLine==cpos.line)=true:=by rfl) (hs:starEach (e::es) X.env=(false,eval e X.env)::starEach es X.env:=by rfl) (b:(backTo cpos (starEach es X.env)).any (·.1)=false:=by rfl) :
  PE X (.Call (.Attribute o name apos) (e::es) [] cpos) (ON r to t):=by
 intro pins s Z H Q I h;refine wpAny_Call_method_late c f d rfl (thn (m pins s Z H _ I h) λv s1 Z0=>?_);obtain⟨x,i,j,k,⟨p,xs,ex,n⟩,q⟩:=Z0;subst ex;have u:v=.ref p:=k;subst u;obtain⟨_,its,_,⟨ob,y,z,_⟩,⟨A,G,J⟩⟩:=(show cH X.prog X.w i s1.heap p (.tup xs)from j.hok p _ n);refine⟨"tuple",id,F.plainAttrs_tuple,slot,g,⟨ob,y,z⟩,λa K=>?_,?_⟩
 ·simp_all
 ·have l:=ha cpos pins s1 Z i _ j q;rw[hs]at l ⊢;refine Calls.callWith_builtin (by show(false||(backTo cpos (starEach es X.env)).any (·.1))=false;rw[b]<;>rfl) (Calls.evalArgs_plain ?_);exact thn l λus s2 ⟨vs,B,C,D1,E⟩=>hm pins s2 Z B (.ref p) vs _ us Q C k D1 E
end
noncomputable def Hj:List D->Option (List Int)
 |[]=>some []
 |.int i::r=>(Hj r).bind λl=>some (i::l)
 |_::_=>none
def g9(h:Hj l=some zs):l=zs.map D.int:=by
 induction l generalizing zs with
 |nil=>cases h;rfl
 | cons d r i=>
   cases d with
   | int s=>
     obtain⟨l,a,b⟩:=aA h;cases b;rw[i a];rfl
   |_=>cases h
def h9(zs:List Int):Hj (zs.map D.int)=some zs:=by
 induction zs with
 |nil=>rfl
 |cons b r a=>show(Hj (r.map D.int)).bind _=_;simp_all
abbrev tI(k:List Int):D:=.tup (k.map D.int)
def Hk:List D->Option (List (List Int))
 |[]=>some []
 |.tup k::r=>(Hj k).bind λa=>(Hk r).bind λl=>some (a::l)
 |_::_=>none
def i0(h:Hk l=some zs):l=zs.map tI:=by
 induction l generalizing zs with
 |nil=>cases h;rfl
 | cons d r i=>
   cases d with
   | tup k=>
     obtain⟨e,a,h⟩:=aA h;obtain⟨l,b,c⟩:=aA h;cases c;rw[i b,g9 a];rfl
   |_=>cases h
def i4(zs:List (List Int)):Hk (zs.map tI)=some zs:=by
 induction zs with
 |nil=>rfl
 |cons b r a=>show(Hj (b.map D.int)).bind (λc=>(Hk (r.map tI)).bind _)=_;rw[a,h9];rfl
def i5(h:Rp H (tI k) v):∃a,v=.ref a/\H a=some (.tup (k.map V.int)):=by
 cases h with
 |tup h r=>rw[r.ints_inv]at h;simp_all
def i6{ks:List (List Int)}(h:Rps H (ks.map tI) xs):∃ps:List Addr,xs=ps.map V.ref/\ps.length=ks.length/\∀(i:Nat) a k,ps[i]?=some a->ks[i]?=some k->H a=some (.tup (k.map V.int)):=by
 induction ks generalizing xs with
 |nil=>cases h;exact⟨[],rfl,rfl,λ_ _ _ e=>by cases e⟩
 | cons k ks j=>
   cases h with|cons a t=>
   obtain⟨p,rfl,d⟩:=i5 a;obtain⟨ps,rfl,f,g⟩:=j t;refine⟨p::ps,rfl,Cq (· + 1) f,λi a l b c=>?_⟩;cases i with
   |zero=>cases b;cases c;exact d
   |succ i=>exact g i a l b c
def i7{ks:List (List Int)}{ps:List Addr}(h:ps.length=ks.length)(b:∀(i:Nat) a k,ps[i]?=some a->ks[i]?=some k->H a=some (.tup (k.map V.int))):Rps H (ks.map tI) (ps.map V.ref):=by
 induction ks generalizing ps with
 |nil=>cases ps with|nil=>exact .nil|cons _ _=>cases h
 | cons k ks j=>
   cases ps with
   |nil=>cases h
   |cons p ps=>exact .cons (.tup (b 0 p k rfl rfl) (zR k)) (j (Nat.succ.inj h) λi=>b (i+1))
theorem rX{a:Sg}:dY (cT n c (.str z) (b::a)) K=(z.length=n/\dY (c (jV z) (b::a)) K):=by
 show dY (if z.length=n then c (jV z) (b::a)else none) K=_;rw[aO]
abbrev FT:=List D->D->Option D
def OO(r:V->List V->Hp->PySem.VK->Prop)(f:FT):Prop:=∀H l xs e p y Q d,H p=some (.tup xs)->Rps H l xs->AM H e y->f l e=some d->(∀v,Rp H d v->Q v H)->r (.ref p) [y] H Q
def Iu(f:FT)(a b:DE):DE:=λZ=>(a Z).bind λx=>match x.1 with
 |.val (.tup l)=>(b x.2).bind λy=>(rd y.2 y.1).bind λe=>(f l e).bind λd=>some (.val d,y.2)
 |_=>none
def i8(w:OO r f)(h:∀ Γ,PE X e (ON r (Bd Γ n) (BQ Γ (aB o aH)))):GE X e (Iu f n o):=.mk λΓ=>Bi (h Γ) λσV H Q Z1=>by
 obtain⟨Z,ok,res,σ',e,k⟩:=Z1;have z:=e;obtain⟨⟨x,a⟩,A,f1⟩:=aA z;dsimp only at f1;have B:∃ l,x=.val (.tup l):=by
  cases x with
  | val C=>
    cases C with
    |tup l=>lia
    |_=>cases f1
  |_=>cases f1
 obtain⟨l,rfl⟩:=B;refine⟨Z,ok,_,a,A,λv1 D b E i _=>?_⟩;obtain⟨⟨y,j⟩,F,f2⟩:=aA f1;obtain⟨G,I,J⟩:=aA f2;obtain⟨d,K,L⟩:=aA J;cases L;have m:Rp D (.tup l) v1:=E;obtain⟨p,xs,rfl,q,M⟩:=dF (.inl m);refine⟨⟨p,xs,rfl,q⟩,a,b,[y],j,?_,λvs s c N g _=>?_⟩;show((_:Option _).bind _)=_;rw[F];rfl;cases N with
 | cons π t _=>
   cases t;have u:=g.ext b;refine w s l xs G p _ Q d (u.tup _ _ q) (M.mono u) (π.vw c I) K λv P=>?_;exact k v s c P (i.trans g) fC
theorem i9{c:Sg}:RE (Iu f h i) (g::c) Q=RE h (g::c) λx a=>dY (match x with | .val (.tup l)=>some l | _=>none) λl=>RE i a λy b=>RD b y λe=>dY (f l e) λd=>Q (.val d) b:=by
 unfold RE RD Iu;simp only[aE];congr 1;funext x;obtain⟨x,a⟩:=x;cases x with
 | val d=>
   cases d with
   |tup l=>simp only[aE];rfl
   |_=>rfl
 |_=>rfl
def j0(a:Af k A):A.units+8<PySem.cLine:=by have:=a.un;lia
section
open MeetsSeq MeetsSeq2 MeetsSeq3 SeqAt SeqRoads2
def SeqAt.lS(lo hi:Nat)(f:Nat->a->Sem (ForInStep a))(I:Nat->a->Shared->Prop)(Q:a->Shared->Prop)
  (turn:∀i b s,lo<=i->i<hi->I i b s->wpAny M A (f i b) (λr s'=>match r with|.yield c=>I (i+1) c s' | .done c=>Q c s') E s)
  (fin:∀b s,I (max lo hi) b s->Q b s) (b:a) (h:I lo b s):wpAny M A (forIn [lo:hi] b f) Q E s:=by
 rw[Std.Legacy.Range.forIn_eq_forIn_range'];refine wpAny_forIn_list f (λl b s=>∃i,lo<=i/\i<=max lo hi/\l=range' i (max lo hi-i)/\I i b s) Q ?_ ?_ _ b ⟨lo,hF _,Nat.le_max_left _ _,?_,h⟩
 ·rintro x fH b s ⟨i,d,n,e,g⟩;cases j:max lo hi-i with
  |zero=>rw[j]at e;simp at e
  | succ m=>
    rw[j,List.range'_succ]at e;obtain⟨rfl,rfl⟩:=List.cons.inj e;refine PySem.thn (turn x b s d (by grind) g) λr s' k=>?_;cases r with
    |yield c=>exact⟨x+1,le_succ_of_le d,by lia,by rw[show max lo hi-(x+1)=m by grind],k⟩
    |done c=>exact k
 ·rintro b s ⟨i,d,n,e,g⟩;have:i=max lo hi:=by
   have:=Cq List.length e;simp at this;grind
  subst this;exact fin b s g
 ·show range' lo ((hi-lo+1-1) / 1) 1=_;rw[Nat.div_one,show hi-lo+1-1=max lo hi-lo by grind]
def SeqAt.tuple_indexAt(l:Addr)(items:Array Value)(n:Nat)(k:Option Addr)(sl:Array (Option Value))(x:Value)(e:Value->Bool)(j:Nat)(hj:j < items.size)(hb:∀ m (hm:m < items.size),m < j->e items[m]=false)(ha:e items[j]=true) :
  Meets (Builtin.«tuple.index» ⟨[.ref l,x],[]⟩)
   (λA R s=>s.heap.get? l=some {cls:=.type "tuple",dict:=k,data:=.seq items n,slots:=sl}/\(∀y,y∈items->EqAt A.in1 s y x (e y))/\R (.ok (.ret (.int j s.toks))) {s with toks:=s.toks+1}):=
 .of_wp λprog w A R s h=>by
  obtain⟨o,g,d,tk,os⟩:=s;obtain⟨f,p,h⟩:=h
  wp_walk using JU f,lS _ _ _ (λi (b:Option (PySem.Fin)×PUnit) s'=>s'=⟨o,g,d,tk,os⟩/\b=(none,⟨⟩)/\i<=j) _
  case turn=>
   rintro i b s' _ hi ⟨rfl,rfl,c⟩;have a:i<items.size:=DU c hj;rw[BG a];refine dV (p _ (Array.getElem_mem a) prog w _ _ ?_);rcases Nat.lt_or_eq_of_le c with l|rfl
   ·rw[hb i a l]
    wp_walk
    exact⟨rfl,rfl,l⟩
   ·rw[ha]
    wp_walk
    exact⟨_,rfl,h⟩
  case fin=>
   rintro b s' ⟨_,_,f⟩;lia
  case h=>exact⟨rfl,rfl,sY _⟩
end
section
open PyProof.Rows Spec
def lC(a b:Value):argsOk "tuple.index" ⟨[a,b],[]⟩:=by
 unfold argsOk;rw[signature?_of (id:="tuple.index") (n:=['x','e','d','n','i']) (o:=['e','l','p','u','t']) (by kernel_rfl) F.owner_tuple];kernel_rfl
def OP{i:Nat}(h:bJ zs us)(e:zs[i]?=some x):∃u,us[i]?=some u/\cE x u:=by
 induction h generalizing i with
 |nil=>simp at e
 | cons a t b=>
   cases i with
   |zero=>simp at e;subst e;exact⟨_,rfl,a⟩
   |succ i=>exact b (by simpa using e)
def OQ:V->List V->Hp->VK->Prop:=λx vs H Q=>∃(l:Addr) (zs:List Str) (z:Str),x=.ref l/\vs=[.str z]/\H l=some (.tup (zs.map V.str))/\z∈zs/\Q (.int (zs.idxOf z:Nat)) H
def j5:Es X "tuple.index" OQ:=by
 intro pins s Z H x vs v us Q I B C h;obtain⟨l,zs,z,rfl,rfl,D1,G,q⟩:=h;cases B;obtain⟨u,rfl,J⟩:=C.one;obtain⟨t,rfl⟩:=J;obtain⟨_,its,r,⟨⟨oc,od,K,sl⟩,e,c,n,d⟩,_⟩:=(show cH X.prog X.w H s.heap l (.tup (zs.map V.str))from I.hok l _ D1);dsimp only at c d;subst c d;have hj:zs.idxOf z<zs.length:=List.idxOf_lt_length_iff.mpr G;have o:its.length=zs.length:=by
  have:=r.length;simpa using this.symm
 have f:∀m (hm:m<its.toArray.size),∃(a:m<zs.length) (b:Tok),its.toArray[m]=.str zs[m] b:=λm hm=>by
  have g:m<its.length:=by simpa using hm
  have a:m<zs.length:=by simp_all
  obtain⟨u,A,L⟩:=OP (i:=m) r (by rw[Ar,nL a];rfl);obtain⟨b,rfl⟩:=L;rw[nL g]at A;exact⟨a,b,by simpa using Ap A⟩
 refine BL F.slot_tuple_index ⟨_,e,rfl⟩ F.entry_tuple_index (lC _ _) (SeqAt.tuple_indexAt l its.toArray n od sl (.str z t) (Jc z) (zs.idxOf z) (by simp;simp[*]) (λm hm j=>?_) ?_) ⟨e,λy M=>?_,?_⟩;obtain⟨a,b,k⟩:=f m hm;rw[k];show(zs[m]==z)=false;have h:=List.not_of_lt_findIdx (p:=(· == z)) (xs:=zs) j;simpa using h;obtain⟨a,b,k⟩:=f (zs.idxOf z) (by simp;simp[*]);rw[k];show(zs[zs.idxOf z]==z)=true;simp;obtain⟨N,b,rfl⟩:=qN r y (by simpa using M);exact λprog w E Q h=>eqBool_str h;exact⟨.int _,H,I.tok _,⟨_,rfl⟩,q⟩
end
def JB:FT:=λl e=>match e with
 |.str z=>(kX l).bind λzs=>if z∈zs then some (.int (zs.idxOf z:Nat))else none
 |_=>none
def j7:OO OQ JB:=by
 intro H l xs e p y Q d b r c a k;unfold JB at a;split at a;obtain⟨zs,f,a⟩:=aA a;split at a;rename_i g;cases a;rw[gN c];rw[gC f]at r;rw[r.strs_inv]at b;exact⟨p,zs,_,rfl,rfl,b,g,k _ (.int _)⟩;cases a;cases a
theorem xZ{zs:List Str}:dY (JB (zs.map D.str) (.str z)) K=(z∈zs/\K (.int (zs.idxOf z:Nat))):=by
 show dY ((kX (zs.map D.str)).bind _) K=_;rw[jC];show dY (if _ then _ else none) K=_;rw[aO];rfl
structure AY(h:Heap)(S:Addr)(led:Bool)(o:Obj)(es:Array (Int×Value))(ep:Nat)(t:SetTable):Prop where
 ob:h.get? S=some o
 ex:o.ExactSet
 dt:o.data=.set es ep t
 tk:CO t (es.toList.map (·.1))
 ful:t.place.size*5<t.mask*3
 ld:t.led=led
 pl:t.plain=true
theorem AY.fits{s:Shared}(X:AY s.heap S led o es ep t):t.fits es.size=true:=X.tk.fits (by simp)
def AY.state(X:AY s.heap S led o es ep t)(h:Q (es,ep,t) s):wpAny (model prog w) A (setState S) Q E s:=
 wpAny_setState_of X.ob X.dt X.fits h
def j8(X:AY s.heap S (fM w) o es ep t)(q:Q (.ref s.heap.objs.size) {s with heap:=s.heap.push (Ir 0 0 es.size ep S)}):wpAny (model prog w) A (pyIter (.ref S)) Q E s:=by
 have hT:s.TypeIs (.ref S) "set":=⟨o,X.ob,X.ex.1⟩;refine wpAny_pyIter_slot hT F.slot_set_iter (Cp F.slot_set_iter hT oW ?_ (F.args_set_iter_1 _));show wpAny _ _ (Builtin.Frozenset.sizeOf S >>= _) _ _ s;refine dV (dV (JV X.ob X.dt X.fits (gV ?_)));refine dV (dV (X.state ?_));refine dV (dV (Hx (gV ?_)));refine gV ?_;have hd:(!t.plain&&decide (es.size > 1))=false:=by rw[X.pl];rfl
 rw[gX (λh=>?_)];refine dV (gV ?_);refine dV (wpAny_setEpoch_of X.ob X.dt X.fits ?_);refine dV (EG ?_);exact gV ⟨_,rfl,"set_iterator",_,⟨_,Ad _ rfl,rfl⟩,lA.lookup,q⟩;rw[Ej]at h;exact Bool.noConfusion (hd.symm.trans h.2)
def vH(X:AY s.heap S (fM w) o es ep t)(j:w.params.followText "set-order"=false->SetTable.below t.place slot=i)
  (k:∀e next,(cG w S ep es)[i]?=some e->(w.params.followText "set-order"=false->SetTable.below t.place next=i+1)->Q (some (e.2,next)) s) (l:(cG w S ep es)[i]?=none->Q none s):wpAny (model prog w) A (setNext S slot i ep) Q E s:=by
 unfold setNext;refine dV (X.state ?_);unfold setsByText;refine dV (dV (Hx (gV ?_)));dsimp only;by_cases hb:w.params.followText "set-order"=true
 ·rw[fI (show(model prog w).w.params.followText "set-order"=true from hb)];simp only[bne_self_eq_false,false_eq_true,if_false];unfold setWalk;refine dV (dV (X.state ?_));unfold setsByText;refine dV (dV (Hx (gV ?_)));dsimp only;rw[fI (show(model prog w).w.params.followText "set-order"=true from hb)];refine dV (Hx (gV ?_));have m:cG w S ep es=pickOrder (w.params.setOrder S ep) es:=by unfold cG;rw[fI hb]
  show wpAny _ _ (pure ((pickOrder (w.params.setOrder S ep) es)[i]?.map λe=>(e.2,slot))) _ _ _;refine gV ?_;rw[← m];cases d:(cG w S ep es)[i]? with
  |none=>exact l d
  |some e=>exact k e slot d λz=>by rw[hb]at z;cases z
 ·have f:w.params.followText "set-order"=false:=by simpa using hb
  have a:=j f;have m:cG w S ep es=es:=by unfold cG;rw[gX hb]
  have n:(!t.plain&&decide (es.size > 1))=false:=by rw[X.pl];rfl
  have g:t.led=true:=by rw[X.ld];unfold fM;rw[f];rfl
  rw[gX (show ¬((model prog w).w.params.followText "set-order"=true)from hb)];refine wpAny_ite_split (λh=>absurd (n.symm.trans h) Fx) λ_=>?_;refine dV ?_;have p:wpAny (model prog w) A (if(!t.led && !es.isEmpty)=true then unsupported "set:maker-not-led" else pure ()) (λ_ s'=>s'=s) E s:=by
   rw[g];simp only[Bool.not_true,Bool.false_and,false_eq_true,if_false];exact gV rfl
  refine Ca p (λ_ s' x=>?_) λ_ _ z=>z;subst x;rw[a];rw[m]at k l;have q:t.place.size=es.size:=by have:=X.tk.len;simpa using this
  cases d:es[i]? with
  |none=>exact gV (l d)
  | some e=>
    have r:i<t.place.size:=by rw[q];exact(Gk.mp d).1
    have b:t.place[i]?=some t.place[i]:=BG r;rw[b];refine gV (k e _ d λ_=>?_);have c:=jD X.tk.ri (t.place[i]+1);have y:i<SetTable.below t.place (t.place[i]+1):=by
     refine lt_of_not_le λz=>?_;have:=c.hi i _ z b;lia
    have B:SetTable.below t.place (t.place[i]+1)<=i+1:=by
     refine Em λz=>?_;have u:i+1<t.place.size:=Ax z c.le;have v:t.place[i+1]?=some t.place[i+1]:=BG u;have:=c.lo (i+1) _ z v;have:=X.tk.ri i (i+1) _ _ (HF _) b v;lia
    lia
def j9(X:AY s.heap S (fM w) o es ep t)(hi:Jz w s.heap I S es ep t i)(h:(cG w S ep es)[i]? = some e)
  (q:∀h',Jz w h' I S es ep t (i+1)->(∀b ob,b≠I->s.heap.get? b=some ob->h'.get? b=some ob)->Q (some e.2) {s with heap:=h'}):wpAny (model prog w) A (pyNext (.ref I)) Q E s:=by
 obtain⟨slot,c,d⟩:=hi;have hT:s.TypeIs (.ref I) "set_iterator":=⟨_,c,rfl⟩;refine dV (Ee (wpAny_callSpecial?_slot (name:=ofString "__next__") hT lA (Cp lA hT vE ?_ (OK _))));show wpAny _ _ (fieldsOf (.ref I) >>= _) _ _ s;refine dV (dV (wpAny_load c (gV ?_)));dsimp only;refine dV (JV X.ob X.dt X.fits ?_);simp only[bne_self_eq_false,false_eq_true,if_false,toNat_natCast];refine dV (vH X d (λl next a f=>?_) λhn=>?_)
 ·rw[h]at a;cases a;refine dV (Hz c rfl (by simp) ?_);have g:(s.heap.update I (λob=>ob.mapFields (·.setIfInBounds 0 (rawInt next)))).get? I=some (Ir next i es.size ep S):=by
   rw[DQ _ c rfl];rfl
  refine dV (Hz (s:={s with heap:=s.heap.update I (λob=>ob.mapFields (·.setIfInBounds 0 (rawInt next)))}) g rfl (by simp) ?_);have j:((s.heap.update I (λob=>ob.mapFields (·.setIfInBounds 0 (rawInt next)))).update I (λob=>ob.mapFields (·.setIfInBounds 1 (rawInt ((i:Int)+1))))).get? I=some (Ir next (i+1) es.size ep S):=by
   rw[DQ _ g rfl];rfl
  refine gV ⟨_,rfl,gV (q _ ⟨next,j,f⟩ λb ob hb k=>?_)⟩;exact(DP _ _ (iA hb)).trans ((DP _ _ (iA hb)).trans k)
 simp_all
def k0(e:A.handled=none)(X:AY s.heap S (fM w) o es ep t)(hi:Jz w s.heap I S es ep t i)(j:(cG w S ep es)[i]? = none)
  (q:∀h',(∀b ob,b≠I->s.heap.get? b=some ob->h'.get? b=some ob)->Q none {s with heap:=h'}):wpAny (model prog w) A (pyNext (.ref I)) Q E s:=by
 obtain⟨slot,c,d⟩:=hi;have hT:s.TypeIs (.ref I) "set_iterator":=⟨_,c,rfl⟩;refine dV (Ee (wpAny_callSpecial?_slot (name:=ofString "__next__") hT lA (Cp lA hT vE ?_ (OK _))));show wpAny _ _ (fieldsOf (.ref I) >>= _) _ _ s;refine dV (dV (wpAny_load c (gV ?_)));dsimp only;refine dV (JV X.ob X.dt X.fits ?_);simp only[bne_self_eq_false,false_eq_true,if_false,toNat_natCast];refine dV (vH X d (λk next f g=>?_) λhn=>?_)
 ·simp_all
 ·refine dV (Hz c rfl (by simp) ?_);refine dV ?_;refine dV (m:=firstArgMember _ _) (wpAny_of_eq (a:=Value.none) rfl ?_);refine EG ?_ (by size_fits);refine dV (wpAny_handled ?_);rw[show A.in1.handled=none from e];refine dV (gV (wpAny_throw ?_));refine dV (wpAny_isInstance (T:="StopIteration") (b:=true) ⟨_,Ad _ rfl,rfl⟩ isSubtype_stop ?_);refine gV (q _ λb ob hb h=>sU _ (sU _ ((DP _ _ (iA hb)).trans h)))
def k7{I:Addr}{L:Addr}(n:A.handled=none)(X:AY h0 S (fM w) o es ep t)(p:h0.objs.size<=I)(r:h0.objs.size<=L)(d:L≠I) :
  BP prog w A I L es.size (λi acc h=>(∀b ob,h0.get? b=some ob->h.get? b=some ob)/\Jz w h I S es ep t i/\acc.toList=((cG w S ep es).toList.take i).map (·.2)) (λacc h=>(∀b ob,h0.get? b=some ob->h.get? b=some ob)/\acc.toList=(cG w S ep es).toList.map (·.2)):=by
 have u:(cG w S ep es).toList.length=es.size:=by have:=(oA (w:=w) (S:=S) (ep:=ep) es).length_eq;simp_all
 have l:∀b ob,h0.get? b=some ob->b≠I:=λb ob e z=>absurd (kN e) (ER.mpr (z▸p));have v:∀b ob,h0.get? b=some ob->b≠L:=λb ob e z=>absurd (kN e) (ER.mpr (z▸r));have m:∀(h:Heap),(∀b ob,h0.get? b=some ob->h.get? b=some ob)->AY h S (fM w) o es ep t:=λh a=>
  ⟨a _ _ X.ob,X.ex,X.dt,X.tk,X.ful,X.ld,X.pl⟩
 refine⟨λi acc s c Q E hi ⟨a,hs,ha⟩ hS q=>?_,λacc s c Q E ⟨a,hs,ha⟩ hS q=>?_,λi acc h h' ⟨a,hs,ha⟩ _ k=>?_⟩
 ·have g:i<(cG w S ep es).toList.length:=by simp[*]
  have x:(cG w S ep es)[i]?=some (cG w S ep es).toList[i]:=by simp
  refine j9 (m s.heap a) hs x λh' j f=>?_;have:=q (cG w S ep es).toList[i].2 h' s.toks ⟨λb ob e=>f b ob (l b ob e) (a b ob e),j,?_⟩ (f _ _ d hS);exact this;rw[EL,ha,HH,nL g,Bp];rfl
 ·refine k0 n (m s.heap a) hs (by simp_all) λh' f=>?_;have:=q h' s.toks ⟨λb ob e=>f b ob (l b ob e) (a b ob e),by grind⟩ (f _ _ d hS);exact this
 ·obtain⟨slot,y,B⟩:=hs;exact⟨λb ob e=>k b ob (v b ob e) (a b ob e),⟨slot,k I _ (iA d) y,B⟩,ha⟩
def k8(g:A.handled=none)(X:AY s.heap S (fM w) o es ep t)(hz:es.size<=sizeLine)
  (q:∀h' tk,(∀b ob,s.heap.get? b=some ob->h'.get? b=some ob)->s.heap.objs.size<h'.objs.size->Q ((cG w S ep es).toList.map (·.2)) {s with heap:=h',toks:=tk}):wpAny (model prog w) A (collect (.ref S)) Q E s:=by
 have up:∀b ob,s.heap.get? b=some ob->(s.heap.push (mU #[] 0)).get? b=some ob:=λb ob e=>sU _ e;have l:(s.heap.push (mU #[] 0)).objs.size=s.heap.objs.size+1:=FD ..;have h:AY ({s with heap:=s.heap.push (mU #[] 0)}:Shared).heap S (fM w) o es ep t:=
  ⟨up _ _ X.ob,X.ex,X.dt,X.tk,X.ful,X.ld,X.pl⟩
 have a:∀b ob,s.heap.get? b=some ob->((s.heap.push (mU #[] 0)).push (Ir 0 0 es.size ep S)).get? b=some ob:=λb ob e=>sU _ (up b ob e);have i:SetTable.below t.place 0=0:=by
  have c:=jD X.tk.ri 0;refine Nat.le_zero.mp (Em λz=>?_);exact absurd (c.lo 0 _ z (BG (Ax z c.le))) (FC _)
 have ne:s.heap.objs.size≠(s.heap.push (mU #[] 0)).objs.size:=by simp
 have L:=k7 (prog:=prog) (A:=A.in1) g (I:=(s.heap.push (mU #[] 0)).objs.size) (L:=s.heap.objs.size) X (by simp) (hF _) ne;refine zO (T:="set") L hz ⟨o,X.ob,X.ex.1⟩ rfl rfl (λj k d=>j8 h d) (λj k d=>d8 ⟨o,a _ _ X.ob,X.ex.1⟩ d)
  ⟨a,⟨0,Ad _ rfl,λ_=>i⟩,rfl⟩ (sU _ (Ad _ rfl)) λh' tk acc m f n=>?_
 simp_all
section
open PyProof.Rows Spec
def OR:V->List V->Hp->VK->Prop:=λx vs H Q=>∃(l:Addr) (zs:List Str) (z:Str),x=.ref l/\vs=[.str z]/\H l=some (.lst (zs.map V.str))/\z∈zs/\Q (.int (zs.idxOf z:Nat)) H
def k9:Es X "list.index" OR:=by
 intro pins s Z H x vs v us Q I w A h;obtain⟨l,zs,z,rfl,rfl,B,C,q⟩:=h;cases w;obtain⟨u,rfl,D1⟩:=A.one;obtain⟨t,rfl⟩:=D1;obtain⟨f,its,n,r,K,e⟩:=I.lstM B;have hj:zs.idxOf z<zs.length:=List.idxOf_lt_length_iff.mpr C;have c:its.length=zs.length:=by
  have:=r.length;simpa using this.symm
 have hb:its.length<2^62:=DU (by rw[c];simpa using f) (by decide:sizeLine<2^62);have d:∀m (hm:m<its.toArray.size),∃(a:m<zs.length) (b:Tok),its.toArray[m]=.str zs[m] b:=λm hm=>by
  have g:m<its.length:=by simpa using hm
  have a:m<zs.length:=by simp_all
  obtain⟨u,o,E⟩:=OP (i:=m) r (by rw[Ar,nL a];rfl);obtain⟨b,rfl⟩:=E;rw[nL g]at o;exact⟨a,b,by simpa using Ap o⟩
 refine BL F.slot_list_index ⟨_,e,rfl⟩ F.entry_list_index (F.args_list_index_2 _ _) (MeetsSeq.list_index l its.toArray n (.str z t) (Jc z) (λy G=>?_) (zs.idxOf z) (by simp;simp[*]) (by lia) ?_ (λm hm j=>?_)) ⟨e,?_⟩;obtain⟨J,b,rfl⟩:=qN r y (by simpa using G);exact eqGives_str J z b t;obtain⟨a,b,k⟩:=d (zs.idxOf z) (by simp;simp[*]);rw[k];show(zs[zs.idxOf z]==z)=true;simp;obtain⟨a,b,k⟩:=d m hm;rw[k];show(zs[m]==z)=false;have h:=List.not_of_lt_findIdx (p:=(· == z)) (xs:=zs) j;simpa using h;exact⟨.int _,H,I.tok _,⟨_,rfl⟩,q⟩
end
def Hl:FM:=λd a=>match d,a with
 |.lst l,[.str z]=>(kX l).bind λzs=>if z∈zs then some (.lst l,.int (zs.idxOf z:Nat))else none
 |_,_=>none
def l0:FR OR Hl:=by
 intro H d p l vs Q d' e ow r b k;unfold Hl at b;split at b
 ·obtain⟨zs,h,b⟩:=aA b;split at b
  ·rename_i i;cases b;obtain⟨xs,f,g⟩:=ow;have c:=g;rw[gC h]at c;have j:=c.strs_inv;subst j;cases r with
   | cons a t=>
     cases t;cases a;have q:=k (.lst (zs.map V.str)) (.int (zs.idxOf _:Nat)) (by rw[OM f];exact⟨_,f,g⟩) (.int _);rw[OM f]at q;exact⟨p,zs,_,rfl,rfl,f,i,q⟩
  ·cases b
 ·cases b
theorem rY{zs:List Str}:dY (Hl (.lst (zs.map D.str)) [.str z]) K=(z∈zs/\K (.lst (zs.map D.str),.int (zs.idxOf z:Nat))):=by
 show dY ((kX (zs.map D.str)).bind _) K=_;rw[jC];show dY (if _ then _ else none) K=_;rw[aO];rfl
section
open PyProof.Rows Spec
def fG:fillsNumberSlot (.type "tuple") "mul"=pure false:=
 PySem.fillsNumberSlot_seq (id:="tuple.__mul__") (r:=some (.builtin "tuple.__rmul__")) HC.lookup (by decide +kernel) F.slot_tuple_rmul.lookup (by decide +kernel)
def jE:seqRepeat? (.type "tuple")=pure (some (.builtin "tuple.__mul__")):=by
 unfold seqRepeat?;rw[PySem.seqSlot_of (T:="tuple") (name:="__mul__") (id:="tuple.__mul__") HC.lookup (by decide +kernel),PySem.seqSlot_of (T:="tuple") (name:="__rmul__") (id:="tuple.__rmul__") F.slot_tuple_rmul.lookup (by decide +kernel)];rfl
def rZ(a:Int)(t:Tok)(l:Addr)(items:Array Value)(n:Nat)(b:Option Addr)(sl:Array (Option Value)) :
  Meets (Builtin.«int.__rmul__» ⟨[.int a t,.ref l],[]⟩) (λ_ R s=>s.heap.get? l=some {cls:=.type "tuple",dict:=b,data:=.seq items n,slots:=sl}/\R (.ok (.ret Value.notImplemented)) s):=
 .of_wp λprog w A R s h=>by obtain⟨c,g,d,tk,os⟩:=s;obtain⟨e,h⟩:=h;wp_walk;exact⟨_,rfl,h⟩
def l8(l:Addr)(items:Array Value)(n:Nat)(u:Tok)(a:Option Addr)(sl:Array (Option Value)) :
  Meets (Builtin.«tuple.__mul__» ⟨[.ref l,.int 1 u],[]⟩) (λ_ R s=>s.heap.get? l=some {cls:=.type "tuple",dict:=a,data:=.seq items n,slots:=sl}/\R (.ok (.ret (Value.ref l))) {s with heap:=s.heap,toks:=s.toks}):=
 .of_wp λprog w A R s h=>by obtain⟨c,g,d,tk,os⟩:=s;obtain⟨b,h⟩:=h;have e:=AutoSeq1.idx_int;have f:=AutoSeq1.sub_tuple_tuple;wp_walk using JU b;exact⟨_,rfl,h⟩
def l9(l:Addr)(y:Value)(n:Nat)(u:Tok)(a:Option Addr)(sl:Array (Option Value)) :
  Meets (Builtin.«tuple.__mul__» ⟨[.ref l,.int 2 u],[]⟩) (λ_ R s=>s.heap.get? l=some {cls:=.type "tuple",dict:=a,data:=.seq #[y] n,slots:=sl}/\R (.ok (.ret (Value.ref s.heap.objs.size))) {s with heap:=s.heap.push {cls:=type "tuple",data:=Data.seq #[y,y]},toks:=s.toks}):=
 .of_wp λprog w A R s h=>by obtain⟨c,g,d,tk,os⟩:=s;obtain⟨b,h⟩:=h;have e:=AutoSeq1.idx_int;have f:=AutoSeq1.sub_tuple_tuple;wp_walk using JU b;exact⟨_,rfl,h⟩
def m3(c:IsTup s.heap l vs)(h:Q (.ref l) s):wpAny (model prog w) A (binaryOp .Mult (.ref l) (.int 1 u)) Q E s:=by
 obtain⟨⟨cls,d,data,sl⟩,a,b,k,hd⟩:=id c;simp only at b hd;subst b hd;exact wpAny_binaryOp_repeat_ref (T:="tuple") (U:="int") (by decide) ⟨_,a,rfl⟩ (λs'=>typeIs_int s' 1 u) fG F.fills_int_mul Gn jE F.slot_int_index.lookup
  (BL Gn (typeIs_int s 1 u) F.entry_int_rmul (F.args_int_rmul_2 _ _) (rZ 1 u l vs k d sl)
   ⟨a,rfl,⟨_,a,rfl⟩,BL HC ⟨_,a,rfl⟩ F.entry_tuple_mul (F.args_tuple_mul_2 _ _) (l8 l vs k u d sl) ⟨a,h⟩⟩)
def m4(c:IsTup s.heap l #[y])(h:Q (.ref s.heap.objs.size) {s with heap:=s.heap.push {cls:=type "tuple",data:=Data.seq #[y,y]},toks:=s.toks}):wpAny (model prog w) A (binaryOp .Mult (.ref l) (.int 2 u)) Q E s:=by
 obtain⟨⟨cls,d,data,sl⟩,a,b,k,hd⟩:=id c;simp only at b hd;subst b hd;exact wpAny_binaryOp_repeat_ref (T:="tuple") (U:="int") (by decide) ⟨_,a,rfl⟩ (λs'=>typeIs_int s' 2 u) fG F.fills_int_mul Gn jE F.slot_int_index.lookup
  (BL Gn (typeIs_int s 2 u) F.entry_int_rmul (F.args_int_rmul_2 _ _) (rZ 2 u l #[y] k d sl)
   ⟨a,rfl,⟨_,a,rfl⟩,BL HC ⟨_,a,rfl⟩ F.entry_tuple_mul (F.args_tuple_mul_2 _ _) (l9 l y k u d sl) ⟨a,h⟩⟩)
def OS:R2:=λx y H Q=>∃(p:Addr) (e:V),x=.ref p/\cS H p=some (false,[e])/\((y=.int 1/\Q (.ref p) H)\/(y=.int 2/\∀r,H r=none->Q (.ref r) (gY H r (.tup [e,e]))))
def m8:Ak X (binaryOp .Mult) OS:=by
 intro pins s Z H x y v u Q I f c h;obtain⟨p,e,rfl,g,i⟩:=h;cases f;obtain⟨its,a,d,_⟩:=I.tuple (dD g);rcases i with⟨rfl,q⟩|⟨rfl,q⟩;obtain⟨t,rfl⟩:=c;exact m3 d ⟨.ref p,H,I,rfl,q⟩;obtain⟨t,rfl⟩:=c;obtain⟨w,rfl,rw⟩:=a.one;refine m4 (y:=w) d ?_;refine⟨.ref s.heap.objs.size,_,I.laid (t':=s.toks) (o:=.tup ([e]++[e])) (λb ob q=>sU _ q) (hF _) ?_,rfl,q _ (I.hok.fresh (hF _))⟩;exact⟨(by decide:2<=sizeLine),_,a.append a,IsTup.new _ _,⟨_,Ad _ rfl,rfl⟩⟩
def m9(l:Addr)(y:Value)(n:Nat)(u:Tok)(a:Option Addr)(sl:Array (Option Value)) :
  Meets (Builtin.«tuple.__mul__» ⟨[.ref l,.int 3 u],[]⟩) (λ_ R s=>s.heap.get? l=some {cls:=.type "tuple",dict:=a,data:=.seq #[y] n,slots:=sl}/\R (.ok (.ret (Value.ref s.heap.objs.size))) {s with heap:=s.heap.push {cls:=type "tuple",data:=Data.seq #[y,y,y]},toks:=s.toks}):=
 .of_wp λprog w A R s h=>by obtain⟨c,g,d,tk,os⟩:=s;obtain⟨b,h⟩:=h;have e:=AutoSeq1.idx_int;have f:=AutoSeq1.sub_tuple_tuple;wp_walk using AutoSeq1.wpAny_loadPart' b;exact⟨_,rfl,h⟩
def n8(l:Addr)(y:Value)(n:Nat)(u:Tok)(a:Option Addr)(sl:Array (Option Value)) :
  Meets (Builtin.«tuple.__mul__» ⟨[.ref l,.int 4 u],[]⟩) (λ_ R s=>s.heap.get? l=some {cls:=.type "tuple",dict:=a,data:=.seq #[y] n,slots:=sl}/\R (.ok (.ret (Value.ref s.heap.objs.size))) {s with heap:=s.heap.push {cls:=type "tuple",data:=Data.seq #[y,y,y,y]},toks:=s.toks}):=
 .of_wp λprog w A R s h=>by obtain⟨c,g,d,tk,os⟩:=s;obtain⟨b,h⟩:=h;have e:=AutoSeq1.idx_int;have f:=AutoSeq1.sub_tuple_tuple;wp_walk using AutoSeq1.wpAny_loadPart' b;exact⟨_,rfl,h⟩
def nA{ys:List Value}(c:IsTup s.heap l #[y])
  (hm:∀n e sl,Meets (Builtin.«tuple.__mul__» ⟨[.ref l,.int k u],[]⟩) (λ_ R s=>s.heap.get? l=some {cls:=.type "tuple",dict:=e,data:=.seq #[y] n,slots:=sl}/\R (.ok (.ret (Value.ref s.heap.objs.size))) {s with heap:=s.heap.push {cls:=type "tuple",data:=Data.seq ys.toArray},toks:=s.toks}))
  (h:Q (.ref s.heap.objs.size) {s with heap:=s.heap.push {cls:=.type "tuple",data:=.seq ys.toArray}}):wpAny (model prog w) A (binaryOp .Mult (.ref l) (.int k u)) Q E s:=by
 obtain⟨⟨cls,d,data,sl⟩,a,b,n,hd⟩:=id c;simp only at b hd;subst b hd;exact wpAny_binaryOp_repeat_ref (T:="tuple") (U:="int") (by decide) ⟨_,a,rfl⟩ (λs'=>typeIs_int s' k u) fG F.fills_int_mul Gn jE F.slot_int_index.lookup
  (BL Gn (typeIs_int s k u) F.entry_int_rmul (F.args_int_rmul_2 _ _) (rZ k u l #[y] n d sl)
   ⟨a,rfl,⟨_,a,rfl⟩,BL HC ⟨_,a,rfl⟩ F.entry_tuple_mul (F.args_tuple_mul_2 _ _) (hm n d sl) ⟨a,h⟩⟩)
def La:R2:=λx y H Q=>OS x y H Q\/∃(p:Addr) (e:V),x=.ref p/\cS H p=some (false,[e])/\((y=.int 3/\∀r,H r=none->Q (.ref r) (gY H r (.tup [e,e,e])))\/(y=.int 4/\∀r,H r=none->Q (.ref r) (gY H r (.tup [e,e,e,e]))))
def n9:Ak X (binaryOp .Mult) La:=by
 refine m8.or ?_;intro pins s Z H x y v u Q I g d h;obtain⟨p,e,rfl,i,j⟩:=h;cases g;obtain⟨its,a,f,_⟩:=I.tuple (dD i);obtain⟨w,rfl,rw⟩:=a.one;rcases j with⟨rfl,q⟩|⟨rfl,q⟩;obtain⟨t,rfl⟩:=d;refine nA (y:=w) (ys:=[w,w,w]) f (λn c sl=>m9 p w n t c sl) ?_;exact⟨.ref s.heap.objs.size,_,I.laid (t':=s.toks) (o:=.tup ([e]++([e]++[e]))) (λb ob q=>sU _ q) (hF _) ⟨(by decide:3<=sizeLine),_,a.append (a.append a),IsTup.new _ _,⟨_,Ad _ rfl,rfl⟩⟩,rfl,q _ (I.hok.fresh (hF _))⟩;obtain⟨t,rfl⟩:=d;refine nA (y:=w) (ys:=[w,w,w,w]) f (λn c sl=>n8 p w n t c sl) ?_;exact⟨.ref s.heap.objs.size,_,I.laid (t':=s.toks) (o:=.tup ([e]++([e]++([e]++[e])))) (λb ob q=>sU _ q) (hF _) ⟨(by decide:4<=sizeLine),_,a.append (a.append (a.append a)),IsTup.new _ _,⟨_,Ad _ rfl,rfl⟩⟩,rfl,q _ (I.hok.fresh (hF _))⟩
end
def OT:F2:=λd e=>match d,e with
 |.tup [x],.int i=>if 1<=i/\i<=4 then some (.val (.tup (replicate i.toNat x)))else none
 |_,_=>none
set_option tactic.hygienic true in
def o1:oP La OT:=by
 intro H h j x y Q res d f e k;unfold OT at e;split at e
 ·rename_i l i;split at e
  ·rename_i hi;cases e;obtain⟨p,xs,rfl,c,g⟩:=dF d;obtain rfl:=bO f;cases g with
   | cons a t=>
     cases t;have:i=1\/i=2\/i=3\/i=4:=by lia
     rcases this with rfl|rfl|rfl|rfl;exact .inl ⟨p,_,rfl,aV c,.inl ⟨rfl,k _ H (.refl _) (.tup c (.cons a .nil))⟩⟩;exact .inl ⟨p,_,rfl,aV c,.inr ⟨rfl,λr b=>k _ _ (aM b) (jA b (.cons a (.cons a .nil)))⟩⟩;exact .inr ⟨p,_,rfl,aV c,.inl ⟨rfl,λr b=>k _ _ (aM b) (jA b (.cons a (.cons a (.cons a .nil))))⟩⟩;exact .inr ⟨p,_,rfl,aV c,.inr ⟨rfl,λr b=>k _ _ (aM b) (jA b (.cons a (.cons a (.cons a (.cons a .nil)))))⟩⟩
  ·cases e
 ·cases e
section
open PyProof.Rows Spec
def o3(l:Addr)(y:Value)(n:Nat)(u:Tok)(a:Option Addr)(sl:Array (Option Value)) :
  Meets (Builtin.«tuple.__mul__» ⟨[.ref l,.int 5 u],[]⟩) (λ_ R s=>s.heap.get? l=some {cls:=.type "tuple",dict:=a,data:=.seq #[y] n,slots:=sl}/\R (.ok (.ret (Value.ref s.heap.objs.size))) {s with heap:=s.heap.push {cls:=type "tuple",data:=Data.seq #[y,y,y,y,y]},toks:=s.toks}):=
 .of_wp λprog w A R s h=>by obtain⟨c,g,d,tk,os⟩:=s;obtain⟨b,h⟩:=h;have e:=AutoSeq1.idx_int;have f:=AutoSeq1.sub_tuple_tuple;wp_walk using AutoSeq1.wpAny_loadPart' b;exact⟨_,rfl,h⟩
def o8(l:Addr)(y:Value)(n:Nat)(u:Tok)(a:Option Addr)(sl:Array (Option Value)) :
  Meets (Builtin.«tuple.__mul__» ⟨[.ref l,.int 6 u],[]⟩) (λ_ R s=>s.heap.get? l=some {cls:=.type "tuple",dict:=a,data:=.seq #[y] n,slots:=sl}/\R (.ok (.ret (Value.ref s.heap.objs.size))) {s with heap:=s.heap.push {cls:=type "tuple",data:=Data.seq #[y,y,y,y,y,y]},toks:=s.toks}):=
 .of_wp λprog w A R s h=>by obtain⟨c,g,d,tk,os⟩:=s;obtain⟨b,h⟩:=h;have e:=AutoSeq1.idx_int;have f:=AutoSeq1.sub_tuple_tuple;wp_walk using AutoSeq1.wpAny_loadPart' b;exact⟨_,rfl,h⟩
def OU:R2:=λx y H Q=>La x y H Q\/∃(p:Addr) (e:V),x=.ref p/\cS H p=some (false,[e])/\((y=.int 5/\∀r,H r=none->Q (.ref r) (gY H r (.tup [e,e,e,e,e])))\/(y=.int 6/\∀r,H r=none->Q (.ref r) (gY H r (.tup [e,e,e,e,e,e]))))
def o9:Ak X (binaryOp .Mult) OU:=by
 refine n9.or ?_;intro pins s Z H x y v u Q I g d h;obtain⟨p,e,rfl,i,j⟩:=h;cases g;obtain⟨its,a,f,_⟩:=I.tuple (dD i);obtain⟨w,rfl,rw⟩:=a.one;rcases j with⟨rfl,q⟩|⟨rfl,q⟩;obtain⟨t,rfl⟩:=d;refine nA (y:=w) (ys:=[w,w,w,w,w]) f (λn c sl=>o3 p w n t c sl) ?_;exact⟨.ref s.heap.objs.size,_,I.laid (t':=s.toks) (o:=.tup [e,e,e,e,e]) (λb ob q=>sU _ q) (hF _) ⟨(by decide:5<=sizeLine),_,a.append (a.append (a.append (a.append a))),IsTup.new _ _,⟨_,Ad _ rfl,rfl⟩⟩,rfl,q _ (I.hok.fresh (hF _))⟩;obtain⟨t,rfl⟩:=d;refine nA (y:=w) (ys:=[w,w,w,w,w,w]) f (λn c sl=>o8 p w n t c sl) ?_;exact⟨.ref s.heap.objs.size,_,I.laid (t':=s.toks) (o:=.tup [e,e,e,e,e,e]) (λb ob q=>sU _ q) (hF _) ⟨(by decide:6<=sizeLine),_,a.append (a.append (a.append (a.append (a.append a)))),IsTup.new _ _,⟨_,Ad _ rfl,rfl⟩⟩,rfl,q _ (I.hok.fresh (hF _))⟩
end
def Iv:F2:=λd e=>match d,e with
 |.tup [x],.int i=>if 1<=i/\i<=6 then some (.val (.tup (replicate i.toNat x)))else none
 |_,_=>none
set_option tactic.hygienic true in
def p0:oP OU Iv:=by
 intro H j l x y Q res c d e k;unfold Iv at e;split at e
 ·rename_i m i;split at e
  ·rename_i hi;cases e;by_cases g:i<=4;exact .inl (o1 H _ _ x y Q _ c d (fI ⟨hi.1,g⟩) k);obtain⟨p,xs,rfl,f,h⟩:=dF c;obtain rfl:=bO d;cases h with
   | cons a t=>
     cases t;have:i=5\/i=6:=by lia
     rcases this with rfl|rfl;exact .inr ⟨p,_,rfl,aV f,.inl ⟨rfl,λr b=>k _ _ (aM b) (jA b (.cons a (.cons a (.cons a (.cons a (.cons a .nil))))))⟩⟩;exact .inr ⟨p,_,rfl,aV f,.inr ⟨rfl,λr b=>k _ _ (aM b) (jA b (.cons a (.cons a (.cons a (.cons a (.cons a (.cons a .nil)))))))⟩⟩
  ·cases e
 ·cases e
def p1:dY (Iv (.tup [x]) (.int i)) K=((1<=i/\i<=6)/\K (.val (.tup (replicate i.toNat x)))):=by
 show dY (if _ then _ else none) K=_;rw[aO];rfl
structure OV(E:Ex)(X:Cx)(st:Stmt)(m:MS):Prop where
 to:∀Γ,PS X st (Ky Γ E m)
 mon:GX m
def p3(h:OV E X st m):GM E X [st] m:=⟨λΓ=>qH (h.to Γ),h.mon⟩
def p4(b:MS)(Q:Cc->Prop)(o:Cc):Prop:=match o with
 |.nx a=>b a Q
 |o=>Q o
def OW(a b:MS):MS:=λZ Q=>a Z (p4 b Q)
def p5(h1:GX a)(e:GX b):GX (OW a b):=λZ Q g w q=>h1 Z _ _ (λo q=>by
 cases o with
 |nx d=>exact e d _ _ w q
 |rt r σ' | bk σ' | ct σ'=>exact w _ q
 |ex c f σ'=>exact w _ q) q
def p6{fH:List Stmt}(h1:OV E X st a)(e:GM E X fH b):GM E X (st::fH) (OW a b) where
 to:=λΓ=>Ia (mT (h1.to Γ) (e.to Γ)) λD σV H ⟨Z,ok,q⟩=>⟨Z,ok,h1.mon Z _ _ (λo q=>by
  cases o with
  |nx d=>exact λi j g h=>⟨d,g,e.mon d _ _ (λo q=>q.after h) q⟩
  |rt r σ' | bk σ' | ct σ'=>exact q
  |ex c f σ'=>exact q) q⟩
 mon:=p5 h1.mon e.mon
def q0:∀x Z H (Q c:St->Hp->Prop),(∀a b,Q a b->c a b)->EU x Z H Q->EU x Z H c:=λ_ _ _ _ _ f q=>⟨q.1,f _ _ q.2⟩
def pV(h:∀ x Z H (Q c:St->Hp->Prop),(∀ a b,Q a b->c a b)->t x Z H Q->t x Z H c)(k:∀ x Z H (Q c:St->Hp->Prop),(∀ a b,Q a b->c a b)->u x Z H Q->u x Z H c) :
  ∀x Z H (Q c:St->Hp->Prop),(∀a b,Q a b->c a b)->nB t u x Z H Q->nB t u x Z H c:=λ_ _ _ _ _ f ⟨v,r,e,q⟩=>⟨v,r,e,h _ _ _ _ _ (λ_ _ q=>k _ _ _ _ _ f q) q⟩
def q9(k:∀ x Z H (Q c:St->Hp->Prop),(∀ a b,Q a b->c a b)->u x Z H Q->u x Z H c) :
  ∀x Z H (Q c:St->Hp->Prop),(∀a b,Q a b->c a b)->nN K n u x Z H Q->nN K n u x Z H c:=λx _ _ _ _ f q=>by
 cases x with
 |str z=>exact⟨q.1,k _ _ _ _ _ f q.2⟩
 |ref a=>obtain⟨xs,d,e,q⟩:=q;exact⟨xs,d,e,k _ _ _ _ _ f q⟩
 |_=>exact q
structure Fg(z TI1 TO1 i j:Addr)(f g:List Addr):Prop where
 a1:TI1≠z
 a2:TO1≠z
 a3:TI1≠TO1
 a4:i≠z
 a5:j≠z
 a6:TI1≠i
 a7:TI1≠j
 a8:TO1≠i
 a9:TO1≠j
 fz:z∉f
 fo:TO1∉f
 fj:j∉f
 gz:z∉g
 go:TO1∉g
 gi:i∉g
def r3{Q:Value->Shared->Prop}(D1:Fg z TI1 TO1 i j f g)(u:Draws prog w A i f n P S)(B:Draws prog w A j g n R T)(N:k < n)
  (hz:IsZip s.heap z TI1 TO1 .none) (hI:IsPair s.heap TI1 (.ref i) (.ref j)) (hO:IsPair s.heap TO1 a b) (si:S k s.heap) (sj:T k s.heap)
  (q:∀x y h' tk,P k x->R k y->IsZip h' z TI1 TO1 (rawInt s.heap.objs.size)->IsPair h' TO1 x y->S (k+1) h'->T (k+1) h'->IsPair h' s.heap.objs.size x y ->
   (∀c o,c≠z->c≠TO1->c≠i->c≠j->s.heap.get? c=some o->h'.get? c=some o)->Q (.ref s.heap.objs.size) {s with heap:=h',toks:=tk}) :
  wpAny (model prog w) A (Builtin.«zip.__next__» ⟨[.ref z],[]⟩) (λfin s'=>∃v,fin=.done (.ret v)/\Q v s') E s:=by
 (show wpAny _ _ (field (.ref z) 2 >>= _) _ _ _;refine dV (AW hz rfl (x:=.bool false) rfl ?_))
 (show wpAny _ _ (field (.ref z) 3 >>= _) _ _ _;refine dV (AW hz rfl (x:=.ref TI1) rfl ?_);refine dV (CB hI rfl ?_))
 (show wpAny _ _ (ownedTupleIsFree (.ref z) >>= _) _ _ _;refine dV ?_;unfold ownedTupleIsFree;refine dV (AW hz rfl (x:=.none) rfl (gV ?_)))
 (refine dV (BJ ?_);refine dV (AW hz rfl (x:=.ref TO1) rfl ?_);refine dV (wpAny_setField_rec hz (by simp) λh1 I l=>?_))
 replace I:IsZip h1 z TI1 TO1 .ellipsis:=I
 (refine dV ?_;refine dV (dV (wpAny_onRaise ?_)))
 (show wpAny _ _ (nextOf (.ref i) >>= _) _ _ _;refine dV (u.item k _ _ _ N (u.frame _ _ _ si λc hc o e=>(l.2 c λz=>D1.fz (z▸hc)).trans e) λx h2 t2 px s2 m=>gV ?_))
 have π:IsPair h2 TO1 a b:=(m.2 TO1 D1.a8).trans ((l.2 TO1 D1.a2).trans hO)
 (refine dV (CB π rfl ?_);refine dV (wpAny_updateSeq_pair π λU J p=>?_))
 replace J:IsPair U TO1 x b:=J
 (refine dV (wpAny_letGo (gV ?_));refine dV (dV (wpAny_onRaise ?_)))
 have t3:T k U:=B.frame _ _ _ sj λc hc o e=>(p.2 c λz=>D1.go (z▸hc)).trans ((m.2 c λz=>D1.gi (z▸hc)).trans ((l.2 c λz=>D1.gz (z▸hc)).trans e))
 (show wpAny _ _ (nextOf (.ref j) >>= _) _ _ _;refine dV (B.item k _ _ _ N t3 λy h4 t4 py s4 r=>gV ?_))
 have V1:IsPair h4 TO1 x b:=(r.2 TO1 D1.a9).trans J
 (refine dV (CB V1 rfl ?_);refine dV (wpAny_updateSeq_pair V1 λd C t=>?_))
 replace C:IsPair d TO1 x y:=C
 (refine dV (wpAny_letGo (gV (gV ?_)));refine dV (CB C rfl ?_);refine dV (wpAny_newTuple ?_))
 have sz:d.objs.size=s.heap.objs.size:=by rw[t.1,r.1,p.1,m.1,l.1]
 have W:IsZip d z TI1 TO1 .ellipsis:=(t.2 z D1.a2.symm).trans ((r.2 z D1.a5.symm).trans ((p.2 z D1.a2.symm).trans ((m.2 z D1.a4.symm).trans I)));have kp:∀c o,c≠z->c≠TO1->c≠i->c≠j->s.heap.get? c=some o->d.get? c=some o:=λc o h F K L e=>(t.2 c F).trans ((r.2 c L).trans ((p.2 c F).trans ((m.2 c K).trans ((l.2 c h).trans e))));have s5:S (k+1) d:=u.frame _ _ _ s2 λc hc o e=>(t.2 c λz=>D1.fo (z▸hc)).trans ((r.2 c λz=>D1.fj (z▸hc)).trans ((p.2 c λz=>D1.fo (z▸hc)).trans e));have t5:T (k+1) d:=B.frame _ _ _ s4 λc hc o e=>(t.2 c λz=>D1.go (z▸hc)).trans e;have X:z<d.objs.size:=kN W
 (show wpAny _ _ (ownedTupleHandOut (.ref z) (.ref d.objs.size) >>= _) _ _ _;refine dV ?_;unfold ownedTupleHandOut)
 have z6:IsZip (d.push {cls:=.type "tuple",data:=.seq #[x,y]}) z TI1 TO1 .ellipsis:=sU _ W;refine dV (wpAny_setField_rec z6 (by simp) λh7 M Y=>?_)
 replace M:IsZip h7 z TI1 TO1 (rawInt d.objs.size):=M
 refine wpAny_setField_rec M (by simp) λG H σ=>?_
 replace H:IsZip G z TI1 TO1 (rawInt d.objs.size):=H
 have up:∀c o,c≠z->d.get? c=some o->G.get? c=some o:=λc o h e=>(σ.2 c h).trans ((Y.2 c h).trans (sU _ e));have p8:IsPair G d.objs.size x y:=(σ.2 _ (CF X)).trans ((Y.2 _ (CF X)).trans (Ad _ rfl))
 (refine gV ⟨_,rfl,?_⟩;show Q (.ref d.objs.size) _)
 rw[sz]at H p8 ⊢;exact q x y G t4 px py H (up _ _ D1.a2 C) (u.frame _ _ _ s5 λc hc o e=>up c o (λz=>D1.fz (z▸hc)) e) (B.frame _ _ _ t5 λc hc o e=>up c o (λz=>D1.gz (z▸hc)) e) p8 λc o h F K L e=>up c o h (kp c o h F K L e)
def r8(D1:Fg z TI1 TO1 i j f g)(a:Draws prog w A i f n P S)
  (hz:IsZip s.heap z TI1 TO1 .none) (l:IsPair s.heap TI1 (.ref i) (.ref j)) (m:S n s.heap)
  (q:∀h' e,(∀c o,c≠z->c≠i->s.heap.get? c=some o->h'.get? c=some o)->(∃o,h'.get? e=some o/\o.cls=.type "StopIteration")->E (.ref e) {s with heap:=h'}) :
  wpAny (model prog w) A (Builtin.«zip.__next__» ⟨[.ref z],[]⟩) Q E s:=by
 (show wpAny _ _ (field (.ref z) 2 >>= _) _ _ _;refine dV (AW hz rfl (x:=.bool false) rfl ?_))
 (refine dV (AW hz rfl (x:=.ref TI1) rfl ?_);refine dV (CB l rfl ?_))
 (refine dV ?_;unfold ownedTupleIsFree;refine dV (AW hz rfl (x:=.none) rfl (gV ?_)))
 (refine dV (BJ ?_);refine dV (AW hz rfl (x:=.ref TO1) rfl ?_);refine dV (wpAny_setField_rec hz (by simp) λG p b=>?_))
 (refine dV ?_;refine dV (dV (wpAny_onRaise ?_)))
 (refine dV (a.done _ _ _ (a.frame _ _ _ m λc hc o e=>(b.2 c λz=>D1.fz (z▸hc)).trans e) λr e d ⟨t,u,v⟩=>?_))
 have y:IsZip r z TI1 TO1 .ellipsis:=d _ _ D1.a4.symm p;have B:e≠z:=λx=>by lia
 exact wpAny_setField_rec y (by simp) λC _ h=>q C e (λc o k F x=>(h.2 c k).trans (d _ _ F ((b.2 c k).trans x))) ⟨t,(h.2 e B).trans u,v⟩
def OX(D1:Fg z TI1 TO1 i j f g)(d:Draws prog w A.in1 i f n P S)(e:Draws prog w A.in1 j g n R T)(h:k < n)
  (hz:IsZip s.heap z TI1 TO1 .none) (l:IsPair s.heap TI1 (.ref i) (.ref j)) (m:IsPair s.heap TO1 a b) (p:S k s.heap) (r:T k s.heap)
  (q:∀x y h' tk,P k x->R k y->IsZip h' z TI1 TO1 (rawInt s.heap.objs.size)->IsPair h' TO1 x y->S (k+1) h'->T (k+1) h'->IsPair h' s.heap.objs.size x y ->
   (∀c o,c≠z->c≠TO1->c≠i->c≠j->s.heap.get? c=some o->h'.get? c=some o)->Q (some (.ref s.heap.objs.size)) {s with heap:=h',toks:=tk}) :
  wpAny (model prog w) A (pyNext (.ref z)) Q E s:=by
 have hT:s.TypeIs (.ref z) "zip":=⟨_,hz,rfl⟩;exact dV (Ee (wpAny_callSpecial?_slot (name:=ofString "__next__") hT F.slot_zip_next (Cp F.slot_zip_next hT F.entry_zip_next (r3 D1 d e h hz l m p r λx y h' tk t u v B C G H I=>gV (q x y h' tk t u v B C G H I)) (F.args_zip_next_1 _))))
def OY(D1:Fg z TI1 TO1 i j f g)(a:Draws prog w A.in1 i f n P S)
  (hz:IsZip s.heap z TI1 TO1 .none) (d:IsPair s.heap TI1 (.ref i) (.ref j)) (h:S n s.heap)
  (q:∀h',(∀c o,c≠z->c≠i->s.heap.get? c=some o->h'.get? c=some o)->Q none {s with heap:=h'}):wpAny (model prog w) A (pyNext (.ref z)) Q E s:=by
 have hT:s.TypeIs (.ref z) "zip":=⟨_,hz,rfl⟩
 (refine dV (Ee (wpAny_callSpecial?_slot (name:=ofString "__next__") hT F.slot_zip_next (Cp F.slot_zip_next hT F.entry_zip_next (r8 D1 a hz d h λh' e k ⟨o,l,m⟩=>?_) (F.args_zip_next_1 _))));refine dV (wpAny_isInstance (T:="StopIteration") (b:=true) ⟨o,l,m⟩ isSubtype_stop ?_))
 exact gV (q _ k)
noncomputable abbrev Hm(b:Bool):String:=if b=true then "list" else "tuple"
noncomputable abbrev Fh(b:Bool):String:=if b=true then "list_iterator" else "tuple_iterator"
abbrev EB(b:Bool)(l:Addr):Obj:={cls:=.type (Fh b),data:=.fields #[.ref l,.int 0 0]}
def Bn(b:Bool)(h:Heap)(l:Addr)(xs:Array Value):Prop:=if b=true then h.IsList l xs else h.IsTuple l xs
def CS(b:Bool)(h:Heap)(i l:Addr)(k:Nat):Prop:=∃o,h.get? i=some o/\o.cls=.type (Fh b)/\o.data=.fields #[.ref l,.int k 0]
abbrev s9(a b:Bool)(h:Heap)(l m:Addr):Heap:=((((h.push (EB a l)).push (EB b m)).push {cls:=.type "tuple",data:=.seq #[.ref h.objs.size,.ref (h.objs.size+1)]}).push {cls:=.type "tuple",data:=.seq #[.none,.none]}).push
 {cls:=.type "zip",data:=.fields #[.none,.bool false,.bool false,.ref (h.objs.size+2),.ref (h.objs.size+3)]}
def t6(a c:Bool)(l m:Addr)(xs ys:Array Value):Meets (Builtin.«zip.__new__» ⟨[.type "zip",.ref l,.ref m],[]⟩) (λ_ R s=>Bn a s.heap l xs/\Bn c s.heap m ys/\R (.ok (.ret (.ref (s.heap.objs.size+4)))) {s with heap:=s9 a c s.heap l m}):=
 .of_wp λprog w A R s h=>by
  obtain⟨b,g,d,tk,os⟩:=s;obtain⟨e,f,h⟩:=h;have i:=sub_zip;have n1:∀{Q:Value->Shared->Prop} {E:Value->Shared->Prop} {A:Around},Q (.ref b.objs.size) ⟨b.push (EB a l),g,d,tk,os⟩->wpAny (model prog w) A (pyIter (.ref l)) Q E ⟨b,g,d,tk,os⟩:=λq=>by
   cases a;exact Hv (show IsTuple _ l xs from e) q;exact wpAny_pyIter_list (show IsList _ l xs from e) q
  have n2:∀{Q:Value->Shared->Prop} {E:Value->Shared->Prop} {A:Around},Q (.ref (b.push (EB a l)).objs.size) ⟨(b.push (EB a l)).push (EB c m),g,d,tk,os⟩->wpAny (model prog w) A (pyIter (.ref m)) Q E ⟨b.push (EB a l),g,d,tk,os⟩:=λq=>by
   cases c;exact Hv (show IsTuple _ m ys from Heap.IsTuple.push f _) q;exact wpAny_pyIter_list (show IsList _ m ys from Heap.IsList.push f _) q
  wp_walk using n1,n2
  refine⟨_,rfl,?_⟩;simp only[Heap.size_push];exact h
def t7{h:Heap}(f:a.isFreed=false)(g:b.isFreed=false)(i:c.isFreed=false)(j:d.isFreed=false)(k:e.isFreed=false) :
  ∀h',((((h.push a).push b).push c).push d).push e=h'->h'.get? h.objs.size=some a/\h'.get? (h.objs.size+1)=some b/\h'.get? (h.objs.size+2)=some c/\h'.get? (h.objs.size+3)=some d/\h'.get? (h.objs.size+4)=some e/\∀x o,h.get? x=some o->h'.get? x=some o:=by
 intro h' l;have up:∀{c:Addr} {o ob:Obj} {h:Heap},h.get? c=some o->(h.push ob).get? c=some o:=λe=>sU _ e;have a2:=Ad (h.push a) (o:=b) g;have a3:=Ad ((h.push a).push b) (o:=c) i;have a4:=Ad (((h.push a).push b).push c) (o:=d) j;have a5:=Ad ((((h.push a).push b).push c).push d) (o:=e) k;simp only[Heap.size_push]at a2 a3 a4 a5;rw[← l];exact⟨up (up (up (up (Ad h (o:=a) f)))),up (up (up a2)),up (up a3),up a4,a5,λx o q=>up (up (up (up (up q))))⟩
def OZ{s:Shared}(h1:Bn a s.heap l xs)(g:Bn c s.heap m ys)
  (q:∀h',IsZip h' (s.heap.objs.size+4) (s.heap.objs.size+2) (s.heap.objs.size+3) .none->IsPair h' (s.heap.objs.size+2) (.ref s.heap.objs.size) (.ref (s.heap.objs.size+1))->IsPair h' (s.heap.objs.size+3) .none .none ->
   CS a h' s.heap.objs.size l 0->CS c h' (s.heap.objs.size+1) m 0->(∀x o,s.heap.get? x=some o->h'.get? x=some o)->h'.objs.size=s.heap.objs.size+5->Q (.ref (s.heap.objs.size+4)) {s with heap:=h'}) :
  wpAny (model prog w) A (call (.type "zip") [.ref l,.ref m]) Q E s:=by
 refine callType_new F.called_zip (rfl) (F.typeCall_zip_2 _ _) (F.newCall_zip_2 _ _) (λobj=>F.args_object_init_3 obj _ _) F.entry_zip_new (t6 a c l m xs ys) ⟨h1,g,?_⟩;obtain⟨i,j,k,n,f,p⟩:=t7 (h:=s.heap) (a:=EB a l) (b:=EB c m) (c:={cls:=.type "tuple",data:=.seq #[.ref s.heap.objs.size,.ref (s.heap.objs.size+1)]}) (d:={cls:=.type "tuple",data:=.seq #[.none,.none]})
  (e:={cls:=.type "zip",data:=.fields #[.none,.bool false,.bool false,.ref (s.heap.objs.size+2),.ref (s.heap.objs.size+3)]}) rfl rfl rfl rfl rfl _ rfl
 exact⟨⟨_,f,rfl⟩,q _ f k n ⟨_,i,rfl,rfl⟩ ⟨_,j,rfl,rfl⟩ p (by simp)⟩
section
open PyProof.Rows
def jZ(h:cS H q=some z)(hb:H b=none):q≠b:=λe=>by
 unfold cS at h;simp_all
def Lb(a c:Bool)(p q:Addr):It:=
 ⟨λi H=>∃xs ys x y,cS H p=some (a,xs)/\cS H q=some (c,ys)/\xs.length=ys.length/\xs[i]?=some x/\ys[i]?=some y,
  λi H v H'=>∃T x y,v=.ref T/\H T=none/\H'=gY H T (.tup [x,y])/\(∀xs,cS H p=some (a,xs)->xs[i]?=some x)/\∀ys,cS H q=some (c,ys)->ys[i]?=some y,
  λi H=>∃xs ys,cS H p=some (a,xs)/\cS H q=some (c,ys)/\xs.length=i/\ys.length=i⟩
def Pa(a c:Bool)(z TI TO i j p q:Addr)(k:Nat)(h:Heap):Prop:=IsZip h z TI TO .none/\IsPair h TI (.ref i) (.ref j)/\(∃a b,IsPair h TO a b)/\CS a h i p k/\CS c h j q k
def Pb{s:Shared}{z TI TO i j p q:Addr}(st:Pa a0 c z TI TO i j p q k s.heap)(F:Bn a0 s.heap p xs)(G:Bn c s.heap q ys)(H:TI≠TO)(u:i≠j)(I:p≠TO)(J:q≠TO):Fg z TI TO i j [i,p] [j,q]:=by
 obtain⟨h,v,⟨a,b,w⟩,⟨W,d,l,X⟩,Y,f,m,σ⟩:=st;obtain⟨o6,x,K⟩:∃o,s.heap.get? p=some o/\o.cls=.type (Hm a0):=by cases a0<;>exact F.imp λ_ q=>⟨q.1,q.2.1⟩
 obtain⟨o7,y,L⟩:∃o,s.heap.get? q=some o/\o.cls=.type (Hm c):=by cases c<;>exact G.imp λ_ q=>⟨q.1,q.2.1⟩
 have M:type (Fh a0)≠type "zip":=by cases a0<;>decide
 have A:type (Fh a0)≠type "tuple":=by cases a0<;>decide
 have n:type (Hm a0)≠type "zip":=by cases a0<;>decide
 have r:type (Hm c)≠type "zip":=by cases c<;>decide
 have t:type (Fh c)≠type "zip":=by cases c<;>decide
 have g:type (Fh c)≠type "tuple":=by cases c<;>decide
 have N:type (Fh a0)≠type (Hm c):=by cases a0<;>cases c<;>decide
 have π:type (Fh c)≠type (Hm a0):=by cases a0<;>cases c<;>decide
 have B:i≠z:=λe=>by rw[e,h]at d;cases d;exact M l.symm
 have C:j≠z:=λe=>by rw[e,h]at f;cases f;exact t m.symm
 have P:TI≠i:=λe=>by rw[← e,v]at d;cases d;exact A l.symm
 have Q:TI≠j:=λe=>by rw[← e,v]at f;cases f;exact g m.symm
 have D1:TO≠i:=λe=>by rw[← e,w]at d;cases d;exact A l.symm
 have E:TO≠j:=λe=>by rw[← e,w]at f;cases f;exact g m.symm
 have pz:p≠z:=λe=>by rw[e,h]at x;cases x;exact n K.symm
 have R:q≠z:=λe=>by rw[e,h]at y;cases y;exact r L.symm
 have S:p≠j:=λe=>by lia
 have T:q≠i:=λe=>by lia
 have U:TI≠z:=λe=>by lia
 have V:TO≠z:=λe=>by lia
 refine⟨U,V,H,B,C,P,Q,D1,E,?_,?_,?_,?_,?_,?_⟩;simp[B.symm,pz.symm];simp[D1,I.symm];simp[u.symm,S.symm];simp[C.symm,R.symm];simp[E,J.symm];simp[u,T.symm]
def Fj{Z:St}(I:dX X pins Z H s)(e:cS H q=some (c,ys)):∃a:List Value,bJ ys a/\Bn c s.heap q a.toArray:=by
 cases c;obtain⟨a,b,d,_⟩:=I.tuple (dD e);exact⟨a,b,d⟩;obtain⟨a,b,d,_⟩:=I.list (eR e);exact⟨a,b,d.isList⟩
def vI(b:A.handled=none)(it l:Addr)(a:l≠it)(items:Array Value) :
  Draws prog w A it [it,l] items.size (λi v=>items[i]?=some v) (λi h=>CS c h it l i/\Bn c h l items):=by
 cases c;exact Draws.tup b it l a items;exact Draws.list b it l a items
def mK(x:CS c h i l k)(w:∀o,h.get? i=some o->h'.get? i=some o):CS c h' i l k:=x.imp λo q=>⟨w o q.1,q.2⟩
def t8(hT:IsPair h T u v)(a:cE x u)(b:cE y v):cH P w (gY H T (.tup [x,y])) h T (.tup [x,y]):=
 ⟨by show 2<=sizeLine;decide,[u,v],.cons a (.cons b .nil),⟨_,hT,rfl,_,rfl⟩,⟨_,hT,rfl⟩⟩
def u0{K:W.Frag}(p q z TI TO i j:Addr)(R:TI≠TO)(d2:i≠j) :
  BO P w K (.Tuple B k pos) (Lb a0 c p q) [z,TI,TO,i,j] z (Pa a0 c z TI TO i j p q) where
 mem:=by simp
 obj:=λn h st b hb=>by
  obtain⟨M,C,⟨a,a',S⟩,⟨o4,T,c4,e4⟩,o5,U,c5,e5⟩:=st;simp only[mem_cons,not_mem_nil,or_false]at hb;rcases hb with rfl|rfl|rfl|rfl|rfl;exact⟨_,M,λv e=>by cases e⟩;exact⟨_,C,λv e=>by cases e⟩;exact⟨_,S,λv e=>by cases e⟩;exact⟨_,T,λv e=>by rw[e4]at e;cases e⟩;exact⟨_,U,λv e=>by rw[e5]at e;cases e⟩
 keep:=λn h h' st kp=>by
  obtain⟨M,C,⟨a,a',S⟩,T,U⟩:=st;exact⟨kp z (by simp) _ M,kp TI (by simp) _ C,⟨a,a',kp TO (by simp) _ S⟩,mK T λo e=>kp i (by simp) o e,mK U λo e=>kp j (by simp) o e⟩
 item:=by
  intro X V Y σ hc n pins s Z H E I g st hg;subst V Y σ;obtain⟨xs,ys,x,y,m,r,hl,N,hy⟩:=hg;obtain⟨its,π,t1⟩:=Fj I m;obtain⟨d,t,t2⟩:=Fj I r;obtain⟨u,hu,ru⟩:=π.get N;obtain⟨v,hv,rv'⟩:=t.get hy;have f:Bn a0 s.heap p its.toArray:=t1;have l:Bn c s.heap q d.toArray:=t2;obtain⟨F,G,⟨a,b,z3⟩,Q,z5⟩:=id st;have J:H TO=none:=(g TO (by simp)).1;have hi:H i=none:=(g i (by simp)).1;have hj:H j=none:=(g j (by simp)).1;have D1:=Pb st f l R d2 (jZ m J) (jZ r J);have el:its.toArray.size=d.toArray.size:=by rw[CY,CY,← π.length,← t.length];exact hl
  have hlt:n<its.toArray.size:=by
   have:=(sS.mp hu).1;simpa using this
  have dj:=vI (c:=c) (prog:=X.prog) (w:=X.w) (A:=X.A.in1) (I.ok.hd hc) j q (jZ r hj) d.toArray;rw[← el]at dj;refine OX D1 (vI (c:=a0) (A:=X.A.in1) (I.ok.hd hc) i p (jZ m hi) its.toArray) dj hlt F G z3 ⟨Q,f⟩ ⟨z5,l⟩ λx1 y1 M tk px py g1 g2 g3 g4 g5 g6=>?_;obtain rfl:x1=u:=by
   rw[Dr,hu]at px;exact(Ap px).symm
  obtain rfl:y1=v:=by
   rw[Dr,hv]at py;exact(Ap py).symm
  refine⟨_,rfl,wpAny_letOwnedTupleGo_zip g1 λC k1 L=>?_⟩;have nz:s.heap.objs.size≠z:=λe=>absurd (kN F) (by rw[← e];exact Cb _);have ha:H s.heap.objs.size=none:=I.hok.fresh (hF _);have kk:∀c o,c≠z->c≠TO->c≠i->c≠j->s.heap.get? c=some o->C.get? c=some o:=λc o c1 c2 c3 c4 e=>(L.2 c c1).trans (g6 c o c1 c2 c3 c4 e);refine⟨.ref s.heap.objs.size,gY H s.heap.objs.size (.tup [x,y]),?_,rfl,⟨_,x,y,rfl,ha,rfl,λzs e=>by rw[m]at e;cases e;exact N,λzs e=>by rw[r]at e;cases e;exact hy⟩,⟨k1,kk TI _ D1.a1 R D1.a6 D1.a7 G,⟨_,_,(L.2 TO D1.a2).trans g2⟩,mK g3.1 λo e=>(L.2 i D1.a4).trans e,mK g4.1 λo e=>(L.2 j D1.a5).trans e⟩,λb hb=>?_⟩;exact I.spun (ch:=[z,TI,TO,i,j]) (t':=tk) g (λb o hb e=>kk b o (λz=>hb (by simp[z])) (λz=>hb (by simp[z])) (λz=>hb (by simp[z])) (λz=>hb (by simp[z])) e) (hF _) (t8 ((L.2 _ nz).trans g5) ru rv');rw[aG (λe=>?_)];exact(g b hb).1;obtain⟨o,ho⟩:∃o,s.heap.get? b=some o:=by
   simp only[mem_cons,not_mem_nil,or_false]at hb;rcases hb with rfl|rfl|rfl|rfl|rfl;exact⟨_,F⟩;exact⟨_,G⟩;exact⟨_,z3⟩;exact Q.imp λ_ q=>q.1;exact z5.imp λ_ q=>q.1
  exact absurd (kN ho) (by rw[e];exact Cb _)
 done:=by
  intro X V Y σ hc n pins s Z H E I g st hg;subst V Y σ;obtain⟨xs,ys,m,r,N,hy⟩:=hg;obtain⟨its,π,t1⟩:=Fj I m;obtain⟨d,t,t2⟩:=Fj I r;have f:Bn a0 s.heap p its.toArray:=t1;have l:Bn c s.heap q d.toArray:=t2;have J:H TO=none:=(g TO (by simp)).1;have hi:H i=none:=(g i (by simp)).1;obtain⟨F,G,⟨a,b,z3⟩,Q,z5⟩:=id st;have hl:its.toArray.size=n:=by rw[CY,← π.length];exact N
  refine OY (Pb st f l R d2 (jZ m J) (jZ r J)) (vI (c:=a0) (A:=X.A.in1) (I.ok.hd hc) i p (jZ m hi) its.toArray) F G ⟨by rw[hl];exact Q,f⟩ λh' kp=>⟨rfl,I.spun0 (ch:=[z,TI,TO,i,j]) (t':=s.toks) g λb o hb e=>kp b o (λz=>hb (by simp[z])) (λz=>hb (by simp[z])) e⟩
 self:=λ_ _ _ _ _ st h=>wpAny_pyIter_zip st.1 h
def Pc(d:TA):TI:=λZ H R=>d Z H λvs b=>∃a c p q xs ys,vs=[.ref p,.ref q]/\cS b p=some (a,xs)/\cS b q=some (c,ys)/\xs.length=ys.length/\R (Lb a c p q) b
def u1(o:Gl X "zip")(hm:X.mg "zip"=none)(j:bootBuiltins "zip"=some (.type "zip"))(ha:PA X [a,b] m)
  (hs:starEach [a,b] X.env=(false,eval a X.env)::starEach [b] X.env:=by rfl) (l:(backTo pos (starEach [b] X.env)).any (·.1)=false:=by rfl):PI X (.Tuple d k f) (.Call (.Name "zip" p) [a,b] [] pos) (Pc m):=by
 intro pins s Z H R I h;refine Call_ (iS I o hm j (EH (thn (ha pos pins s Z H _ I h) λus s1 Z0=>?_) hs l));obtain⟨vs,r,g,t,w⟩:=Z0;obtain⟨a0,c,p,q,xs,ys,rfl,x,y,L,k⟩:=w;obtain⟨u,v,rfl,z,A⟩:=t.two;cases z;cases A;obtain⟨its,_,B⟩:=Fj g x;obtain⟨C,_,D1⟩:=Fj g y;have i:∀c,c∈[s1.heap.objs.size+4,s1.heap.objs.size+2,s1.heap.objs.size+3,s1.heap.objs.size,s1.heap.objs.size+1]->s1.heap.objs.size<=c:=λc hc=>by grind
 refine OZ B D1 λh' n E F G J K _=>wpAny_pyIter_zip n ?_;exact⟨_,[s1.heap.objs.size+4,s1.heap.objs.size+2,s1.heap.objs.size+3,s1.heap.objs.size,s1.heap.objs.size+1],_,_,r,rfl,g.kept (t':=s1.toks) K,u0 p q (s1.heap.objs.size+4) (s1.heap.objs.size+2) (s1.heap.objs.size+3) s1.heap.objs.size (s1.heap.objs.size+1) (λe=>absurd (Nat.add_left_cancel e) (by decide)) (λe=>absurd e.symm (Nat.succ_ne_self _)),⟨n,E,⟨_,_,F⟩,G,J⟩,λc hc=>g.fpOk (i c hc) (g.hok.fresh (i c hc)),k⟩
end
def yA:List D->List D->List D
 |x::xs,y::ys=>.tup [x,y]::yA xs ys
 |_,_=>[]
theorem sA:∀ {l m:List D} {i:Nat} {d:D},(yA l m)[i]? = some d->∃ x y,l[i]? = some x/\m[i]? = some y/\d=.tup [x,y]
 |[],_,_,_,h|_::_,[],_,_,h=>by simp[yA]at h
 |x::l,y::m,0,d,h=>by simp[yA]at h;exact⟨x,y,rfl,rfl,h.symm⟩
 | x::l,y::m,i+1,d,h=>by
   obtain⟨a,b,e,f,c⟩:=sA (l:=l) (m:=m) (i:=i) (d:=d) (by simpa[yA]using h);exact⟨a,b,by simp_all,by simp_all,c⟩
theorem kA:∀{l m:List D},l.length=m.length->(yA l m).length=l.length
 |[],_,_=>rfl
 |_::_,[],h=>by simp at h
 |_::l,_::m,h=>by simp[yA];exact kA (by simp_all)
def u2(j:l.length=m.length):Jj (Lb a c p q) (yA l m) (λH=>(cS H p=some (a,xs)/\Rps H l xs)/\cS H q=some (c,ys)/\Rps H m ys) where
 go:=λH i d ⟨⟨g,b⟩,h,f⟩ e=>by
  obtain⟨x,y,k,n,_⟩:=sA e;obtain⟨u,o,_⟩:=b.get k;obtain⟨v,r,_⟩:=f.get n;exact⟨xs,ys,u,v,g,h,by rw[← b.length,← f.length];exact j,o,r⟩
 yld:=λH i d v H' ⟨⟨g,b⟩,h,f⟩ e ⟨T,x,y,s,hT,t,z,A⟩=>by
  obtain⟨E,F,k,n,rfl⟩:=sA e;obtain⟨u,o,B⟩:=b.get k;obtain⟨w,r,C⟩:=f.get n;have a1:=z xs g;rw[o]at a1;cases a1;have a2:=A ys h;rw[r]at a2;cases a2;subst s t;exact⟨aM hT,.tup aJ (.cons (B.mono (AX.same (aM hT))) (.cons (C.mono (AX.same (aM hT))) .nil))⟩
 stop:=λH ⟨⟨g,b⟩,h,f⟩=>⟨xs,ys,g,h,by rw[kA j,b.length],by rw[kA j,j,f.length]⟩
noncomputable abbrev Pd(x:hQ):Option Nat:=match x with|.slot i=>some i|_=>none
def u3(h:Rp H d v)(e:CH d=some l):∃p xs,v=.ref p/\cS H p=some (l.1,xs)/\Rps H l.2 xs/\∀H',AX H H'->cS H' p=some (l.1,xs):=by
 cases h with
 |tup h r=>cases e;exact⟨_,_,rfl,aV h,r,λH' x=>aV (x.tup _ _ h)⟩
 |lst h r=>cases e;exact⟨_,_,rfl,kO h,r,λH' x=>kO (x.frz _ _ _ h)⟩
 |non|bl|int|str|dic=>cases e
def u4(h:CH d=some m):pI d=some m.2:=by
 cases d<;>first|(cases h;rfl)|cases h
section
open Sem(wp)
def vJ:typeLookup (.type "list") "keys"=pure none:=by rw[typeLookup_type,Fq];kernel_rfl
def lD:entryFor table "dict.update.loop"=some Builtin.«dict.update.loop»:=entryFor_of_tree (by kernel_rfl)
def dW:plainId "dict.update.loop"=true:=by decide +kernel
def u5(l:s.heap.get? a=some o)(hc:o.cls=.type "list")(f:o.data=.seq xs k)(hd:o.dict=none)(m:A.handled=none)
  (h:∀h' tk,(∀b o,s.heap.get? b=some o->h'.get? b=some o)->Q none {s with heap:=h',toks:=tk}):wpAny (model prog w) A (getAttr? (.ref a) "keys") Q E s:=by
 obtain⟨c,n,p,sl⟩:=o;simp only at hc f hd;subst hc f hd;obtain⟨q,g,d,tk,os⟩:=s;have hT:∀i,(⟨q,g,d,i,os⟩:Shared).TypeIs (.ref a) "list":=λ_=>⟨_,l,rfl⟩;have r:=sub_AttributeError;have t:=F.slot_list_getattribute.lookup;have u:=F.slot_list_getattribute.bind (.ref a);have v:=am_list_getattr_none;unfold getAttr? getAttrBy? getAttrBy
 repeat (any_goals (first|assumption|exact hT _|((with_reducible show wpAny _ _ (call (builtin "list.__getattribute__") _ _) _ _ _);refine BL F.slot_list_getattribute (hT _) am_entry_list_getattribute (F.args_list_getattribute_2 _ _) (meets_getattribute_miss_list a xs k sl "keys" _ vJ (by decide) (by size_fits)) ⟨l,m,λh' i e j=>?_⟩)|wp_step))
 obtain⟨x,y,z⟩:=j.there;show wpAny _ _ (getattributeRaised _ _ _ _ _ _ _) _ _ _;unfold getattributeRaised hookOrError attributeErrorLeaves
 repeat (any_goals (first|assumption|wp_step))
 exact h _ _ j.keeps
def pW(f:s.heap.IsTuple a #[u,x])(h:Q [u,x] s):wpAny (model prog w) A (pairItems (.ref a)) Q E s:=by
 obtain⟨⟨c,i,j,sl⟩,k,b,n,e⟩:=f;simp only at b e;subst b e;obtain⟨l,g,d,tk,os⟩:=s;have hT:(⟨l,g,d,tk,os⟩:Shared).TypeIs (.ref a) "tuple":=⟨_,k,rfl⟩;unfold pairItems
 repeat (any_goals (first|assumption|wp_step))
section
variable {κ:Type}[DecidableEq κ]
def pX[DecidableEq K](l:List (K×Value))(k:K)(v:Value):(stored l k v).length<=l.length+1:=by
 unfold stored;split<;>simp
theorem Lc{knd:KeyKind prog w κ}{h₀:Heap}(W:Walks prog w A.in1 I fp [I] n P Sw)(hd:d∉fp)(m:I≠d)(h0:∀ b o,h₀.get? b=some o->b≠d/\b≠I)(prs:List (κ×Value))(hn:prs.length=n)(hsz:n < 4000)
  (K:∀i v p,P i v->prs[i]?=some p->∃a u,v=.ref a/\h₀.IsTuple a #[u,p.2]/\knd.is p.1 u=true) :
  ∀ (k i:Nat) (c:Tok) (s:Shared) (kvs:List (κ×Value)),i+k=n->Sw i s.heap->s.heap.DictOf knd d kvs->kvs.length<=i->(∀ b o,h₀.get? b=some o->s.heap.get? b=some o) ->
    (∀h' tk,h'.DictOf knd d ((prs.drop i).foldl (λl p=>stored l p.1 p.2) kvs)->(∀b o,h₀.get? b=some o->h'.get? b=some o)->R (.ok (.ret .none)) {s with heap:=h',toks:=tk}) ->
    codeAny (model prog w) A (.builtin "dict.update.loop" ⟨[.ref d,.ref I,.int i c,.none],[]⟩) R s
 | 0,i,c,s,kvs,L,st,t,hl,x,q=>by
   have hi:i=n:=L;subst hi;refine CV lD ?_;rw[DR dW _]
   (show wpAny _ A.in1 (pyNext (.ref I) >>= _) _ _ s;refine dV (W.done s _ _ st λh' tk y=>?_))
   have M:∀c o,c≠I->s.heap.get? c=some o->h'.get? c=some o:=λc o hc e=>y c o (by simpa using hc) e;rw[List.drop_of_length_le (by simp[*])]at q;have B:h'.DictOf knd d kvs:=let ⟨o,es,ep,f,r⟩:=t;⟨o,es,ep,M d o (iA m) f,r⟩
   exact dV (gV (gV (q h' tk B λb o e=>M b o (h0 b o e).2 (x b o e))))
 | k+1,i,c,s,kvs,L,st,t,hl,x,q=>by
   have hi:i<n:=by lia
   refine CV lD ?_;rw[DR dW _]
   (show wpAny _ A.in1 (pyNext (.ref I) >>= _) _ _ s;refine dV (W.item i s _ _ hi st λv g C π D1 E=>?_))
   have N:∀c o,c≠I->s.heap.get? c=some o->g.get? c=some o:=λc o hc e=>E c o (by simpa using hc) e;have ep:prs[i]?=some prs[i]:=nL (by simp[*]);obtain⟨a,u,rfl,Q,S⟩:=K i v _ π ep;have h:∀b o,h₀.get? b=some o->g.get? b=some o:=λb o e=>N b o (h0 b o e).2 (x b o e);have F:g.IsTuple a #[u,prs[i].2]:=let ⟨o,f,r⟩:=Q;⟨o,h a o f,r⟩
   have G:g.DictOf knd d kvs:=let ⟨o,es,ep,f,r⟩:=t;⟨o,es,ep,N d o (iA m) f,r⟩
   refine dV (AE (dV (wpAny_tryCatch (pW (s:={s with heap:=g,toks:=C}) F ?_))));dsimp only;refine AE (wpAny_dictSet_pairs (hsz:=by unfold sizeLine;lia) S G λT H j=>?_);refine gV ⟨Dp dW _,?_⟩;have J:Sw (i+1) T:=W.frame _ _ _ D1 λc hc o e=>(j.2 c λz=>hd (z▸hc)).trans e;have U:prs.drop i=prs[i]::prs.drop (i+1):=drop_eq_getElem_cons (by simp[*]);refine Lc W hd m h0 prs hn hsz K k (i+1) 0 _ _ (by lia) J H (oT (pX ..) (by simp[*])) (λb o e=>(j.2 b (h0 b o e).1).trans (h b o e)) λh' tk V1 X=>?_;refine q h' tk ?_ X;rw[U];exact V1
end
section
variable {κ:Type}[DecidableEq κ]
def u6{knd:KeyKind prog w κ}{its:List Value}{prs:List (κ×Value)}(G:A.handled=none)(t:s.heap.get? l=some o)(hc:o.cls=.type "list")(f:o.data=.seq its.toArray m)(x:o.dict=none)
  (hn:prs.length=its.length) (hsz:prs.length<4000) (H:∀(i:Nat) v p,its[i]?=some v->prs[i]?=some p->∃a u,v=.ref a/\s.heap.IsTuple a #[u,p.2]/\knd.is p.1 u=true)
  (q:∀h' tk,h'.DictOf knd s.heap.objs.size (prs.foldl (λl p=>stored l p.1 p.2) [])->(∀b o,s.heap.get? b=some o->h'.get? b=some o)->Q (.ref s.heap.objs.size) {s with heap:=h',toks:=tk}) :
  wpAny (model prog w) A (call (.type "dict") [.ref l]) Q E s:=by
 refine callType_codes (Q₁:=λobj s₁=>obj=.ref s.heap.objs.size/\s₁={s with heap:=s.heap.push {cls:=.type "dict",data:=.dict #[]}}) F.kt_called_dict (F.kt_typeCall_dict_1 _) F.entry_dict_init (kt_code_dict_new _ ⟨rfl,rfl⟩) ?_;rintro obj s₁ ⟨rfl,rfl⟩;have c:(s.heap.push {cls:=.type "dict",data:=.dict #[]}).DictOf knd s.heap.objs.size []:=Heap.DictOf.new s.heap;have d:∀b o,s.heap.get? b=some o->(s.heap.push {cls:=.type "dict",data:=.dict #[]}).get? b=some o:=λb o e=>sU _ e;have g:l<s.heap.objs.size:=kN t;refine⟨c.typeIs,F.args_dict_init_2 _ _,?_⟩;have y:TypeIs {s with heap:=s.heap.push {cls:=.type "dict",data:=.dict #[]}} (.ref l) "list":=⟨_,d l _ t,hc⟩;unfold Builtin.«dict.__init__» selfAndRest;refine dV (dV (wpAny_notOrdered_dict c.typeIs (gV ?_)));show wpAny _ _ (updateFrom "dict.__init__" s.heap.objs.size (.ref l) [] .none) _ _ _;unfold updateFrom;refine dV (DK y ?_);rw[fI (by decide)];refine dV (u5 (d l _ t) hc f x ?_ λh z B=>?_);exact G
 rw[fI (by rfl)];refine dV (BJ ?_);have j:h.IsList l its.toArray:=⟨o,B l o (d l o t),hc,m,f⟩;refine dV (wpAny_pyIter_list (s:=⟨h,s.gens,s.drawn,z,s.os⟩) j ?_);refine gV ⟨Dp dW _,?_⟩;have k:h.DictOf knd s.heap.objs.size []:=let ⟨o,es,ep,C,r⟩:=c;⟨o,es,ep,B _ o C,r⟩
 have big:s.heap.objs.size<h.objs.size:=let ⟨o,es,ep,C,r⟩:=k;kN C
 have D1:A.in1.in1.handled=none:=G;refine Lc (h₀:=s.heap) (n:=its.toArray.size) (Walks.list D1 h.objs.size l (An (BN g big)) its.toArray) ?_ (CF big) (λb o e=>⟨An (kN e),An (BN (kN e) big)⟩) prs (by simpa using hn) (by rw[size_toArray];simp_all) (λi v p I J=>H i v p (by simpa using I) J)
  its.toArray.size 0 0 _ [] (Bq _) ⟨⟨_,Ad _ rfl,rfl,rfl⟩,j.push _⟩ (k.push _) (hF _) (λb o e=>sU _ (B b o (d b o e))) λh' tk K L=>⟨rfl,q h' tk K L⟩
 simp only[mem_cons,not_mem_nil,or_false,not_or];exact⟨An big,CF g⟩
end
def sC:typeLookup (.type "tuple") "keys"=pure none:=by rw[typeLookup_type,Fq];kernel_rfl
def u7(l:s.heap.get? a=some o)(hc:o.cls=.type "tuple")(f:o.data=.seq xs k)(hd:o.dict=none)(m:A.handled=none)
  (h:∀h' tk,(∀b o,s.heap.get? b=some o->h'.get? b=some o)->Q none {s with heap:=h',toks:=tk}):wpAny (model prog w) A (getAttr? (.ref a) "keys") Q E s:=by
 obtain⟨c,n,p,sl⟩:=o;simp only at hc f hd;subst hc f hd;obtain⟨q,g,d,tk,os⟩:=s;have hT:∀i,(⟨q,g,d,i,os⟩:Shared).TypeIs (.ref a) "tuple":=λ_=>⟨_,l,rfl⟩;have r:=sub_AttributeError;have t:=F.slot_tuple_getattribute.lookup;have u:=F.slot_tuple_getattribute.bind (.ref a);have v:=am_tuple_getattr_none;unfold getAttr? getAttrBy? getAttrBy
 repeat (any_goals (first|assumption|exact hT _|((with_reducible show wpAny _ _ (call (builtin "tuple.__getattribute__") _ _) _ _ _);refine BL F.slot_tuple_getattribute (hT _) am_entry_tuple_getattribute (F.args_tuple_getattribute_2 _ _) (meets_getattribute_miss_tuple a xs k sl "keys" _ sC (by decide) (by size_fits)) ⟨l,m,λh' i e j=>?_⟩)|wp_step))
 obtain⟨x,y,z⟩:=j.there;show wpAny _ _ (getattributeRaised _ _ _ _ _ _ _) _ _ _;unfold getattributeRaised hookOrError attributeErrorLeaves
 repeat (any_goals (first|assumption|wp_step))
 exact h _ _ j.keeps
section
variable {κ:Type}[DecidableEq κ]
def yB{knd:KeyKind prog w κ}{its:List Value}{prs:List (κ×Value)}(G:A.handled=none)(t:s.heap.get? l=some o)(hc:o.cls=.type "tuple")(f:o.data=.seq its.toArray m)(x:o.dict=none)
  (hn:prs.length=its.length) (hsz:prs.length<4000) (H:∀(i:Nat) v p,its[i]?=some v->prs[i]?=some p->∃a u,v=.ref a/\s.heap.IsTuple a #[u,p.2]/\knd.is p.1 u=true)
  (q:∀h' tk,h'.DictOf knd s.heap.objs.size (prs.foldl (λl p=>stored l p.1 p.2) [])->(∀b o,s.heap.get? b=some o->h'.get? b=some o)->Q (.ref s.heap.objs.size) {s with heap:=h',toks:=tk}) :
  wpAny (model prog w) A (call (.type "dict") [.ref l]) Q E s:=by
 refine callType_codes (Q₁:=λobj s₁=>obj=.ref s.heap.objs.size/\s₁={s with heap:=s.heap.push {cls:=.type "dict",data:=.dict #[]}}) F.kt_called_dict (F.kt_typeCall_dict_1 _) F.entry_dict_init (kt_code_dict_new _ ⟨rfl,rfl⟩) ?_;rintro obj s₁ ⟨rfl,rfl⟩;have c:(s.heap.push {cls:=.type "dict",data:=.dict #[]}).DictOf knd s.heap.objs.size []:=Heap.DictOf.new s.heap;have d:∀b o,s.heap.get? b=some o->(s.heap.push {cls:=.type "dict",data:=.dict #[]}).get? b=some o:=λb o e=>sU _ e;have g:l<s.heap.objs.size:=kN t;refine⟨c.typeIs,F.args_dict_init_2 _ _,?_⟩;have y:TypeIs {s with heap:=s.heap.push {cls:=.type "dict",data:=.dict #[]}} (.ref l) "tuple":=⟨_,d l _ t,hc⟩;unfold Builtin.«dict.__init__» selfAndRest;refine dV (dV (wpAny_notOrdered_dict c.typeIs (gV ?_)));show wpAny _ _ (updateFrom "dict.__init__" s.heap.objs.size (.ref l) [] .none) _ _ _;unfold updateFrom;refine dV (DK y ?_);rw[fI (by decide)];refine dV (u7 (d l _ t) hc f x ?_ λh z B=>?_);exact G
 rw[fI (by rfl)];refine dV (BJ ?_);have j:h.IsTuple l its.toArray:=⟨o,B l o (d l o t),hc,m,f⟩;refine dV (Hv (s:=⟨h,s.gens,s.drawn,z,s.os⟩) j ?_);refine gV ⟨Dp dW _,?_⟩;have k:h.DictOf knd s.heap.objs.size []:=let ⟨o,es,ep,C,r⟩:=c;⟨o,es,ep,B _ o C,r⟩
 have big:s.heap.objs.size<h.objs.size:=let ⟨o,es,ep,C,r⟩:=k;kN C
 have D1:A.in1.in1.handled=none:=G;refine Lc (h₀:=s.heap) (n:=its.toArray.size) (Walks.tuple D1 h.objs.size l (An (BN g big)) its.toArray) ?_ (CF big) (λb o e=>⟨An (kN e),An (BN (kN e) big)⟩) prs (by simpa using hn) (by rw[size_toArray];simp_all) (λi v p I J=>H i v p (by simpa using I) J)
  its.toArray.size 0 0 _ [] (Bq _) ⟨⟨_,Ad _ rfl,rfl,rfl⟩,j.push _⟩ (k.push _) (hF _) (λb o e=>sU _ (B b o (d b o e))) λh' tk K L=>⟨rfl,q h' tk K L⟩
 simp only[mem_cons,not_mem_nil,or_false,not_or];exact⟨An big,CF g⟩
end
end
section
open PyProof.Rows Spec
inductive AD(H:Hp):List V->List (Key×V)->Prop
 |nil:AD H [] []
 |cons {a:Addr} {k:Key} {v:V} {xs:List V} {prs:List (Key×V)}:H a=some (.tup [kV k,v])->AD H xs prs->AD H (.ref a::xs) ((k,v)::prs)
theorem AD.raw{Z:St}(I:dX X pins Z H s):∀ {xs:List V} {prs:List (Key×V)} {its:List Value},AD H xs prs->bJ xs its->∃ rs:List (Key×Value),KV prs rs/\rs.length=its.length /\
  ∀(i:Nat) v p,its[i]?=some v->rs[i]?=some p->∃a u,v=.ref a/\s.heap.IsTuple a #[u,p.2]/\(bA X.prog X.w).is p.1 u=true
 |_,_,_,.nil,.nil=>⟨[],.nil,rfl,λi v p h=>by simp at h⟩
 | _,_,_,.cons (a:=a) (k:=k) e t,.cons d f=>by
   obtain⟨rs,g,j,l⟩:=AD.raw I t f;cases d;obtain⟨_,us,r,q,_⟩:=(show cH X.prog X.w H s.heap a _ from I.hok a _ e);cases r with
   | cons m b=>cases b with
     | cons b rc=>
       cases rc;refine⟨(k,_)::rs,.cons ⟨rfl,b⟩ g,by simp[j],λi v p hi c=>?_⟩;cases i with
       | zero=>
         simp at hi c;subst hi c;exact⟨a,_,rfl,q,GC m⟩
       |succ i=>exact l i v p (by simpa using hi) (by simpa using c)
def Pe:List V->Hp->VK->Prop:=λvs H Q=>∃p xs prs,vs=[.ref p]/\(cS H p=some (true,xs)\/H p=some (.tup xs))/\AD H xs prs/\prs.length<4000/\∀d,H d=none->Q (.ref d) (gY H d (.dK (iU [] prs)))
def u9(hc:X.calm=true):iT X (.type "dict") Pe:=by
 intro pins s Z H xs us Q I r h;obtain⟨p,ys,prs,rfl,a,v,C,q⟩:=h;obtain⟨u,rfl,y⟩:=tN r;cases y;rcases a with a|a
 ·obtain⟨its,d,⟨o,n,c,e,f,g⟩,z⟩:=I.list (eR a);obtain⟨rs,b,i,j⟩:=AD.raw I v d;have A:prs.length=rs.length:=Paired.length b;refine u6 (knd:=bA X.prog X.w) (prs:=rs) (I.ok.hd hc) c e g f i (by simp_all) j λh' tk k l=>?_;have hm:(iU [] prs).length<=sizeLine:=by
   have m:=iF prs [];rw[HI]at m;rw[DL];lia
  refine⟨.ref s.heap.objs.size,_,I.laid (t':=tk) l (hF _) (zQ hm ?_ (b.merge .nil) k),rfl,q _ (I.hok.fresh (hF _))⟩;have:=I.big;exact beq_eq_false_iff_ne.mpr (CF this)
 ·obtain⟨z,its,d,⟨o,c,e,n,f⟩,t⟩:=(show cH X.prog X.w H s.heap p _ from I.hok p _ a);have g:o.dict=none:=by obtain⟨o',x,B⟩:=t;rw[c]at x;cases x;exact B
  obtain⟨rs,b,i,j⟩:=AD.raw I v d;have A:prs.length=rs.length:=Paired.length b;refine yB (knd:=bA X.prog X.w) (prs:=rs) (I.ok.hd hc) c e f g i (by simp_all) j λh' tk k l=>?_;have hm:(iU [] prs).length<=sizeLine:=by
   have m:=iF prs [];rw[HI]at m;rw[DL];lia
  refine⟨.ref s.heap.objs.size,_,I.laid (t':=tk) l (hF _) (zQ hm ?_ (b.merge .nil) k),rfl,q _ (I.hok.fresh (hF _))⟩;have:=I.big;exact beq_eq_false_iff_ne.mpr (CF this)
def Pf:R2:=λx y H Q=>∃a v,x=.ref a/\Jd H a y (some v)/\Q v H
def v5(b:X.A.units+1<cLine)(c:PE X o a)(hi:PE X i ty)(hs:Je i):PE X (.Subscript o i pos) (Gu Pf a ty):=Wb b c hi hs
def v7{k:κ}[DecidableEq κ](h:k∉l.map Prod.fst):qQ l k v=l++[(k,v)]:=by
 unfold qQ
 grind
theorem jO:∀ (prs acc:List (Key×V)),((acc++prs).map Prod.fst).Nodup->iU acc prs=acc++prs
 |[],acc,_=>by simp[iU]
 | p::prs,acc,h=>by
   show iU (qQ acc p.1 p.2) prs=_;have h':((acc.map Prod.fst)++p.1::prs.map Prod.fst).Nodup:=by simpa using h
   rw[v7 λz=>(List.nodup_append.mp h').2.2 _ z p.1 (by simp) rfl,jO prs (acc++[(p.1,p.2)]) (by simpa using h)];simp
end
def Gb:List D->Option (List (Str×D))
 |[]=>some []
 |.tup [.str z,v]::r=>(Gb r).map λl=>(z,v)::l
 |_=>none
def Iw:FN:=λa=>match a with
 |[.lst l]|[.tup l]=>(Gb l).bind λprs=>if prs.length<4000/\(prs.map Prod.fst).Nodup then some (.own (.dic (prs.map λp=>.str p.1) (prs.map Prod.snd)))else none
 |_=>none
theorem yC:∀ {l:List D} {xs:List V} {prs:List (Str×D)},Gb l=some prs->Rps H l xs->∃ ps:List (Key×V),AD H xs ps/\ps.length=prs.length/\ps.map Prod.fst=prs.map (λp=>.inr p.1)/\Rps H (prs.map Prod.snd) (ps.map Prod.snd)
 |[],_,_,e,.nil=>by cases e;exact⟨[],.nil,rfl,rfl,.nil⟩
 | d::l,_,_,e,.cons a t=>by
   unfold Gb at e;split at e;rename_i b;cases b
   ·rename_i z v r b;cases b;obtain⟨prs,f,g⟩:=Bf.mp e;subst g;obtain⟨ps,h,i,j,k⟩:=yC f t;obtain⟨p,xs,rfl,m,n⟩:=dF (.inl a);cases n with
    | cons ga c=>cases c with
      | cons c o=>
        cases o;cases ga;exact⟨(.inr z,_)::ps,.cons m h,by simp[i],by simp[j],.cons c k⟩
   ·cases e
set_option tactic.hygienic true in
def v8:Dd Pe Iw:=by
 intro H q vs Q res vw e k;unfold Iw at e;split at e
 ·rename_i l;obtain⟨prs,f,e⟩:=aA e;split at e
  ·rename_i hc;cases e;obtain⟨x,rfl,a⟩:=Cu vw;obtain⟨p,xs,rfl,g,h⟩:=dS a;obtain⟨ps,i,o,c,j⟩:=yC f h;refine⟨p,xs,ps,rfl,.inl g,i,by simp_all,λd hd=>k _ _ (aM hd) ⟨d,rfl,hd,?_⟩⟩;have nd:(ps.map Prod.fst).Nodup:=by
    rw[c,show prs.map (λp=>(Sum.inr p.1:Key))=(prs.map Prod.fst).map Sum.inr by simp];exact List.Pairwise.map _ (λa b n z=>n (by injection z)) hc.2
   rw[jO ps [] (by simpa using nd),nil_append];refine⟨_,ps.map Prod.snd,aJ,⟨?_,rfl⟩,j.mono (.same (aM hd))⟩;have:ps.map (λm=>iQ m.1)=(ps.map Prod.fst).map iQ:=by simp
   rw[this,c];simp[iQ]
  ·cases e
 ·rename_i l;obtain⟨prs,f,e⟩:=aA e;split at e
  ·rename_i hc;cases e;obtain⟨x,rfl,a⟩:=Cu vw;obtain⟨p,xs,rfl,g,h⟩:=dF a;obtain⟨ps,i,o,c,j⟩:=yC f h;refine⟨p,xs,ps,rfl,.inr g,i,by simp_all,λd hd=>k _ _ (aM hd) ⟨d,rfl,hd,?_⟩⟩;have nd:(ps.map Prod.fst).Nodup:=by
    rw[c,show prs.map (λp=>(Sum.inr p.1:Key))=(prs.map Prod.fst).map Sum.inr by simp];exact List.Pairwise.map _ (λa b n z=>n (by injection z)) hc.2
   rw[jO ps [] (by simpa using nd),nil_append];refine⟨_,ps.map Prod.snd,aJ,⟨?_,rfl⟩,j.mono (.same (aM hd))⟩;have:ps.map (λm=>iQ m.1)=(ps.map Prod.fst).map iQ:=by simp
   rw[this,c];simp[iQ]
  ·cases e
 ·cases e
noncomputable def oY:List D->List D->Str->Option D
 |.str x::ks,v::vs,z=>if x=z then some v else oY ks vs z
 |_,_,_=>none
def DJ:F2:=λd e=>match d,e with
 |.dic ks vs,.str z=>(oY ks vs z).map .val
 |_,_=>none
def w5(r:Rps H vs (kvs.map Prod.snd))(h:oY (kvs.map λc=>iQ c.1) vs z=some v):∃ x,iP kvs (.inr z)=some x/\Rp H v x:=by
 induction kvs generalizing vs with
 |nil=>cases r;cases h
 | cons p kvs j=>
   cases r with|cons a t=>
   obtain⟨k,y⟩:=p;cases k with
   |inl i=>cases h
   | inr x=>
     have h':(if x=z then some _ else oY (kvs.map λc=>iQ c.1) _ z)=some v:=h;by_cases b:x=z;rw[fI b]at h';cases h';subst b;exact⟨y,eP rfl,a⟩;rw[gX b]at h';obtain⟨w,d,f⟩:=j t h';exact⟨w,by rw[eQ (λe=>b (by simp_all))];exact d,f⟩
set_option tactic.hygienic true in
def w6:oP Pf DJ:=by
 intro H m n x y Q res g h e k;unfold DJ at e;split at e
 ·rename_i ks vs z;obtain⟨v,f,rfl⟩:=Bf.mp e;obtain rfl:y=.str z:=by
   rcases h with r|⟨p,_,o⟩;cases r;rfl;exact o.elim
  have i:∃ p u ws,x=.ref p/\Rd H p u/\Jf u ks ws/\Rps H vs ws:=by
   rcases g with r|⟨p,rfl,u,ws,c,b,d⟩
   ·cases r with
    |dic c b d=>exact⟨_,_,_,rfl,.inr ⟨_,c⟩,b,d⟩
   ·exact⟨p,u,ws,rfl,.inl c,b,d⟩
  obtain⟨p,u,ws,rfl,c,b,d⟩:=i;cases u with
  | dK kvs=>
    obtain⟨rfl,rfl⟩:=b;obtain⟨x,j,l⟩:=w5 d f;exact⟨p,x,rfl,.inl ⟨kvs,.inr z,c,rfl,j.symm⟩,k _ _ (.refl _) l⟩
  | dT kvs=>
    obtain⟨rfl,rfl⟩:=b;cases kvs with
    |nil|cons a t=>cases f
  |dM kvs=>obtain⟨rfl,rfl⟩:=b;cases f
  |_=>exact b.elim
 ·cases e
def w8(e:X.A.units+1<cLine)(ha:GE X a c)(hb:GE X b d)(hs:Je b):GE X (.Subscript a b pos) (aK DJ c d):=.mk λΓ=>Bi (v5 e (ha.to Γ) (hb.to Γ) hs) λ_ _ _=>kR w6
section
open PyProof.Rows Spec
def yD:typeLookup (.type "zip") "keys"=pure none:=by rw[typeLookup_type,Fq];kernel_rfl
def oZ:typeLookup (.type "zip") "__getattr__"=pure none:=by rw[typeLookup_type,Fq];kernel_rfl
def vK:entryFor table "zip.__getattribute__"=some Builtin.«object.__getattribute__»:=entryFor_alias (id':="object.__getattribute__") (by kernel_rfl) (by decide +kernel) (by decide +kernel) (by kernel_rfl)
section
def x3{z TI TO:Addr}(hz:IsZip s.heap z TI TO .none)(k:A.handled=none)
  (h:∀h' tk,(∀b o,s.heap.get? b=some o->h'.get? b=some o)->Q none {s with heap:=h',toks:=tk}):wpAny (model prog w) A (getAttr? (.ref z) "keys") Q E s:=by
 obtain⟨i,g,d,tk,os⟩:=s;have m:∀u:Tok,Meets (Builtin.«object.__getattribute__» ⟨[.ref z,.str "keys" u],[]⟩) (λA R s=>IsZip s.heap z TI TO .none/\raisesAttr (.ref z) "keys" A R s):=λu=>Meets.of_wp λprog w A R s Z1=>by
  obtain⟨j,hs⟩:=Z1;obtain⟨i,g,d,tk,os⟩:=s;have a:i.get? z=_:=j;have hT:(⟨i,g,d,tk,os⟩:Shared).TypeIs (.ref z) "zip":=⟨_,j,rfl⟩;have f:=yD;unfold Builtin.«object.__getattribute__»
  repeat (any_goals (first|assumption|wp_step))
  exact wpAny_raiseAttrError hs.1 hs.2 (attrMsg_fits (by decide +kernel) (by size_fits))
 have hT:∀c,(⟨i,g,d,c,os⟩:Shared).TypeIs (.ref z) "zip":=λ_=>⟨_,hz,rfl⟩;have l:=sub_AttributeError;have n:=F.slot_zip_getattribute.lookup;have p:=F.slot_zip_getattribute.bind (.ref z);have q:=oZ;unfold getAttr? getAttrBy? getAttrBy
 repeat (any_goals (first|assumption|exact hT _|((with_reducible show wpAny _ _ (call (builtin "zip.__getattribute__") _ _) _ _ _);refine BL F.slot_zip_getattribute (hT _) vK (F.args_zip_getattribute_2 _ _) (m _) ⟨hz,k,λh' c e a=>?_⟩)|wp_step))
 obtain⟨r,t,v⟩:=a.there;show wpAny _ _ (getattributeRaised _ _ _ _ _ _ _) _ _ _;unfold getattributeRaised hookOrError attributeErrorLeaves
 repeat (any_goals (first|assumption|wp_step))
 exact h _ _ a.keeps
def x4{z TI TO T i j:Addr}{Q:Value->Shared->Prop}(D1:Fg z TI TO i j f g)(d:Draws prog w A i f n P S)(p:Draws prog w A j g n R U)(r:k < n)
  (hz:qO s.heap z TI TO T B) (hT:s.heap.get? T=some o) (C:IsPair s.heap TI (.ref i) (.ref j)) (F:S k s.heap) (G:U k s.heap)
  (q:∀x y h' tk,P k x->R k y->qO h' z TI TO T true->S (k+1) h'->U (k+1) h'->IsPair h' s.heap.objs.size x y->h'.objs.size=s.heap.objs.size+1 ->
   (∀c o,c≠z->c≠i->c≠j->s.heap.get? c=some o->h'.get? c=some o)->Q (.ref s.heap.objs.size) {s with heap:=h',toks:=tk}) :
  wpAny (model prog w) A (Builtin.«zip.__next__» ⟨[.ref z],[]⟩) (λfin s'=>∃v,fin=.done (.ret v)/\Q v s') E s:=by
 (show wpAny _ _ (field (.ref z) 2 >>= _) _ _ _;refine dV (AW hz.heap rfl (x:=.bool false) rfl ?_))
 (show wpAny _ _ (field (.ref z) 3 >>= _) _ _ _;refine dV (AW hz.heap rfl (x:=.ref TI) rfl ?_))
 refine dV (CB C rfl ?_)
 (show wpAny _ _ (ownedTupleIsFree (.ref z) >>= _) _ _ _;refine dV (kP hz hT λt b h=>?_))
 rw[gX (by decide)]
 try (refine dV (gV ?_))
 refine dV ?_;simp only[List.forIn_toArray,forIn_cons,List.forIn_nil];refine dV (dV (AE ?_))
 (show wpAny _ _ (nextOf (.ref i) >>= _) _ _ _;refine dV (d.item k _ _ _ r (d.frame _ _ _ F λc hc o e=>(h.2 c λz=>D1.fz (z▸hc)).trans e) λx H Y I s2 l=>gV (gV ?_)))
 refine dV (dV (AE ?_));have J:U k H:=p.frame _ _ _ G λc hc o e=>(l.2 c λz=>D1.gi (z▸hc)).trans ((h.2 c λz=>D1.gz (z▸hc)).trans e)
 (show wpAny _ _ (nextOf (.ref j) >>= _) _ _ _;refine dV (p.item k _ _ _ r J λy a K L M m=>gV (gV (gV ?_))))
 refine dV (wpAny_newTuple (hsz:=by show 2<=sizeLine;decide) ?_);have sz:a.objs.size=s.heap.objs.size:=by rw[m.1,l.1,h.1]
 have N:qO a z TI TO T true:=(m.2 z D1.a5.symm).trans ((l.2 z D1.a4.symm).trans b);have up:∀c o,a.get? c=some o->(a.push {cls:=.type "tuple",data:=.seq #[x,y]}).get? c=some o:=λc o e=>sU _ e;refine gV ⟨_,rfl,?_⟩;show Q (.ref a.objs.size) _;have u:IsPair (a.push {cls:=.type "tuple",data:=.seq #[x,y]}) a.objs.size x y:=Ad _ rfl;have π:S (k+1) a:=d.frame _ _ _ s2 λc hc o e=>(m.2 c λz=>D1.fj (z▸hc)).trans e;rw[sz]at u ⊢;exact q x y _ K I L (up _ _ N) (d.frame _ _ _ π λc _ o e=>up c o e) (p.frame _ _ _ M λc _ o e=>up c o e) u (by rw[FD,sz]) λc o V W X e=>up c o ((m.2 c X).trans ((l.2 c W).trans ((h.2 c V).trans e)))
def x8{z TI TO T i j:Addr}(D1:Fg z TI TO i j f g)(b:Draws prog w A i f n P S)
  (hz:qO s.heap z TI TO T k) (hT:s.heap.get? T=some o) (l:IsPair s.heap TI (.ref i) (.ref j)) (m:S n s.heap)
  (q:∀h' e,(∀c o,c≠z->c≠i->s.heap.get? c=some o->h'.get? c=some o)->(∃o,h'.get? e=some o/\o.cls=.type "StopIteration")->E (.ref e) {s with heap:=h'}) :
  wpAny (model prog w) A (Builtin.«zip.__next__» ⟨[.ref z],[]⟩) Q E s:=by
 (show wpAny _ _ (field (.ref z) 2 >>= _) _ _ _;refine dV (AW hz.heap rfl (x:=.bool false) rfl ?_))
 (show wpAny _ _ (field (.ref z) 3 >>= _) _ _ _;refine dV (AW hz.heap rfl (x:=.ref TI) rfl ?_))
 refine dV (CB l rfl ?_)
 (show wpAny _ _ (ownedTupleIsFree (.ref z) >>= _) _ _ _;refine dV (kP hz hT λd a h=>?_))
 rw[gX (by decide)]
 try (refine dV (gV ?_))
 refine dV ?_;simp only[List.forIn_toArray,forIn_cons,List.forIn_nil];refine dV (dV (AE ?_))
 (show wpAny _ _ (nextOf (.ref i) >>= _) _ _ _;refine dV (b.done _ _ _ (b.frame _ _ _ m λc hc o e=>(h.2 c λz=>D1.fz (z▸hc)).trans e) λp e r t=>?_))
 exact q p e (λc o u v x=>r _ _ v ((h.2 c u).trans x)) t
structure ZD(a0 c0:Bool)(h0:Heap)(N l1 l2:Addr)(i:Nat)(h:Heap):Prop where
 keep:∀b o,h0.get? b=some o->h.get? b=some o
 st:IsZip h (N+4) (N+2) (N+3) .none\/∃T b o,qO h (N+4) (N+2) (N+3) T b/\h.get? T=some o/\N+6<=T
 ti:IsPair h (N+2) (.ref N) (.ref (N+1))
 to:∃a b,IsPair h (N+3) a b
 i1:CS a0 h N l1 i
 i2:CS c0 h (N+1) l2 i
 sz:N+6<=h.objs.size
def ZD.move(J:ZD a0 c0 h0 N l1 l2 i h)(l:h0.objs.size=N)(hs:SameBut (N+5) h h'):ZD a0 c0 h0 N l1 l2 i h':=by
 have k:∀{b:Addr} {o:Obj},b≠N+5->h.get? b=some o->h'.get? b=some o:=λhb e=>(hs.2 _ hb).trans e;have c:∀j,j<5->N+j≠N+5:=λj hj=>by unfold Addr at *;lia
 refine⟨λb o e=>k (by have:=kN e;unfold Addr at *;lia) (J.keep b o e),?_,k (c 2 (by unfold Addr at *;lia)) J.ti,?_,mK J.i1 λo e=>k (c 0 (by unfold Addr at *;lia)) e,mK J.i2 λo e=>k (c 1 (by unfold Addr at *;lia)) e,by rw[hs.1];exact J.sz⟩;rcases J.st with f|⟨T,b,o,f,hT,d⟩;exact .inl (k (c 4 (by unfold Addr at *;lia)) f);exact .inr ⟨T,b,o,k (c 4 (by unfold Addr at *;lia)) f,k (λz=>by subst z;exact absurd d (by unfold Addr at *;lia)) hT,d⟩;obtain⟨a,b,g⟩:=J.to;exact⟨a,b,k (c 3 (by unfold Addr at *;lia)) g⟩
def x9(h1:l1<N)(a:l2<N):Fg (N+4) (N+2) (N+3) N (N+1) [N,l1] [N+1,l2]:=by
 constructor<;>(try simp only[mem_cons,not_mem_nil,or_false,not_or])<;>(unfold Addr at *;lia)
def Ld(x:Bn b h l xs)(k:∀o,h.get? l=some o->h'.get? l=some o):Bn b h' l xs:=by
 cases b;obtain⟨o,e,r⟩:=(show IsTuple h l xs from x);exact(show IsTuple h' l xs from⟨o,k o e,r⟩);obtain⟨o,e,r⟩:=(show IsList h l xs from x);exact(show IsList h' l xs from⟨o,k o e,r⟩)
def Pg(x:Bn b h l xs):l<h.objs.size:=by
 cases b;obtain⟨o,e,r⟩:=(show IsTuple h l xs from x);exact kN e;obtain⟨o,e,r⟩:=(show IsList h l xs from x);exact kN e
variable {κ:Type}[DecidableEq κ]
def y0{knd:KeyKind prog w κ}{h0:Heap}{N l1 l2:Addr}(hh:A.handled=none)(g:h0.objs.size=N)(h:Bn a0 h0 l1 xs)(m:Bn c0 h0 l2 ys)(L:ys.size=xs.size)(prs:List (κ×Value))(hn:prs.length=xs.size)(hsz:xs.size < 4000)
  (hP:∀(i:Nat) p,prs[i]?=some p->∃u,xs[i]?=some u/\ys[i]?=some p.2/\knd.is p.1 u=true) :
  ∀ (k i:Nat) (c:Tok) (s:Shared) (kvs:List (κ×Value)),i+k=xs.size->ZD a0 c0 h0 N l1 l2 i s.heap->s.heap.DictOf knd (N+5) kvs->kvs.length<=i ->
    (∀h' tk,h'.DictOf knd (N+5) ((prs.drop i).foldl (λl p=>stored l p.1 p.2) kvs)->(∀b o,h0.get? b=some o->h'.get? b=some o)->R (.ok (.ret .none)) {s with heap:=h',toks:=tk}) ->
    codeAny (model prog w) A (.builtin "dict.update.loop" ⟨[.ref (N+5),.ref (N+4),.int i c,.none],[]⟩) R s:=by
 have n:l1<N:=by rw[← g];exact Pg h
 have t:l2<N:=by rw[← g];exact Pg m
 have D1:=x9 n t;have I:=vI (c:=a0) (prog:=prog) (w:=w) (A:=A.in1.in1) hh N l1 (An n) xs;have M:=vI (c:=c0) (prog:=prog) (w:=w) (A:=A.in1.in1) hh (N+1) l2 (An (Nat.lt_succ_of_lt t)) ys;rw[L]at M;intro k
 induction k with
 | zero=>
   intro i c s kvs K J π hl q;have hi:i=xs.size:=K;refine CV lD ?_;rw[DR dW _];have B:Bn a0 s.heap l1 xs:=Ld h λo e=>J.keep _ o e;have P:=J.i1;rw[hi]at P;rw[List.drop_of_length_le (by unfold Addr at *;simp[*])]at q;have fin:∀h':Heap,(∀c o,c≠N+4->c≠N->s.heap.get? c=some o->h'.get? c=some o)->R (.ok (.ret .none)) {s with heap:=h',toks:=s.toks}:=λh' z=>by
    refine q h' s.toks ?_ λb o e=>?_;obtain⟨o,es,ep,S,r⟩:=π;exact⟨o,es,ep,z _ o (by unfold Addr at *;lia) (by unfold Addr at *;lia) S,r⟩;have:=kN e;exact z b o (by unfold Addr at *;lia) (by unfold Addr at *;lia) (J.keep b o e)
   (show wpAny _ A.in1 (pyNext (.ref (N+4)) >>= _) _ _ s)
   refine dV ?_;rcases J.st with f|⟨T,b,o,f,hT,C⟩;exact OY D1 I f J.ti ⟨P,B⟩ λh' K=>dV (gV (gV (fin h' K)));have d:s.TypeIs (.ref (N+4)) "zip":=⟨_,f,rfl⟩;unfold pyNext;refine dV (Ee (wpAny_callSpecial?_slot (name:=ofString "__next__") d F.slot_zip_next (Cp F.slot_zip_next d F.entry_zip_next (x8 D1 I f hT J.ti ⟨P,B⟩ λh' e k1 ⟨o,e1,e2⟩=>?_) (F.args_zip_next_1 _))));refine dV (wpAny_isInstance (T:="StopIteration") (b:=true) ⟨o,e1,e2⟩ isSubtype_stop ?_);exact gV (dV (gV (gV (fin h' k1))))
 | succ k ih=>
   intro i c s kvs K J π hl q;have hi:i<xs.size:=by lia
   refine CV lD ?_;rw[DR dW _];have B:Bn a0 s.heap l1 xs:=Ld h λo e=>J.keep _ o e;have L2:Bn c0 s.heap l2 ys:=Ld m λo e=>J.keep _ o e;have ep:prs[i]?=some prs[i]:=nL (by unfold Addr at *;simp[*]);obtain⟨u,hx,hy,hu⟩:=hP i _ ep;have sz:=J.sz;have ed:prs.drop i=prs[i]::prs.drop (i+1):=drop_eq_getElem_cons (by unfold Addr at *;simp[*])
   (show wpAny _ A.in1 (pyNext (.ref (N+4)) >>= _) _ _ s)
   refine dV (Ca (Q:=λv s'=>∃ h' U,v=some (.ref s.heap.objs.size)/\s'={s with heap:=h',toks:=U}/\(∃ T b o,qO h' (N+4) (N+2) (N+3) T b/\h'.get? T=some o/\N+6<=T)/\(∃ a b,IsPair h' (N+3) a b)/\CS a0 h' N l1 (i+1)/\CS c0 h' (N+1) l2 (i+1)/\IsPair h' s.heap.objs.size u prs[i].2 /\
     ∀c o,c≠N+4->c≠N+3->c≠N->c≠N+1->s.heap.get? c=some o->h'.get? c=some o) ?_ ?_ λ_ _ e=>e)
   ·rcases J.st with f|⟨T,b,o,f,hT,C⟩;obtain⟨a,b,j⟩:=J.to;refine OX D1 I M hi f J.ti j ⟨J.i1,B⟩ ⟨J.i2,L2⟩ λx y h' tk E G a1 a2 a3 a4 a5 a7=>?_;rw[hx]at E;cases E;rw[hy]at G;cases G;exact⟨h',tk,rfl,rfl,⟨_,false,_,a1,a5,sz⟩,⟨_,_,a2⟩,a3.1,a4.1,a5,a7⟩;obtain⟨a,b',j⟩:=J.to;have d:s.TypeIs (.ref (N+4)) "zip":=⟨_,f,rfl⟩;unfold pyNext;refine dV (Ee (wpAny_callSpecial?_slot (name:=ofString "__next__") d F.slot_zip_next (Cp F.slot_zip_next d F.entry_zip_next (x4 D1 I M hi f hT J.ti ⟨J.i1,B⟩ ⟨J.i2,L2⟩ λx y h' tk E G a1 a3 a4 a5 a6 a7=>?_) (F.args_zip_next_1 _))));rw[hx]at E;cases E;rw[hy]at G;cases G;exact gV ⟨h',tk,rfl,rfl,⟨T,true,o,a1,a7 T o (by unfold Addr at *;lia) (by unfold Addr at *;lia) (by unfold Addr at *;lia) hT,C⟩,⟨a,b',a7 _ _ (by unfold Addr at *;lia) (by unfold Addr at *;lia) (by unfold Addr at *;lia) j⟩,a3.1,a4.1,a5,λc o c1 _ c3 c4 e=>a7 c o c1 c3 c4 e⟩
   ·rintro _ _ ⟨H,V,rfl,rfl,z1,z2,z3,z4,z5,W⟩;have X:H.DictOf knd (N+5) kvs:=let ⟨o,es,ep,S,r⟩:=π;⟨o,es,ep,W _ o (by unfold Addr at *;lia) (by unfold Addr at *;lia) (by unfold Addr at *;lia) (by unfold Addr at *;lia) S,r⟩
    have Y:N+6<=H.objs.size:=by have:=kN (show H.get? s.heap.objs.size=_ from z5);unfold Addr at *;lia
    have J2:ZD a0 c0 h0 N l1 l2 (i+1) H:=⟨λb o e=>by
     have:=kN e;exact W b o (by unfold Addr at *;lia) (by unfold Addr at *;lia) (by unfold Addr at *;lia) (by unfold Addr at *;lia) (J.keep b o e),.inr z1,W _ _ (by unfold Addr at *;lia) (by unfold Addr at *;lia) (by unfold Addr at *;lia) (by unfold Addr at *;lia) J.ti,z2,z3,z4,Y⟩
    refine dV (AE (dV (wpAny_tryCatch (pW (s:={s with heap:=H,toks:=V}) (a:=s.heap.objs.size) (u:=u) (x:=prs[i].2) ⟨_,z5,rfl,_,rfl⟩ ?_))));dsimp only;refine AE (wpAny_dictSet_pairs (hsz:=by unfold sizeLine;lia) hu X λh3 σ hs3=>?_);refine gV ⟨Dp dW _,?_⟩;refine ih (i+1) 0 _ _ (by unfold Addr at *;lia) (J2.move g hs3) σ (oT (pX ..) (by unfold Addr at *;simp[*])) λh' tk dn kn=>q h' tk (by rw[ed];exact dn) kn
def vL{knd:KeyKind prog w κ}{prs:List (κ×Value)}(y:A.handled=none)(h:Bn a0 h0 l1 xs)(j:Bn c0 h0 l2 ys)(m:ys.size=xs.size)(hn:prs.length=xs.size)(hsz:xs.size < 4000)
  (z:∀(i:Nat) p,prs[i]?=some p->∃u,xs[i]?=some u/\ys[i]?=some p.2/\knd.is p.1 u=true)
  (hz:IsZip s.heap (h0.objs.size+4) (h0.objs.size+2) (h0.objs.size+3) .none) (ti:IsPair s.heap (h0.objs.size+2) (.ref h0.objs.size) (.ref (h0.objs.size+1))) (to:IsPair s.heap (h0.objs.size+3) .none .none)
  (i1:CS a0 s.heap h0.objs.size l1 0) (i2:CS c0 s.heap (h0.objs.size+1) l2 0) (hs:s.heap.objs.size=h0.objs.size+5) (B:∀b o,h0.get? b=some o->s.heap.get? b=some o)
  (q:∀h' tk,h'.DictOf knd (h0.objs.size+5) (prs.foldl (λl p=>stored l p.1 p.2) [])->(∀b o,h0.get? b=some o->h'.get? b=some o)->Q (.ref (h0.objs.size+5)) {s with heap:=h',toks:=tk}) :
  wpAny (model prog w) A (call (.type "dict") [.ref (h0.objs.size+4)]) Q E s:=by
 refine callType_codes (Q₁:=λobj s₁=>obj=.ref s.heap.objs.size/\s₁={s with heap:=s.heap.push {cls:=.type "dict",data:=.dict #[]}}) F.kt_called_dict (F.kt_typeCall_dict_1 _) F.entry_dict_init (kt_code_dict_new _ ⟨rfl,rfl⟩) ?_;rintro obj s₁ ⟨rfl,rfl⟩;have a:(s.heap.push {cls:=.type "dict",data:=.dict #[]}).DictOf knd s.heap.objs.size []:=Heap.DictOf.new s.heap;have c:∀b o,s.heap.get? b=some o->(s.heap.push {cls:=.type "dict",data:=.dict #[]}).get? b=some o:=λb o e=>sU _ e;refine⟨a.typeIs,F.args_dict_init_2 _ _,?_⟩;have n:TypeIs {s with heap:=s.heap.push {cls:=.type "dict",data:=.dict #[]}} (.ref (h0.objs.size+4)) "zip":=⟨_,c _ _ hz,rfl⟩;unfold Builtin.«dict.__init__» selfAndRest;refine dV (dV (wpAny_notOrdered_dict a.typeIs (gV ?_)));show wpAny _ _ (updateFrom "dict.__init__" s.heap.objs.size (.ref (h0.objs.size+4)) [] .none) _ _ _;unfold updateFrom;refine dV (DK n ?_);rw[fI (by decide)];refine dV (x3 (c _ _ hz) y λg t v=>?_);rw[fI (by rfl)];refine dV (BJ (dV (wpAny_pyIter_zip (s:=⟨g,s.gens,s.drawn,t,s.os⟩) (v _ _ (c _ _ hz)) ?_)));refine gV ⟨Dp dW _,?_⟩;have d:g.DictOf knd s.heap.objs.size []:=let ⟨o,es,ep,x,r⟩:=a;⟨o,es,ep,v _ o x,r⟩
 rw[hs]at d ⊢;have big:h0.objs.size+6<=g.objs.size:=by obtain⟨o,es,ep,x,_⟩:=d;exact kN x
 have f:∀{b:Addr} {o:Obj},s.heap.get? b=some o->g.get? b=some o:=λe=>v _ _ (c _ _ e);exact y0 (A:=A.in1) (N:=h0.objs.size) y rfl h j m prs hn hsz z xs.size 0 0 _ [] (Bq _) ⟨λb o e=>f (B b o e),.inl (f hz),f ti,⟨_,_,f to⟩,mK i1 λo e=>f e,mK i2 λo e=>f e,big⟩ d (hF _) λh' tk C k=>⟨rfl,q h' tk C k⟩
end
abbrev S0:=Tk×Value×Value
def Ph:List V->Hp->VK->Prop:=λvs H Q=>∃p q xs ys,vs=[.ref p,.ref q]/\cS H p=some (true,xs)/\cS H q=some (true,ys) /\
 ∀r (ts:List Addr) H',mQ H H'->H r=none->H' r=some (.tup (ts.map V.ref))->ts.length=min xs.length ys.length->(∀(j:Nat) t,ts[j]?=some t->∃x y,xs[j]?=some x/\ys[j]?=some y/\H' t=some (.tup [x,y]))->Q (.ref r) H'
def y3(hc:X.calm=true):∀ pins s Z H vs us Q,dX X pins Z H s->bJ vs us->Ph vs H Q ->
  wpAny (model X.prog X.w) X.A (call (.type "zip") us) (λu s1=>wpAny (model X.prog X.w) X.A (call (.type "tuple") [u]) (EP X pins Z Q) X.xe s1) X.xe s:=by
 intro pins s Z H vs us Q I rv h;obtain⟨p,q,xs,ys,rfl,hp,hq,q⟩:=h;obtain⟨u,v,rfl,D1,P⟩:=rv.two;cases D1;cases P;obtain⟨its1,r1,R,z1⟩:=I.list (eR hp);obtain⟨its2,r2,S,z2⟩:=I.list (eR hq);have cI5:=r1.length;have dX8:=r2.length;have E:s.heap.IsList p its1.toArray:=R.isList;have F:s.heap.IsList _ its2.toArray:=S.isList;refine call_zip_2 E F λU hz W Y σ hi2 hsz hk=>?_;have hn:min its1.toArray.size its2.toArray.size<=sizeLine:=by simp only[size_toArray];grind
 refine wT (h0:=s.heap) (s:={s with heap:=U}) (I.ok.hd hc) E F hn hz W Y σ hi2 hsz hk λh' tk acc hK G=>?_;have hacc':acc.size=min its1.length its2.length:=by simpa using G
 let ts:List Addr:=(range acc.size).map λj=>match (acc[j]?:Option Value)with|some (Value.ref T)=>T|_=>(0:Nat)
 have J:ts.length=min xs.length ys.length:=by simp only[ts,length_map,length_range];lia
 have f:∀j,j<acc.size->∃T x y,ts[j]?=some T/\acc[j]?=some (.ref T)/\its1[j]?=some x/\its2[j]?=some y/\IsPair h' T x y/\s.heap.objs.size+6<=T:=λj hj=>by
  obtain⟨T,x,y,k,N,π,g4,g5⟩:=hK.got j (by simp only[size_toArray];simp_all);refine⟨T,x,y,?_,k,by simpa using N,by simpa using π,g4,g5⟩;simp only[ts];rw[Ar,List.getElem?_range hj,Option.map_some,k]
 let ps:List (Addr×List V):=(range acc.size).map λj=>(ts[j]?.getD 0,[xs[j]?.getD .non,ys[j]?.getD .non])
 have I1:dX X pins Z H {s with heap:=h',toks:=tk}:=I.kept hK.keep;have K:∀pr∈ps,∃j T x y u v,j<acc.size/\pr=(T,[x,y])/\ts[j]?=some T/\xs[j]?=some x/\ys[j]?=some y/\its1[j]?=some u/\its2[j]?=some v/\cE x u/\cE y v/\IsPair h' T u v/\s.heap.objs.size+6<=T:=λpr c=>by
  obtain⟨j,hj,rfl⟩:=Bc.mp c;have a:=Cr.mp hj;obtain⟨T,u,v,z,k,N,π,g4,g5⟩:=f j a;have B:xs[j]?=some xs[j]:=nL (by grind);have C:ys[j]?=some ys[j]:=nL (by grind);obtain⟨u',gu,D1⟩:=r1.get B;obtain⟨v',gv,m⟩:=r2.get C;rw[N]at gu;cases gu;rw[π]at gv;cases gv;exact⟨j,T,xs[j],ys[j],_,_,a,by rw[z,B,C];rfl,z,B,C,N,π,D1,m,g4,g5⟩
 have hnd:(ps.map (·.1)).Nodup:=by
  have:ps.map (·.1)=(range acc.size).map λj=>ts[j]?.getD 0:=by simp only[ps,map_map];rfl
  rw[this];refine List.pairwise_map.mpr ?_;refine List.Pairwise.imp_of_mem ?_ List.nodup_range;intro i j hi hj hne e;have L:=Cr.mp hi;have a:=Cr.mp hj;obtain⟨T,_,_,z,k,_⟩:=f i L;obtain⟨T',_,_,g0',g1',_⟩:=f j a;rw[z,g0']at e;have e':T=T':=e;subst e';have U:acc.toList[i]?=acc.toList[j]?:=by rw[Bg,Bg,k,g1']
  exact hne ((List.getElem?_inj (by rw[BX];exact L) hK.nd).mp U)
 obtain⟨H',I2,d,hat,hoth⟩:=dX.adoptAll ps I1 (λpr c=>by
   obtain⟨j,T,x,y,u,v,_,rfl,_,_,_,_,_,_,_,hT,hge⟩:=K pr c;exact I.stray (by unfold Addr at *;lia) (I.hok.fresh (by unfold Addr at *;lia))) hnd (λpr c=>by
   obtain⟨j,T,x,y,u,v,_,rfl,_,_,_,_,_,D1,m,hT,hge⟩:=K pr c;exact⟨by show 2<=sizeLine;decide,[u,v],.cons D1 (.cons m .nil),⟨_,hT,rfl,_,rfl⟩,⟨_,hT,rfl⟩⟩)
 have g:H' h'.objs.size=none:=I2.hok.fresh (hF _);have tv:bJ (ts.map V.ref) acc.toList:=by
  have ea:acc.toList=ts.map Value.ref:=by
   apply Fy;intro j;by_cases hj:j<acc.size;obtain⟨T,x,y,z,k,_⟩:=f j hj;rw[Bg,k,Ar,z];rfl;rw[EI.mpr (by rw[BX];exact Em hj),EI.mpr (by simp only[ts,length_map,length_range];(simp at *;omega))]
  rw[ea];generalize ts=l
  induction l with
  |nil=>exact .nil
  |cons t r ih=>exact .cons rfl ih
 refine⟨.ref h'.objs.size,gY H' h'.objs.size (.tup (ts.map V.ref)),I2.laid (t':=tk) (λb o e=>sU _ e) (hF _) ⟨by rw[hB,J];simp_all,acc.toList,tv,⟨_,Ad _ rfl,rfl,0,by show Data.seq acc 0=Data.seq acc.toList.toArray 0;rw[Array.toArray_toList]⟩,⟨_,Ad _ rfl,rfl⟩⟩,rfl,?_⟩;refine q _ ts _ (d.trans (aM g)) ?_ aJ J λj t hj=>?_
 ·cases e:H h'.objs.size with
  |none=>rfl
  |some o=>rw[d _ _ e]at g;cases g
 ·have a:j < acc.size:=by
   have:=(sS.mp hj).1;simp only[ts,length_map,length_range]at this;exact this
  have M:(ts[j]?.getD 0,[xs[j]?.getD .non,ys[j]?.getD .non])∈ps:=Bc.mpr ⟨j,Cr.mpr a,rfl⟩;have B:xs[j]?=some xs[j]:=nL (by lia);have C:ys[j]?=some ys[j]:=nL (by grind);have:=hat _ M;rw[hj,B,C]at this;have n:H' t=some (.tup [xs[j],ys[j]]):=this;exact⟨xs[j],ys[j],B,C,aM g _ _ n⟩
end
def y8:Dd Ph Hi:=by
 intro H I vs Q res vw e k;unfold Hi at e;split at e;cases e;obtain⟨J,K,rfl,n,o⟩:=Ij vw;obtain⟨L,xs,rfl,p,h⟩:=dS n;obtain⟨M,ys,rfl,s,i⟩:=dS o;refine⟨_,_,xs,ys,rfl,p,s,λr ts H' l N c t y=>k _ H' l (.tup c ?_)⟩;have x:AX H H':=.same l;refine Oq ?_ λj d v f m=>?_;unfold Hg;rw[hB,length_zip,hB,t,h.length,i.length];rw[Ar]at m;obtain⟨q,z,rfl⟩:=Bf.mp m;obtain⟨u,w,A,B,C⟩:=y j q z;unfold Hg at f;rw[Ar]at f;obtain⟨⟨π,P⟩,D,rfl⟩:=Bf.mp f;obtain⟨E,F⟩:=List.getElem?_zip_eq_some.mp D;obtain⟨R,a,G⟩:=h.get E;obtain⟨S,b,g⟩:=i.get F;rw[A]at a;cases a;rw[B]at b;cases b;exact .tup C (.cons (G.mono x) (.cons (g.mono x) .nil));cases e
noncomputable def Iy(z:Str)(x:D)(zs:List Str)(vs:List D):List D:=(zs.zip vs).map λp=>if p.1=z then x else p.2
def JC(e x:D):D->Option D
 | .dic ks vs=>match e with
   |.str z=>(kX ks).bind λzs=>if z∈zs/\zs.length<4000 then some (.dic ks (Iy z x zs vs))else none
   |_=>none
 |_=>none
noncomputable def JD(k:Nat)(Z:Sg):Bool:=match Z[k]? with
 |some (some s)=>decide (s.m≠.val)
 |_=>false
theorem Pj(r:Rp H d v):∀ {kvs:List (Key×V)} {zs:List Str} {vs:List D},kvs.map (λb=>iQ b.1)=zs.map D.str->Rps H vs (kvs.map Prod.snd) ->
  Rps H (Iy z d zs vs) ((kvs.map λb=>if b.1=(Sum.inr z:Key)then(b.1,v)else b).map Prod.snd)/\(kvs.map λb=>if b.1=(Sum.inr z:Key)then(b.1,v)else b).map (λb=>iQ b.1)=zs.map D.str/\(z∈zs->(kvs.any λb=>decide (b.1=(Sum.inr z:Key)))=true)
 |[],[],[],_,.nil=>⟨.nil,rfl,λh=>by cases h⟩
 | (k,y)::kvs,f::zs,x::vs,e,.cons a t=>by
   injection e with c g
   obtain⟨j,l,m⟩:=Pj (z:=z) r g t;cases k with
   |inl i=>cases c
   | inr w=>
     obtain rfl:w=f:=by simpa[iQ]using c
     refine⟨?_,?_,λh=>?_⟩
     ·refine .cons ?_ j
      lia
     ·rw[Bm,Bm,l,Bm]
      lia
     grind
def Hn(k:Nat)(c f:DE):DS:=λZ=>(f Z).bind λx=>match x.1 with
 |.val d=>if JD k x.2=true then(c x.2).bind λy=>(rd y.2 y.1).bind λe=>(Df (λa _=>(JC e d a).map λb=>(b,.non)) k [] y.2).bind λz=>some (.nx z.2)else none
 |_=>none
def y9(h:∀ Γ,PS X st (MF (CZ k) (Bd Γ B) (Bd Γ π))):GS E X st (Hn k B π):=.mk λΓ=>DB (h Γ) λD σV H Z1=>by
 obtain⟨Z,ok,o,e,P⟩:=Z1;obtain⟨⟨x,c⟩,Q,e⟩:=aA e;refine⟨Z,ok,x,c,Q,λv H1 i R C f1=>?_⟩;cases x with
 |own d|slot d=>cases e
 | val d=>
   have g:(if JD k c=true then(B c).bind λy=>(rd y.2 y.1).bind λe=>(Df (λa _=>(JC e d a).map λb=>(b,.non)) k [] y.2).bind λz=>some (.nx z.2)else none)=some o:=e;split at g
   ·rename_i hn;obtain⟨⟨y,F⟩,S,g⟩:=aA g;obtain⟨T,U,g⟩:=aA g;obtain⟨⟨z,V⟩,W,g⟩:=aA g;cases g;obtain⟨s0,G,I⟩:∃ s0,c[k]? = some (some s0)/\s0.m≠.val:=by
     unfold JD at hn;split at hn;rename_i s hs;exact⟨s,hs,of_decide_eq_true hn⟩;cases hn
    obtain⟨p,ep,ow⟩:=i.ownAt G I;obtain⟨s,d',y',hs,hm,Y,rfl,rfl⟩:=fK W;obtain⟨b,j,σ⟩:=Bf.mp Y;cases σ;refine⟨_,ep,c,i,y,F,S,λvi H2 l r2 n f2=>?_⟩;obtain⟨p',r,t⟩:=l.ownAt hs (fZ hm);rw[ep]at r;cases r;have rv:Rp H2 d v:=Rp.mono (n.ext i) R;obtain⟨m,sd⟩:=s;cases sd with
    | dic ks vs=>
      cases T with
      | str z=>
        obtain⟨zs,w,j⟩:=aA j;split at j
        ·rename_i hc;cases j;have J:=t;obtain⟨u,ws,h1,A,h3⟩:=t;have K:=r2.vw l U;cases u with
         | dK kvs=>
           obtain⟨L,rfl⟩:=A;rw[gC w]at L;obtain⟨t1,t2,t3⟩:=Pj (z:=z) rv L.symm h3;obtain rfl:vi=.str z:=gN K;have kl:kvs.length<4000:=by
            have:=Cq List.length L;simp only[length_map]at this;simp_all
           have pe:qQ kvs (Sum.inr z:Key) v=kvs.map λf=>if f.1=(Sum.inr z:Key)then(f.1,v)else f:=by unfold qQ;rw[fI (t3 hc.1)]
           refine⟨p,_,rfl,.inl ⟨kvs,.inr z,h1,rfl,by rw[DL];lia,rfl⟩,?_⟩;rw[pe];have ex:=cR.ext (o':=.dK (kvs.map λf=>if f.1=(Sum.inr z:Key)then(f.1,v)else f)) J;obtain⟨M,N⟩:=l.write (d':=.dic ks (Iy z d zs vs)) (o':=.dK (kvs.map λf=>if f.1=(Sum.inr z:Key)then(f.1,v)else f)) hs hm ep ⟨_,_,aJ,⟨by rw[t2];exact gC w,rfl⟩,t1.mono ex⟩;exact P _ _ M ((C.trans n).trans N)
         | dT kvs=>
           exfalso;have:=A.1;rw[gC w]at this;cases zs with
           |nil=>cases hc.1
           | cons y zs=>cases kvs with
             |nil=>cases this
             |cons q kvs=>rw[Bm,Bm]at this;injection this with a b;cases a
         | dM kvs=>
           exfalso;have:=A.1;rw[gC w]at this;cases zs with
           |nil=>cases hc.1
           |cons y zs=>rw[Bm]at this;injection this with a b;cases a
         |_=>exact A.elim
        ·cases j
      |_=>cases j
    |_=>cases j
   ·cases g
section
open Sem(wp)
section
variable {K:Type}[DecidableEq K]
def z7{knd:HeapKind prog w K}(m:knd.room A)(c:knd.is s.heap k a)(hm:s.heap.DictOfH knd d xs)(hsz:xs.length<=sizeLine)
  (h1:∀p,atKey xs k=some p->Q p.2 {s with toks:=s.toks+knd.draws k})
  (n:atKey xs k=none->∀h',h'.DictOfH knd d (xs++[(k,a,v)])->SameBut d s.heap h'->Q v {s with heap:=h',toks:=s.toks+knd.draws k}) :
  wpAny (model prog w) A (dictSetDefault d (.ref a) v) Q E s:=by
 obtain⟨o,es,ep,g,hc,hd,i,h,hn⟩:=hm;have kp:∀{x:K} {b:Addr} (f:Array DictEntry->Array DictEntry),knd.is s.heap x b->knd.is (s.heap.update d (Obj.mapDictKeys f)) x b:=λf t=>knd.keeps t g hd (EK ..);unfold dictSetDefault
 try with_reducible refine AE ?_
 refine dV (knd.pyHash m c (dV (wpAny_dictFind_heap (s:={s with toks:=s.toks+knd.draws k}) m c g hd i h hn (λno=>?_) λj p hj=>?_)))
 ·have out:k∉xs.map (·.1):=not_mem_keys_of_get no;have q:=n (atKey_none_of_get no);refine dV (BJ (dV (wpAny_updateDictKeys (s:={s with toks:=s.toks+knd.draws k}) (hz:=by have:=size_of_entries i;simp_all) g hd (gV (q _ ?_ (EK ..))))));refine⟨_,_,ep+1,DQ _ g (Obj.isFreed_of_dict (Obj.data_mapDictKeys hd _)),hc.mapDictKeys _,Obj.data_mapDictKeys hd _,by simp[i,entryOfKey],λx l=>?_,?_⟩;rcases Au.mp l with z|z;exact kp _ (h x z);cases Aq.mp z;exact kp _ c;simp only[List.map_append,map_cons,List.map_nil];exact List.nodup_append.mpr ⟨hn,by simp,λx l y r e=>out (by cases Aq.mp r;exact e▸l)⟩
 ·refine dV (wpAny_dictEntries (s:={s with toks:=s.toks+knd.draws k}) g hd ?_);rw[entry_at i j,hj];exact dV (BJ (gV (h1 p (atKey_of_get hn hj))))
def z8(knd:HeapKind prog w K)(d a:Addr)(hd:(d==sysModules)=false)(dflt:Value) :
  MeetsIn prog w (Builtin.«dict.setdefault» ⟨[.ref d,.ref a,dflt],[]⟩) (λA R s=>knd.room A.in1/\∃k xs,knd.is s.heap k a/\s.heap.DictOfH knd d xs/\xs.length<=sizeLine /\
   (∀p,atKey xs k=some p->R (.ok (.ret p.2)) {s with toks:=s.toks+knd.draws k}) /\
   (atKey xs k=none->∀h',h'.DictOfH knd d (xs++[(k,a,dflt)])->SameBut d s.heap h'->R (.ok (.ret dflt)) {s with heap:=h',toks:=s.toks+knd.draws k})):=
 .of_wp λA R s h=>by
  obtain⟨c,k,xs,b,hm,f,g,i⟩:=h;have j:s.TypeIs (.ref d) "dict":=hm.typeIs;unfold Builtin.«dict.setdefault» Builtin.Dict.keyAndDefault;refine dV (dV (wpAny_notOrdered_dict j (gV ?_)));show wpAny _ _ (if(d==sysModules)=true then _ else dictSetDefault d (.ref a) dflt >>= _) _ _ s;rw[hd,gX Fx];exact dV (z7 c b hm f (λp e=>gV ⟨_,rfl,g p e⟩) λe h' m l=>gV ⟨_,rfl,i e h' m l⟩)
end
end
section
open PyProof.Rows Spec
def Bx(H:Hp)(a:Addr)(kvs:List (List Key×V)):Prop:=H a=some (.dT kvs)\/H a=some (.dK [])/\kvs=[]
def z9(ok:AA P w H h)(e:Bx H a kvs):(a==sysModules)=false/\∃xs,KT H kvs xs/\h.DictOfH (tupleKind (bA P w)) a xs:=by
 rcases e with e|⟨e,rfl⟩;obtain⟨_,hd,xs,rel,c⟩:=MD ok e;exact⟨hd,xs,rel,c⟩;obtain⟨_,hd,vs,rel,c⟩:=MB ok e;cases rel;obtain⟨o,es,ep,d,hc,b,j,f,hn⟩:=c;have g:es.toList=[]:=DM f.length;exact⟨hd,[],.nil,o,es,ep,d,hc,b,by rw[g];rfl,λx i=>by simp at i,.nil⟩
def snoc{l:List b}{m:List c}(p:Paired R l m)(h:R x y):Paired R (l++[x]) (m++[y]):=by
 induction p with
 |nil=>exact .cons h .nil
 |cons a _ i=>exact .cons a i
def A0{Z:St}(t:A.units+1 < cLine)(I:dX X pins Z H s)(e:Bx H a kvs)(h:H b=some (.tup (k.map kV)))(l:kvs.length < sizeLine)(u:cE z r)
  (h1:∀v i s',iP kvs k=some v->dX X pins Z H s'->cE v i->Q i s') (x:iP kvs k=none->∀s',dX X pins Z (gY H a (.dT (kvs++[(k,z)]))) s'->Q r s') :
  wpAny (model X.prog X.w) A (call (.builtin "dict.setdefault") [.ref a,.ref b,r]) Q E s:=by
 obtain⟨hd,xs,rel,j⟩:=z9 I.hok e;have J:xs.length=kvs.length:=(Paired.length rel).symm;refine call_meetsIn F.slot_dict_setdefault j.typeIs F.entry_dict_setdefault (F.args_dict_setdefault_3 _ _ _) (z8 (tupleKind (bA X.prog X.w)) a b hd r) ⟨tupleKind_room_in1 t,k,xs,uA I.hok h,j,by lia,λp y=>?_,λhn h' g hs=>?_⟩
 ·have q:=rel.val k;rw[y]at q;cases d:iP kvs k with
  |none=>rw[d]at q;exact nomatch q
  |some v=>rw[d]at q;exact h1 v _ _ d (I.tok _) q
 ·have q:=rel.val k;rw[hn]at q;have d:iP kvs k=none:=by
   cases d:iP kvs k with
   |none=>rfl
   |some v=>rw[d]at q;exact nomatch q
  refine x d _ ?_;obtain⟨o,es,ep,m,B,C,D1,_,G⟩:=g;have f:KT H (kvs++[(k,z)]) (xs++[(k,b,r)]):=snoc rel ⟨rfl,h,u⟩;refine wV I (by rcases e with e|⟨e,_⟩<;>(rw[e];exact True.intro)) hs ⟨o,m⟩ ⟨by simp;exact l,hd,_,f.keeps λc ys n=>?_,o,es,ep,m,B,C,D1,G⟩;rw[aG (by rcases e with e|⟨e,_⟩<;>exact LK n e λz=>nomatch z)];exact n
def Le(d ty e:TE):TE:=λZ H Q=>d Z H λx c=>∃a,x=.ref a/\GG c a/\ty Z c λy f=>e Z f λz H3=>∃kvs k b,Bx H3 a kvs/\y=.ref b/\H3 b=some (.tup (k.map kV))/\kvs.length<sizeLine /\
 (∀v,iP kvs k=some v->Q v H3)/\(iP kvs k=none->Q z (gY H3 a (.dT (kvs++[(k,z)]))))
def A2(n:X.A.units+1<cLine)(p:PE X o g)(q:PE X e ty)(r:PE X f i)(m:M2 X o "setdefault" apos e f cpos):PE X (.Call (.Attribute o "setdefault" apos) [e,f] [] cpos) (Le g ty i):=by
 intro pins s Z H Q I h;refine wpAny_Call_method m.base m.few m.line F.plainAttrs_dict F.slot_dict_setdefault F.type_dict_setdefault (thn (p pins s Z H _ I h) λu s1 h=>?_);obtain⟨x,t,j,w,a,ex,d,B⟩:=h;subst ex;obtain rfl:u=Value.ref a:=w;obtain⟨C,D1,_⟩:=MG j d;refine⟨C,D1,?_⟩;rw[m.trees];refine Calls.callWith_builtin rfl (Calls.evalArgs_plain (Calls.spliced_cons (thn (q pins s1 Z t _ j B) λE s2 h=>?_)));obtain⟨y,G,J,K,L⟩:=h;refine Calls.spliced_cons (thn (r pins s2 Z G _ J L) λY σ h=>Calls.spliced_nil ?_);obtain⟨z,M,N,l,kvs,k,b,π,P,R,S,T,U⟩:=h;subst P;obtain rfl:E=Value.ref b:=K;exact A0 n N π R S l (λv w' V e c W=>⟨v,M,c,W,T v e⟩) λe V c=>⟨z,_,c,l,U e⟩
end
inductive FQ(Q:Hp->Prop):Hp->Prop
 |done {H:Hp}:Q H->FQ Q H
 |step {H:Hp} {p:Addr} {u:HO}:H p=some u->Fz u->(∀o,FQ Q (gY H p (.frz o u)))->FQ Q H
structure Cd(Γ:Gm)(Z:Sg)(σV:St)(q:Addr):Prop where
 nv:¬zS Z σV q
 h0:Γ.H₀ q=none
def Cd.step(h:Cd Γ Z σV q)(st:hJ Z σV H σ' σV' H')(e:H q=some o):Cd Γ σ' σV' q/\H' q=some o:=
 ⟨⟨λz=>(st.nv q z).elim h.nv λz=>(by lia),h.h0⟩,st.fr q o e λz=>h.nv z.nv⟩
def Fl(H:Hp)(q:Addr):Prop:=H q=none\/∃o,H q=some o/\Fz o
def sD{L:Addr->Prop}(h:∀a,L a->Fl H a)(k:∀a,¬L a->H' a=H a):AX H H':=by
 refine⟨λb xs e=>?_,λb ob x e=>?_⟩<;>rw[k b λz=>?_]<;>first|exact e|(rcases h b z with s|⟨o,s,f⟩<;>rw[s]at e<;>cases e;exact f)
def eH.hids{L:Addr->Prop}(ok:eH Γ H Z σV)(h:∀ a,L a->Cd Γ Z σV a/\Fl H a)(k:∀ a,¬ L a->H' a=H a):eH Γ H' Z σV:=
 ⟨λi t e=>by
  obtain⟨v,b,r⟩:=ok.rel i t e;refine⟨v,b,r.mono (sD (λa z=>(h a z).2) k) λp x c m ex=>?_⟩;rw[k p λz=>(h p z).1.nv ⟨i,t,e,m,by simp_all⟩];exact ex,ok.dis,ok.own,ok.par,
  λa x e n=>by rw[k a λz=>(by have:=(h a z).1.h0;lia)];exact ok.keep a x e n,
  λa e=>by
   by_cases z:L a;exact(h a z).1.h0;rw[k a z]at e;exact ok.dom a e,ok.len⟩
def hJ.hids{L:Addr->Prop}(st:hJ c b d Z σV H)(h:∀ a,L a->(d a=none\/iO c b a)/\H' a≠none)(k:∀ a,¬ L a->H' a=H a):hJ c b d Z σV H':=
 ⟨λa x e n=>by rw[k a λz=>(by rcases(h a z).1 with q | q;(lia);exact n q)];exact st.fr a x e n,
  λa e=>by
   by_cases z:L a
   ·simp_all
   ·rw[k a z]at e;exact st.dom a e,st.mu,st.nv,st.kp,st.fix,st.lt⟩
def Lf(z:¬a=q):gY H q o' a=H a:=aG z
def eH.hid(ok:eH Γ H Z σV)(h:Cd Γ Z σV q)(s:Fl H q):eH Γ (gY H q o') Z σV:=ok.hids (L:=(· = q)) (λa e=>by simp_all) λa z=>Lf z
def hJ.hid(st:hJ c b d Z σV H)(h:d q=none\/iO c b q):hJ c b d Z σV (gY H q o'):=st.hids (L:=(· = q)) (λa e=>by subst e;exact⟨h,by rw[aJ];lia⟩) λa z=>Lf z
theorem Fl.ext(s:Fl H q):AX H (gY H q o'):=sD (L:=(· = q)) (λa e=>by simp_all) λa z=>Lf z
noncomputable abbrev SG:Sl:=⟨.own,.dic [] []⟩
def oB{Z:Sg}(h:(Z.set g (some s))[i]?=some (some t)):(i=g/\t=s)\/(i≠g/\Z[i]?=some (some t)):=by
 rcases aP h with⟨z,a,_⟩|⟨z,a⟩
 ·simp_all
 simp_all
def hJ.wide{p:Nat}(st:hJ Z σV H σ' σV' H')(f:g < Z.length)(t:σ'.length=Z.length)(k:σV[g]? = some (some (.ref p)))(l:σV'[g]? = some (some (.ref p))):hJ (Z.set g (some SG)) σV H (σ'.set g (some SG)) σV' H':=by
 have up:∀{a},iO Z σV a->iO (Z.set g (some SG)) σV a:=λ{a} Z1=>by
  obtain⟨i,s,b,d,c⟩:=Z1;by_cases z:i=g;subst z;exact⟨i,SG,by rw[Bo f],rfl,c⟩;exact⟨i,s,by rw[Ac (iA z)];exact b,d,c⟩
 have j:∀{a},zS Z σV a->zS (Z.set g (some SG)) σV a:=λ{a} Z1=>by
  obtain⟨i,s,b,d,c⟩:=Z1;by_cases z:i=g;subst z;exact⟨i,SG,by rw[Bo f],(λz=>nomatch z),c⟩;exact⟨i,s,by rw[Ac (iA z)];exact b,d,c⟩
 have q:iO (Z.set g (some SG)) σV p:=⟨g,SG,by rw[Bo f],rfl,k⟩;refine⟨λa o e n=>st.fr a o e λz=>n (up z),st.dom,λa ⟨i,s,b,d,c⟩=>?_,λa ⟨i,s,b,d,c⟩=>?_,λi s h=>?_,λi s h m=>?_,λi s h m=>?_⟩
 ·rcases oB b with⟨rfl,rfl⟩|⟨z,b⟩
  ·simp_all
  ·exact(st.mu a ⟨i,s,b,d,c⟩).imp up id
 ·rcases oB b with⟨rfl,rfl⟩|⟨z,b⟩;rw[l]at c;cases c;exact .inl q.nv;exact(st.nv a ⟨i,s,b,d,c⟩).imp j id
 ·rcases oB h with⟨rfl,rfl⟩|⟨z,h⟩
  ·simp_all
  ·obtain⟨s',h'⟩:=st.kp i s h;exact⟨s',by rw[Ac (iA z)];exact h'⟩
 ·rcases oB h with⟨rfl,rfl⟩|⟨z,h⟩;rcases m with m|m<;>cases m;obtain⟨s',h',r⟩:=st.fix i s h m;exact⟨s',by rw[Ac (iA z)];exact h',r⟩
 ·rcases oB h with⟨rfl,rfl⟩|⟨z,h⟩;cases m;obtain⟨s',h',r⟩:=st.lt i s h m;exact⟨s',by rw[Ac (iA z)];exact h',r⟩
def hJ.drop(st:hJ Z σV H (σ'.set g (some SG)) σV' H')(h0:Z[g]? = some none)(h1:∀ s,σ'[g]? ≠ some (some s)):hJ Z σV H σ' σV' H':=by
 have up:∀{i:Nat} {s:Sl},σ'[i]?=some (some s)->(σ'.set g (some SG))[i]?=some (some s):=λ{i s} h=>by
  rw[Ac (λz=>h1 s (by rw[z];exact h))];exact h
 refine⟨st.fr,st.dom,λa ⟨i,s,e,r⟩=>st.mu a ⟨i,s,up e,r⟩,λa ⟨i,s,e,r⟩=>st.nv a ⟨i,s,up e,r⟩,λi s h=>?_,λi s h m=>?_,λi s h m=>st.lt i s (up h) m⟩
 ·obtain⟨s',h'⟩:=st.kp i s h;rcases oB h' with⟨rfl,rfl⟩|⟨z,h'⟩
  ·simp_all
  simp_all
 ·obtain⟨s',h',r⟩:=st.fix i s h m;rcases oB h' with⟨rfl,rfl⟩|⟨z,h'⟩
  ·simp_all
  ·exact⟨s',h',r⟩
def eH.forget(ok:eH Γ H Z σV):eH Γ H (Z.set g none) σV:=by
 have up:∀{i:Nat} {s:Sl},(Z.set g none)[i]?=some (some s)->Z[i]?=some (some s):=λ{i s} h=>by
  rcases aP h with⟨z,a,_⟩|⟨z,a⟩;cases a;exact a
 exact⟨λi s e=>ok.rel i s (up e),λi j s t q n b c=>ok.dis i j s t q n (up b) (up c),λi s q e=>ok.own i s q (up e),λi s q e=>ok.par i s q (up e),ok.keep,ok.dom,by rw[Dx];exact ok.len⟩
noncomputable def Lg:D->Option Key
 |.int i=>some (.inl i)
 |.str x=>some (.inr x)
 |_=>none
def lT:List D->Option (List Key)
 |[]=>some []
 |d::r=>(Lg d).bind λk=>(lT r).bind λks=>some (k::ks)
def lE(h:lT l=some ks):l=ks.map iQ:=by
 induction l generalizing ks with
 |nil=>cases h;rfl
 | cons d r i=>
   obtain⟨k,a,h⟩:=aA h;obtain⟨ks,b,h⟩:=aA h;cases h;rw[Bm,← i b];cases d<;>cases a<;>rfl
def sE{ks:List Key}:Rps H (ks.map iQ) xs->xs=ks.map kV:=qR λk _ a=>by cases k<;>cases a<;>rfl
abbrev BZ:=List (List Key×List D)
noncomputable def wF(k:List Key)(v:D):BZ->BZ
 |[]=>[(k,[v])]
 |p::r=>if p.1=k then(p.1,p.2++[v])::r else p::wF k v r
inductive Aw(H:Hp)(n:Nat):BZ->List (List Key×V)->List Addr->Prop
 |nil:Aw H n [] [] []
 |cons {k:List Key} {vs:List D} {l:Addr} {xs:List V} {acc:BZ} {kvs:List (List Key×V)} {ls:List Addr}:H l=some (.lst xs)->Rps H vs xs->xs.length<=n->l∉ls->Aw H n acc kvs ls->Aw H n ((k,vs)::acc) ((k,.ref l)::kvs) (l::ls)
def Aw.keep(h:Aw H n acc kvs ls)(x:AX H H')(k:∀l∈ls,∀o,H l=some o->H' l=some o):Aw H' n acc kvs ls:=by
 induction h with
 |nil=>exact .nil
 |cons a b c d _ i=>exact .cons (k _ sT _ a) (b.mono x) c d (i λl e=>k l (Ah _ e))
def Aw.up(h:Aw H n acc kvs ls):Aw H (n+1) acc kvs ls:=by
 induction h with
 |nil=>exact .nil
 |cons a b c d _ i=>exact .cons a b (le_succ_of_le c) d i
def Aw.soft(h:Aw H n acc kvs ls):∀l∈ls,∃xs,H l=some (.lst xs):=by
 induction h with
 |nil=>simp
 |cons a _ _ _ _ i=>exact List.forall_mem_cons.mpr ⟨⟨_,a⟩,i⟩
def Aw.keys(h:Aw H n acc kvs ls):kvs.map (·.1)=acc.map (·.1):=by
 induction h with
 |nil=>rfl
 |cons _ _ _ _ _ i=>rw[Bm,Bm,i]
def Aw.len{H:Hp}{n:Nat}{acc:BZ}{kvs:List (List Key×V)}{ls:List Addr}(h:Aw H n acc kvs ls):kvs.length=acc.length:=by have:=Cq List.length h.keys;simp_all
def Aw.app(h:Aw H n acc kvs ls):iP kvs k=some v ->
  ∃l xs,v=.ref l/\l∈ls/\H l=some (.lst xs)/\xs.length<=n/\(Rp (gY H l (.lst (xs++[y]))) d y->AX H (gY H l (.lst (xs++[y])))->Aw (gY H l (.lst (xs++[y]))) (n+1) (wF k d acc) kvs ls):=by
 induction h with
 |nil=>intro h;cases h
 | @cons j _ l xs _ _ _ f g m a t i=>
   intro h;by_cases e:j=k;rw[eP e]at h;cases h;refine⟨l,xs,rfl,sT,f,m,λr x=>?_⟩;show Aw _ _ (if j=k then _ else _) _ _;rw[fI e];refine .cons aJ ((g.mono x).append (.cons r .nil)) (by simp_all) a (t.up.keep x λb hb o q=>?_);rw[aG (show b≠l from λz=>a (by simp_all))];exact q;rw[eQ e]at h;obtain⟨p,c,s,u,w,A,B⟩:=i h;refine⟨p,c,s,Ah _ u,w,A,λr x=>?_⟩;show Aw _ _ (if j=k then _ else _) _ _;rw[gX e];exact .cons (by rw[aG (show l≠p from λz=>a (by simp_all))];exact f) (g.mono x) (le_succ_of_le m) a (B r x)
def Aw.more(a:H l=some (.lst []))(g:Aw H n acc kvs ls)(h:l∉ls):Aw H n (acc++[(k,[])]) (kvs++[(k,.ref l)]) (ls++[l]):=by
 induction g with
 |nil=>exact .cons a .nil (sY _) (by simp) .nil
 |cons b c d e _ i=>exact .cons b c d (by intro z;simp_all) (i λz=>h (Ah _ z))
theorem vM:∀ {acc:BZ},k∉acc.map (·.1)->wF k d (acc++[(k,[])])=wF k d acc
 |[],_=>by simp[wF]
 | p::r,h=>by
   have e:¬p.1=k:=λz=>h (by simp[z]);show(if p.1=k then _ else _)=(if p.1=k then _ else _);rw[gX e,gX e];exact Cq (p :: ·) (vM λz=>h (by simp_all))
theorem Pk:∀ {kvs:List (List Key×V)},iP kvs k=none->k∉kvs.map (·.1)
 |[],_=>by simp
 | p::r,h=>by
   by_cases e:p.1=k;rw[eP e]at h;cases h
   ·rw[eQ e]at h;intro z;rcases Aj.mp z with z|z
    ·simp_all
    ·exact Pk h z
theorem Pl:∀ {kvs:List (List Key×V)},iP kvs k=none->iP (kvs++[(k,v)]) k=some v
 |[],_=>eP rfl
 | p::r,h=>by
   by_cases e:p.1=k;rw[eP e]at h;cases h;rw[eQ e]at h;rw[List.cons_append,eQ e];exact Pl h
section
open PyProof.Rows Spec
def JE(H:Hp)(a:Addr)(kvs:List (List Key×V)):Prop:=Rd H a (.dT kvs)\/Rd H a (.dK [])/\kvs=[]
def A3(ok:AA P w H h)(e:JE H a kvs):(a==sysModules)=false/\∃xs,KT H kvs xs/\h.DictOfH (tupleKind (bA P w)) a xs:=by
 rcases e with e|⟨e,rfl⟩;obtain⟨_,hd,xs,rel,c⟩:=GF ok e;exact⟨hd,xs,rel,c⟩;obtain⟨_,hd,vs,rel,c⟩:=GD ok e;cases rel;obtain⟨o,es,ep,d,hc,b,i,f,hn⟩:=c;have j:es.toList=[]:=DM f.length;exact⟨hd,[],.nil,o,es,ep,d,hc,b,by simp_all,λx g=>by simp at g,.nil⟩
def A4{Z:St}(c:A.units+1 < cLine)(I:dX X pins Z H s)(e:JE H a kvs)(d:H b=some (.tup (k.map kV)))(h:∀ s',dX X pins Z H s'->Q (.bool (iP kvs k).isSome) s') :
  wpAny (model X.prog X.w) A (compareOp .In (.ref b) (.ref a)) Q E s:=by
 obtain⟨hd,xs,rel,f⟩:=A3 I.hok e;refine wpAny_in_heap (tupleKind_room_in1 c) (uA I.hok d) hd f ?_;have q:=(rel.val k).isSome_eq;rw[isSome_map]at q;rw[← q];exact h _ (I.tok _)
def Pn:R2:=λx y H Q=>∃b k a kvs,x=.ref b/\H b=some (.tup (k.map kV))/\y=.ref a/\JE H a kvs/\Q (.bl (iP kvs k).isSome) H
def A5(c:X.A.units+1<cLine):Ak X (compareOp .In) Pn:=λpins s Z H x y u v Q I d e Z1=>by
 obtain⟨b,k,a,kvs,ex,f,g,h,q⟩:=Z1;subst ex g;obtain rfl:u=Value.ref b:=d;obtain rfl:v=Value.ref a:=e;exact A4 c I h f λj i=>⟨.bl (iP kvs k).isSome,H,i,rfl,q⟩
end
def Hq:List D->List D->List Key->Option (Option D)
 |[],[],_=>some none
 |.tup l::ks,v::vs,k=>(lT l).bind λj=>if j=k then some (some v)else Hq ks vs k
 |_,_,_=>none
def A6(h:Rps H vs (kvs.map (·.2)))(e:Hq (kvs.map λc=>D.tup (c.1.map iQ)) vs k=some r) :
  (r=none/\iP kvs k=none)\/∃d x,r=some d/\iP kvs k=some x/\Rp H d x:=by
 induction kvs generalizing vs with
 |nil=>cases h;cases e;exact .inl ⟨rfl,rfl⟩
 | cons p kvs i=>
   cases h with|cons a t=>
   obtain⟨j,g,e⟩:=aA e;have l:p.1=j:=by
    have:=lE g;have inj:∀{x y:List Key},x.map iQ=y.map iQ->x=y:=λ{x y} h=>by
     refine(List.map_inj_right (f:=iQ) λa b h=>?_).mp h;cases a<;>cases b<;>cases h<;>rfl
    exact inj this
   subst l;split at e;rename_i h;cases e;exact .inr ⟨_,_,rfl,eP h,a⟩;rename_i h;rw[eQ h];exact i t e
def Iz:F2:=λd e=>match d,e with
 |.tup l,.dic ks vs=>(lT l).bind λk=>(Hq ks vs k).bind λr=>some (.val (.bl r.isSome))
 |_,_=>none
def Lh(h:AM H (.dic ks vs) v):∃ a u ws,v=.ref a/\Rd H a u/\Jf u ks ws/\Rps H vs ws:=by
 rcases h with h|⟨p,rfl,u,ws,b,c,d⟩
 ·cases h with
  |dic b c d=>exact⟨_,_,_,rfl,.inr ⟨_,b⟩,c,d⟩
 ·exact⟨p,u,ws,rfl,.inl b,c,d⟩
def A7(h:AM H (.dic ks vs) v):∃a,v=.ref a/\GG H a:=by
 obtain⟨a,u,ws,rfl,b,c,_⟩:=Lh h;refine⟨a,rfl,?_⟩;cases u with
 |dK kvs=>exact .inl ⟨kvs,b⟩
 |dT kvs=>exact .inr (.inl ⟨kvs,b⟩)
 |dM kvs=>exact .inr (.inr ⟨kvs,b⟩)
 |_=>exact c.elim
def A8(h:AM H (.dic ks vs) v)(e:Hq ks vs k=some r):∃ a kvs,v=.ref a/\JE H a kvs/\((r=none/\iP kvs k=none)\/∃ d x,r=some d/\iP kvs k=some x/\Rp H d x):=by
 obtain⟨a,u,ws,rfl,f,b,c⟩:=Lh h;cases u with
 | dT kvs=>
   obtain⟨rfl,rfl⟩:=b;exact⟨a,kvs,rfl,.inl f,A6 c e⟩
 | dK kvs=>
   obtain⟨rfl,rfl⟩:=b;cases kvs with
   |nil=>cases c;cases e;exact⟨a,[],rfl,.inr ⟨f,rfl⟩,.inl ⟨rfl,rfl⟩⟩
   | cons p r=>
     obtain⟨j,_⟩:=p;cases c with
     |cons _ _=>cases j<;>cases e
 |dM kvs=>obtain⟨rfl,rfl⟩:=b;cases vs<;>cases e
 |_=>exact b.elim
def A9(h:AM H (.tup l) v)(e:lT l=some k):∃ b,v=.ref b/\H b=some (.tup (k.map kV)):=by
 rcases h with h|⟨p,rfl,h⟩
 ·cases h with
  |tup h r=>rw[lE e]at r;rw[sE r]at h;simp_all
 ·exact h.elim
def B0:oP Pn Iz:=by
 intro H d e v w Q res a b c k;unfold Iz at c;split at c;obtain⟨j,f,c⟩:=aA c;obtain⟨r,g,c⟩:=aA c;cases c;obtain⟨p,rfl,i⟩:=A9 a f;obtain⟨q,kvs,rfl,l,h⟩:=A8 b g;refine⟨p,j,q,kvs,rfl,i,rfl,l,?_⟩;rcases h with⟨rfl,h⟩|⟨d,x,rfl,h,_⟩;rw[h];exact k _ _ (λ_ _ h=>h) (.bl _);rw[h];exact k _ _ (λ_ _ h=>h) (.bl _);cases c
noncomputable def Li:D->Bool
 |.dic _ _=>true
 |_=>false
def IA:hQ->Option (List Key)
 |.val (.tup l)=>lT l
 |_=>none
noncomputable def Po:List D->Option D
 |[v]=>some v
 |_=>none
def Gd(row:Nat)(b:DE)(c:DA):List D->BZ->Sg->Option (BZ×Sg)
 |[],acc,Z=>some (acc,Z)
 |d::r,acc,Z=>(hC row d Z).bind λa=>(b a).bind λx=>(IA x.1).bind λk=>(c x.2).bind λy=>(vals y.1).bind λe=>(Po e).bind λv=>Gd row b c r (wF k v acc) y.2
def IB(acc:BZ):D:=.dic (acc.map λp=>.tup (p.1.map iQ)) (acc.map λp=>.lst p.2)
open Classical in
def Ge(g row:Nat)(ri:DI)(a:DE)(b:DA):DS:=λZ=>if Z[g]?=some none then(ri (Z.set g (some SG))).bind λx=>
 if x.2.1=none/\x.2.2[g]?=some (some SG)/\x.1.length<4000 then(Gd row a b x.1 [] (x.2.2.set g none)).bind λy=>some (.rt (.own (IB y.1)) (y.2.set g none))else none else none
def Lj(t:TE):TE:=λZ H Q=>t Z H λv a=>FQ (Q v) a
def B1(h:PE X e t):PE X e (Lj t):=λpins s Z H Q I q=>
 thn (h pins s Z H _ I q) λu s1 Z1=>by
  obtain⟨v,a,b,d,f⟩:=Z1;suffices ∀a,FQ (Q v) a->dX X pins Z a s1->∃v c,dX X pins Z c s1/\cE v u/\Q v c from this a f b
  intro a q b
  induction q with
  |done q=>exact⟨v,_,b,d,q⟩
  | step g i _ j=>
    obtain⟨o,k⟩:=MN b g i;exact j o k
def B2{ls:List Addr}(h:∀l∈ls,∃xs,H l=some (.lst xs))(nd:ls.Nodup)(q:∀H',(∀a,a∉ls->H' a=H a)->(∀l∈ls,∀xs,H l=some (.lst xs)->∃o,H' l=some (.frz o (.lst xs)))->Q H'):FQ Q H:=by
 induction ls generalizing H with
 |nil=>exact .done (q H (λ_ _=>rfl) λl h=>by simp at h)
 | cons l ls i=>
   obtain⟨xs,e⟩:=h l sT;obtain⟨n1,n2⟩:=CD.mp nd;have ne:∀b∈ls,b≠l:=λb hb z=>n1 (z▸hb);refine .step e True.intro λo=>i (λb hb=>?_) n2 λH' d f=>q H' (λa ha=>?_) λb hb ys c=>?_;obtain⟨ys,c⟩:=h b (Ah _ hb);exact⟨ys,by rw[aG (ne b hb)];exact c⟩;rw[d a λz=>ha (Ah _ z),aG (show a≠l from λz=>ha (by rw[z];exact sT))];rcases Aj.mp hb with rfl|hb;rw[e]at c;cases c;exact⟨o,by rw[d b n1,aJ]⟩;exact f b hb ys (by rw[aG (ne b hb)];exact c)
def Aw.nodup(h:Aw H n acc kvs ls):ls.Nodup:=by
 induction h with
 |nil=>exact .nil
 |cons _ _ _ h _ i=>exact CD.mpr ⟨h,i⟩
def Aw.rps(x:AX H H')(h:Aw H n acc kvs ls)(k:∀l∈ls,∀xs,H l=some (.lst xs)->∃o,H' l=some (.frz o (.lst xs))):Rps H' (acc.map λp=>.lst p.2) (kvs.map (·.2)):=by
 induction h with
 |nil=>exact .nil
 | cons a b _ _ _ i=>
   obtain⟨o,e⟩:=k _ sT _ a;exact .cons (.lst e (b.mono x)) (i λl c=>k l (Ah _ c))
theorem B3{Z:Sg}(h:Z[g]?=some x):Z.set g x=Z:=by
 apply Fy;intro i;by_cases z:i=g;subst z;rw[h,Bo (sS.mp h).1];rw[Ac (iA z)]
def Pp(ok:eH Γ H Z σV)(h:H p=none):¬zS Z σV p:=λz=>by
 obtain⟨o,e,_⟩:=ok.mutObj z;rw[h]at e;cases e
section
open PyProof.Rows Spec
def JF(H:Hp)(a:Addr)(kvs:List (Key×V)):Prop:=Rd H a (.dK kvs)\/Rd H a (.dT [])/\kvs=[]
def B4(ok:AA P w H h)(e:JF H a kvs):kvs.length<=sizeLine/\(a==sysModules)=false/\∃vs,KV kvs vs/\h.DictOf (bA P w) a vs:=by
 rcases e with e|⟨e,rfl⟩;exact GD ok e;obtain⟨_,hd,xs,rel,c⟩:=GF ok e;cases rel;obtain⟨o,es,ep,d,hc,b,f,i,hn⟩:=c;have g:es.toList=[]:=f;refine⟨sY _,hd,[],.nil,o,es,ep,d,hc,b,?_,?_,.nil⟩;intro e j;simp_all;rw[g];exact .nil
def B5{Z:St}(I:dX X pins Z H s)(e:JF H a kvs)(d:cE (kV k) u)(f:cE z r)(h:∀ b s',dX X pins Z H s'->cE ((iP kvs k).getD z) b->Q b s') :
  wpAny (model X.prog X.w) A (call (.builtin "dict.get") [.ref a,u,r]) Q E s:=by
 obtain⟨_,hd,vs,rel,c⟩:=B4 I.hok e;exact call_meetsIn F.slot_dict_get c.typeIs F.entry_dict_get (F.args_dict_get_3 _ _ _) (meets_dict_get_default (bA X.prog X.w) a (GC d) hd r) ⟨_,c.mapOf,h _ _ (I.tok _) ((rel.val k).getD f)⟩
def B6(d ty e:TE):TE:=λZ H Q=>d Z H λx b=>∃a,x=.ref a/\GG b a/\ty Z b λy f=>e Z f λz c=>∃kvs k,JF c a kvs/\y=kV k/\Q ((iP kvs k).getD z) c
def B7(i:PE X o b)(j:PE X e ty)(l:PE X f c)(m:M2 X o "get" apos e f cpos):PE X (.Call (.Attribute o "get" apos) [e,f] [] cpos) (B6 b ty c):=by
 intro pins s Z H Q I h;refine wpAny_Call_method m.base m.few m.line F.plainAttrs_dict F.slot_dict_get F.type_dict_get (thn (i pins s Z H _ I h) λu s1 h=>?_);obtain⟨x,n,g,p,a,ex,d,q⟩:=h;subst ex;obtain rfl:u=Value.ref a:=p;obtain⟨r,t,_⟩:=MG g d;refine⟨r,t,?_⟩;rw[m.trees];refine Calls.callWith_builtin rfl (Calls.evalArgs_plain (Calls.spliced_cons (thn (j pins s1 Z n _ g q) λN s2 h=>?_)));obtain⟨y,v,w,A,B⟩:=h;refine Calls.spliced_cons (thn (l pins s2 Z v _ w B) λπ P h=>Calls.spliced_nil ?_);obtain⟨z,C,D1,E,kvs,k,G,J,K⟩:=h;subst J;exact B5 D1 G A E λR S L M=>⟨_,C,L,M,K⟩
end
section
open PyProof.Rows W
structure Cm(M:Model)(A:Around)(s:Shared)(κ:SortKind)(G:Keyed->Prop)(c:Keyed->Keyed->Bool):Prop where
 lt:∀{x y:Keyed} {E:Value->Shared->Prop} {Q:Bool->Shared->Prop},G x->G y->Q (c x y) s->wpAny M A (keyLt' κ x.1 y.1) Q E s
 ir:∀x,c x x=false
 tr:∀{x y z},c x y=true->c y z=true->c x z=true
def IC{st:SortSt}(C:Cm M A s κ G c)(a:kindOf st=κ)(b:G x)(d:G y)(q:Q (some (c x y)) st):wpS M A E s (lt' x y) Q st:=by
 rw[lt'_eq];refine wpS_bind (wpS_get (wpS_bind (wpS_lift (Ee ?_))));rw[a];exact C.lt b d ⟨rfl,wpS_pure q⟩
def bG{st:SortSt}(h:a[i]?=some x)(q:Q x st):wpS M A E s (elem' a i) Q st:=by
 rw[elem'_eq,h];exact wpS_pure q
def lU{st:SortSt}(C:Cm M A s κ G c)(a:kindOf st=κ)(hi:(arrOf st)[i]?=some x)(hj:(arrOf st)[j]?=some y)(b:G x)(d:G y)(q:Q (some (c x y)) st):wpS M A E s (ltAt' i j) Q st:=by
 refine wpS_bind (wpS_get ?_);exact wpS_bind (bG hi (wpS_bind (bG hj (IC C a b d q))))
noncomputable def yE:Bool->Keyed->Array Keyed->Nat->Nat->Nat->StateT SortSt Sem (Option Nat):=sortPriv% PySem.Builtin.gallop
def B8{left:Bool}{st:SortSt}(C:Cm M A s κ G c)(J:kindOf st=κ)(be:Nat->Bool)
  (hb:∀i,i<n->∃x,z[base+i]?=some x/\G x/\be i=if left then c x p else !c p x) (K:G p) (hm:∀i j,i<=j->j<n->be j=true->be i=true) (B:hint<n)
  (q:∀k,k<=n->(∀i,i<k->be i=true)->(∀i,k<=i->i<n->be i=false)->Q (some k) st):wpS M A E s (yE left p z base n hint) Q st:=by
 have u:∀i j,i<=j->j<n->be i=false->be j=false:=λi j d h b=>by
  cases e:be j with
  |false=>rfl
  |true=>rw[hm i j d h e]at b;cases b
 have v:∀(i:Nat) (Q:Option Bool->SortSt->Prop),i<n->Q (some (be i)) st->wpS M A E s (do let x ← elem' z (base+i);if left then lt' x p else return (← lt' p x).map (!·)) Q st:=λi Q hi q=>by
  obtain⟨x,e,g,H⟩:=hb i hi;refine wpS_bind (bG e ?_);cases left with
  |true=>exact IC C J g K (by simp only[if_true]at H;rw[← H];exact q)
  |false=>exact wpS_bind (IC C J K g (wpS_pure (by simp at H;rw[H]at q;exact q)))
 refine wpS_bind (v hint _ B ?_);dsimp only;cases L:be hint
 case' true=>
  rw[fI rfl];refine wpS_bind (wpS_mono (wpS_forRange (λi (r:Option (Option Nat)×Nat×Nat) st'=>st=st'/\r.1=none/\r.2.1<r.2.2/\i<=r.2.1/\hint+r.2.1<n/\be (hint+r.2.1)=true)
   (Q:=λr st'=>st=st'/\r.1=none/\(∀i,i<hint+r.2.1+1->be i=true)/\(∀i,hint+min r.2.2 (n-hint)<=i->i<n->be i=false)/\hint+r.2.1+1<=hint+min r.2.2 (n-hint)/\hint+min r.2.2 (n-hint)<=n) ?_ ?_ ⟨rfl,rfl,Nat.zero_lt_one,hF _,B,L⟩) ?_)
  ·rintro i ⟨o,l,f⟩ st'-hi ⟨rfl,rfl,d,h,b,a⟩;dsimp only at d h b a ⊢;split;refine wpS_pure ⟨rfl,rfl,?_⟩;dsimp only;rw[show hint+min f (n-hint)=n by lia];exact⟨λi hi=>hm i _ (DV hi) b a,λi t w=>absurd t (Nat.not_le.mpr w),b,hF _⟩;refine wpS_bind (v (hint+f) _ (by simp_all +arith) ?_);dsimp only;cases y:be (hint+f)<;>refine wpS_pure ⟨rfl,rfl,?_⟩<;>dsimp only;rw[show hint+min f (n-hint)=hint+f by grind];exact⟨λi hi=>hm i _ (DV hi) b a,λi t w=>u (hint+f) i t w y,Nat.add_lt_add_left d _,by lia⟩;exact⟨by lia,by lia,by simp_all +arith,y⟩
  ·rintro⟨o,l,f⟩ st' ⟨rfl,rfl,d,h,b,a⟩;dsimp only at d h b a;lia
  rintro⟨o,l,f⟩ st' ⟨rfl,rfl,d,h,b,a⟩;dsimp only at d h b a ⊢;generalize hint+l+1=lo at d b ⊢;generalize hint+min f (n-hint)=hi at h b a ⊢
 case' false=>
  rw[gX (by decide)];refine wpS_bind (wpS_mono (wpS_forRange (λi (r:Option (Option Nat)×Nat×Nat) st'=>st=st'/\r.1=none/\r.2.1<r.2.2/\i<=r.2.1/\r.2.1<=hint/\be (hint-r.2.1)=false)
   (Q:=λr st'=>st=st'/\r.1=none/\(∀i,i<hint+1-min r.2.2 (hint+1)->be i=true)/\(∀i,hint-r.2.1<=i->i<n->be i=false)/\hint+1-min r.2.2 (hint+1)<=hint-r.2.1/\hint-r.2.1<=n) ?_ ?_ ⟨rfl,rfl,Nat.zero_lt_one,hF _,sY _,L⟩) ?_)
  ·rintro i ⟨o,l,f⟩ st'-hi ⟨rfl,rfl,d,h,b,a⟩;dsimp only at d h b a ⊢;split;refine wpS_pure ⟨rfl,rfl,?_⟩;dsimp only;rw[show hint+1-min f (hint+1)=0 by simp[*]];exact⟨λi hi=>absurd hi (FC _),λi t w=>u _ i t w a,sY _,AQ (sub_lt_of_lt B)⟩;refine wpS_bind (v (hint-f) _ (sub_lt_of_lt B) ?_);dsimp only;cases y:be (hint-f)<;>refine wpS_pure ⟨rfl,rfl,?_⟩<;>dsimp only;exact⟨by lia,by lia,by simp_all +arith,y⟩;rw[show hint+1-min f (hint+1)=hint-f+1 by grind];exact⟨λi hi=>hm i (hint-f) (DV hi) (sub_lt_of_lt B) y,λi t w=>u _ i t w a,by grind,AQ (sub_lt_of_lt B)⟩
  ·rintro⟨o,l,f⟩ st' ⟨rfl,rfl,d,h,b,a⟩;dsimp only at d h b a;lia
  rintro⟨o,l,f⟩ st' ⟨rfl,rfl,d,h,b,a⟩;dsimp only at d h b a ⊢;generalize hint+1-min f (hint+1)=lo at d b ⊢;generalize hint-l=hi at h b a ⊢
 all_goals
  refine wpS_bind (wpS_mono (wpS_forRange (λi (r:Option (Option Nat)×Nat×Nat) st'=>st=st'/\r.1=none/\(∀i,i<r.2.1->be i=true)/\(∀i,r.2.2<=i->i<n->be i=false)/\r.2.1<=r.2.2/\r.2.2<=n/\r.2.2+i<=n+r.2.1)
   (Q:=λr st'=>st=st'/\r.1=none/\(∀i,i<r.2.1->be i=true)/\(∀i,r.2.2<=i->i<n->be i=false)/\r.2.1=r.2.2/\r.2.2<=n) ?_ ?_ ⟨rfl,rfl,d,h,b,a,by dsimp only;lia⟩) ?_)
  ·rintro i ⟨o,l,f⟩ st'-hi ⟨rfl,rfl,d,h,b,a,F⟩;dsimp only at d h b a F ⊢;split;exact wpS_pure ⟨rfl,rfl,d,h,by dsimp only;lia,a⟩;have I:=le_add_right l ((f-l) / 2);have D1:l+(f-l) / 2<f:=by grind
   generalize l+(f-l) / 2=m at I D1 ⊢;refine wpS_bind (v _ _ (Ax D1 a) ?_);dsimp only;cases y:be m<;>refine wpS_pure ⟨rfl,rfl,?_⟩<;>dsimp only;exact⟨d,λi t w=>u _ i t w y,I,oT (AQ D1) a,oT (Nat.add_lt_add_right D1 i) F⟩;exact⟨λi t=>hm i _ (DV t) (Ax D1 a) y,h,D1,a,succ_le_succ (oT F (add_le_add_left I n))⟩
  ·rintro⟨o,l,f⟩ st' ⟨rfl,rfl,d,h,b,a,F⟩;exact⟨rfl,rfl,d,h,by dsimp only at b a F ⊢;lia,a⟩
  rintro⟨o,l,f⟩ st' ⟨rfl,rfl,d,h,b,a⟩;dsimp only at d h b a ⊢;subst b;exact wpS_pure (q _ a d h)
abbrev Ag(c:Keyed->Keyed->Bool)(l:List Keyed):Prop:=l.Pairwise λx y=>c x y=true
structure Mg(c:Keyed->Keyed->Bool)(la lb out:List Keyed)(i j:Nat):Prop where
 pm:out.Perm (la.take i++lb.take j)
 so:Ag c out
 le:∀o∈out,∀x∈la.drop i++lb.drop j,c o x=true
 hi:i<=la.length
 hj:j<=lb.length
def Rs(c:Keyed->Keyed->Bool)(la lb l:List Keyed):Prop:=l.Perm (la++lb)/\Ag c l
def Mg.len{c:Keyed->Keyed->Bool}{la:List Keyed}{lb:List Keyed}{out:List Keyed}{i:Nat}{j:Nat}(m:Mg c la lb out i j):out.length=i+j:=by
 have:=m.pm.length_eq;have:=m.hi;have:=m.hj;simp at *;simp[*]
theorem Mg.symm{c:Keyed->Keyed->Bool}{la:List Keyed}{lb:List Keyed}{out:List Keyed}{i:Nat}{j:Nat}(m:Mg c la lb out i j):Mg c lb la out j i:=
 ⟨m.pm.trans List.perm_append_comm,m.so,λo b x a=>m.le o b x (by simp at a ⊢;exact a.symm),m.hj,m.hi⟩
def Mg.left(m:Mg c la lb out i j)(sa:Ag c la)(d:i+k<=la.length)(h:∀x∈(la.drop i).take k,∀y∈lb.drop j,c x y=true):Mg c la lb (out++(la.drop i).take k) (i+k) j:=by
 have s1:Ag c ((la.drop i).take k++(la.drop i).drop k):=by rw[take_append_drop];exact sa.sublist (List.drop_sublist _ _)
 obtain⟨s2,f,e⟩:=List.pairwise_append.mp s1;refine⟨?_,List.pairwise_append.mpr ⟨m.so,s2,λo a x b=>m.le o a x (Au.mpr (.inl (CW b)))⟩,λo a x b=>?_,d,m.hj⟩;rw[take_add];refine(m.pm.append_right _).trans ?_;rw[append_assoc,append_assoc];exact append_left _ List.perm_append_comm;rw[Au]at b a;rcases a with a|a;refine m.le o a x (Au.mpr (b.imp (λz=>?_) id));rw[← drop_drop]at z;exact mem_of_mem_drop z;rcases b with b|b;exact e o a x (by rw[drop_drop];exact b);exact h o a x b
def Mg.right(m:Mg c la lb out i j)(sb:Ag c lb)(a:j+k<=lb.length)(h:∀x∈(lb.drop j).take k,∀y∈la.drop i,c x y=true):Mg c la lb (out++(lb.drop j).take k) i (j+k):=(m.symm.left sb a h).symm
def Mg.done(m:Mg c la lb out i j)(sa:Ag c la)(sb:Ag c lb)(h:i=la.length\/j=lb.length):Rs c la lb (out++la.drop i++lb.drop j):=by
 rcases h with rfl|rfl;have:=m.right sb (k:=lb.length-j) (by have:=m.hj;simp[*]) (λx _ y a=>by simp at a);have e:(lb.drop j).take (lb.length-j)=lb.drop j:=CC (by simp);rw[e]at this;refine⟨?_,?_⟩;have p:=this.pm;rw[CC (l:=lb) (by lia),take_length]at p;simpa using p;simpa using this.so;have:=m.left sa (k:=la.length-i) (by have:=m.hi;simp[*]) (λx _ y a=>by simp at a);have e:(la.drop i).take (la.length-i)=la.drop i:=CC (by simp);rw[e]at this;refine⟨?_,?_⟩;have p:=this.pm;rw[CC (l:=la) (by lia),take_length]at p;simpa using p;simpa using this.so
def Mg.last(m:Mg c la lb out i j)(sa:Ag c la)(sb:Ag c lb)(h:i+1=la.length)(d:∀x∈la.drop i,∀y∈lb,c y x=true):Rs c la lb (out++lb.drop j++la.drop i):=by
 have a:=m.right sb (k:=lb.length-j) (by have:=m.hj;simp[*]) (λx f y g=>d y g x (mem_of_mem_drop (CW f)));have e:(lb.drop j).take (lb.length-j)=lb.drop j:=CC (by simp);rw[e]at a;have b:j+(lb.length-j)=lb.length:=by have:=m.hj;simp[*]
 have:=a.done sa sb (.inr b);rw[b,drop_length,Dw]at this;exact this
def jF{l:List Keyed}(h:l[i]?=some x):l.drop i=x::l.drop (i+1):=by
 obtain⟨a,rfl⟩:=sS.mp h;exact drop_eq_getElem_cons a
def lF(h:l[i]?=some x)(s:Ag c l):∀y∈l.drop i,y=x\/c x y=true:=by
 have:=s.sublist (List.drop_sublist i l);rw[jF h]at this ⊢;exact λy a=>(Aj.mp a).imp id λz=>(Eh.mp this).1 y z
noncomputable def B9:Array Keyed->Array Keyed->StateT SortSt Sem (Array Keyed):=sortPriv% PySem.Builtin.mergeLo
noncomputable def C0:Nat->StateT SortSt Sem Unit:=sortPriv% PySem.Builtin.setMinGallop
structure Ai(st st':SortSt):Prop where
 k:kindOf st'=kindOf st
 a:arrOf st'=arrOf st
 p:pendingOf st'=pendingOf st
 f:failedOf st'=failedOf st
def Ai.rfl'{st:SortSt}:Ai st st:=⟨rfl,rfl,rfl,rfl⟩
theorem Ai.trans{a b d:SortSt}(x:Ai a b)(y:Ai b d):Ai a d:=⟨y.k.trans x.k,y.a.trans x.a,y.p.trans x.p,y.f.trans x.f⟩
def lG{st:SortSt}(q:∀st',Ai st st'->Q () st'):wpS M A E s (C0 g) Q st:=wpS_modify (q _ ⟨rfl,rfl,rfl,rfl⟩)
theorem Cm.as(C:Cm M A s κ G c)(h:c x y=true):c y x=false:=by
 cases e:c y x with
 |false=>rfl
 |true=>have:=C.tr h e;rw[C.ir]at this;lia
def pA{a:Array Keyed}(h:i<a.size):∃x,a[i]?=some x/\a.toList[i]?=some x/\x∈a.toList:=⟨a[i],by simp,by simp,by simp⟩
def lH{l:List Keyed}(h:x∈(l.drop i).take k):∃j,j<k/\l[i+j]?=some x:=by
 obtain⟨j,hj⟩:=getElem?_of_mem h;rw[getElem?_take]at hj;split at hj;rename_i a;rw[getElem?_drop]at hj;exact⟨j,a,hj⟩
 lia
def sF{l:List Keyed}(h:x∈l.drop i):∃j,i<=j/\j<l.length/\l[j]?=some x:=by
 obtain⟨j,hj⟩:=getElem?_of_mem h;rw[getElem?_drop]at hj;exact⟨i+j,by lia,(sS.mp hj).1,hj⟩
def yF{st:SortSt}(C:Cm M A s κ G c)(w:kindOf st=κ)(z:(a.toList.drop b).take n=L)(hn:L.length=n)(B:∀ x∈L,G x)(D1:G key)(F:Ag c L)
  (hd:∀x∈L,c x key=true\/c key x=true) (H:hint<n) (q:∀k,k<=n->(∀x∈L.take k,c x key=true)->(∀x∈L.drop k,c key x=true)->Q (some k) st):wpS M A E s (yE left key a b n hint) Q st:=by
 have I:∀x∈L,(if left=true then c x key else !c key x)=c x key:=λx d=>by
  cases left with
  |true=>rfl
  |false=>rcases hd x d with e|e<;>simp[e,C.as e]
 have f:∀i,i<n->∃x,a[b+i]?=some x/\L[i]?=some x/\x∈L:=λi hi=>by
  obtain⟨x,d⟩:∃x,L[i]?=some x:=⟨L[i],by simp[hn,hi]⟩;refine⟨x,?_,d,AV d⟩;rw[← z,getElem?_take,fI hi,getElem?_drop]at d;simpa using d
 refine B8 C w (λi=>match L[i]? with|some x=>c x key|none=>false) (λi hi=>?_) D1 (λi j m o g=>?_) H λk m o g=>q k m (λx d=>?_) λx d=>?_
 ·obtain⟨x,u,h,p⟩:=f i hi;exact⟨x,u,B x p,by simp only[h];exact(I x p).symm⟩
 ·obtain⟨x,u,h,p⟩:=f i (by lia);obtain⟨y,P,l,R⟩:=f j o;simp only[h,l]at g ⊢;rcases Nat.eq_or_lt_of_le m with e|e;subst e;rw[h]at l;cases l;exact g;obtain⟨J,K⟩:=sS.mp h;obtain⟨N,π⟩:=sS.mp l;have:=List.pairwise_iff_getElem.mp F i j J N e;rw[K,π]at this;exact C.tr this g
 ·obtain⟨j,r,t⟩:=lH (i:=0) (by rw[drop_zero];exact d);rw[Bq]at t;have:=o j r;simp only[t]at this;exact this
 ·obtain⟨j,r,t,v⟩:=sF d;have:=g j r (by simp_all);simp only[v]at this;rcases hd x (AV v)with e|e;rw[e]at this;cases this;exact e
def JG{st:SortSt}(C:Cm M A s κ G c)(j:kindOf st=κ)(l:∀ x∈a.toList,G x)(m:G d)(sa:Ag c a.toList)
  (hd:∀x∈a.toList,c x d=true\/c d x=true) (hb:b+n<=a.size) (o:hint<n)
  (q:∀k,k<=n->(∀i x,i<k->a.toList[b+i]?=some x->c x d=true)->(∀i x,k<=i->i<n->a.toList[b+i]?=some x->c d x=true)->Q (some k) st):wpS M A E s (yE left d a b n hint) Q st:=by
 have g:∀x∈(a.toList.drop b).take n,x∈a.toList:=λx f=>mem_of_mem_drop (CW f);have gt:∀i x,i<n->a.toList[b+i]?=some x->((a.toList.drop b).take n)[i]?=some x:=λi x h e=>by rw[getElem?_take,fI h,getElem?_drop];exact e
 refine yF C j rfl (by simp;lia) (λx f=>l x (g x f)) m (sa.sublist ((take_sublist _ _).trans (List.drop_sublist _ _))) (λx f=>hd x (g x f)) o λk p r t=>q k p (λi x hi f=>r x ?_) λi x hi u f=>t x ?_;have:=gt i x (by lia) f;exact AV (i:=i) (by rw[getElem?_take,fI hi];exact this);have:=gt i x u f;exact AV (i:=i-k) (by rw[getElem?_drop,show k+(i-k)=i by simp[*]];exact this)
def jP{l:List Keyed}(h:l[i]?=some x):(l.drop i).take 1=[x]:=by rw[jF h];rfl
def gF{a:Array Keyed}:(a.extract i j).toList=(a.toList.drop i).take (j-i):=by simp
def sG{a:Array Keyed}:(a.extract i a.size).toList=a.toList.drop i:=by
 rw[gF];exact CC (by simp)
def kB{Q:a->SortSt->Prop}{st:SortSt}[Decidable p](h:wpS M A E s m Q st)(h':wpS M A E s m' Q st):wpS M A E s (if p then m else m') Q st:=by
 by_cases e:p
 ·simp_all
 simp_all
def jG{Q:a->SortSt->Prop}{st:SortSt}[Decidable p](h':¬p->wpS M A E s y Q st)(h:p->wpS M A E s x Q st):wpS M A E s (if p then x else y) Q st:=by
 by_cases e:p;rw[fI e];exact h e;rw[gX e];exact h' e
def eI{i j:Nat}{Q:a->SortSt->Prop}{st:SortSt}(h:i=j->wpS M A E s x Q st)(h':¬i=j->wpS M A E s y Q st):wpS M A E s (if(i==j)=true then x else y) Q st:=jG (λe=>h' λz=>e (Ef.mpr z)) λe=>h (Ef.mp e)
def Pq{a b:Type}{x y:StateT SortSt Sem a}{J:b->StateT SortSt Sem a}{Q:a->SortSt->Prop}{st:SortSt}[Decidable p](u v:b)(e:y=J u)(c:x=J v)(h:∀g,wpS M A E s (J g) Q st):wpS M A E s (if p then x else y) Q st:=jG (λ_=>e▸h u) λ_=>c▸h v
def sH{a b c:Type}{x y:StateT SortSt Sem a}{J:b->c->StateT SortSt Sem a}{Q:a->SortSt->Prop}{st:SortSt}[Decidable p](P:b->c->Prop)(u:b)(v:c)(e:y=J u v)(h:∀u v,P u v->wpS M A E s (J u v) Q st)(n:¬p->P u v)(k:(∀u v,P u v->wpS M A E s (J u v) Q st)->p->wpS M A E s x Q st):wpS M A E s (if p then x else y) Q st:=jG (λz=>e▸h u v (n z)) (k h)
def C1{a b:Type}{x y:StateT SortSt Sem a}{J:b->StateT SortSt Sem a}{Q:a->SortSt->Prop}{st:SortSt}[Decidable p](P:b->SortSt->Prop)(u:b)(e:y=J u)(h:∀v t,P v t->wpS M A E s (J v) Q t)(n:¬p->P u st)(k:(∀v t,P v t->wpS M A E s (J v) Q t)->p->wpS M A E s x Q st):wpS M A E s (if p then x else y) Q st:=jG (λz=>e▸h u st (n z)) (k h)
def Pr{f g i j k:Type}{P:f×g×i×j×k->Prop}(h:∀a b c d e,P (a,b,c,d,e))(r:f×g×i×j×k):P r:=h r.1 r.2.1 r.2.2.1 r.2.2.2.1 r.2.2.2.2
def JH{g i j k l m:Type}{P:g×i×j×k×l×m->Prop}(h:∀a b c d e f,P (a,b,c,d,e,f))(r:g×i×j×k×l×m):P r:=h r.1 r.2.1 r.2.2.1 r.2.2.2.1 r.2.2.2.2.1 r.2.2.2.2.2
def JI{i j k l m n o:Type}{P:i×j×k×l×m×n×o->Prop}(h:∀a b c d e f g,P (a,b,c,d,e,f,g))(r:i×j×k×l×m×n×o):P r:=h r.1 r.2.1 r.2.2.1 r.2.2.2.1 r.2.2.2.2.1 r.2.2.2.2.2.1 r.2.2.2.2.2.2
def C2{st:SortSt}(C:Cm M A s κ G c)(hk:kindOf st=κ)(ga:∀ x∈a.toList,G x)(gb:∀ x∈b.toList,G x)(sa:Ag c a.toList)(sb:Ag c b.toList)
  (hd:∀x∈a.toList,∀y∈b.toList,c x y=true\/c y x=true) (h1:1<=a.size) (h2:1<=b.size) (hf:∀y∈b.toList.take 1,∀x∈a.toList,c y x=true) (hl:∀x∈a.toList.drop (a.size-1),∀y∈b.toList,c y x=true)
  (q:∀r st',Ai st st'->Rs c a.toList b.toList r.toList->Q r st'):wpS M A E s (B9 a b) Q st:=by
 have la:a.toList.length=a.size:=rfl;have lb:b.toList.length=b.size:=rfl;obtain⟨b0,hb0,hb1,hb2⟩:=pA (a:=b) (i:=0) h2;have t1:b.toList.take 1=[b0]:=by have:=jP hb1;rwa[drop_zero]at this
 have m0:Mg c a.toList b.toList [b0] 0 1:=by
  have:=(Mg.mk (c:=c) (la:=a.toList) (lb:=b.toList) (out:=[]) (i:=0) (j:=0) (by simp) .nil (λ_ h=>by simp at h) (zero_le _) (zero_le _)).right sb (k:=1) (by omega) (by rw[drop_zero,drop_zero];exact hf);rwa[drop_zero,t1]at this
 have dn:∀{o:Array Keyed} {i j:Nat},Mg c a.toList b.toList o.toList i j->(i=a.size\/j=b.size)->Rs c a.toList b.toList (o++a.extract i a.size++b.extract j b.size).toList:=λ{o i j} m h=>by
  rw[toList_append,toList_append,sG,sG];exact m.done sa sb h
 have ls:∀{o:Array Keyed} {i j:Nat},Mg c a.toList b.toList o.toList i j->i+1=a.size->Rs c a.toList b.toList (o++b.extract j b.size++a.extract i a.size).toList:=λ{o i j} m h=>by
  rw[toList_append,toList_append,sG,sG];exact m.last sa sb h (by rw[show i=a.size-1 by lia];exact hl)
 have pa:∀{o:Array Keyed} {i j:Nat} {x:Keyed},Mg c a.toList b.toList o.toList i j->a.toList[i]?=some x->(∀y∈b.toList.drop j,c x y=true)->Mg c a.toList b.toList (o.push x).toList (i+1) j:=λ{o i j x} m L h=>by
  have:=m.left sa (k:=1) (sS.mp L).1 (by rw[jP L];intro z D1;cases Aq.mp D1;exact h);rwa[jP L,← EL]at this
 have pb:∀{o:Array Keyed} {i j:Nat} {x:Keyed},Mg c a.toList b.toList o.toList i j->b.toList[j]?=some x->(∀y∈a.toList.drop i,c x y=true)->Mg c a.toList b.toList (o.push x).toList i (j+1):=λ{o i j x} m L h=>by
  have:=m.right sb (k:=1) (sS.mp L).1 (by rw[jP L];intro z D1;cases Aq.mp D1;exact h);rwa[jP L,← EL]at this
 refine wpS_bind (wpS_lift (BJ ⟨rfl,?_⟩));refine wpS_bind (bG hb0 (eI (λn1=>wpS_pure (q _ _ .rfl' (dn m0 (.inr n1)))) λn1=>eI (λn2=>wpS_pure (q _ _ .rfl' (ls m0 n2))) λn2=>?_));refine wpS_bind (wpS_get ?_);refine wpS_bind (wpS_mono (wpS_forRange (λi (r:Option (Array Keyed)×Array Keyed×Nat×Nat×Nat) st'=>Ai st st'/\r.1=none/\Mg c a.toList b.toList r.2.1.toList r.2.2.1 r.2.2.2.1/\r.2.2.1+1<a.size/\r.2.2.2.1<b.size/\i+1<=r.2.1.size)
  (Q:=λr st'=>Ai st st'/\∃o,r.1=some o/\Rs c a.toList b.toList o.toList) ?_ ?_ ⟨.rfl',rfl,m0,by dsimp only;lia,by dsimp only;lia,hF _⟩) ?_)
 ·refine λn=>Pr λo out F B m st1 _ hn W=>AU λI=>?_;obtain⟨l1,-,mg,p,f,w⟩:=W;dsimp only at mg p f w;refine I (wpS_bind (wpS_mono (wpS_forRange (λi (r:Option (Array Keyed)×Array Keyed×Nat×Nat×Nat×Nat) st'=>Ai st st'/\r.1=none/\Mg c a.toList b.toList r.2.1.toList r.2.2.1 r.2.2.2.1/\r.2.2.1+1 < a.size/\r.2.2.2.1 < b.size/\n+1+i<=r.2.1.size)
   (Q:=λr st'=>Ai st st'/\((r.1=none/\Mg c a.toList b.toList r.2.1.toList r.2.2.1 r.2.2.2.1/\r.2.2.1+1<a.size/\r.2.2.2.1<b.size/\n+2<=r.2.1.size)\/∃o,r.1=some o/\Rs c a.toList b.toList o.toList)) ?_ ?_ ⟨l1,rfl,mg,p,f,w⟩) ?_))
  ·refine λi=>JH λo out F B ac bc N _ hi W=>AU λI=>?_;obtain⟨l2,-,mg,p,f,w⟩:=W;dsimp only at mg p f w;obtain⟨y,π,P,R⟩:=pA (a:=b) f;obtain⟨x,S,T,U⟩:=pA (a:=a) (show F < a.size by lia);refine I (wpS_bind (bG π (wpS_bind (bG S (wpS_bind (IC C (l2.k.trans hk) (gb y R) (ga x U) (jG (λe=>?_) λe=>?_)))))))
   ·have e':c x y=true:=(hd x U y R).resolve_right e;have l:=pa mg T (λz D1=>(lF P sb z D1).elim (λh=>h▸e') (C.tr e'));have X:n+1+i<(out.push x).size:=by rw[size_push];exact lt_succ_of_le w
    exact wpS_bind (bG S (eI (λJ=>wpS_pure ⟨l2,.inr ⟨_,rfl,ls l J⟩⟩) λJ=>kB (wpS_pure ⟨l2,.inl ⟨rfl,l,lt_of_le_of_ne p J,f,oT (by simp) X⟩⟩) (wpS_pure ⟨l2,rfl,l,lt_of_le_of_ne p J,f,X⟩)))
   ·have l:=pb mg P (λz D1=>(lF T sa z D1).elim (λh=>h▸e) (C.tr e));have X:n+1+i<(out.push y).size:=by rw[size_push];exact lt_succ_of_le w
    exact wpS_bind (bG π (eI (λJ=>wpS_pure ⟨l2,.inr ⟨_,rfl,dn l (.inr J)⟩⟩) λJ=>kB (wpS_pure ⟨l2,.inl ⟨rfl,l,p,lt_of_le_of_ne f J,oT (by simp) X⟩⟩) (wpS_pure ⟨l2,rfl,l,p,lt_of_le_of_ne f J,X⟩)))
  ·rintro⟨o,out,F,B,ac,bc⟩ N ⟨l2,rfl,mg,p,f,w⟩;have:=mg.len;dsimp only at mg p f w this;simp at this w;lia
  refine JH λo out F B ac bc N W=>AU λI=>?_;obtain⟨l2,⟨rfl,mg,p,f,w⟩|⟨r,rfl,hr⟩⟩:=W
  case inr=>exact I (wpS_pure ⟨l2,r,rfl,hr⟩)
  dsimp only at mg p f w;refine I (wpS_bind (wpS_lift (BJ ⟨rfl,?_⟩)));refine wpS_bind (wpS_mono (wpS_forRange (λi (r:Option (Array Keyed)×Array Keyed×Nat×Nat×Nat×Nat×Nat) st'=>Ai st st'/\r.1=none/\Mg c a.toList b.toList r.2.1.toList r.2.2.1 r.2.2.2.1/\r.2.2.1+1<a.size/\r.2.2.2.1<b.size/\n+2+i<=r.2.1.size)
   (Q:=λr st'=>Ai st st'/\((r.1=none/\Mg c a.toList b.toList r.2.1.toList r.2.2.1 r.2.2.2.1/\r.2.2.1+1<a.size/\r.2.2.2.1<b.size/\n+2<=r.2.1.size)\/∃o,r.1=some o/\Rs c a.toList b.toList o.toList)) ?_ ?_ ⟨l2,rfl,mg,p,f,w⟩) ?_)
  ·refine λi=>JI λo out F B m ac bc N _ hi W=>AU λI=>?_;obtain⟨l2,-,mg,p,f,w⟩:=W;dsimp only at mg p f w;obtain⟨y,π,P,R⟩:=pA (a:=b) f;have x0:=Nat.lt_of_succ_lt p;refine I ?_;dsimp only;apply Pq m (m-1);rfl;rfl
   intro g;refine(wpS_bind (lG λst3 K=>wpS_bind (bG π (wpS_bind (JG C ((l2.trans K).k.trans hk) ga (gb y R) sa (λx L=>hd x L y R) (b:=F) (n:=a.size-F) (le_of_eq (Nat.add_sub_of_le (AQ x0))) (Nat.sub_pos_of_lt x0) λk k1 k2 k3=>?_)))))
   replace K:=l2.trans K
   have f2:∀z∈a.toList.drop (F+k),c y z=true:=λz D1=>by
    obtain⟨j,j1,j2,j3⟩:=sF D1;obtain⟨d,rfl⟩:=exists_eq_add_of_le j1;rw[add_assoc]at j2 j3;exact k3 _ z (le_add_right _ _) (Nat.lt_sub_of_add_lt (by rw[add_comm];exact j2)) j3
   apply sH (λt ia1=>Mg c a.toList b.toList t.toList ia1 B/\n+2+i<=t.size/\(∀z∈a.toList.drop ia1,c y z=true)/\ia1+1<a.size) out F;rfl
   ·refine λt ia1 Y=>AU λI=>?_;obtain⟨l,X,f2,p⟩:=Y;obtain⟨x,S,T,U⟩:=pA (a:=a) (Nat.lt_of_succ_lt p);have V1:=pb l P f2;have x5:n+2+i < (t.push y).size:=by rw[size_push];exact lt_succ_of_le X
    replace f:B+1<=b.size:=f
    refine I (wpS_bind (bG π (eI (λe4=>wpS_pure ⟨K,.inr ⟨_,rfl,dn V1 (.inr e4)⟩⟩) λe4=>?_)));generalize t.push y=t at V1 x5 ⊢;generalize B+1=B at V1 e4 f ⊢
    replace f:=lt_of_le_of_ne f e4
    refine wpS_bind (bG S (wpS_bind (JG C (K.k.trans hk) gb (ga x U) sb (λz D1=>(hd x U z D1).symm) (b:=B) (n:=b.size-B) (le_of_eq (Nat.add_sub_of_le (AQ f))) (Nat.sub_pos_of_lt f) λj j1 j2 j3=>?_)));have f4:∀z∈b.toList.drop (B+j),c x z=true:=λz D1=>by
     obtain⟨v,v1,v2,v3⟩:=sF D1;obtain⟨d,rfl⟩:=exists_eq_add_of_le v1;rw[add_assoc]at v2 v3;exact j3 _ z (le_add_right _ _) (Nat.lt_sub_of_add_lt (by rw[add_comm];exact v2)) v3
    apply sH (λH ib2=>Mg c a.toList b.toList H.toList ia1 ib2/\n+2+i<H.size/\(∀z∈b.toList.drop ib2,c x z=true)/\ib2<b.size) t B;rfl
    ·intro H ib2 Y;have σ:=pa Y.1 T Y.2.2.1;have x6:n+2+i+1<(H.push x).size:=by rw[size_push];exact Nat.succ_lt_succ Y.2.1
     exact wpS_bind (bG S (eI (λe6=>wpS_pure ⟨K,.inr ⟨_,rfl,ls σ e6⟩⟩) λe6=>kB (wpS_pure ⟨K,.inl ⟨rfl,σ,lt_of_le_of_ne p e6,Y.2.2.2,oT (by lia) x6⟩⟩) (wpS_pure ⟨K,rfl,σ,lt_of_le_of_ne p e6,Y.2.2.2,AQ x6⟩)))
    ·exact λhj0=>⟨V1,x5,by rw[Nat.eq_zero_of_not_pos hj0]at f4;exact f4,f⟩
    ·intro key hj0;have mg4:Mg c a.toList b.toList (t++b.extract B (B+j)).toList ia1 (B+j):=by
      rw[toList_append,gF,add_sub_cancel_left];refine V1.right sb (Nat.add_le_of_le_sub' (AQ f) j1) λz D1 u hu=>?_;obtain⟨v,v1,v2⟩:=lH D1;have:=j2 v z v1 v2;exact(lF T sa u hu).elim (λh=>h▸this) (C.tr this)
     exact eI (λe5=>wpS_pure ⟨K,.inr ⟨_,rfl,dn mg4 (.inr e5)⟩⟩) λe5=>key _ _ ⟨mg4,by rw[size_append];exact Ax x5 (le_add_right _ _),f4,lt_of_le_of_ne mg4.hj e5⟩
   ·exact λhk0=>⟨mg,w,by rw[Nat.eq_zero_of_not_pos hk0]at f2;exact f2,p⟩
   ·intro key hk0;have l:Mg c a.toList b.toList (out++a.extract F (F+k)).toList (F+k) B:=by
     rw[toList_append,gF,add_sub_cancel_left];refine mg.left sa (Nat.add_le_of_le_sub' (AQ x0) k1) λx L z D1=>?_;obtain⟨j,j1,j2⟩:=lH L;have:=k2 j x j1 j2;exact(lF P sb z D1).elim (λh=>h▸this) (C.tr this)
    exact eI (λJ=>wpS_pure ⟨K,.inr ⟨_,rfl,ls l J⟩⟩) λJ=>eI (λe3=>wpS_pure ⟨K,.inr ⟨_,rfl,dn l (.inl e3)⟩⟩) λe3=>key _ _ ⟨l,by rw[size_append];exact oT w (le_add_right _ _),f2,lt_of_le_of_ne (lt_of_le_of_ne l.hi e3) J⟩
  ·rintro⟨o,out,F,B,m,ac,bc⟩ N ⟨l2,rfl,mg,p,f,w⟩;have:=mg.len;dsimp only at mg p f w this;simp at this w;lia
  refine JI λo out F B m ac bc N W=>AU λI=>?_;obtain⟨l2,⟨rfl,mg,p,f,w⟩|⟨r,rfl,hr⟩⟩:=W;exact I (wpS_bind (lG λst3 K=>wpS_pure ⟨l2.trans K,rfl,mg,p,f,w⟩));exact I (wpS_pure ⟨l2,r,rfl,hr⟩)
 ·rintro⟨o,out,F,B,m⟩ st1 ⟨l1,rfl,mg,p,f,w⟩;have:=mg.len;dsimp only at mg p f w this;simp at this w;lia
 ·rintro⟨o,out,F,B,m⟩ st1 ⟨l1,r,rfl,hr⟩;exact wpS_pure (q _ _ l1 hr)
structure Wh(c:Keyed->Keyed->Bool)(a b out:Array Keyed)(na nb:Nat):Prop where
 m:Mg (λx y=>c y x) b.toList.reverse a.toList.reverse out.toList (b.size-nb) (a.size-na)
 ha:na<=a.size
 hb:nb<=b.size
theorem Wh.symm{c:Keyed->Keyed->Bool}{a:Array Keyed}{b:Array Keyed}{out:Array Keyed}{na:Nat}{nb:Nat}(w:Wh c a b out na nb):Wh c b a out nb na:=⟨w.m.symm,w.hb,w.ha⟩
theorem Wh.len{c:Keyed->Keyed->Bool}{a:Array Keyed}{b:Array Keyed}{out:Array Keyed}{na:Nat}{nb:Nat}(w:Wh c a b out na nb):out.size+na+nb=a.size+b.size:=by
 have:=w.m.len;have:=w.ha;have:=w.hb
 grind
def oC(h:Ag c l):Ag (λx y=>c y x) l.reverse:=List.pairwise_reverse.mpr h
def Pt(h:Rs (λx y=>c y x) lb.reverse la.reverse l):Rs c la lb l.reverse:=
 ⟨by have:=(List.reverse_perm l).trans h.1;rw[← List.reverse_append]at this;exact this.trans (List.reverse_perm _),List.pairwise_reverse.mpr h.2⟩
def iG{a:Array Keyed}(h:n<=a.size):a.toList.reverse.drop (a.size-n)=(a.toList.take n).reverse:=by
 rw[List.drop_reverse];grind
theorem Wh.done(w:Wh c a b out na nb)(sa:Ag c a.toList)(sb:Ag c b.toList)(h:na=0\/nb=0):Rs c a.toList b.toList (a.extract 0 na++b.extract 0 nb++out.reverse).toList:=by
 have:=Pt (w.m.done (oC sb) (oC sa) (by grind));rw[iG w.ha,iG w.hb]at this
 simp_all
theorem Wh.last(w:Wh c a b out na nb)(sa:Ag c a.toList)(sb:Ag c b.toList)(h:nb=1)(d:∀y∈b.toList.take 1,∀x∈a.toList,c y x=true):Rs c a.toList b.toList (b.extract 0 nb++a.extract 0 na++out.reverse).toList:=by
 have:=Pt (w.m.last (oC sb) (oC sa) (by simp;have:=w.hb;simp_all) (by rw[iG w.hb,h];intro x e y f;exact d x (List.mem_reverse.mp e) y (List.mem_reverse.mp f)));rw[iG w.ha,iG w.hb]at this
 simp_all
def vN{a:Array Keyed}(h:n<=a.size)(b:k<=n):(a.extract (n-k) n).reverse.toList=(a.toList.reverse.drop (a.size-n)).take k:=by
 rw[iG h,toList_reverse,gF,List.take_reverse,List.drop_take]
 grind
def Wh.pa(w:Wh c a b out na nb)(sa:Ag c a.toList)(d:k<=na)(h:∀ i x,na-k<=i->i < na->a.toList[i]? = some x->∀ y∈b.toList.take nb,c y x=true):Wh c a b (out++(a.extract (na-k) na).reverse) (na-k) nb:=by
 have:=w.m.right (oC sa) (k:=k) (by simp;have:=w.ha;grind) (by
  rw[iG w.hb,← vN w.ha d];intro x e y f;rw[toList_reverse,List.mem_reverse,gF]at e;obtain⟨j,l,g⟩:=lH e;exact h _ x (by simp) (by lia) g y (List.mem_reverse.mp f))
 rw[← vN w.ha d,← toList_append,show a.size-na+k=a.size-(na-k) by have:=w.ha;lia]at this;exact⟨this,by have:=w.ha;(simp;omega),w.hb⟩
def Wh.to(w:Wh c a b out na nb)(sa:Ag c a.toList)(d:t<=na)(h:∀i x,t<=i->i<na->a.toList[i]?=some x->∀y∈b.toList.take nb,c y x=true):Wh c a b (out++(a.extract t na).reverse) t nb:=by
 have e:na-(na-t)=t:=by lia
 have:=w.pa sa (k:=na-t) (by simp) (by rw[e];exact h)
 simp_all
theorem Wh.push(w:Wh c a b out na nb)(sa:Ag c a.toList)(h1:1<=na)(d:a.toList[na-1]? = some x)(h:∀ y∈b.toList.take nb,c y x=true):Wh c a b (out.push x) (na-1) nb:=by
 have:=w.pa sa h1 (λi z f g j=>by grind);have e:out++(a.extract (na-1) na).reverse=out.push x:=by
  apply Array.toList_inj.mp;rw[toList_append,toList_reverse,gF,show na-(na-1)=1 by grind,jP d];simp
 simp_all
def jQ(h:l[i]?=some x)(s:Ag c l):∀y∈l.take (i+1),y=x\/c y x=true:=by
 have:=s.sublist (take_sublist (i+1) l);obtain⟨a,rfl⟩:=sS.mp h;rw[List.take_succ_eq_append_getElem a]at this ⊢;intro y b;rcases Au.mp b with z|z;exact .inr ((List.pairwise_append.mp this).2.2 y z _ (Aq.mpr rfl));exact .inl (Aq.mp z)
noncomputable def C3:Array Keyed->Array Keyed->StateT SortSt Sem (Array Keyed):=sortPriv% PySem.Builtin.mergeHi
def C4{st:SortSt}(C:Cm M A s κ G c)(hk:kindOf st=κ)(ga:∀ x∈a.toList,G x)(gb:∀ x∈b.toList,G x)(sa:Ag c a.toList)(sb:Ag c b.toList)
  (hd:∀x∈a.toList,∀y∈b.toList,c x y=true\/c y x=true) (h1:1<=a.size) (h2:1<=b.size) (hf:∀y∈b.toList.take 1,∀x∈a.toList,c y x=true) (hl:∀x∈a.toList.drop (a.size-1),∀y∈b.toList,c y x=true)
  (q:∀r st',Ai st st'->Rs c a.toList b.toList r.toList->Q r st'):wpS M A E s (C3 a b) Q st:=by
 have la:a.toList.length=a.size:=rfl;have lb:b.toList.length=b.size:=rfl;obtain⟨a0,ha0,ha1,ha2⟩:=pA (a:=a) (i:=a.size-1) (sub_lt h1 one_pos);have w0:Wh c a b #[a0] (a.size-1) b.size:=by
  have:=(Wh.mk (c:=c) (a:=a) (b:=b) (out:=#[]) (na:=a.size) (nb:=b.size) ⟨by simp,.nil,λ_ h=>by simp at h,by simp,by simp⟩ (hF _) (hF _)).push sa h1 ha1
   (by rw[← lb,take_length];exact hl a0 (by rw[jF ha1];exact sT))
  exact this
 have dn:∀{o:Array Keyed} {i j:Nat},Wh c a b o i j->(i=0\/j=0)->Rs c a.toList b.toList (a.extract 0 i++b.extract 0 j++o.reverse).toList:=λw h=>w.done sa sb h;have ls:∀{o:Array Keyed} {i j:Nat},Wh c a b o i j->j=1->Rs c a.toList b.toList (b.extract 0 j++a.extract 0 i++o.reverse).toList:=λw h=>w.last sa sb h hf;refine wpS_bind (wpS_lift (BJ ⟨rfl,?_⟩));refine wpS_bind (bG ha0 (eI (λn1=>wpS_pure (q _ _ .rfl' (dn w0 (.inl n1)))) λn1=>eI (λn2=>wpS_pure (q _ _ .rfl' (ls w0 n2))) λn2=>?_));refine wpS_bind (wpS_get ?_);refine wpS_bind (wpS_mono (wpS_forRange (λi (r:Option (Array Keyed)×Nat×Nat×Array Keyed×Nat) st'=>Ai st st'/\r.1=none/\Wh c a b r.2.2.2.1 r.2.1 r.2.2.1/\1<=r.2.1/\2<=r.2.2.1/\i+1<=r.2.2.2.1.size)
  (Q:=λr st'=>Ai st st'/\∃o,r.1=some o/\Rs c a.toList b.toList o.toList) ?_ ?_ ⟨.rfl',rfl,w0,pos_of_ne_zero n1,lt_of_le_of_ne h2 (iA n2),hF _⟩) ?_)
 ·refine λn=>Pr λo na nb out m st1 _ hn U=>AU λF=>?_;obtain⟨l1,-,mg,d,f,B⟩:=U;dsimp only at mg d f B;refine F (wpS_bind (wpS_mono (wpS_forRange (λi (r:Option (Array Keyed)×Nat×Nat×Array Keyed×Nat×Nat) st'=>Ai st st'/\r.1=none/\Wh c a b r.2.2.2.1 r.2.1 r.2.2.1/\1<=r.2.1/\2<=r.2.2.1/\n+1+i<=r.2.2.2.1.size)
   (Q:=λr st'=>Ai st st'/\((r.1=none/\Wh c a b r.2.2.2.1 r.2.1 r.2.2.1/\1<=r.2.1/\2<=r.2.2.1/\n+2<=r.2.2.2.1.size)\/∃o,r.1=some o/\Rs c a.toList b.toList o.toList)) ?_ ?_ ⟨l1,rfl,mg,d,f,B⟩) ?_))
  ·refine λi=>JH λo na nb out ac bc L _ hi U=>AU λF=>?_;obtain⟨l2,-,mg,d,f,B⟩:=U;dsimp only at mg d f B;have W:=AQ f;obtain⟨y,N,π,P⟩:=pA (a:=b) (Ax (sub_lt W one_pos) mg.hb);obtain⟨x,R,S,T⟩:=pA (a:=a) (Ax (sub_lt d one_pos) mg.ha);have sx:=jQ S sa;have sy:=jQ π sb;rw[sub_add_cancel d]at sx;rw[sub_add_cancel W]at sy;refine F (wpS_bind (bG N (wpS_bind (bG R (wpS_bind (IC C (l2.k.trans hk) (gb y P) (ga x T) (jG (λe=>?_) λe=>?_)))))))
   ·have e':c x y=true:=(hd x T y P).resolve_right e;have l:=(mg.symm.push sb W π (λz H=>(sx z H).elim (λh=>h▸e') λh=>C.tr h e')).symm;have X:n+1+i<(out.push y).size:=by rw[size_push];exact lt_succ_of_le B
    exact wpS_bind (bG N (eI (λI=>wpS_pure ⟨l2,.inr ⟨_,rfl,ls l I⟩⟩) λI=>kB (wpS_pure ⟨l2,.inl ⟨rfl,l,d,lt_of_le_of_ne (Nat.le_sub_one_of_lt f) (iA I),oT (by simp) X⟩⟩) (wpS_pure ⟨l2,rfl,l,d,lt_of_le_of_ne (Nat.le_sub_one_of_lt f) (iA I),X⟩)))
   ·have l:=mg.push sa d S (λz H=>(sy z H).elim (λh=>h▸e) λh=>C.tr h e);have X:n+1+i<(out.push x).size:=by rw[size_push];exact lt_succ_of_le B
    exact wpS_bind (bG R (eI (λI=>wpS_pure ⟨l2,.inr ⟨_,rfl,dn l (.inl I)⟩⟩) λI=>kB (wpS_pure ⟨l2,.inl ⟨rfl,l,pos_of_ne_zero I,f,oT (by simp) X⟩⟩) (wpS_pure ⟨l2,rfl,l,pos_of_ne_zero I,f,X⟩)))
  ·rintro⟨o,na,nb,out,ac,bc⟩ L ⟨l2,rfl,mg,d,f,B⟩;have:=mg.len;dsimp only at mg d f B this;lia
  refine JH λo na nb out ac bc L U=>AU λF=>?_;obtain⟨l2,⟨rfl,mg,d,f,B⟩|⟨r,rfl,hr⟩⟩:=U
  case inr=>exact F (wpS_pure ⟨l2,r,rfl,hr⟩)
  dsimp only at mg d f B;refine F (wpS_bind (wpS_lift (BJ ⟨rfl,?_⟩)));refine wpS_bind (wpS_mono (wpS_forRange (λi (r:Option (Array Keyed)×Nat×Nat×Array Keyed×Nat×Nat×Nat) st'=>Ai st st'/\r.1=none/\Wh c a b r.2.2.2.1 r.2.1 r.2.2.1/\1<=r.2.1/\2<=r.2.2.1/\n+2+i<=r.2.2.2.1.size)
   (Q:=λr st'=>Ai st st'/\((r.1=none/\Wh c a b r.2.2.2.1 r.2.1 r.2.2.1/\1<=r.2.1/\2<=r.2.2.1/\n+2<=r.2.2.2.1.size)\/∃o,r.1=some o/\Rs c a.toList b.toList o.toList)) ?_ ?_ ⟨l2,rfl,mg,d,f,B⟩) ?_)
  ·refine λi=>JI λo na nb out m ac bc L _ hi U=>AU λF=>?_;obtain⟨l2,-,mg,d,f,B⟩:=U;dsimp only at mg d f B;have W:=AQ f;obtain⟨y,N,π,P⟩:=pA (a:=b) (Ax (sub_lt W one_pos) mg.hb);have sy:=jQ π sb;rw[sub_add_cancel W]at sy;refine F ?_;dsimp only;apply Pq m (m-1);rfl;rfl
   intro g;refine wpS_bind (lG λst3 J=>wpS_bind (bG N (wpS_bind (JG C ((l2.trans J).k.trans hk) ga (gb y P) sa (λx hx=>hd x hx y P) (b:=0) (n:=na) (by rw[Bq];exact mg.ha) (sub_lt d one_pos) λt k1 k2 k3=>?_))))
   replace J:=l2.trans J
   have f2:∀z∈a.toList.take t,c z y=true:=λz H=>by
    obtain⟨j,hj⟩:=getElem?_of_mem H;rw[getElem?_take]at hj;split at hj;rename_i h;exact k2 j z h (by rw[Bq];exact hj);cases hj
   dsimp only;generalize hg:na-t=g';apply sH (λt p=>Wh c a b p t nb/\n+2+i<=p.size/\(∀z∈a.toList.take t,c z y=true)/\1<=t) na out;rfl
   ·refine λt p Y=>AU λF=>?_;obtain⟨l,X,f2,d⟩:=Y;have K:=(l.symm.push sb W π f2).symm;obtain⟨x,R,S,T⟩:=pA (a:=a) (Ax (sub_lt d one_pos) l.ha);have sx:=jQ S sa;rw[sub_add_cancel d]at sx;have x5:n+2+i < (p.push y).size:=by rw[size_push];exact lt_succ_of_le X
    replace f:=Nat.le_sub_one_of_lt f
    refine F (wpS_bind (bG N (eI (λe4=>wpS_pure ⟨J,.inr ⟨_,rfl,ls K e4⟩⟩) λe4=>?_)));generalize p.push y=p at K x5 ⊢;generalize nb-1=nb at K e4 f ⊢;refine wpS_bind (bG R (wpS_bind (JG C (J.k.trans hk) gb (ga x T) sb (λz H=>(hd x T z H).symm) (b:=0) (n:=nb) (by rw[Bq];exact K.hb) (sub_lt f one_pos) λj j1 j2 j3=>?_)));have f4:∀z∈b.toList.take j,c z x=true:=λz H=>by
     obtain⟨v,hv⟩:=getElem?_of_mem H;rw[getElem?_take]at hv;split at hv;rename_i h;exact j2 v z h (by rw[Bq];exact hv);cases hv
    dsimp only;generalize hg:nb-j=g'';apply sH (λj D1=>Wh c a b D1 t j/\n+2+i<D1.size/\(∀z∈b.toList.take j,c z x=true)/\2<=j) nb p;rfl
    ·intro j D1 Y;have σ:=Y.1.push sa d S Y.2.2.1;have x6:n+2+i+1<(D1.push x).size:=by rw[size_push];exact Nat.succ_lt_succ Y.2.1
     exact wpS_bind (bG R (eI (λV1=>wpS_pure ⟨J,.inr ⟨_,rfl,dn σ (.inl V1)⟩⟩) λV1=>kB (wpS_pure ⟨J,.inl ⟨rfl,σ,pos_of_ne_zero V1,Y.2.2.2,oT (by lia) x6⟩⟩) (wpS_pure ⟨J,rfl,σ,pos_of_ne_zero V1,Y.2.2.2,AQ x6⟩)))
    ·refine λhj0=>⟨K,x5,?_,lt_of_le_of_ne f (iA e4)⟩;rw[Nat.eq_zero_of_not_pos hj0]at hg;rw[Nat.le_antisymm j1 (Nat.le_of_sub_eq_zero hg)]at f4;exact f4
    ·intro key hj0;have mg4:Wh c a b (p++(b.extract j nb).reverse) t j:=(K.symm.to sb j1 λi u i1 i2 i3 z H=>by
      have:=j3 i u i1 i2 (by rw[Bq];exact i3);exact(sx z H).elim (λh=>h▸this) λh=>C.tr h this).symm
     exact eI (λe5=>wpS_pure ⟨J,.inr ⟨_,rfl,ls mg4 e5⟩⟩) λe5=>eI (λV1=>wpS_pure ⟨J,.inr ⟨_,rfl,dn mg4 (.inr V1)⟩⟩) λV1=>key _ _ ⟨mg4,by rw[size_append];exact Ax x5 (le_add_right _ _),f4,lt_of_le_of_ne (pos_of_ne_zero V1) (iA e5)⟩
   ·refine λhk0=>⟨mg,B,?_,d⟩;rw[Nat.eq_zero_of_not_pos hk0]at hg;rw[Nat.le_antisymm k1 (Nat.le_of_sub_eq_zero hg)]at f2;exact f2
   ·intro key hk0;have l:Wh c a b (out++(a.extract t na).reverse) t nb:=mg.to sa k1 λi x i1 i2 i3 z H=>by
     have:=k3 i x i1 i2 (by rw[Bq];exact i3);exact(sy z H).elim (λh=>h▸this) λh=>C.tr h this
    exact eI (λI=>wpS_pure ⟨J,.inr ⟨_,rfl,dn l (.inl I)⟩⟩) λI=>key _ _ ⟨l,by rw[size_append];exact oT B (le_add_right _ _),f2,pos_of_ne_zero I⟩
  ·rintro⟨o,na,nb,out,m,ac,bc⟩ L ⟨l2,rfl,mg,d,f,B⟩;have:=mg.len;dsimp only at mg d f B this;lia
  refine JI λo na nb out m ac bc L U=>AU λF=>?_;obtain⟨l2,⟨rfl,mg,d,f,B⟩|⟨r,rfl,hr⟩⟩:=U;exact F (wpS_bind (lG λst3 J=>wpS_pure ⟨l2.trans J,rfl,mg,d,f,B⟩));exact F (wpS_pure ⟨l2,r,rfl,hr⟩)
 ·rintro⟨o,na,nb,out,m⟩ st1 ⟨l1,rfl,mg,d,f,B⟩;have:=mg.len;dsimp only at mg d f B this;lia
 ·rintro⟨o,na,nb,out,m⟩ st1 ⟨l1,r,rfl,hr⟩;exact wpS_pure (q _ _ l1 hr)
def C5{st st':Z}(h:Q ⟨⟩ st'):wpS M A E s (set st':StateT Z Sem PUnit) Q st:=by
 exact gV ⟨rfl,h⟩
theorem pY(o:Nat):∀ (m:List Keyed) (k:Nat) (a:Array Keyed),o+k+m.length<=a.size->((m.zipIdx k).foldl (λa (p:Keyed×Nat)=>a.setIfInBounds (o+p.2) p.1) a).toList=a.toList.take (o+k)++m++a.toList.drop (o+k+m.length)
 |[],k,a,h=>by simp
 | x::m,k,a,h=>by
   rw[List.zipIdx_cons,foldl_cons,pY o m (k+1) _ (by grind)];simp only[Array.toList_setIfInBounds,length_cons];have b:o+k<a.toList.length:=by grind
   rw[show o+(k+1)=o+k+1 by exact rfl,List.take_succ_eq_append_getElem (by simp_all),List.getElem_set_self,List.take_set_of_le (hF _),List.drop_set_of_lt (by lia)];simp[add_assoc,add_comm 1]
def _root_.List.drop_take_comm'{l:List Keyed}(h:j<=n):(l.take n).drop j=(l.drop j).take (n-j):=List.drop_take ..
def C6{st:SortSt}(C:Cm M A s κ G c)(B:PyProof.Rows.kindOf st=κ)(U:∀ x∈(arrOf st).toList,G x)(N:failedOf st=none)
  (ha:(arrOf st).toList=p++(X++(Y++q))) (l:p.length=sa) (m:X.length=na) (e3:Y.length=nb) (e4:sb=sa+na) (hp:(pendingOf st)[i]?=some (sa,na,pa)) (π:(pendingOf st)[i+1]?=some (sb,nb,pb)) (h1:1<=na) (h2:1<=nb)
  (F:Ag c X) (H:Ag c Y) (hd:∀x∈X,∀y∈Y,c x y=true\/c y x=true)
  (k:∀(st':SortSt) σ,PyProof.Rows.kindOf st'=κ->failedOf st'=none->pendingOf st'=((pendingOf st).setIfInBounds i (sa,na+nb,pa)).eraseIdxIfInBounds (i+1)->(arrOf st').toList=p++(σ++q)->σ.Perm (X++Y)->Ag c σ->Q true st') :
  wpS M A E s (mergeAt' i) Q st:=by
 have P:∀x∈X,G x:=λx o=>U x (by rw[ha];simp[o]);have R:∀x∈Y,G x:=λx o=>U x (by rw[ha];simp[o]);subst l m e3 e4;have V1:((arrOf st).toList.drop p.length).take X.length=X:=by rw[ha];simp
 have W:((arrOf st).toList.drop (p.length+X.length)).take Y.length=Y:=by rw[ha,← append_assoc];simp[List.drop_append,take_append]
 refine wpS_bind (wpS_get ?_);rw[hp,π];dsimp only;refine wpS_bind (C5 ?_);obtain⟨y,b,rfl⟩:∃y b,Y=y::b:=by cases Y with|nil=>simp at h2|cons y b=>exact⟨y,b,rfl⟩
 have yY:∀z∈y::b,z=y\/c y z=true:=λz d=>(Aj.mp d).imp id λh=>(Eh.mp H).1 z h;refine wpS_bind (bG (x:=y) ?_ ?_)
 ·have:(arrOf st).toList[p.length+X.length]?=some y:=by rw[ha,← append_assoc,← AO];simp
  simpa using this
 refine wpS_bind (yF C B V1 rfl P (R y sT) F (λx o=>hd x o y sT) h1 λj j1 S j3=>?_);dsimp only;have I:=List.pairwise_append.mp (show Ag c (X.take j++X.drop j) by rw[take_append_drop];exact F);have w:∀x,c x y=true->∀z∈y::b,c x z=true:=λx h z d=>(yY z d).elim (λe=>e▸h) (C.tr h);have fin:∀σ:List Keyed,σ=X++(y::b)->Ag c σ->Q true (SortSt.mk' (PyProof.Rows.kindOf st) (arrOf st) (((pendingOf st).setIfInBounds i (p.length,X.length+(y::b).length,pa)).eraseIdxIfInBounds (i+1)) (gallopOf st) (failedOf st)):=λσ e h=>k _ σ B N rfl (by rw[e,append_assoc];exact ha) (by rw[e]) h;by_cases T:X.length-j=0;rw[fI (Ef.mpr T)];refine wpS_pure (fin _ rfl (List.pairwise_append.mpr ⟨F,H,λx o z d=>w x (S x ?_) z d⟩));rw[CC (by grind)];exact o
 rw[gX (by rw[Ef];exact T)];obtain⟨x,o⟩:∃x,X[X.length-1]?=some x:=⟨X[X.length-1],nL (by lia)⟩;have xX:∀z∈X,z=x\/c z x=true:=λz d=>jQ o F z (by rw[show X.length-1+1=X.length by exact sub_add_cancel h1,take_length];exact d);have mx:=AV o;refine wpS_bind (bG (x:=x) ?_ ?_)
 ·have:(arrOf st).toList[p.length+(X.length-1)]?=some x:=by rw[ha,DN (by simp),add_sub_cancel_left,BM (by lia)];exact o
  rw[show p.length+j+(X.length-j)-1=p.length+(X.length-1) by lia];simpa using this
 refine wpS_bind (yF C B W rfl R (P x mx) H (λz d=>(hd x mx z d).symm) (by simp) λn n1 n2 n3=>?_);dsimp only;by_cases J:n=0;rw[fI (Ef.mpr J)];subst J;exact wpS_pure (fin _ rfl (List.pairwise_append.mpr ⟨F,H,λz d u g=>(xX z d).elim (λe=>e▸n3 u g) λh=>C.tr h (n3 u g)⟩))
 rw[gX (by rw[Ef];exact J)];have K:=List.pairwise_append.mp (show Ag c ((y::b).take n++(y::b).drop n) by rw[take_append_drop];exact H);have l:((arrOf st).extract (p.length+j) (p.length+X.length)).toList=X.drop j:=by
  rw[gF,show p.length+X.length-(p.length+j)=X.length-j by lia,← drop_drop,← List.drop_take_comm' j1,V1]
 have m:((arrOf st).extract (p.length+X.length) (p.length+X.length+n)).toList=(y::b).take n:=by
  rw[gF,add_sub_cancel_left,← W,take_take,Nat.min_eq_left n1]
 have L:((arrOf st).extract (p.length+j) (p.length+X.length)).size=X.length-j:=by rw[← BX,l,EM]
 have z2:((arrOf st).extract (p.length+X.length) (p.length+X.length+n)).size=n:=by rw[← BX,m,Ei];lia
 have q1:∀z∈X.drop j,G z:=λz d=>P z (mem_of_mem_drop d);have q2:∀z∈(y::b).take n,G z:=λz d=>R z (CW d);have q3:∀z∈X.drop j,∀u∈(y::b).take n,c z u=true\/c u z=true:=λz d u g=>hd z (mem_of_mem_drop d) u (CW g);have q4:∀u∈((y::b).take n).take 1,∀z∈X.drop j,c u z=true:=λu g z d=>by
  rw[take_take,Nat.min_eq_left (by lia)]at g;cases Aq.mp g;exact j3 z d
 have q5:∀z∈(X.drop j).drop (X.length-j-1),∀u∈(y::b).take n,c u z=true:=λz d u g=>by
  rw[drop_drop,Nat.sub_right_comm,Nat.add_sub_of_le (by grind),jF o,sub_add_cancel h1,drop_length]at d;cases Aq.mp d;exact n2 u g
 by_cases b3:X.length-j<=n
 case' pos=>
  rw[fI b3];refine wpS_bind (C2 C B (by rw[l];exact q1) (by rw[m];exact q2) (by rw[l];exact I.2.1) (by rw[m];exact K.1) (by rw[l,m];exact q3) (oT (pos_of_ne_zero T) (le_of_eq L.symm)) (oT (pos_of_ne_zero J) (le_of_eq z2.symm)) (by rw[l,m];exact q4) (by rw[L,l,m];exact q5) λr t l2 rs=>?_)
 case' neg=>
  rw[gX b3];refine wpS_bind (C4 C B (by rw[l];exact q1) (by rw[m];exact q2) (by rw[l];exact I.2.1) (by rw[m];exact K.1) (by rw[l,m];exact q3) (oT (by lia) (le_of_eq L.symm)) (oT (by lia) (le_of_eq z2.symm)) (by rw[l,m];exact q4) (by rw[L,l,m];exact q5) λr t l2 rs=>?_)
 all_goals
  rw[l,m]at rs;have rl:r.toList.length=X.length-j+n:=by rw[rs.1.length_eq,AO,EM,Ei];lia
  have mr:∀u∈r.toList,u∈X.drop j\/u∈(y::b).take n:=λu g=>Au.mp (rs.1.mem_iff.mp g);refine wpS_bind (wpS_modify (wpS_bind (wpS_get (wpS_pure ?_))));show Q (failedOf t).isNone _;rw[show(failedOf t).isNone=true by rw[l2.f];show(failedOf st).isNone=true;rw[N];rfl];refine k _ (X.take j++r.toList++(y::b).drop n) (l2.k.trans B) (l2.f.trans N) l2.p ?_ ?_ (List.pairwise_append.mpr ⟨List.pairwise_append.mpr ⟨I.1,rs.2,λu g v D1=>?_⟩,K.2.1,λu g v D1=>?_⟩)
  ·have:=pY (p.length+j) r.toList 0 (arrOf t) (by rw[l2.a];show _<=(arrOf st).size;rw[← BX,ha,rl];simp at n1 ⊢;grind);refine this.trans ?_;rw[l2.a];show(arrOf st).toList.take _++_++(arrOf st).toList.drop _=_;rw[rl,add_zero,show p.length+j+(X.length-j+n)=p.length+X.length+n by simp_all +arith,ha];have t1:(p++(X++(y::b++q))).take (p.length+j)=p++X.take j:=by
    rw[take_append,CC (by simp),add_sub_cancel_left,take_append,show j-X.length=0 by simp[*]];simp
   have t2:(p++(X++(y::b++q))).drop (p.length+X.length+n)=(y::b).drop n++q:=by
    rw[← append_assoc,← AO,← drop_drop,List.drop_left,List.drop_append_of_le_length n1]
   rw[t1,t2];simp
  ·have:(X.take j++(X.drop j++(y::b).take n)++(y::b).drop n)=X++(y::b):=by
    rw[← append_assoc,take_append_drop,append_assoc,take_append_drop]
   exact((rs.1.append_left _).append_right _).trans (by rw[this])
  ·rcases mr v D1 with h|h;exact I.2.2 u g v h;exact w u (S u g) v (CW h)
  ·rcases Au.mp g with h|h;exact w u (S u h) v (mem_of_mem_drop D1);rcases mr u h with h|h;exact(xX u (mem_of_mem_drop h)).elim (λe=>e▸n3 v D1) λe=>C.tr e (n3 v D1);exact K.2.2 u h v D1
def CA(c:Keyed->Keyed->Bool)(l:List Keyed):Prop:=l.Pairwise λx y=>c x y=true\/c y x=true
def CA.perm(h:CA c l)(p:l.Perm a):CA c a:=p.pairwise h λh=>h.symm
def CA.two{i j:Nat}(h:CA c l)(a:i<j)(b:l[i]?=some x)(d:l[j]?=some y):c x y=true\/c y x=true:=by
 obtain⟨e,rfl⟩:=sS.mp b;obtain⟨f,rfl⟩:=sS.mp d;exact List.pairwise_iff_getElem.mp h i j e f a
def mL{a:Array Keyed}(ha:a.toList=p++R)(i:Nat):a[p.length+i]?=R[i]?:=by
 rw[← Bg,ha,DN (by lia),add_sub_cancel_left]
def mM{l:List Keyed}(h:i<l.length):∃x,l[i]?=some x/\x∈l:=⟨l[i],nL h,DW h⟩
def bZ{l:List Keyed}(h:l[n]?=some x):l.take (n+1)=l.take n++[x]:=by
 obtain⟨a,rfl⟩:=sS.mp h;simp
def yG{l:List Keyed}(tr:∀{x y z},r x y->r y z->r x z)(h1:1<=n)(hs:(l.take n).Pairwise r)(b:l[n]?=some x)(hz:l[n-1]?=some z)(h:r z x):(l.take (n+1)).Pairwise r:=by
 rw[bZ b];obtain⟨m,rfl⟩:∃m,n=m+1:=⟨n-1,by simp[*]⟩;rw[Nat.add_sub_cancel]at hz;refine List.pairwise_append.mpr ⟨hs,pairwise_singleton _ _,λy a u c=>?_⟩;cases Aq.mp c;rw[bZ hz]at hs a;rcases Au.mp a with e|e;exact tr ((List.pairwise_append.mp hs).2.2 y e z (Aq.mpr rfl)) h
 simp_all
def jH(u v:List Keyed)(j:Nat):(u++v)[u.length+j]?=v[j]?:=by
 rw[DN (le_add_right _ _),add_sub_cancel_left]
def yH{p R:List Keyed}(ha:a.toList=p++R)(hn:n<=R.length):(mirror a p.length (p.length+n) ((p.length+n-p.length) / 2)).toList=p++((R.take n).reverse++R.drop n):=by
 have b:(R.take n).length=n:=List.length_take_of_le hn;apply Fy;intro k;rw[Bg,getElem?_mirror_all (by rw[← BX,ha,AO];exact add_le_add_left hn _),← Bg,← Bg,ha];rcases lt_or_ge k p.length with h|h;rw[gX λe=>Nat.not_le_of_lt h e.1,BM h,BM h]
 obtain⟨j,rfl⟩:=exists_eq_add_of_le h;rw[jH,jH];rcases lt_or_ge j n with e|e;obtain⟨d,rfl⟩:=Nat.exists_eq_add_of_lt e;rw[fI ⟨h,Nat.add_lt_add_left e _⟩,show p.length+(p.length+(j+d+1))-1=p.length+(p.length+(j+d))from rfl,← add_assoc,Nat.add_add_add_comm,add_sub_cancel_left,jH,BM (by rw[length_reverse,b];exact e),List.getElem?_reverse (by rw[b];exact e),b,Nat.add_sub_cancel,add_sub_cancel_left,getElem?_take,fI (by lia)];rw[gX λx=>Nat.not_le_of_lt x.2 (add_le_add_left e _)];obtain⟨d,rfl⟩:=exists_eq_add_of_le e;have:=jH (R.take n).reverse (R.drop n) d;rw[length_reverse,b]at this;rw[this,getElem?_drop]
def yI{x:Keyed}(ha:a.toList=p++(t++(m++x::w))):(bubble a (p.length+(t.length+m.length)) (p.length+(t.length+m.length)-(p.length+t.length))).toList=p++(t++(x::(m++w))):=by
 rw[← append_assoc]at ha ⊢;rw[← add_assoc,add_sub_cancel_left,← AO];generalize p++t=u at ha ⊢;apply Fy;intro i;rw[Bg,getElem?_bubble (by rw[← BX,ha];simp) _ (Nat.le_add_left _ _),Nat.add_sub_cancel,← Bg,← Bg,← Bg,ha];rcases lt_or_ge i u.length with h|h;rw[gX (An h),gX λe=>Nat.lt_asymm h e.1,BM h,BM h]
 obtain⟨j,rfl⟩:=exists_eq_add_of_le h;rw[jH,jH,jH];cases j with
 | zero=>
   rw[fI (add_zero _)];exact jH m (x::w) 0
 | succ j=>
   rw[gX (CF (Nat.lt_add_of_pos_right (succ_pos _))),show u.length+(j+1)-1=u.length+j from rfl,jH,EJ];rcases lt_or_ge j m.length with e|e;rw[fI ⟨Nat.lt_add_of_pos_right (succ_pos _),add_le_add_left e _⟩,BM e,BM e];rw[gX λy=>Nat.not_le_of_lt (Nat.le_of_add_le_add_left y.2) e];obtain⟨d,rfl⟩:=exists_eq_add_of_le e;exact(jH m (x::w) (d+1)).trans (jH m w d).symm
def C7{x:Keyed}(a:R[k]?=some x)(c:l<=k):∃t m w,R=t++(m++x::w)/\l=t.length/\k=t.length+m.length/\R.take l=t/\R.take k=t++m:=by
 obtain⟨d,rfl⟩:=exists_eq_add_of_le c;have f:=(sS.mp a).1;have b:(R.take l).length=l:=List.length_take_of_le (by lia);have e:((R.drop l).take d).length=d:=List.length_take_of_le (by rw[EM];lia);refine⟨R.take l,(R.drop l).take d,R.drop (l+d+1),?_,b.symm,by rw[b,e],rfl,take_add⟩;rw[← append_assoc,← take_add,← jF a,take_append_drop]
def sI(h:1<=i):p+i-1=p+(i-1):=Nat.add_sub_assoc h p
def Pu{st:SortSt}(C:Cm M A s κ G c)(ha:(arrOf st).toList=p++R)(g:∀ x∈R,G x)(hD:CA c R)(h1:1<=a)(t:a<=R.length)(hs:Ag c (R.take a))
  (j:∀i n x z (Q:ForInStep (Option (Option Nat)×Nat)->SortSt->Prop),(arrOf st)[p.length+n]?=some x->(arrOf st)[p.length+n-1]?=some z->G x->G z->(c x z=true->Q (.done (none,n)) st)->(c x z=false->Q (.yield (none,n+1)) st)->wpS M A E s (f i (none,n)) Q st)
  (q:∀n,a<=n->n<=R.length->Ag c (R.take n)->(n=R.length\/∃x z,R[n]?=some x/\R[n-1]?=some z/\c x z=true)->Q (none,n) st):wpS M A E s (forIn [a:R.length] (none,a) f) Q st:=by
 refine wpS_forRange (λi (r:Option (Option Nat)×Nat) st'=>st=st'/\r=(none,i)/\Ag c (R.take i)) ?_ ?_ ⟨rfl,rfl,hs⟩;rintro i r st' k l ⟨rfl,rfl,h⟩;obtain⟨x,b,m⟩:=mM l;obtain⟨z,d,o⟩:=mM (show i-1<R.length by lia);refine j i i x z _ (by rw[mL ha];exact b) (by rw[sI (by lia),mL ha];exact d) (g x m) (g z o) (λe=>q i k (by lia) h (.inr ⟨x,z,b,d,e⟩)) λe=>⟨rfl,rfl,yG (r:=λx y=>c x y=true) C.tr (by lia) h b d ?_⟩;exact(hD.two (show i-1<i by lia) d b).resolve_right (by rw[e];decide)
 grind
def yJ{st:SortSt}(C:Cm M A s κ G c)(d:PyProof.Rows.kindOf st=κ)(ha:(arrOf st).toList=p++R)(f:∀ x∈R,G x)(hD:CA c R)(h1:1<=R.length)
  (q:∀n (st':SortSt) g,1<=n->n<=R.length->PyProof.Rows.kindOf st'=κ->pendingOf st'=pendingOf st->failedOf st'=failedOf st->(arrOf st').toList=p++g->g.Perm R->Ag c (g.take n)->Q (some n) st'):wpS M A E s (countRun' p.length R.length) Q st:=by
 refine wpS_bind (Pu C ha f hD (hF 1) h1 (by obtain⟨x,g,rfl⟩:∃x g,R=x::g:=(by cases R with|nil=>simp at h1|cons x g=>exact⟨x,g,rfl⟩);exact pairwise_singleton _ _) (λi n x z Q a b u gz v w=>?_) λn H B j L=>?_)
 ·refine wpS_bind (lU C d a b u gz ?_);dsimp only;cases e:c x z with
  |true=>exact wpS_pure (v e)
  |false=>exact wpS_pure (w e)
 dsimp only;by_cases D1:n=R.length;rw[fI (Ef.mpr D1)];exact wpS_pure (q n st R H B d rfl rfl ha (.refl _) j)
 rw[gX (by rw[Ef];exact D1)];by_cases I:n > 1
 ·rw[fI I];obtain⟨x,a,o⟩:=mM (show 0 < R.length by assumption);obtain⟨z,b,t⟩:=mM (show n-1 < R.length by grind);refine wpS_bind (lU C d (x:=x) (y:=z) (by have:=mL ha 0;rw[add_zero]at this;rw[this];exact a) (by rw[sI (by omega),mL ha];exact b) (f x o) (f z t) ?_);have:c x z=true:=by
   obtain⟨W,N⟩:=sS.mp a;obtain⟨X,π⟩:=sS.mp b;have:=List.pairwise_iff_getElem.mp j 0 (n-1) (by simp;simp_all +arith) (by simp;grind) (by grind);simpa[N,π]using this
  rw[this];exact wpS_pure (q n st R H B d rfl rfl ha (.refl _) j)
 rw[gX I];obtain rfl:n=1:=by lia
 refine wpS_bind (wpS_lift (BJ ⟨rfl,?_⟩));refine wpS_bind (wpS_mono (wpS_forRange (λi (r:Option (Option Nat)×Nat×Nat) st'=>st=st'/\r=(none,i,0)/\(R.take i).Pairwise (λx y=>c y x=true))
  (Q:=λr st'=>st=st'/\∃n,r=(none,n,0)/\2<=n/\n<=R.length/\(R.take n).Pairwise (λx y=>c y x=true)) ?_ ?_ ⟨rfl,rfl,?_⟩) ?_)
 ·rintro i r st' B j ⟨rfl,rfl,k⟩;obtain⟨x,a,o⟩:=mM j;obtain⟨z,b,t⟩:=mM (show i-1 < R.length by grind);have J:(arrOf st)[p.length+i]? = some x:=by rw[mL ha];exact a
  have K:(arrOf st)[p.length+i-1]?=some z:=by rw[sI (by lia),mL ha];exact b
  refine wpS_bind (lU C d J K (f x o) (f z t) ?_);dsimp only;cases e:c x z with
  | true=>
    exact wpS_pure ⟨rfl,rfl,yG (r:=λx y=>c y x=true) (λh h'=>C.tr h' h) (by lia) k a b e⟩
  | false=>
    rw[gX (by decide)];have P:c z x=true:=(hD.two (show i-1<i by grind) b a).resolve_right (by rw[e];decide);refine wpS_bind (lU C d K J (f z t) (f x o) ?_);rw[P];exact wpS_pure ⟨rfl,i,rfl,by omega,by lia,k⟩
 ·rintro r st' ⟨rfl,rfl,k⟩;exact⟨rfl,_,rfl,by omega,by lia,k⟩
 ·obtain⟨x,z,a,b,e⟩:=L.resolve_left D1;exact yG (r:=λx y=>c y x=true) (λh h'=>C.tr h' h) (hF 1) (by rw[bZ b];exact pairwise_singleton _ _) a b e
 rintro r st' ⟨rfl,n,rfl,k,F,S⟩;dsimp only;refine wpS_bind (wpS_modify ?_);have l:=yH ha F;have pm:((R.take n).reverse++R.drop n).Perm R:=by
  have:=(List.reverse_perm (R.take n)).append_right (R.drop n);rwa[take_append_drop]at this
 have Y:(R.take n).reverse.length=n:=by simp;lia
 have T:Ag c (((R.take n).reverse++R.drop n).take n):=by
  rw[List.take_append_of_le_length (by simp[*]),CC (by simp[*])];exact List.pairwise_reverse.mpr S
 rw[← pm.length_eq]at F ⊢;refine wpS_bind (Pu C l (λx a=>f x (pm.mem_iff.mp a)) (hD.perm pm.symm) (by lia) F T (λi n x z Q a b u gz v w=>?_) λm σ U V1 _=>?_)
 ·refine wpS_bind (lU C d a b u gz ?_);dsimp only;cases e:c x z with
  |true=>exact wpS_pure (v e)
  |false=>exact wpS_pure (w e)
 ·exact wpS_pure (q m _ _ (by lia) (by rw[← pm.length_eq];exact U) d rfl rfl l pm V1)
def sJ{st:SortSt}(C:Cm M A s κ G c)(S:PyProof.Rows.kindOf st=κ)(ha:(arrOf st).toList=p++R)(T:∀ x∈R,G x)(hD:CA c R)(h1:1<=ok)(h2:ok<=n)(hn:n<=R.length)(hs:Ag c (R.take ok))
  (q:∀(st':SortSt) R',PyProof.Rows.kindOf st'=κ->pendingOf st'=pendingOf st->failedOf st'=failedOf st->(arrOf st').toList=p++R'->R'.Perm R->Ag c (R'.take n)->Q true st'):wpS M A E s (binarySort' p.length n ok) Q st:=by
 refine wpS_bind (wpS_mono (wpS_forRange (λk (r:Option Bool×Unit) st'=>r=(none,())/\PyProof.Rows.kindOf st'=κ/\pendingOf st'=pendingOf st/\failedOf st'=failedOf st/\∃R',(arrOf st').toList=p++R'/\R'.Perm R/\Ag c (R'.take k))
  (Q:=λr st'=>r=(none,())/\PyProof.Rows.kindOf st'=κ/\pendingOf st'=pendingOf st/\failedOf st'=failedOf st/\∃R',(arrOf st').toList=p++R'/\R'.Perm R/\Ag c (R'.take n)) ?_ ?_ ⟨rfl,S,rfl,rfl,R,ha,.refl _,by rw[Nat.max_eq_left h1];exact hs⟩) ?_)
 ·rintro k r b h3 h4 ⟨rfl,j,H,I,a,a1,pm,s1⟩;have lR:=pm.length_eq;obtain⟨x,J,U⟩:=mM (show k < a.length by lia);have L:∀ x∈a,G x:=λx J=>T x (pm.mem_iff.mp J);refine wpS_bind (wpS_mono (wpS_forRange (λi (r:Option Bool×Nat×Nat) st'=>b=st'/\r.1=none/\r.2.1<=r.2.2/\r.2.2<=k/\r.2.2+i<=k+r.2.1/\(∀ z∈a.take r.2.1,c z x=true)/\(∀ z∈(a.take k).drop r.2.2,c x z=true))
   (Q:=λr st'=>b=st'/\r.1=none/\r.2.1<=k/\(∀z∈a.take r.2.1,c z x=true)/\(∀z∈(a.take k).drop r.2.1,c x z=true)) ?_ ?_ ⟨rfl,rfl,sY _,hF _,by dsimp only;lia,λz f=>by simp at f,λz f=>by simp at f⟩) ?_)
  ·rintro i ⟨o,l,r⟩ K h5 h6 ⟨rfl,rfl,y,d,g,B,D1⟩;dsimp only at y d g B D1 ⊢;by_cases N:l ≥ r
   ·rw[fI N];obtain rfl:l=r:=by lia
    exact wpS_pure ⟨rfl,rfl,d,B,D1⟩
   rw[gX N];obtain⟨z,f,V1⟩:=mM (show(l+r) / 2<a.length by lia);refine wpS_bind (lU C j (by rw[mL a1];exact J) (by rw[mL a1];exact f) (L x U) (L z V1) ?_);dsimp only;have tk:(a.take k)[(l+r) / 2]?=some z:=by rw[getElem?_take,fI (by lia)];exact f
   cases e:c x z with
   |true=>exact wpS_pure ⟨rfl,rfl,by dsimp only;lia,by dsimp only;lia,by dsimp only;lia,B,λu F=>(lF tk s1 u F).elim (λh=>h▸e) (C.tr e)⟩
   | false=>
     have π:c z x=true:=((hD.perm pm.symm).two (show(l+r) / 2<k by lia) f J).resolve_right (by rw[e];decide);refine wpS_pure ⟨rfl,rfl,by dsimp only;lia,by dsimp only;omega,by dsimp only;lia,λu F=>?_,D1⟩;have:=jQ tk s1 u (by rw[take_take,Nat.min_eq_left (by lia)];exact F);exact this.elim (λh=>h▸π) λh=>C.tr h π
  ·rintro⟨o,l,r⟩ K ⟨rfl,rfl,y,d,g,B,D1⟩;dsimp only at y d g B D1;obtain rfl:l=r:=by lia
   exact⟨rfl,rfl,d,B,D1⟩
  rintro⟨o,l,r⟩ K ⟨rfl,rfl,y,d,g⟩;dsimp only at y d g ⊢;obtain⟨t,m,w,rfl,rfl,rfl,W,P⟩:=C7 J y;rw[W]at d;rw[P,List.drop_left]at g;rw[P]at s1;refine wpS_bind (wpS_modify (wpS_pure ⟨rfl,j,H,I,_,yI a1,(append_left t List.perm_middle.symm).trans pm,?_⟩));rw[show t++x::(m++w)=(t++x::m)++w by simp,List.take_left' (by simp;rfl)];obtain⟨X,Y,σ⟩:=List.pairwise_append.mp s1;refine List.pairwise_append.mpr ⟨X,Eh.mpr ⟨g,Y⟩,λu F v hv=>?_⟩;rcases Aj.mp hv with rfl|h;exact d u F;exact σ u F v h
 ·rintro r b ⟨rfl,j,H,I,a,a1,pm,s1⟩;rw[show max (max ok 1) n=n by simp[*]]at s1;exact⟨rfl,j,H,I,a,a1,pm,s1⟩
 rintro r b ⟨rfl,j,H,I,a,a1,pm,s1⟩;exact wpS_pure (q b a j H I a1 pm s1)
def Tl(c:Keyed->Keyed->Bool):Nat->List (Nat×Nat×Nat)->List Keyed->Prop
 |_,[],l=>l=[]
 |s,t::r,l=>t.1=s/\1<=t.2.1/\∃X Y,l=X++Y/\X.length=t.2.1/\Ag c X/\Tl c (s+t.2.1) r Y
def Tl.app:Tl c s (L++k) l↔∃X Y,l=X++Y/\Tl c s L X/\Tl c (s+X.length) k Y:=by
 induction L generalizing s l with
 |nil=>exact⟨λh=>⟨[],l,rfl,rfl,by simp_all⟩,λZ1=>by obtain⟨X,Y,e,m,h⟩:=Z1;subst m;simp_all⟩
 | cons t L i=>
   constructor;rintro⟨d,f,X,Y,rfl,a,g,j⟩;obtain⟨U,V1,rfl,b,n⟩:=i.mp j;exact⟨X++U,V1,by simp,⟨d,f,X,U,rfl,a,g,b⟩,by rw[List.length_append,← add_assoc,a];exact n⟩;rintro⟨X,Y,rfl,⟨d,f,U,V1,rfl,a,g,j⟩,b⟩;refine⟨d,f,U,V1++Y,by simp,a,g,i.mpr ⟨V1,Y,rfl,j,?_⟩⟩;rw[AO,← add_assoc,a]at b;exact b
def Tl.like(e:L.map (λt=>(t.1,t.2.1))=a.map (λt=>(t.1,t.2.1)))(h:Tl c s L l):Tl c s a l:=by
 induction L generalizing a s l with
 |nil=>cases a with|nil=>exact h|cons _ _=>cases e
 | cons t L i=>
   cases a with
   |nil=>cases e
   | cons u a=>
     obtain⟨d,f,X,Y,g,j,k,m⟩:=h;simp only[map_cons,List.cons.injEq,Prod.mk.injEq]at e;obtain⟨⟨n,b⟩,o⟩:=e;exact⟨n▸d,b▸f,X,Y,g,b▸j,k,b▸i o m⟩
def Tl.le(h:Tl c s L l):L.length<=l.length:=by
 induction L generalizing s l with
 |nil=>exact sY _
 | cons t L i=>
   obtain⟨b,d,X,Y,e,f,g,a⟩:=h;have:=i a
   grind
structure Std(κ:SortKind)(c:Keyed->Keyed->Bool)(a₀:List Keyed)(st:SortSt)(D1 R:List Keyed):Prop where
 k:PyProof.Rows.kindOf st=κ
 f:failedOf st=none
 a:(arrOf st).toList=D1++R
 p:(D1++R).Perm a₀
 t:Tl c 0 (pendingOf st).toList D1
def Pw{st:SortSt}(C:Cm M A s κ G c)(F:∀ x∈a₀,G x)(hD:CA c a₀)(h:Std κ c a₀ st D1 R)(hi:i+1 < (pendingOf st).size)
  (q:∀st' j,Std κ c a₀ st' j R->(pendingOf st').size+1=(pendingOf st).size->j.length=D1.length->Q true st'):wpS M A E s (mergeAt' i) Q st:=by
 obtain⟨L,b⟩:∃L,(pendingOf st).toList=L:=⟨_,rfl⟩;have H:(pendingOf st).size=L.length:=by rw[← b];rfl
 obtain⟨t,l,-⟩:∃t,L[i]?=some t/\True:=⟨L[i]'(by lia),nL (by lia),trivial⟩;obtain⟨u,m,-⟩:∃t,L[i+1]?=some t/\True:=⟨L[i+1]'(by simp_all),nL (by simp_all),trivial⟩;have e:L=L.take i++(t::u::L.drop (i+1+1)):=by
  conv=>lhs;rw[← take_append_drop i L]
  congr 1;obtain⟨I,J⟩:=sS.mp l;obtain⟨K,π⟩:=sS.mp m;rw[drop_eq_getElem_cons I,drop_eq_getElem_cons K,J,π]
 have n:(L.take i).length=i:=by simp;grind
 generalize L.take i=o at e n;generalize L.drop (i+1+1)=L2 at e;have r:=h.t;rw[b,e]at r;obtain⟨P,V1,eD,S,T⟩:=Tl.app.mp r;obtain⟨a1,a2,X,W,rfl,a3,a4,v,w,Y,σ,rfl,z,U,d⟩:=T;subst eD;have pw:CA c (P++(X++(Y++(σ++R)))):=hD.perm (by have:=h.p.symm;simpa using this);obtain⟨sa,na,pa⟩:=t;obtain⟨sb,nb,pb⟩:=u;dsimp only at a1 a2 a3 v w z d;rw[Bq]at a1 d v;refine C6 (sa:=sa) (na:=na) (nb:=nb) (sb:=sb) (pa:=pa) (pb:=pb) (p:=P) (q:=σ++R) (X:=X) (Y:=Y) C h.k (λx g=>F x (h.p.mem_iff.mp (h.a▸g))) h.f (by rw[h.a];simp) a1.symm a3 z (by simp[*]) (by rw[← Array.getElem?_toList,b];exact l) (by rw[← Bg,b];exact m) a2 w a4 U (λx g y hy=>?_) λst' N k1 k2 k3 k4 B k6=>?_;have:=(List.pairwise_append.mp (List.pairwise_append.mp pw).2.1).2.2 x g y (by simp[hy]);exact this;have lN:N.length=na+nb:=by rw[B.length_eq,AO];simp_all
 have pl:(pendingOf st').toList=o++((sa,na+nb,pa)::L2):=by
  rw[k3];have:((pendingOf st).setIfInBounds i (sa,na+nb,pa)).eraseIdxIfInBounds (i+1)=((pendingOf st).setIfInBounds i (sa,na+nb,pa)).eraseIdx (i+1) (by simpa using hi):=by
   rw[Array.eraseIdxIfInBounds,dif_pos]
  rw[this,Array.toList_eraseIdx,Array.toList_setIfInBounds,b,e,← n];simp[List.set_append_right,List.eraseIdx_append_of_length_le]
 refine q st' (P++(N++σ)) ⟨k1,k2,by rw[k4];simp,?_,?_⟩ ?_ ?_;refine List.Perm.trans ?_ h.p;simp only[append_assoc];exact append_left _ (by have:=B.append_right (σ++R);simpa using this);rw[pl];exact Tl.app.mpr ⟨P,N++σ,rfl,S,by simp[*],by dsimp only;lia,N,σ,rfl,lN,k6,by dsimp only;rw[Bq,← add_assoc];exact d⟩
 ·have:(pendingOf st').size=(o++((sa,na+nb,pa)::L2)).length:=by rw[← pl];rfl
  rw[this,H,e];simp;rfl
 ·simp;simp_all +arith
theorem _root_.List.map_modify_same{b c:Type}(g:b->c)(f:b->b)(h:∀a,g (f a)=g a):∀(l:List b) (i:Nat),(l.modify i f).map g=l.map g
 |[],_=>by simp
 |a::l,0=>by simp[h]
 |a::l,i+1=>by simp[List.map_modify_same g f h l i]
def pZ[Decidable P](h:¬n<=1):(if P then n-2-1 else n-2)+1<n:=by split<;>omega
def yK{st:SortSt}(C:Cm M A s κ G c)(hk:PyProof.Rows.kindOf st=κ)(hp:pendingOf st=#[])(hf:failedOf st=none)(W:∀ x∈(arrOf st).toList,G x)(hD:CA c (arrOf st).toList)
  (q:∀st',failedOf st'=none->(arrOf st').toList.Perm (arrOf st).toList->Ag c (arrOf st').toList->Q () st'):wpS M A E s sortRuns' Q st:=by
 obtain⟨N,hN⟩:∃N,(arrOf st).size=N:=⟨_,rfl⟩;have lz:(arrOf st).toList.length=N:=hN;have sz:∀{st' D1 R},Std κ c (arrOf st).toList st' D1 R->D1.length+R.length=N:=λh=>by have:=h.p.length_eq;rw[AO]at this;simp[*]
 refine wpS_bind (wpS_get ?_);dsimp only;rw[hN];generalize (sortPriv% PySem.Builtin.minRun) N N 0=mr;refine wpS_bind (wpS_mono (wpS_forRange (λi (r:Option Unit×Nat) st'=>r.1=none/\i<=r.2/\∃D1 R,Std κ c (arrOf st).toList st' D1 R/\D1.length=r.2)
  (Q:=λr st'=>r.1=none/\∃D1,Std κ c (arrOf st).toList st' D1 []) ?_ ?_ ⟨rfl,hF _,[],(arrOf st).toList,⟨hk,hf,rfl,.refl _,by rw[hp];exact rfl⟩,rfl⟩) ?_)
 ·refine λi r y _ hi hh=>AU λσ=>?_;obtain⟨-,h1,D1,R,g,K⟩:=hh;have e1:=sz g;have gR:∀ {B:List Keyed},B.Perm R->∀ x∈B,G x:=λh x hx=>W x (g.p.mem_iff.mp (Au.mpr (.inr (h.mem_iff.mp hx))));have dR:∀ {B:List Keyed},B.Perm R->CA c B:=λh=>(List.pairwise_append.mp (hD.perm g.p.symm)).2.1.perm h.symm λh=>h.symm;refine σ ?_;generalize r.2=lo at h1 K ⊢;subst K;refine jG (λF=>?_) λF=>wpS_pure ⟨rfl,D1,by rw[DM (l:=R) (by lia)]at g;exact g⟩;rw[show N-D1.length=R.length by lia];refine wpS_bind (yJ C g.k g.a (gR (.refl _)) (dR (.refl _)) (by lia) λn v R21 n1 n2 π P S T z k6=>?_);dsimp only;have nx:∀ (b:SortSt) (R3:List Keyed),PyProof.Rows.kindOf b=κ->pendingOf b=pendingOf y->failedOf b=failedOf y->(arrOf b).toList=D1++R3->R3.Perm R->Std κ c (arrOf st).toList b D1 R3:=λb R3 π P S T z=>
   ⟨π,S.trans g.f,T,(z.append_left D1).trans g.p,by rw[P];exact g.t⟩
  apply C1 (λn b=>∃R3,Std κ c (arrOf st).toList b D1 R3/\1<=n/\n<=R.length/\R3.Perm R/\Ag c (R3.take n)) n;rfl
  case n=>exact λb2=>⟨R21,nx v R21 π P S T z,n1,n2,z,k6⟩
  case k=>
   intro key b2;refine wpS_bind (wpS_lift (BJ ⟨rfl,?_⟩));refine wpS_bind (sJ C π T (gR z) (dR z) n1 (by grind) (by rw[z.length_eq];exact Nat.min_le_left _ _) k6 λb R3 j1 j2 j3 j4 U j6=>?_);rw[gX (by decide)];exact key _ b ⟨R3,nx b R3 j1 (j2.trans P) (j3.trans S) j4 (U.trans z),by lia,Nat.min_le_left _ _,U.trans z,j6⟩
  ·refine λn b hP=>AU λσ=>?_;obtain⟨R3,h4,m1,m2,U,j6⟩:=hP;refine σ (wpS_bind (wpS_get ?_));have pu:∀ (d j:SortSt) (D4:List Keyed),Std κ c (arrOf st).toList d D4 R3->D4.length=D1.length->PyProof.Rows.kindOf j=PyProof.Rows.kindOf d->failedOf j=failedOf d->arrOf j=arrOf d->(pendingOf j).toList.map (λt=>(t.1,t.2.1))=(pendingOf d).toList.map (λt=>(t.1,t.2.1))++[(D1.length,n)] ->
     (none:Option Unit)=none/\i+1<=D1.length+n/\∃D' B,Std κ c (arrOf st).toList j D' B/\D'.length=D1.length+n:=λd j D4 w m H y2 V1 y4=>by
    have lt:(R3.take n).length=n:=by rw[Ei,U.length_eq];lia
    have ee:D4++R3.take n++R3.drop n=D4++R3:=by rw[append_assoc,take_append_drop]
    refine⟨rfl,by lia,D4++R3.take n,R3.drop n,⟨H.trans w.k,y2.trans w.f,by rw[V1,ee];exact w.a,by rw[ee];exact w.p,Tl.like (L:=(pendingOf d).toList++[(D1.length,n,0)]) (by rw[y4,Bp];rfl) (Tl.app.mpr ⟨D4,R3.take n,rfl,w.t,by dsimp only;lia,m1,R3.take n,[],by simp,lt,j6,rfl⟩)⟩,by rw[List.length_append];simp[*]⟩
   cases e:(pendingOf b).back? with
   | none=>
     exact wpS_bind (wpS_modify (wpS_pure (pu b _ D1 h4 rfl rfl rfl rfl (by show((pendingOf b).push _).toList.map _=_;rw[EL,Bp];rfl))))
   | some t=>
     obtain⟨s1,n1,w1⟩:=t;dsimp only;refine wpS_bind (wpS_mono (wpS_forRange (λi (r:Option Unit×Unit) st'=>r=(none,())/\∃D4,Std κ c (arrOf st).toList st' D4 R3/\D4.length=D1.length)
      (Q:=λr st'=>r=(none,())/\∃D4,Std κ c (arrOf st).toList st' D4 R3/\D4.length=D1.length) ?_ ?_ ⟨rfl,D1,h4,rfl⟩) ?_)
     ·rintro i r d-hi ⟨rfl,D4,w,m⟩;refine wpS_bind (wpS_get ?_);by_cases b3:(pendingOf d).size > 1
      ·have z3:(pendingOf d).size-2+1<(pendingOf d).size:=by lia
       rw[fI b3,BG (Nat.lt_of_succ_lt z3)];exact kB (wpS_pure ⟨rfl,D4,w,m⟩) (wpS_bind (Pw C W hD w z3 λj D5 H _ V1=>by rw[gX (by decide)];exact wpS_pure ⟨rfl,D5,H,V1.trans m⟩))
      ·rw[gX b3];exact wpS_pure ⟨rfl,D4,w,m⟩
     ·exact λr d h=>h
     ·rintro r d ⟨rfl,D4,w,m⟩;refine wpS_bind (wpS_modify (wpS_bind (wpS_modify (wpS_pure (pu d _ D4 w m rfl rfl rfl ?_)))));show(((pendingOf d).modify _ _).push _).toList.map _=_;rw[EL,Bp,Array.toList_modify,List.map_modify_same (λt:Nat×Nat×Nat=>(t.1,t.2.1))];rfl;exact λt=>rfl
 ·rintro⟨o,lo⟩ y ⟨rfl,h1,D1,R,g,K⟩;have e1:=sz g;dsimp only at h1 K;have:R=[]:=DM (by lia);subst this;exact⟨rfl,D1,g⟩
 ·rintro⟨o,lo⟩ y ⟨rfl,D1,g⟩;dsimp only;refine wpS_bind (wpS_mono (wpS_forRange (λi (r:Option Unit×Unit) st'=>r=(none,())/\(pendingOf st').size+i<=N/\∃ D1,Std κ c (arrOf st).toList st' D1 [])
   (Q:=λr st'=>r=(none,())/\(pendingOf st').size<=1/\∃D1,Std κ c (arrOf st).toList st' D1 []) ?_ ?_ ⟨rfl,by have h5:(pendingOf y).size<=D1.length:=g.t.le;have h6:=sz g;rw[HI]at h6;simp_all,D1,g⟩) ?_)
  ·rintro i r v-hi ⟨rfl,w,I,m⟩;refine wpS_bind (wpS_get ?_);exact jG (λF=>wpS_bind (Pw C W hD m (pZ F) λj D5 H y2 V1=>by rw[gX (by decide)];exact wpS_pure ⟨rfl,by lia,D5,H⟩)) λF=>wpS_pure ⟨rfl,F,I,m⟩
  ·rintro r v ⟨rfl,w,I,m⟩;exact⟨rfl,by simp_all +arith,I,m⟩
  ·rintro r v ⟨rfl,w,I,m⟩;refine wpS_pure (q v m.f (by rw[m.a];exact m.p) ?_);rw[m.a,Dw];have t:=m.t;have J:(pendingOf v).toList.length<=1:=w;cases e:(pendingOf v).toList with
   |nil=>rw[e]at t;have t:I=[]:=t;rw[t];exact .nil
   | cons u r=>
     rw[e]at t J;have:r=[]:=DM (by simpa using J);subst this;obtain⟨_,_,X,Y,rfl,_,sX,hY⟩:=t;have hY:Y=[]:=hY;rw[hY,Dw];exact sX
def C8(h1:jU prog w s.heap a a1)(d:jU prog w s.heap c a2)(q:Q (AN a c) s):wpAny (model prog w) A (keyLt' (tuples' b) (.ref a1) (.ref a2)) Q E s:=by
 obtain⟨k,l,n1,e,_,f,g⟩:=h1;obtain⟨m,n,n2,h,_,i,j⟩:=d;refine kat_lt e f h i ?_;have:=e7 (b:=b) (A:=A) 0 g j q
 simp_all
noncomputable def wG(prog:Program)(w:World)(h:Heap)(x:Keyed):List Int:=Classical.epsilon λk=>∃a,x.1=.ref a/\jU prog w h k a
def lV(e:x.1=.ref a)(t:jU prog w h k a):wG prog w h x=k:=by
 obtain⟨d,b,c⟩:=Classical.epsilon_spec (p:=λk=>∃a,x.1=.ref a/\jU prog w h k a) ⟨k,a,e,t⟩;rw[e]at b;cases b;exact c.inj t
def C9:Cm (model prog w) A s (tuples' true) (λx=>∃ k a,x.1=.ref a/\jU prog w s.heap k a) (λx y=>AN (wG prog w s.heap x) (wG prog w s.heap y)) where
 lt:=λ{x y E Q} ⟨k,a,e,t⟩ ⟨d,f,b,c⟩ q=>by
  rw[lV e t,lV b c]at q;rw[e,b];exact C8 t c q
 ir:=λx=>pU _
 tr:=JA
def D0{vs:List Value}{L:List Keyed}(T:gD prog w h N ks vs.toArray)(hn:ks.Nodup)(pm:L.Perm (vs.zip vs))(so:L.Pairwise λx y=>AN (wG prog w h x) (wG prog w h y)=true):gD prog w h N (Aa ks) (L.map (·.2)).toArray:=by
 have q:ks.length=vs.length:=by simpa using T.1
 have f:∀x∈L,∃a,x.2=.ref a/\jU prog w h (wG prog w h x) a/\N a:=λx c=>by
  obtain⟨g,j⟩:=mem_zip_self (pm.mem_iff.mp c);obtain⟨i,hi,e⟩:=BY j;obtain⟨k,a,_,b,d,l⟩:=T.2 i x.1 (by simp_all);exact⟨a,g▸b,by rw[lV b d];exact d,l⟩
 have n:(vs.zip vs).map (wG prog w h)=ks:=by
  refine Fy λi=>?_;rw[Ar];by_cases hi:i<vs.length
  ·have o:(vs.zip vs)[i]?=some (vs[i],vs[i]):=by simp_all
   obtain⟨k,a,p,b,d,l⟩:=T.2 i vs[i] (by simp);rw[o,p];exact Cq some (lV b d)
  simp_all
 have e:L.map (wG prog w h)=Aa ks:=vG (List.pairwise_map.mpr so) (gM ks) λx=>by
  rw[fF,← n,(pm.map (wG prog w h)).mem_iff]
 refine⟨by rw[← e];simp,λi v m=>?_⟩;rw[Dr,Ar]at m;obtain⟨x,c,rfl⟩:=Bf.mp m;obtain⟨a,g,j,b⟩:=f x (AV c);exact⟨wG prog w h x,a,by rw[← e,Ar,c];rfl,g,j,b⟩
def D2{vs:List Value}{D1 n:Nat}(p:s.heap.get? D1=some (seqObj "list" vs.toArray n))(hD:¬ N D1)(T:gD prog w s.heap N ks vs.toArray)(hz:vs.length<=sizeLine)(hn:ks.Nodup)(K:2<=vs.length->∀ k∈ks,k≠[])
  (q:∀h' ws c,gD prog w h' N (Aa ks) (toArray ws)->h'.get? D1=some (seqObj "list" (toArray ws) c)->(∀b ob,b≠D1->s.heap.get? b=some ob->h'.get? b=some ob)->P (.done (.ret .none)) {s with heap:=h'}) :
  wpAny (model prog w) A (Builtin.«list.sort» ⟨[.ref D1],[]⟩) P E s:=by
 have M:D1<s.heap.objs.size:=kN p;rw[list_sort_plain];refine dV (listItems_at p rfl (dV (listUpdate_at p rfl ?_ (by simpa using hz) (sY _))));obtain⟨h,l⟩:∃h,(s.heap.update D1 (mapSeq λ_=>(#[]:Array Value))).get? D1=some (seqObj "list" #[] h):=⟨_,get?_update_seq p λ_=>#[]⟩;refine dV (seqEpoch_at l rfl (dV (wpAny_newTuple ?_ (by simpa using hz))));refine dV (wpAny_newList ?_ (sY _));refine AE ?_;have kept:∀b ob,b≠D1->s.heap.get? b=some ob->(((s.heap.update D1 (mapSeq λ_=>(#[]:Array Value))).push (seqObj "tuple" vs.toArray 0)).push (seqObj "list" #[] 0)).get? b=some ob:=λb ob hb e=>sU _ (sU _ ((DP _ _ (iA hb)).trans e));have f:(((s.heap.update D1 (mapSeq λ_=>(#[]:Array Value))).push (seqObj "tuple" vs.toArray 0)).push (seqObj "list" #[] 0)).get? D1=some (seqObj "list" #[] h):=sU _ (sU _ l);show wpAny (model prog w) A _ P E {s with heap:=((s.heap.update D1 (mapSeq λ_=>(#[]:Array Value))).push (seqObj "tuple" vs.toArray 0)).push (seqObj "list" #[] 0)};generalize ((s.heap.update D1 (mapSeq λ_=>(#[]:Array Value))).push (seqObj "tuple" vs.toArray 0)).push (seqObj "list" #[] 0)=d at kept f ⊢;have m:gD prog w d N ks vs.toArray:=T.stay λb ob hb e=>kept b ob (λz=>hD (z▸hb)) e;dsimp only;have hl:ks.length=vs.length:=by simpa using T.1
 have pz:(vs.toArray.zip vs.toArray).toList=vs.zip vs:=by simp
 have fin:∀(L:List Keyed),L.Perm (vs.zip vs)->(L.Pairwise λx y=>AN (wG prog w d x) (wG prog w d y)=true)->P (.done (.ret .none)) {s with heap:=d.update D1 (mapSeq λ_=>(L.map (·.2)).toArray)}:=λL pm so=>by
  obtain⟨r,t⟩:∃r,(d.update D1 (mapSeq λ_=>(L.map (·.2)).toArray)).get? D1=some (seqObj "list" (L.map (·.2)).toArray r):=⟨_,get?_update_seq f λ_=>(L.map (·.2)).toArray⟩;have kp:∀b ob,b≠D1->d.get? b=some ob->(d.update D1 (mapSeq λ_=>(L.map (·.2)).toArray)).get? b=some ob:=λb ob hb e=>(DP _ _ (iA hb)).trans e;exact q _ _ r ((D0 m hn pm so).stay λb ob hb e=>kp b ob (λz=>hD (z▸hb)) e) t λb ob hb e=>kp b ob hb (kept b ob hb e)
 have π:∀{L:List Keyed},L.Perm (vs.zip vs)->(L.map (·.2)).length=vs.length:=λpm=>by rw[hB,pm.length_eq];simp
 by_cases g:vs.toArray.size<2
 ·rw[fI g,fI g];refine dV (gV ?_);rw[StateT.run_pure];refine dV (gV ?_);dsimp only;refine dV (seqEpoch_at f rfl ?_);have es:(arrOf (SortSt.mk' general' (vs.toArray.zip vs.toArray) #[] 7 none)).map (·.2)=((vs.zip vs).map (·.2)).toArray:=by
   show(vs.toArray.zip vs.toArray).map (·.2)=_;apply Array.toList_inj.mp;simp
  refine dV (listUpdate_at f rfl ?_ (sY _) (by rw[es];simp;lia));simp only[bne_self_eq_false,false_eq_true,if_false];rw[es];refine gV (fin _ (.refl _) ?_);have:(vs.zip vs).length<2:=by simpa using g
  match R:vs.zip vs with
  |[]=>exact .nil
  |[x]=>exact pairwise_singleton _ _
  |_::_::_=>rw[R]at this;simp only[length_cons]at this;lia
 ·rw[gX g,gX g];have o:2<=vs.length:=by simp at g;exact g
  refine dV (f3 (s:={s with heap:=d}) m (AQ o) (K o) ?_);have C:Cm (model prog w) A {s with heap:=d} (tuples' true) _ _:=C9 (s:={s with heap:=d});have S:∀x∈vs.zip vs,∃k a,x.1=.ref a/\jU prog w d k a:=λx U=>by
   obtain⟨h,u⟩:=mem_zip_self U;obtain⟨i,hi,e⟩:=BY u;obtain⟨k,a,_,v,V1,e5⟩:=m.2 i x.1 (by rw[Dr,nL hi,e]);exact⟨k,a,v,V1⟩
  have W:CA (λx y=>AN (wG prog w d x) (wG prog w d y)) (vs.zip vs):=by
   refine List.pairwise_iff_getElem.mpr λi j hi hj B=>?_;have F:i<vs.length:=by simpa using hi
   have G:j<vs.length:=by simpa using hj
   obtain⟨H,a1,h,u,v,_⟩:=m.2 i vs[i] (by rw[Dr];exact nL F);obtain⟨I,a2,X,Y,σ,_⟩:=m.2 j vs[j] (by rw[Dr];exact nL G);dsimp only;rw[lV (x:=(vs.zip vs)[i]) (by simp[u]) v,lV (x:=(vs.zip vs)[j]) (by simp[Y]) σ];have ne:H≠I:=λz=>by
    subst z;obtain⟨g1,g2⟩:=sS.mp h;obtain⟨g3,g4⟩:=sS.mp X;exact List.pairwise_iff_getElem.mp (Eg.mp hn) i j g1 g3 B (g2.trans g4.symm)
   cases q1:AN H I with
   |true=>exact .inl rfl
   | false=>cases q2:AN I H with
     |true=>exact .inr rfl
     |false=>exact absurd (xW q1 q2) ne
  have run:=yK (E:=E) C (st:=SortSt.mk' (tuples' true) (vs.toArray.zip vs.toArray) #[] 7 none) (Q:=λ_ st'=>failedOf st'=none/\(arrOf st').toList.Perm (vs.zip vs)/\Ag (λx y=>AN (wG prog w d x) (wG prog w d y)) (arrOf st').toList) rfl rfl rfl (by show ∀x∈(vs.toArray.zip vs.toArray).toList,_;rw[pz];exact S) (by show CA _ (vs.toArray.zip vs.toArray).toList;rw[pz];exact W) λst' z1 J z3=>⟨z1,by have J:(arrOf st').toList.Perm (vs.toArray.zip vs.toArray).toList:=J;rwa[pz]at J,z3⟩;refine dV (Ca run ?_ λ_ _ e=>e);rintro⟨⟨⟩,st'⟩ s' ⟨rfl,hf,pm,so⟩;dsimp only at pm so ⊢;refine dV (seqEpoch_at f rfl ?_);have es:(arrOf st').map (·.2)=((arrOf st').toList.map (·.2)).toArray:=by apply Array.toList_inj.mp;simp
  rw[es];refine dV (listUpdate_at f rfl ?_ (sY _) (by show(toArray _).size<=_;rw[CY,π pm];lia));rw[hf];simp only[bne_self_eq_false,false_eq_true,if_false];exact gV (fin _ pm so)
def vO(hh:A.handled=none)(X:Cz prog w s.heap S (fM w) N ks o es ep t)(hN:∀ a,N a->a < s.heap.objs.size)(hz:es.size<=sizeLine)(hk:2<=es.size->∀ k∈ks,k≠[])(hm:∀ x,x∈ks↔x∈l)
  (q:∀h' tk D1 vs c,s.heap.objs.size<=D1->h'.get? D1=some (seqObj "list" (toArray vs) c)->gD prog w h' N (Aa l) (toArray vs)->(∀b ob,s.heap.get? b=some ob->h'.get? b=some ob)->Q (.ref D1) {s with heap:=h',toks:=tk}) :
  wpAny (model prog w) A (call (.builtin "sorted") [.ref S]) Q E s:=by
 have pm:=oA (w:=w) (S:=S) (ep:=ep) es;have G:(cG w S ep es).toList.length=es.size:=by have:=pm.length_eq;simpa using this
 have B:∀e∈(cG w S ep es).toList,∃k a,k∈ks/\e=(tupleKeyHash (intKind prog w) k,Value.ref a)/\jU prog w s.heap k a/\N a:=λe L=>by
  have:=pm.mem_iff.mp L;obtain⟨i,hi,ei⟩:=Array.getElem_of_mem (by simpa using this:e∈es);obtain⟨k,a,j,n,u,H⟩:=X.it i e (by rw[BG hi,ei]);exact⟨k,a,AV j,n,u,H⟩
 have M:∃ us:List (List Int),us.Perm ks/\us.length=es.size/\∀ (i:Nat) e,(cG w S ep es).toList[i]? = some e->∃ k a,us[i]? = some k/\e.2=Value.ref a/\jU prog w s.heap k a/\N a:=by
  have f:∀e:Int×Value,∃k:List Int,∀y a,e.2=Value.ref a->jU prog w s.heap y a->y=k:=λe=>by
   by_cases h:∃y a,e.2=Value.ref a/\jU prog w s.heap y a;obtain⟨y,a,j,n⟩:=h;refine⟨y,λk'' a' r π=>?_⟩;rw[j]at r;cases r;exact π.inj n;exact⟨[],λy a j n=>absurd ⟨y,a,j,n⟩ h⟩
  let g:Int×Value->List Int:=λe=>Classical.choose (f e)
  have σ:∀e k a,e.2=Value.ref a->jU prog w s.heap k a->k=g e:=λe k a=>Classical.choose_spec (f e) k a;have ge:es.toList.map g=ks:=by
   refine Fy λi=>?_;rw[Ar,Bg];by_cases hi:i<es.size;rw[BG hi];obtain⟨k,a,j,n,u,_⟩:=X.it i es[i] (BG hi);rw[j];show some (g es[i])=some k;rw[← σ es[i] k a (by rw[n]) u];rw[IQ (Em hi),List.getElem?_eq_none (by rw[X.len];simp_all)];rfl
  refine⟨(cG w S ep es).toList.map g,?_,by rw[hB];exact G,λi e L=>?_⟩;have:=pm.map g;rw[ge]at this;exact this;obtain⟨k,a,j,n,u,H⟩:=B e (AV L);refine⟨k,a,?_,by rw[n],u,H⟩;rw[Ar,L];show some (g e)=some k;rw[← σ e k a (by rw[n]) u]
 obtain⟨us,up,ul,ui⟩:=M;refine Calls.call_function_entry kind_sorted plain_sorted entry_sorted (args_sorted1 _) ?_;unfold Builtin.«sorted»;refine dV (m:=checkCount "sorted" 1 1 _) (gV ?_);refine dV (k8 (A:=A.in1) hh ⟨X.ob,X.ex,X.dt,X.tk,X.ful,X.ld,X.pl⟩ hz λj I p d=>?_);generalize J:(cG w S ep es).toList.map (·.2)=vs;have P:vs.length=es.size:=by rw[← J,hB];exact G
 have T1:gD prog w j N us vs.toArray:=by
  refine⟨by rw[ul,CY];exact P.symm,λi v e=>?_⟩;rw[Dr,← J,Ar]at e;obtain⟨e',ee,rfl⟩:=Bf.mp e;obtain⟨k,a,r,n,u,H⟩:=ui i e' ee;exact⟨k,a,r,n,u.at λob R=>p a ob R,H⟩
 refine dV (wpAny_newList ?_ (by rw[P];exact hz));have K:(j.push (seqObj "list" vs.toArray 0)).get? j.objs.size=some (seqObj "list" vs.toArray 0):=Ad _ rfl;have up1:∀b ob,j.get? b=some ob->(j.push (seqObj "list" vs.toArray 0)).get? b=some ob:=λb ob e=>sU _ e;have T:¬N j.objs.size:=λz=>absurd (hN _ z) (ER.mpr (AQ d));have T2:gD prog w (j.push (seqObj "list" vs.toArray 0)) N us vs.toArray:=T1.stay λb ob _ e=>up1 b ob e;have U:2<=vs.length->∀k∈us,k≠[]:=λh k V1=>hk (by simp_all) k (up.mem_iff.mp V1);have nu:us.Nodup:=up.nodup_iff.mpr X.nd;refine dV (AE (Cp slot_list_sort ⟨_,K,rfl⟩ entry_list_sort (D2 (s:={s with heap:=j.push (seqObj "list" vs.toArray 0),toks:=I}) K T T2 (by rw[P];exact hz) nu U λn ws c T3 W C=>⟨_,rfl,?_⟩) (args_list_sort _)));refine gV ⟨_,rfl,?_⟩;have Y:Aa us=Aa l:=vG (gM us) (gM l) λx=>by rw[fF,fF,up.mem_iff];exact hm x
 rw[Y]at T3;exact q n I j.objs.size ws c (AQ d) W T3 λb ob e=>C b ob (λz=>absurd (kN (z▸e)) (ER.mpr (AQ d))) (up1 b ob (p b ob e))
end
section
open PyProof.Rows Spec
theorem Px(k:List Int):∀ l:List (List Int),(Dk k l).length<=l.length+1
 |[]=>by simp[Dk]
 | x::l=>by
   have:=Px k l;unfold Dk
   repeat' split
   all_goals simp_all
theorem sK:∀ l:List (List Int),(Aa l).length<=l.length
 |[]=>by simp[Aa]
 | x::l=>by
   have:=sK l;have:=Px x (Aa l);show(Dk x (Aa l)).length<=_
   grind
def vP:List V->Hp->VK->Prop:=λvs H Q=>∃(p:Addr) (b:Bool) (ps:List Addr) (ks:List (List Int)),vs=[.ref p]/\cS H p=some (b,ps.map V.ref)/\ps.length=ks.length/\(∀(i:Nat) a k,ps[i]?=some a->ks[i]?=some k->H a=some (.tup (k.map V.int))) /\
 ks.length<4000/\(2<=(Aa ks).length->∀k∈ks,k≠[]) /\
 ∀r (qs:List Addr),H r=none->qs.length=(Aa ks).length->(∀(i:Nat) a k,qs[i]?=some a->(Aa ks)[i]?=some k->H a=some (.tup (k.map V.int)))->Q (.ref r) (gY H r (.lst (qs.map V.ref)))
def sM(hc:X.calm=true)(hu:X.A.units+8 < cLine):∀ pins s Z H vs us Q,dX X pins Z H s->bJ vs us->vP vs H Q ->
  wpAny (model X.prog X.w) X.A (call (.type "set") us) (λu s1=>wpAny (model X.prog X.w) X.A (call (.builtin "sorted") [u]) (EP X pins Z Q) X.xe s1) X.xe s:=by
 intro pins s Z H vs us Q I rv h;obtain⟨p,b,ps,ks,rfl,hH,hl,J,hn,K,q⟩:=h;obtain⟨u,rfl,ru⟩:=rv.one;cases ru;obtain⟨its,r,⟨L⟩⟩:=g7 I hc hH;have B:ps.length=its.length:=by simpa using r.length
 have alive:∀a∈ps,a<s.heap.objs.size:=λa ha=>by
  obtain⟨i,hi,e⟩:=BY ha;have n:i<ks.length:=by lia
  obtain⟨o,_,_,ho,_⟩:=xY I (J i a ks[i] (by rw[nL hi,e]) (nL n));exact kN ho
 have T0:gD X.prog X.w s.heap (· ∈ ps) ks its.toArray:=by
  refine⟨by rw[CY];lia,λi v e=>?_⟩;rw[Dr]at e;have hi:i<ps.length:=by rw[B];exact(sS.mp e).1
  have n:i<ks.length:=by simp_all
  obtain⟨v',e',M⟩:=r.get (i:=i) (x:=.ref ps[i]) (by rw[Ar,nL hi];rfl);rw[e]at e';cases e';cases M;exact⟨ks[i],ps[i],nL n,rfl,xY I (J i _ _ (nL hi) (nL n)),DW hi⟩
 have nS:¬s.heap.objs.size∈ps:=λz=>absurd (alive _ z) (Cb _);have nI:¬s.heap.objs.size+1∈ps:=λz=>absurd (alive _ z) (ER.mpr (le_succ _));refine c9 L (λA' ha π=>d5 (prog:=X.prog) (w:=X.w) (led:=fM X.w) (N:=(· ∈ ps)) (ks:=ks) (DU π hu) nS nI (An (HF _)) hn) (λh' hS hold=>?_) λh' tk ⟨T1,us,X1,_,hm⟩ d=>?_;refine⟨T0.stay λc ob _ e=>hold c ob e,[],⟨_,#[],0,_,hS,⟨rfl,rfl,rfl⟩,rfl,?_,?_,rfl,rfl,rfl,λi e he=>by simp at he,.nil⟩,hF _,λx=>by simp⟩;refine⟨⟨3,rfl⟩,hF _,rfl,λi j a b _ e=>by simp[SetTable.fresh]at e,λi j e=>by simp[SetTable.fresh]at e,rfl,by simp[SetTable.fresh],λi h e=>by simp at e⟩;simp[SetTable.fresh];obtain⟨o,es,ep,t,Y⟩:=X1;have y:∀x,x∈us↔x∈ks:=λx=>by
  rw[hm x,CC (by rw[CY];simp_all)]
 have pl:us.length=(Aa ks).length:=((List.perm_ext_iff_of_nodup Y.nd (f6 (gM ks))).mpr λx=>by rw[y x,fF]).length_eq;have P:es.size=(Aa ks).length:=by rw[← Y.len];exact pl
 have C:s.heap.objs.size<h'.objs.size:=kN Y.ob;have sl:(Aa ks).length<=ks.length:=sK ks;have R:es.size<=sizeLine:=by rw[P,DL];lia
 refine vO (s:={s with heap:=h',toks:=tk}) (I.ok.hd hc) Y (λa ha=>BN (alive a ha) C) R (λh2 k S=>K (by simp_all) k ((y k).mp S)) y λh2 T D1 vs c hD U W m=>?_
 have hq:∃ qs:List Addr,vs=qs.map Value.ref/\qs.length=(Aa ks).length/\∀ (i:Nat) a k,qs[i]? = some a->(Aa ks)[i]? = some k->H a=some (.tup (k.map V.int)):=by
  have f:∀v∈vs,∃a,v=Value.ref a:=λv G=>by
   obtain⟨i,hi,e⟩:=BY G;obtain⟨_,a,_,σ,_⟩:=W.2 i v (by rw[Dr,nL hi,e]);exact⟨a,σ⟩
  have g:∀ vs:List Value,(∀ v∈vs,∃ a,v=Value.ref a)->∃ qs:List Addr,vs=qs.map Value.ref:=by
   intro vs
   induction vs with
   |nil=>intro _;exact⟨[],rfl⟩
   | cons v r ih=>
     intro G;obtain⟨a,rfl⟩:=G v sT;obtain⟨qs,rfl⟩:=ih λx hx=>G x (Ah _ hx);exact⟨a::qs,rfl⟩
  obtain⟨qs,rfl⟩:=g vs f;have l1:qs.length=(Aa ks).length:=by have:=W.1;simpa using this.symm
  refine⟨qs,rfl,l1,λi a k ea ek=>?_⟩;obtain⟨k',a',e1,σ,e3,e4⟩:=W.2 i (.ref a) (by rw[Dr,Ar,ea];rfl);rw[ek]at e1;cases e1;cases σ;obtain⟨j,hj,ej⟩:=BY e4;have hj':j<ks.length:=by lia
  have E:=J j a ks[j] (by rw[nL hj,ej]) (nL hj');have t1:jU X.prog X.w h2 ks[j] a:=(xY I E).at λob hob=>m a ob (d a ob hob);rw[e3.inj t1];exact E
 obtain⟨qs,rfl,ql,qh⟩:=hq;have F:s.heap.objs.size<=D1:=oT (AQ C) hD;refine⟨.ref D1,gY H D1 (.lst (qs.map V.ref)),?_,rfl,q D1 qs (I.hok.fresh F) ql qh⟩;refine I.laid (t':=T) (λb ob e=>m b ob (d b ob e)) F ⟨by rw[hB,ql,DL];lia,qs.map Value.ref,c,?_,U⟩;have vr:∀l:List Addr,bJ (l.map V.ref) (l.map Value.ref):=by
  intro l
  induction l with
  |nil=>exact .nil
  |cons a r ih=>exact .cons rfl ih
 exact vr qs
end
open Classical in
def iH:FN:=λa=>match a with
 |[d]=>(CH d).bind λx=>(Hk x.2).bind λks=>if ks.length<4000/\(2<=(Aa ks).length->∀k∈ks,k≠[])then some (.own (.lst ((Aa ks).map tI)))else none
 |_=>none
def vQ:Dd vP iH:=by
 intro H x vs Q res vw e k;unfold iH at e;split at e
 ·obtain⟨⟨b,l⟩,j,e⟩:=aA e;obtain⟨ks,c,e⟩:=aA e;dsimp only at c;split at e
  ·rename_i d;cases e;cases vw with
   | cons a t=>
     cases t;obtain⟨p,xs,rfl,m,f⟩:=MM a j;rw[i0 c]at f;obtain⟨ps,rfl,n,o⟩:=i6 f;refine⟨p,b,ps,ks,rfl,m,n,o,d.1,d.2,λr qs g q s=>?_⟩;have h:mQ H (gY H r (.lst (qs.map V.ref))):=aM g;exact k _ _ h ⟨r,rfl,g,_,aJ,i7 q λi a u v w=>h _ _ (s i a u v w)⟩
  ·cases e
 ·cases e
theorem Py:dY (iH [.lst (ks.map tI)]) K=((ks.length<4000/\(2<=(Aa ks).length->∀k∈ks,k≠[]))/\K (.own (.lst ((Aa ks).map tI)))):=by
 show dY ((Hk (ks.map tI)).bind _) K=_;rw[i4];show dY (if _ then _ else none) K=_;rw[aO];rfl
noncomputable def vR:DS:=λ_=>none
def D3:GS E X st vR:=.mk λ_ _ _ _ _ _ _ h=>by
 obtain⟨_,_,_,e,_⟩:=h;cases e
def Bx.keep(h:Bx H p kvs)(k:∀o,H p=some o->H' p=some o):Bx H' p kvs:=h.imp (k _) λh=>⟨k _ h.1,h.2⟩
theorem Bx.some(h:Bx H p kvs):∃o,H p=some o/\Fz o:=h.elim (λh=>⟨_,h,True.intro⟩) λh=>⟨_,h.1,True.intro⟩
def Bx.isD(h:Bx H p kvs):GG H p:=h.elim (λh=>.inr (.inl ⟨_,.inl h⟩)) λh=>.inl ⟨_,.inl h.1⟩
def D6{D:Bh}(hne:row≠g)(h:Ct Γ E (Ge g row ri rk ra) D σV H) :
  HN (FF Ku (iM g)) (HN (HQ (Ew Γ ri) (iM row) (IT (FH K "list" nJ (Le (CZ g) (Bd Γ rk) (Kl IV)) (BQ Γ ra)))) (Ka (Lj (CZ g)))) D σV H:=by
 refine AU λN=>?_;obtain⟨Z,ok,o,e,k⟩:=h;unfold Ge at e;split at e
 case isFalse=>cases e
 rename_i hg;obtain⟨⟨items,l,n⟩,e1,e⟩:=aA e;dsimp only at e;split at e
 case isFalse=>cases e
 rename_i hz;obtain⟨rfl,Q,hz⟩:=hz;obtain⟨⟨acc,A⟩,e2,e⟩:=aA e;cases e;refine N ?_;intro p hp;have gl:g<σV.length:=by rw[← ok.len];exact(sS.mp hg).1
 have h0:=ok.dom p hp;have okP:fE Z g=true:=by unfold fE;rw[hg]
 have sm:mQ H (gY H p (.dT [])):=aM hp;have ok1:eH Γ (gY H p (.dT [])) (Z.set g (some SG)) (σV.set g (some (.ref p))):=(ok.same sm).putOwn okP ⟨_,[],aJ,⟨rfl,rfl⟩,.nil⟩ (Pp ok hp) h0;have st1:hJ Z σV H (Z.set g (some SG)) (σV.set g (some (.ref p))) (gY H p (.dT [])):=(hJ.same sm).put okP .own (.inr ⟨rfl,λq e=>by cases e;exact hp⟩);have vg:(σV.set g (some (.ref p)))[g]?=some (some (.ref p)):=by rw[Bo gl]
 unfold iM HN;dsimp only;generalize σV.set g (some (.ref p))=f at ok1 st1 vg ⊢;refine⟨_,ok1,items,none,n,e1,λJ G P oka sta itd stay=>?_⟩;have mp:iO n f p:=⟨g,SG,Q,rfl,vg⟩;have dta:Bx G p []:=by
  obtain⟨v,ev,rv⟩:=oka.rel g SG Q;rw[vg]at ev;cases ev;obtain⟨_,q,u,ws,hu,du,_⟩:=rv;cases q;cases u with
  |dK kvs=>exact .inr ⟨by rw[hu,List.map_eq_nil_iff.mp du.1.symm],rfl⟩
  |dT kvs=>exact .inl (by rw[hu,List.map_eq_nil_iff.mp du.1.symm])
  |dM kvs=>cases du.1
  |_=>exact du.elim
 have hid0:Cd Γ (n.set g none) f p:=⟨λZ1=>by
  obtain⟨i,s,h1,h2,h3⟩:=Z1;rcases aP h1 with⟨z,I,_⟩|⟨z,I⟩;cases I;exact oka.dis g i SG s p (iA z) Q I rfl h2 vg h3,h0⟩
 have gl1:g<n.length:=(sS.mp Q).1;refine⟨λi m σV2 R=>m=items.length-i/\i<=items.length/\∃c a2 kvs ls,Gd row rk ra (items.drop i) a2 c=some (acc,A)/\eH Γ R c σV2/\hJ n f G (c.set g (some SG)) σV2 R/\σV2[g]?=some (some (.ref p))/\Bx R p kvs/\Aw R i a2 kvs ls/\p∉ls/\(∀q,q=p\/q∈ls->Cd Γ c σV2 q)/\(∀q∈ls,G q=none)/\a2.length<=i,
  ⟨_,rfl,sY _,n.set g none,[],[],[],by simpa using e2,oka.forget,by rw[List.set_set,B3 Q];exact .refl,vg,dta,.nil,by simp,λq hq=>by rcases hq with rfl|hq;exact hid0;simp at hq,by simp,hF _⟩,?_⟩
 refine λi m σV2 R hh=>AU λN=>?_;obtain⟨rfl,hi,c,a2,kvs,ls,ef,ok2,st2,vg2,dt2,gr,pn,hq,hla,al⟩:=hh;have hP:P R:=stay _ σV2 R st2;by_cases S:i<items.length
 ·have ei:items[i]? = some items[i]:=nL S;refine N (.inr ⟨itd.go R i _ hP ei,λσV3 Y=>∃ m',m' < items.length-i/\m'=items.length-(i+1)/\i+1<=items.length/\∃ c a2 kvs ls,Gd row rk ra (items.drop (i+1)) a2 c=some (acc,A)/\eH Γ Y c σV3/\hJ n f G (c.set g (some SG)) σV3 Y/\σV3[g]? = some (some (.ref p))/\Bx Y p kvs/\Aw Y (i+1) a2 kvs ls/\p∉ls/\(∀ q,q=p\/q∈ls->Cd Γ c σV3 q)/\(∀ q∈ls,G q=none)/\a2.length<=i+1,λσ' H' q=>q,λy Y hy=>AU λN=>?_⟩);obtain⟨T,ry⟩:=itd.yld R i _ y Y hP ei hy;rw[drop_eq_getElem_cons S]at ef;obtain⟨σ3,eg,ef1⟩:=aA ef;obtain⟨⟨xk,x⟩,ek,ef2⟩:=aA ef1;obtain⟨F,U,ef3⟩:=aA ef2;obtain⟨⟨ys,σ5⟩,ea,ef4⟩:=aA ef3;obtain⟨ds,evs,ef5⟩:=aA ef4;obtain⟨vd,σ,ef6⟩:=aA ef5;clear ef ef1 ef2 ef3 ef4 ef5;dsimp only at U ea evs ef6;unfold hC at eg;split at eg
  case isFalse=>cases eg
  rename_i okr;cases eg;have okr':fE (c.set g (some SG)) row=true:=by unfold fE;rw[Ac (iA hne)];exact okr
  have M:=(ok2.same T).put okr ry;have st3:=(st2.trans (.same T)).put (v:=y) (d:=items[i]) okr' .val (.inl rfl);rw[List.set_comm _ _ (iA hne)]at st3;have B:(σV2.set row (some y))[g]?=some (some (.ref p)):=by rw[Ac hne];exact vg2
  have hq3:∀q,q=p\/q∈ls->Cd Γ (c.set row (some ⟨.val,items[i]⟩)) (σV2.set row (some y)) q:=λq h=>⟨λZ1=>by
   obtain⟨j,s,h1,h2,h3⟩:=Z1;rcases aP h1 with⟨z,I,_⟩|⟨z,I⟩;cases I;exact h2 rfl;exact(hq q h).nv ⟨j,s,I,h2,by rw[Ac (iA z)]at h3;exact h3⟩,(hq q h).h0⟩
  have gl2:g<(c.set row (some ⟨.val,items[i]⟩)).length:=by rw[M.len];exact(sS.mp B).1
  refine N ?_;unfold IT;dsimp only;generalize σV2.set row (some y)=σV3 at M st3 B hq3 ⊢;generalize c.set row (some ⟨.val,items[i]⟩)=σ3 at M st3 hq3 ek gl2;have gr3:Aw Y i a2 kvs ls:=gr.keep (.same T) λl _ o e=>T l o e;have dt3:Bx Y p kvs:=dt2.keep λo e=>T p o e;refine⟨.ref p,B,p,rfl,dt3.isD,σ3,M,xk,x,ek,λvk H4 X rk4 st4 f4=>⟨sY _,λl π=>?_⟩⟩;have kp4:∀ q,q=p\/q∈ls->∀ o,Y q=some o->H4 q=some o:=λq h o e=>((hq3 q h).step st4 e).2;have hq4:∀ q,q=p\/q∈ls->Cd Γ x σV3 q:=λq h=>by
   have:∃o,Y q=some o:=by
    rcases h with rfl|h;obtain⟨o,e,_⟩:=dt3.some;exact⟨o,e⟩;obtain⟨xs,e⟩:=gr3.soft q h;exact⟨_,e⟩
   obtain⟨o,e⟩:=this;exact((hq3 q h).step st4 e).1
  have st4':hJ n f G (x.set g (some SG)) σV3 H4:=st3.trans (st4.wide gl2 (by rw[X.len,M.len]) B B);have ext4:=st4.ext M;have gr4:Aw H4 i a2 kvs ls:=gr3.keep ext4 λl π=>kp4 l (.inr π);have dt4:Bx H4 p kvs:=dt3.keep (kp4 p (.inl rfl));refine AU λN=>?_;obtain⟨b,rfl,hb⟩:∃ b,vk=.ref b/\H4 b=some (.tup (F.map kV)):=by
   unfold IA at U;split at U
   ·have rk4:Rp H4 (.tup _) vk:=rk4;cases rk4 with
    |tup h r=>rw[lE U]at r;rw[sE r]at h;exact⟨_,rfl,h⟩
   ·cases U
  have lp:l≠p:=λz=>by obtain⟨o,e,_⟩:=dt4.some;rw[z,e]at π;cases π
  have lls:l∉ls:=λz=>by obtain⟨xs,e⟩:=gr4.soft l z;rw[e]at π;cases π
  have s5:mQ H4 (gY H4 l (.lst [])):=aM π;have hidl:Cd Γ x σV3 l:=⟨Pp X π,X.dom l π⟩;have hal:G l=none:=st4'.dom l π;have gr5:Aw (gY H4 l (.lst [])) i a2 kvs ls:=gr4.keep (.same s5) λq _ o e=>s5 q o e;have dt5:Bx (gY H4 l (.lst [])) p kvs:=dt4.keep λo e=>s5 p o e;have st5:hJ n f G (x.set g (some SG)) σV3 (gY H4 l (.lst [])):=st4'.hid (.inl hal)
  have fin:∀ (H6:Hp) (a6:BZ) (w:List (List Key×V)) (C:List Addr) (v:V),eH Γ H6 x σV3->hJ n f G (x.set g (some SG)) σV3 H6->Bx H6 p w->Aw H6 i a6 w C->p∉C->(∀ q,q=p\/q∈C->Cd Γ x σV3 q)->(∀ q∈C,G q=none)->iP w F=some v->wF F vd a6=wF F vd a2->a6.length<=i+1 ->
    HV K "list" v H6/\BQ Γ ra σV3 H6 λxs H7=>nJ v xs H7 λ_ H8=>∃m',m' < items.length-i/\m'=items.length-(i+1)/\i+1<=items.length/\∃c a2 kvs ls,Gd row rk ra (items.drop (i+1)) a2 c=some (acc,A)/\eH Γ H8 c σV3/\hJ n f G (c.set g (some SG)) σV3 H8/\σV3[g]?=some (some (.ref p))/\Bx H8 p kvs/\Aw H8 (i+1) a2 kvs ls/\p∉ls/\(∀q,q=p\/q∈ls->Cd Γ c σV3 q)/\(∀q∈ls,G q=none)/\a2.length<=i+1:=by
   intro H6 a6 w C v ok6 st6 dt6 gr6 pn6 hq6 hla6 hv eg6 al6;refine AU λN=>?_;obtain⟨l6,xs6,rfl,m6,hl6,hx6,_⟩:=gr6.app (d:=vd) (y:=.non) hv;refine N ⟨.inl ⟨rfl,xs6,AL.of hl6⟩,x,ok6,ys,σ5,ea,λus H7 ok7 r7 st7 f7=>AU λN=>?_⟩;have ry7:=kS r7 evs;obtain⟨y7,rfl,r1⟩:∃ y7,us=[y7]/\Rp H7 vd y7:=by
    unfold Po at σ;split at σ
    ·cases σ;cases ry7 with
     |cons a t=>cases t;exact⟨_,rfl,a⟩
    ·cases σ
   have kp7:∀ q,q=p\/q∈C->∀ o,H6 q=some o->H7 q=some o:=λq h o e=>((hq6 q h).step st7 e).2;have hq7:∀ q,q=p\/q∈C->Cd Γ σ5 σV3 q:=λq h=>by
    have:∃o,H6 q=some o:=by
     rcases h with rfl|h;obtain⟨o,e,_⟩:=dt6.some;exact⟨o,e⟩;obtain⟨xs,e⟩:=gr6.soft q h;exact⟨_,e⟩
    obtain⟨o,e⟩:=this;exact((hq6 q h).step st7 e).1
   have gr7:Aw H7 i a6 w C:=gr6.keep (st7.ext ok6) λl π=>kp7 l (.inr π);have dt7:Bx H7 p w:=dt6.keep (kp7 p (.inl rfl));obtain⟨l7,xs7,q7,m7,hl7,hx7,app⟩:=gr7.app (d:=vd) (y:=y7) hv;cases q7;have sf:Fl H7 l6:=.inr ⟨_,hl7,True.intro⟩;have lp7:l6≠p:=λz=>pn6 (z▸m7);have gl4:g<x.length:=by rw[ok6.len];exact(sS.mp B).1
   refine N ⟨l6,xs7,y7,rfl,rfl,hl7,DU hx7 (Ax (BN S hz) (by decide)),_,by grind,rfl,S,σ5,wF F vd a6,w,C,?_,ok7.hid (hq7 l6 (.inr m7)) sf,(st6.trans (st7.wide gl4 (by rw[ok7.len,ok6.len]) B B)).hid (.inl (hla6 l6 m7)),B,dt7.keep λo e=>by rw[aG (iA lp7)];exact e,app (r1.mono sf.ext) sf.ext,pn6,hq7,hla6,?_⟩;rw[eg6];exact ef6;have:=(app (r1.mono sf.ext) sf.ext).len;have:=gr7.len;lia
  refine N ⟨kvs,F,b,dt5,rfl,s5 b _ hb,?_,λv hv=>?_,λhv=>?_⟩;have:=gr4.len;exact DU (by simp[*]) (Ax (BN S hz) (by decide));exact fin _ a2 kvs ls v (X.same s5) st5 dt5 gr5 pn hq4 hla hv rfl (le_succ_of_le al);have sp:Fl (gY H4 l (.lst [])) p:=.inr dt5.some;have kl:∀q∈ls++[l],q≠p:=λq h z=>by
   rcases Au.mp h with h|h;exact pn (z▸h);exact lp (by rw[← Aq.mp h];exact z)
  refine fin _ (a2++[(F,[])]) (kvs++[(F,.ref l)]) (ls++[l]) (.ref l) ((X.same s5).hid (hq4 p (.inl rfl)) sp) (st5.hid (.inr mp)) (.inl aJ) ((gr5.more aJ lls).keep sp.ext λq h o e=>by rw[aG (kl q h)];exact e) (λz=>kl p z rfl) (λq h=>?_) (λq h=>?_) (Pl hv) (vM (by rw[← gr4.keys];exact Pk hv)) (by rw[AO];exact succ_le_succ al);rcases h with h|h;exact hq4 q (.inl h);rcases Au.mp h with h|h;exact hq4 q (.inr h);cases Aq.mp h;exact hidl;rcases Au.mp h with h|h;exact hla q h;cases Aq.mp h;exact hal
 ·have e0:i=items.length:=by lia
  subst e0;rw[drop_length]at ef;cases ef;refine N (.inl ⟨itd.stop R hP,_,vg2,B2 gr.soft gr.nodup λH' k1 k2=>?_⟩);have gL:∀a,a∈ls->Cd Γ A σV2 a/\Fl R a:=λa h=>by obtain⟨xs,e⟩:=gr.soft a h;exact⟨hq a (.inr h),.inr ⟨_,e,True.intro⟩⟩
  have ex:=sD (L:=(· ∈ ls)) (λa h=>(gL a h).2) k1;have ok':eH Γ H' (A.set g none) σV2:=(ok2.hids (L:=(· ∈ ls)) gL k1).forget;have st':hJ n f G (A.set g (some SG)) σV2 H':=st2.hids (L:=(· ∈ ls)) (λa h=>⟨.inl (hla a h),by obtain⟨xs,e⟩:=gr.soft a h;obtain⟨o,e'⟩:=k2 a h xs e;rw[e'];exact λz=>nomatch z⟩) k1;have st'':hJ Z σV H (A.set g none) σV2 H':=by
   have:=(st1.trans sta).trans st';rw[show A.set g (some SG)=(A.set g none).set g (some SG) by rw[List.set_set]]at this;refine this.drop hg λs z=>?_;rcases aP z with⟨_,I,_⟩|⟨z1,_⟩;cases I;exact z1 rfl
  refine k (.ref p) σV2 H' ok' ⟨p,rfl,?_,λ⟨j,s,h1,h2,h3⟩=>?_,h0⟩ st''
  ·have rp:=gr.rps ex k2;have dt':Bx H' p kvs:=dt2.keep λo e=>by rw[k1 p pn];exact e
   have kk:acc.map (λp=>PySem.D.tup (p.1.map iQ))=kvs.map λkv=>PySem.D.tup (kv.1.map iQ):=by
    have:=Cq (List.map λl:List Key=>PySem.D.tup (l.map iQ)) gr.keys;simpa[map_map,Function.comp_def]using this.symm
   rcases dt' with e|⟨e,rfl⟩;exact⟨_,_,e,⟨kk,rfl⟩,rp⟩;refine⟨_,[],e,⟨kk,rfl⟩,rp⟩
  ·rcases aP h1 with⟨_,I,_⟩|⟨_,I⟩;cases I;exact(hq p (.inl rfl)).nv ⟨j,s,I,h2,h3⟩
def D7(d:row≠g)(h1:PS X a (FF Ku (iM g)))
  (i:∀Γ,PS X b (HQ (Ew Γ ri) (iM row) (IT (FH K "list" nJ (Le (CZ g) (Bd Γ e) (Kl IV)) (BQ Γ f))))) (j:PS X c (Ka (Lj (CZ g)))):CI E X [a,b,c] (Ge g row ri e f):=
 .mk λΓ=>Ia (mT h1 (mT (i Γ) (qH j))) λD σV H h=>D6 d h
mutual
def smp:D->Bool
 |.non|.int _=>true
 |.str z=>PyData.strOk z
 |.tup l|.lst l=>smps l
 |_=>false
def smps:List D->Bool
 |[]=>true
 |d::r=>smp d&&smps r
end
mutual
theorem Pz:∀{d:D},smp d=true->(fL d).canLay0=true
 |.non,_|.int _,_=>rfl
 |.str z,h=>h
 |.tup l,h|.lst l,h=>smps_lay (l:=l) h
 |.bl _,h|.dic _ _,h=>nomatch h
theorem smps_lay:∀ {l:List D},smps l=true->canLayAll0 (toPys l)=true
 |[],_=>rfl
 | d::r,h=>by
   have h':smp d=true/\smps r=true:=by simpa[smps]using h
   show((fL d).canLay0&&canLayAll0 (toPys r))=true;rw[Pz h'.1,smps_lay h'.2];rfl
end
mutual
theorem PB:∀ {d e:D},smp d=true->smp e=true->(PyData.eqv (fL d) (fL e)=true↔d=e)
 |.non,e,_,he|.str x,e,_,he|.int i,e,_,he=>by cases e<;>simp_all [fL,PyData.eqv,smp]
 | .tup l,e,hd,he=>by
   cases e with
   | tup m=>
     show eqvAll (toPys l) (toPys m)=true↔_;rw[eqvs_smp (l:=l) (m:=m) hd he,D.tup.injEq]
   |_=>simp_all [fL,PyData.eqv,smp]
 | .lst l,e,hd,he=>by
   cases e with
   | lst m=>
     show eqvAll (toPys l) (toPys m)=true↔_;rw[eqvs_smp (l:=l) (m:=m) hd he,D.lst.injEq]
   |_=>simp_all [fL,PyData.eqv,smp]
 |.bl _,_,h,_|.dic _ _,_,h,_=>nomatch h
theorem eqvs_smp:∀ {l m:List D},smps l=true->smps m=true->(eqvAll (toPys l) (toPys m)=true↔l=m)
 |[],[],_,_|[],e::m,_,_|d::l,[],_,_=>by simp[toPys,eqvAll]
 | d::l,e::m,hd,he=>by
   have a:smp d=true/\smps l=true:=by simpa[smps]using hd
   have b:smp e=true/\smps m=true:=by simpa[smps]using he
   show((fL d).eqv (fL e)&&eqvAll (toPys l) (toPys m))=true↔_;rw[Ej,PB a.1 b.1,eqvs_smp a.2 b.2,List.cons.injEq]
end
structure Ok(n:Nat)(d:D):Prop where
 smp:PySem.smp d=true
 dep:(fL d).depth<=n
theorem yL:∀ {l:List D},(∀ d∈l,smp d=true)->smps l=true
 |[],_=>rfl
 | d::r,h=>by
   show(smp d&&smps r)=true;rw[h d sT,yL λx a=>h x (Ah _ a)];rfl
theorem yM:∀{l:List D},(∀d∈l,(fL d).depth<=n)->depthAll (toPys l)<=n
 |[],_=>sY _
 |d::r,h=>Nat.max_le.mpr ⟨h d sT,yM λx a=>h x (Ah _ a)⟩
theorem Ok.lst{n:Nat}{l:List D}(h:∀d∈l,Ok n d):Ok (n+1) (.lst l):=⟨yL λd hd=>(h d hd).smp,succ_le_succ (yM λd hd=>(h d hd).dep)⟩
theorem Ok.tup{n:Nat}{l:List D}(h:∀d∈l,Ok n d):Ok (n+1) (.tup l):=⟨yL λd hd=>(h d hd).smp,succ_le_succ (yM λd hd=>(h d hd).dep)⟩
theorem Ok.int:Ok n (.int i):=⟨rfl,sY _⟩
theorem Ok.non:Ok n .non:=⟨rfl,sY _⟩
theorem Ok.str(h:∀c∈z.cps.toList,c<128):Ok n (.str z):=by
 refine⟨?_,sY _⟩;show PyData.strOk z=true;unfold PyData.strOk;rw[← Array.all_toList,Ds];intro c hc;have:=h c hc;simp;lia
def Ok.cmp(h:Ok n d)(hn:n<=60):dU d=true:=by
 unfold dU;rw[Pz h.smp,Dm (oT h.dep hn)];rfl
def PD(h1:Ok n d)(a:Ok m e):wE d e=decide (d=e):=by
 rw[FA,Co];exact PB h1.smp a.smp
def D8(h1:Ok n d)(a:Ok m e)(hn:n<=60)(hm:m<=60)(k:K (.val (.bl (if neg=true then !decide (d=e)else decide (d=e))))):dY (Av neg d e) K:=by
 unfold Av;rw[fI ⟨h1.cmp hn,a.cmp hm⟩,PD h1 a];exact k
theorem PF(h:Ok n d):∀ {l:List D},(∀ x∈l,Ok m x)->(l.any λy=>wE y d)=decide (d∈l)
 |[],_=>by simp
 | x::r,hl=>by
   rw[List.any_cons,PF h λy a=>hl y (Ah _ a),PD (hl x sT) h,FA,Bool.or_eq_true,Co,Co,Co,Aj,eq_comm]
def D9(h1:Ok n d)(a:∀ x∈l,Ok m x)(hn:n<=60)(hm:m < 60)(k:K (.val (.bl (if neg=true then !decide (d∈l)else decide (d∈l))))):dY (Be neg d (if b=true then .lst l else .tup l)) K:=by
 have e:Be neg d (if b=true then .lst l else .tup l)=if dU d=true/\dU (if b=true then .lst l else .tup l)=true then some (.val (.bl (if neg then !(l.any λy=>wE y d)else l.any λy=>wE y d)))else none:=by
  cases b<;>cases d<;>rfl
 have c:dU (if b=true then .lst l else .tup l)=true:=by
  cases b;exact(Ok.tup a).cmp (by assumption);exact(Ok.lst a).cmp (by assumption)
 rw[e,fI ⟨h1.cmp hn,c⟩,PF h1 a];exact k
def E1(h1:Ok n d)(a:∀x∈l,Ok m x)(hn:n<=60)(hm:m<60)(k:K (.val (.bl (if neg=true then !decide (d∈l)else decide (d∈l))))):dY (Be neg d (.tup l)) K:=D9 (b:=false) h1 a hn hm k
section
open PyProof.Rows Spec
def Lk:List V->Hp->VK->Prop:=λvs H Q=>∃(p q:Addr) (zs:List Key) (ys:List V),vs=[.ref p,.ref q]/\(∃a c,cS H p=some (a,zs.map kV)/\cS H q=some (c,ys))/\zs.length=ys.length/\zs.length<4000/\zs.Nodup/\∀d,H d=none->Q (.ref d) (gY H d (.dK (zs.zip ys)))
theorem PJ{zs:List Key}{ys:List V}{us ws:List Value}(a:bJ (zs.map kV) us)(b:bJ ys ws)(h:zs.length=ys.length):∃ rs:List (Key×Value),KV (zs.zip ys) rs/\rs.length=us.length/\∀ (i:Nat) p,rs[i]? = some p->∃ u,us[i]? = some u/\ws[i]? = some p.2/\(bA prog w).is p.1 u=true:=by
 induction zs generalizing ys us ws with
 |nil=>cases ys with
  |nil=>cases a;cases b;exact⟨[],.nil,rfl,λi p h=>by simp at h⟩
  |cons=>cases h
 |cons z zs ih=>cases ys with
  |nil=>cases h
  |cons y ys=>cases a with
   |cons a t=>cases b with
    |cons b d=>
     obtain⟨rs,e,f,g⟩:=ih t d (by simpa using h);refine⟨(z,_)::rs,.cons ⟨rfl,b⟩ e,by simp[f],λi p c=>?_⟩;cases i with
     |zero=>simp at c;subst c;exact⟨_,rfl,rfl,GC (k:=z) a⟩
     |succ i=>exact g i p (by simpa using c)
def E2(hc:X.calm=true):∀ pins s Z H vs us Q,dX X pins Z H s->bJ vs us->Lk vs H Q ->
  wpAny (model X.prog X.w) X.A (call (.type "zip") us) (λu s1=>wpAny (model X.prog X.w) X.A (call (.type "dict") [u]) (EP X pins Z Q) X.xe s1) X.xe s:=by
 intro pins s Z H vs us Q I y h;obtain⟨p,q,zs,ys,rfl,⟨a0,c0,e,z⟩,hl,L,f,k⟩:=h;obtain⟨u,v,rfl,B,g⟩:=y.two;cases B;cases g;obtain⟨a,t,b⟩:=Fj I e;obtain⟨c,x,d⟩:=Fj I z;have l1:a.length=zs.length:=by rw[← t.length,hB]
 have l2:c.length=ys.length:=x.length.symm;obtain⟨rs,C,D1,E⟩:=PJ (prog:=X.prog) (w:=X.w) t x hl;refine OZ b d λF j l m n o G r=>?_;refine vL (h0:=s.heap) (s:={s with heap:=F}) (knd:=bA X.prog X.w) (prs:=rs) (I.ok.hd hc) b d (by simp only[size_toArray];lia) (by rw[CY];exact D1) (by rw[CY];simp_all) (λi p e=>by simpa using E i p e) j l m n o r G λh' tk J K=>?_;have em:=jO (zs.zip ys) [] (by rw[nil_append,List.map_fst_zip (by simp[*])];exact f);rw[nil_append]at em;have hm:(iU [] (zs.zip ys)).length<=sizeLine:=by rw[em,DL,length_zip];lia
 refine⟨.ref (s.heap.objs.size+5),gY H (s.heap.objs.size+5) (.dK (iU [] (zs.zip ys))),I.laid (t':=tk) K (le_add_right _ _) (zQ hm ?_ (C.merge .nil) J),rfl,?_⟩;have:=I.big;exact beq_eq_false_iff_ne.mpr (CF (Ax this (le_add_right _ _)));rw[em];exact k _ (I.hok.fresh (le_add_right _ _))
end
def PL(l m:List D):Option hQ:=(lT l).bind λzs=>if zs.length=m.length/\zs.length<4000/\zs.Nodup then some (.own (.dic l m))else none
def oE:FN:=λa=>match a with
 |[.lst l,.tup m]|[.lst l,.lst m]=>PL l m
 |_=>none
def E3:Dd Lk oE:=by
 intro H t vs Q res vw e k;have h:∀ {l m:List D} {p q:Addr} {a c:Bool} {xs ys:List V},PL l m=some res->cS H p=some (a,xs)->Rps H l xs->cS H q=some (c,ys)->Rps H m ys->Lk [.ref p,.ref q] H Q:=λ{l m p q a c xs ys} e b f i g=>by
  obtain⟨zs,r,e⟩:=aA e;split at e
  ·rename_i hc;cases e;rw[lE r]at f;rw[sE f]at b;have s:zs.length=ys.length:=by rw[← g.length];exact hc.1
   refine⟨p,q,zs,ys,rfl,⟨_,_,b,i⟩,s,hc.2.1,hc.2.2,λd hd=>k _ _ (aM hd) ⟨d,rfl,hd,_,(zs.zip ys).map (·.2),aJ,⟨?_,rfl⟩,?_⟩⟩;rw[lE r,show((zs.zip ys).map λj=>iQ j.1)=((zs.zip ys).map Prod.fst).map iQ by rw[map_map];rfl,List.map_fst_zip (by simp_all)];rw[show((zs.zip ys).map λj=>j.2)=(zs.zip ys).map Prod.snd from rfl,map_snd_zip (by simp_all)];exact g.mono (.same (aM hd))
  ·cases e
 unfold oE at e;split at e;obtain⟨x,y,rfl,n,o⟩:=Ij vw;obtain⟨p,xs,rfl,b,f⟩:=dS n;obtain⟨q,ys,rfl,i,g⟩:=dF o;exact h e b f (aV i) g;obtain⟨x,y,rfl,n,o⟩:=Ij vw;obtain⟨p,xs,rfl,b,f⟩:=dS n;obtain⟨q,ys,rfl,i,g⟩:=dS o;exact h e b f i g;cases e
noncomputable def Fm:List D->List D->Int->Option (Option D)
 |[],[],_=>some none
 |.int x::ks,v::vs,z=>if x=z then some (some v)else Fm ks vs z
 |_,_,_=>none
def E4{kvs:List (Key×V)}(h:Rps H vs (kvs.map Prod.snd))(e:Fm (kvs.map λf=>iQ f.1) vs z=some r) :
  (r=none/\iP kvs (Sum.inl z:Key)=none)\/∃d x,r=some d/\iP kvs (Sum.inl z:Key)=some x/\Rp H d x:=by
 induction kvs generalizing vs with
 |nil=>cases h;cases e;exact .inl ⟨rfl,rfl⟩
 | cons p kvs j=>
   cases h with|cons a t=>
   obtain⟨k,y⟩:=p;cases k with
   |inr i=>cases e
   | inl x=>
     have b:(if x=z then some (some _)else Fm (kvs.map λf=>iQ f.1) _ z)=some r:=e;by_cases c:x=z;rw[fI c]at b;cases b;subst c;exact .inr ⟨_,_,rfl,eP rfl,a⟩;rw[gX c]at b;rw[eQ (λe=>c (by simp_all))];exact j t b
def E5(h:AM H (.dic ks vs) v)(e:Fm ks vs z=some r):∃a kvs,v=.ref a/\JF H a kvs/\((r=none/\iP kvs (Sum.inl z:Key)=none)\/∃d x,r=some d/\iP kvs (Sum.inl z:Key)=some x/\Rp H d x):=by
 obtain⟨a,u,ws,rfl,f,b,c⟩:=Lh h;cases u with
 | dK kvs=>
   obtain⟨rfl,rfl⟩:=b;exact⟨a,kvs,rfl,.inl f,E4 c e⟩
 | dT kvs=>
   obtain⟨rfl,rfl⟩:=b;cases kvs with
   |nil=>cases c;cases e;exact⟨a,[],rfl,.inr ⟨f,rfl⟩,.inl ⟨rfl,rfl⟩⟩
   |cons p r=>cases c with|cons _ _=>cases e
 |dM kvs=>obtain⟨rfl,rfl⟩:=b;cases vs<;>cases e
 |_=>exact b.elim
def Ll:D->D->Option (Option D)
 |.dic ks vs,.int z=>Fm ks vs z
 |_,_=>none
def ID(a b c:DE):DE:=λZ=>(a Z).bind λx=>(rd x.2 x.1).bind λf=>if Li f=true then(b x.2).bind λy=>(c y.2).bind λz=>(rd z.2 x.1).bind λd=>(rd z.2 y.1).bind λe=>(Ll d e).bind λr=>some ((match r with|some v=>.val v|none=>z.1),z.2)else none
def E6{C D E:DE}(N:GE X o C)(π:GE X e D)(P:GE X f E)(m:M2 X o "get" apos e f cpos):GE X (.Call (.Attribute o "get" apos) [e,f] [] cpos) (ID C D E):=.mk λΓ=>Bi (B7 (N.to Γ) (π.to Γ) (P.to Γ) m) λσV H Q Z1=>by
 obtain⟨Z,ok,res,σ',b,k⟩:=Z1;obtain⟨⟨x,p⟩,R,b⟩:=aA b;obtain⟨S,F,b⟩:=aA b;dsimp only at F b;split at b
 case isFalse=>cases b
 rename_i hd;obtain⟨⟨y,s⟩,T,b⟩:=aA b;obtain⟨⟨z,A⟩,G,b⟩:=aA b;obtain⟨d,I,b⟩:=aA b;obtain⟨J,K,b⟩:=aA b;obtain⟨r,B,b⟩:=aA b;cases b;dsimp only at G I K k;refine⟨Z,ok,x,p,R,λv U i L t f1=>?_⟩;have V:=L.vw i F;obtain⟨a,rfl,ha⟩:∃a,v=.ref a/\GG U a:=by
  cases S with
  |dic ks vs=>exact A7 V
  |_=>cases hd
 refine⟨a,rfl,ha,p,i,y,s,T,λw H2 j W l f2=>⟨s,j,z,A,G,λu M g Y n σ=>?_⟩⟩;have vx:=((L.step i l).step j n).vw g I;have vy:=(W.step j n).vw g K;cases d with
 | dic ks us=>
   cases J with
   | int c=>
     obtain⟨a',kvs,q,hq,h⟩:=E5 vx B;cases q;obtain rfl:w=.int c:=bO vy;refine⟨kvs,.inl c,hq,rfl,?_⟩;have st:=(t.trans l).trans n;rcases h with⟨rfl,h⟩|⟨d,x,rfl,h,rp⟩;rw[h];exact k u M g Y st (σ.back (t.trans l))
     ·rw[h];exact k x M g rp st fC
   |_=>cases B
 |_=>cases J<;>cases B
section
open PyProof.Rows Spec
noncomputable def Lm(a:Addr)(o:Obj)(xs:List V):It:=
 ⟨λi H=>H a=some (.frz o (.lst xs))/\i<xs.length,λi H x H'=>H'=H/\xs.reverse[i]?=some x,λi H=>H a=some (.frz o (.lst xs))/\xs.length<=i⟩
def E7{K:W.Frag}(a it:Addr)(o:Obj)(xs:List V):BO P w K tg (Lm a o xs) [it] it (λi h=>i<=xs.length/\h.IsRevIter it a ((xs.length:Int)-1-i)) where
 mem:=by simp
 obj:=λi h st b hb=>by
  have e:b=it:=by simpa using hb
  subst e;obtain⟨_,o,e,c,d⟩:=st;exact⟨o,e,λv z=>by rw[d]at z;cases z⟩
 keep:=λi h h' ⟨hi,st⟩ k=>⟨hi,st.at λo e=>k it (by simp) o e⟩
 item:=by
  intro X g j l hc i pins s Z H E I f st m;subst g j l;obtain⟨B,hi⟩:=m;obtain⟨_,st⟩:=st;obtain⟨its,C,p,R⟩:=I.list (eR (kO B));obtain⟨n,q,D1,r,t,y⟩:=f it (by simp);have A:xs[xs.length-1-i]?=some (xs[xs.length-1-i]'(by omega)):=nL _;generalize xs[xs.length-1-i]'(by omega)=x at A;obtain⟨u,F,G⟩:=C.get A;rw[show(xs.length:Int)-1-i=((xs.length-1-i:Nat):Int) by grind]at st;refine wpAny_pyNext_rev_item st p.isList (x:=u) (by simpa using F) λh' st' J=>?_;have L:dX X pins Z H {s with heap:=h'}:=I.turned (t':=s.toks) (λb o hb e=>(J.2 b hb).trans e) n q r t y;rw[show((xs.length-1-i:Nat):Int)-1=(xs.length:Int)-1-((i+1:Nat):Int) by grind]at st';obtain⟨S,M,N,π⟩:=id st';exact⟨u,rfl,Gs (s:={s with heap:=h'}) M N π (by decide) ⟨x,H,L,G,⟨rfl,by rw[List.getElem?_reverse hi];exact A⟩,⟨hi,st'⟩,λb hb=>(f b hb).1⟩⟩
 done:=by
  intro X g j l hc i pins s Z H E I f st m;subst g j l;obtain⟨B,hi⟩:=m;obtain⟨T,st⟩:=st;obtain⟨n,q,D1,r,t,y⟩:=f it (by simp);rw[show(xs.length:Int)-1-i = -1 by lia]at st;exact wpAny_pyNext_rev_end (I.ok.hd hc) st λh' Q=>⟨rfl,I.turned (t':=s.toks) (λb o hb e=>Q b o hb e) n q r t y⟩
 self:=λ_ _ _ _ _ st h=>wpAny_pyIter_revIter st.2 h
def PM(b:TA):TI:=λZ H R=>b Z H λvs H1=>∃a o xs,vs=[.ref a]/\H1 a=some (.frz o (.lst xs))/\R (Lm a o xs) H1
def E8(i:Gl X "reversed")(hm:X.mg "reversed"=none)(d:bootBuiltins "reversed"=some (.type "reversed"))(ha:PA X [e] g)
  (hs:starEach [e] X.env=(false,eval e X.env)::starEach [] X.env:=by rfl) (f:(backTo pos (starEach [] X.env)).any (·.1)=false:=by rfl):PI X tg (.Call (.Name "reversed" p) [e] [] pos) (PM g):=by
 intro pins s Z H R I h;refine Call_ (iS I i hm d (EH (thn (ha pos pins s Z H _ I h) λus s1 Z0=>?_) hs f));obtain⟨vs,j,c,l,m⟩:=Z0;obtain⟨a,o,xs,rfl,n,k⟩:=m;obtain⟨u,rfl,q⟩:=l.one;cases q;obtain⟨its,r,pl,t⟩:=c.list (eR (kO n));refine call_reversed_list pl.isList ?_;have st:({s1 with heap:=s1.heap.push (revObj a ((its.toArray.size:Int)-1))}:Shared).heap.IsRevIter s1.heap.objs.size a ((xs.length:Int)-1-(0:Nat)):=⟨_,Ad _ rfl,rfl,by rw[r.length];simp[revObj]⟩;refine wpAny_pyIter_revIter st ?_;refine⟨s1.heap.objs.size,[s1.heap.objs.size],_,_,j,rfl,c.kept (t':=s1.toks) λb o e=>sU _ e,E7 a _ o xs,⟨sY _,st⟩,λb hb=>?_,k⟩;have e:b=s1.heap.objs.size:=by simpa using hb
 subst e;exact c.fpOk (hF _) (c.hok.fresh (hF _))
end
noncomputable def IE(a:DA):DI:=λZ=>(a Z).bind λx=>match x.1 with
 |[.val (.lst l)]=>some (l.reverse,none,x.2)
 |_=>none
def E9(b:l.length=xs.length):Jj (Lm a o xs) l.reverse (λH=>H a=some (.frz o (.lst xs))/\Rps H l xs) where
 go:=λH i d ⟨h,_⟩ e=>⟨h,by
  have:=(sS.mp e).1;rw[length_reverse,b]at this;exact this⟩
 yld:=λH i d y H' ⟨_,r⟩ e ⟨c,f⟩=>by
  subst c;refine⟨.refl _,?_⟩;obtain⟨x,ex,g⟩:=r.reverse.get e;rw[f]at ex;cases ex;exact g
 stop:=λH ⟨h,_⟩=>⟨h,by rw[length_reverse,b];exact hF _⟩
set_option tactic.hygienic true in
def F0(h:∀ Γ,PI X tg e (PM (BQ Γ n))):GI X tg e (IE n):=.mk λΓ=>Ih (h Γ) λσV H R Z1=>by
 obtain⟨Z,ok,items,l,r,e,k⟩:=Z1;obtain⟨⟨x,g⟩,s,e⟩:=aA e;refine⟨Z,ok,x,g,s,λvs H1 b u i y=>?_⟩;dsimp only at e;split at e
 ·rename_i j;cases e;cases u with
  | cons a t _=>
    cases t;have a:Rp H1 (.lst j) _:=a;have m:∀{v:V},Rp H1 (.lst j) v->∃p o xs,v=.ref p/\H1 p=some (.frz o (.lst xs))/\Rps H1 j xs:=λh=>by
     cases h with
     |lst d f=>exact⟨_,_,_,rfl,d,f⟩
    obtain⟨p,o,xs,rfl,d,f⟩:=m a;exact⟨p,o,xs,rfl,d,k _ H1 _ b i (E9 f.length) λw q z c=>⟨(c.ext (Γ:=Γ) b.lendO).frz _ _ _ d,f.mono (c.ext (Γ:=Γ) b.lendO)⟩⟩
 ·cases e
def F3{b:Sg}(h:RA d (c::b) λrs a=>∃l,rs=[.val (.lst l)]/\K l.reverse none a):RI (IE d) (c::b) K:=by
 obtain⟨⟨x,a⟩,f,l,e,k⟩:=cU.mp h;dsimp only at e;subst e;refine cU.mpr ⟨(l.reverse,none,a),?_,k⟩;unfold IE;rw[f];rfl
def IF(Z:Sg)(rs:List hQ):Option (List D×Option Nat):=match rs with
 |[x,.val y]=>(rd Z x).bind λd=>(CH d).bind λl=>(CH y).bind λm=>if l.2.length=m.2.length then some (yA l.2 m.2,Pd x)else none
 |_=>none
def yN(a:DA):DI:=λZ=>(a Z).bind λx=>(IF x.2 x.1).bind λl=>some (l.1,l.2,x.2)
def F4(h:∀ Γ,PI X tg e (Pc (BQ Γ s))):GI X tg e (yN s):=.mk λΓ=>Ih (h Γ) λσV H R Z1=>by
 obtain⟨Z,ok,items,l,B,e,k⟩:=Z1;obtain⟨⟨x,j⟩,C,e⟩:=aA e;obtain⟨its,c,e⟩:=aA e;cases e;refine⟨Z,ok,x,j,C,λvs D f E n K=>?_⟩;unfold IF at c;split at c
 ·rename_i L y F;obtain⟨d,u,c⟩:=aA c;obtain⟨l,v,c⟩:=aA c;obtain⟨m,G,c⟩:=aA c;split at c
  ·rename_i w;cases c;subst F;cases E with
   | cons a t _=>cases t with
     | cons b t _=>
       cases t;obtain⟨q,ys,rfl,I,hs,o⟩:=u3 b G;have vw:=a.vw f u;obtain⟨p,xs,rfl,z,A⟩:=MM vw v;have stay:=uE f a u (u4 v) vw p l.1 xs rfl z A;refine⟨l.1,m.1,p,q,xs,ys,rfl,z,I,by rw[← A.length,← hs.length];exact w,k _ D _ f n (u2 (xs:=xs) (ys:=ys) w) λr g J i=>?_⟩;have ext:=i.ext (Γ:=Γ) f.lendO;exact⟨stay r g J i,o _ ext,hs.mono ext⟩
  simp_all
 simp_all
theorem sN{b:Sg}:RI (yN d) (c::b) K=RA d (c::b) λrs a=>dY (IF a rs) λl=>K l.1 l.2 a:=by
 unfold RI RA yN;simp only[aE,aW]
theorem sO:dY (IF Z [x,.val y]) K=RD Z x λd=>dY (CH d) λl=>dY (CH y) λm=>l.2.length=m.2.length/\K (yA l.2 m.2,Pd x):=by
 unfold RD IF;simp only[aE];congr 1;funext d;congr 1;funext l;congr 1;funext m;rw[aO];rfl
theorem sP:dY (CH (.tup l)) K=K (false,l):=rfl
theorem F5:dY (CH (.lst l)) K=K (true,l):=rfl
def fT:DS:=(aS (jL (dE (aK CL (aK sL (aC 0) (dC (.int 0))) (dC (.int 0)))) (aS (bD 2 (aK CJ (aK sL (aC 0) (dC (.int 0))) (aC 1)))
 (aS (FW 0 (dC (.int 0)) (aK FX (aK sL (aC 0) (dC (.int 0))) (aC 1)))
 (gO (aC 2)))) eJ)
 (aS (bD 3 (aK CJ (aK tG (aK sL (aC 0) (dC (.int 1))) (dC (.int 69623))) (dC (.int 2147483647))))
 (aS (FW 0 (dC (.int 1)) (aK jT (aK CJ (aK jT (aK tG (aC 3) (dC (.int 48271))) (dC (.int 30103))) (dC (.int 2147483629))) (dC (.int 1))))
 (gO (aK CJ (aK FX (aK jT (aK tG (aC 3) (dC (.int 2147483647))) (aK sL (aC 0) (dC (.int 1)))) (dC (.int 8191))) (aC 1))))))
def aD:PySem.Aa4:=jM 4 fT
def eW:DS:=(aS (bD 2 (dC (.str "abcdefghijklmnopqrstuvwxyz")))
 (aS (bD 3 (De (Hf "") (bY [12] (wD (aB (aF 2 aD (aB (aC 0) (aB (dC (.int 5)) aH))) aH)) (hC 12) fS (aK sL (aC 2) (aF 2 aD (aB (aC 0) (aB (dC (.int 26)) aH)))))))
 (aS (bD 4 (aF 2 aD (aB (aC 0) (aB (aK jT (hR lL (aB (aC 3) aH)) (dC (.int 1))) aH))))
 (aS (bD 5 (aF 2 aD (aB (aC 0) (aB (dC (.int 26)) aH))))
 (aS (bD 6 (aF 2 aD (aB (aC 0) (aB (dC (.int 4)) aH))))
 (aS (jL (dE (aK (Av false) (aC 6) (dC (.int 2)))) (aS (FU (cT 3 (aL (hC 7) (aL (hC 8) (aL (hC 9) dJ)))) (iB (Cw (Cw (aC 2) (dP (aF 2 aD (aB (aC 0) (aB (dC (.int 24)) aH)))) CM) CM (dP (dC (.int 3))))))
 (aS (bD 10 (iR (aB (iB (aC 7)) (aB (iB (aK jT (aC 7) (aC 8))) (aB (iB (aC 8)) (aB (iB (aK jT (aC 8) (aC 9))) aH))))))
 (gO (Cw (aK jT (aC 10) (iR (aB (iB (aC 9)) (aB (iB (aK jT (aC 7) (aC 9))) (aB (iB (aK jT (aK jT (aC 7) (aC 8)) (aC 9))) (aB (iB (aK jT (aC 9) (aC 8))) aH)))))) CM (dP (aC 1)))))) eJ)
 (aS (bD 11 (iR aH))
 (aS (mR (wD (aB (aC 1) aH)) (hC 12)
 (aS (bD 13 (aK jT (aK jT (Cw (aC 3) CM (dP (aC 4))) (aK sL (aC 2) (aK CJ (aK jT (aC 5) (aK tG (dC (.int 5)) (aC 12))) (dC (.int 26))))) (Cw (aC 3) (dP (aC 4)) CM)))
 (gK (fD "list" 11 Cy (aB (iB (aK jT (aC 13) (aK tG (dC (.str "z")) (hR FV (aB (GP (aK (Av false) (aC 6) (dC (.int 1))) (aK (Av false) (aK CJ (aC 12) (dC (.int 2))) (dC (.int 1)))) aH))))) aH)))))
 (aS (bD 14 (iR (aB (dC (.str "table")) (aB (dC (.str "tree")) (aB (dC (.str "none")) (aB (dC (.str "answer")) (aB (dC (.str "levels")) (aB (dC (.str "looks")) aH))))))))
 (aS (bD 14 (aK jT (aC 14) (iR (aB (dC (.str "at")) (aB (dC (.str "count")) (aB (dC (.str "ears")) (aB (dC (.str "cover")) (aB (dC (.str "place")) aH))))))))
 (aS (bD 13 (aK sL (aC 14) (aF 2 aD (aB (aC 0) (aB (dC (.int 11)) aH)))))
 (aS (jL (FO (dE (aK (Av false) (aF 2 aD (aB (aC 0) (aB (dC (.int 4)) aH))) (dC (.int 0)))) (dE (aK (Be true) (aC 13) (aC 11)))) (FW 11 (aF 2 aD (aB (aC 0) (aB (aC 1) aH))) (iB (aC 13))) eJ)
 (gO (aC 11))))))))))))))
def bM:PySem.Aa4:=jM 15 eW
def gG:DS:=(aS (bD 2 (hR oS (aB (aC 1) aH)))
 (aS (bD 3 (iR aH))
 (aS (pJ (dE (aK CL (hR lL (aB (aC 2) aH)) (dC (.int 0))))
 (gK (fD "list" 3 Cy (aB (iB (fD "list" 2 uG (aB (iB (aF 2 aD (aB (aC 0) (aB (hR lL (aB (aC 2) aH)) aH)))) aH))) aH))))
 (gO (aC 3)))))
def bC:PySem.Aa4:=jM 4 gG
def bH:DS:=(gO (hR pN (aB (Cw (aF 2 bC (aB (aC 0) (aB (aC 1) aH))) CM (dP (aC 2))) aH)))
def aU:PySem.Aa4:=jM 3 bH
def bR:DS:=(aS (bD 2 (hR oS (aB (Cw (aC 1) CM (dP (dC (.int 6)))) aH)))
 (aS (bD 3 (iR aH))
 (aS (mR (wD (aB (aK jT (dC (.int 1)) (aF 2 aD (aB (aC 0) (aB (dC (.int 6)) aH)))) aH)) (hC 4)
 (aS (bD 5 (iR aH))
 (aS (jL (dE (aK CL (aC 4) (dC (.int 0)))) (aS (bD 6 (aK sL (aC 3) (aF 2 aD (aB (aC 0) (aB (aC 4) aH)))))
 (bD 5 (hR oS (aB (aF 3 aU (aB (aC 0) (aB (aC 6) (aB (aF 2 aD (aB (aC 0) (aB (aK jT (hR oR (aB (dC (.int 3)) (aB (hR lL (aB (aC 6) aH)) aH))) (dC (.int 1))) aH))) aH)))) aH)))) eJ)
 (aS (mR (wD (aB (aF 2 aD (aB (aC 0) (aB (aK GY (dC (.int 5)) (hR lL (aB (aC 5) aH))) aH))) aH)) (hC 7)
 (jL (dE (aK CL (hR lL (aB (aC 2) aH)) (dC (.int 0)))) (gK (fD "list" 5 Cy (aB (iB (wZ "list" 2 Il)) aH))) eJ))
 (aS (jL (dE (aK (Av false) (hR lL (aB (aC 5) aH)) (dC (.int 0)))) (bD 5 (GQ (dE (aK (Av false) (aC 4) (dC (.int 0)))) (iR (aB (aK sL (aC 1) (dC (.int 0))) aH)) (iR (aB (aK sL (aK sL (aC 3) (dC (.int 0))) (dC (.int 0))) aH)))) eJ)
 (aS (jL (FO (dE (aK (Be false) (aK sL (aC 1) (dC (.int 0))) (aC 5))) (dE (aK (Be false) (aK sL (aC 1) (dC (.int 0))) (aC 2)))) (gK (fD "list" 2 Io (aB (aK sL (aC 1) (dC (.int 0))) aH))) eJ)
 (gK (fD "list" 3 Cy (aB (hR pN (aB (aF 2 bC (aB (aC 0) (aB (aC 5) aH))) aH)) aH)))))))))
 (gO (aC 3)))))
def aY:PySem.Aa4:=jM 8 bR
def cI:DS:=(aS (GR 2 3 (aB (iB (aF 2 bM (aB (aC 0) (aB (dC (.int 6)) aH)))) (aB (iB (aF 2 bM (aB (aC 0) (aB (dC (.int 6)) aH)))) aH)))
 (aS (jL (dE (aK (Av false) (aF 2 aD (aB (aC 0) (aB (dC (.int 4)) aH))) (dC (.int 0)))) (bD 3 (iB (aF 2 bC (aB (aC 0) (aB (aC 2) aH))))) eJ)
 (aS (bD 4 (iB (aC 1)))
 (aS (jL (dE (aK (Av false) (aC 1) (dC (.int 3)))) (bD 4 (aF 2 aD (aB (aC 0) (aB (dC (.int 3)) aH)))) eJ)
 (aS (jL (dE (aK (Av false) (aC 4) (dC (.int 0)))) vR (jL (dE (aK (Av false) (aC 4) (dC (.int 1)))) (bD 5 (aF 2 aY (aB (aC 0) (aB (aC 2) aH)))) vR))
 (gO (hR Hi (aB (aC 3) (aB (aC 5) aH)))))))))
def cA:PySem.Aa4:=jM 6 cI
def gW:DS:=(aS (bD 2 (aK jT (aK tG (dC (.int 7919)) (aC 1)) (dC (.int 11))))
 (aS (jL (dE (aK GZ (aC 1) (hR lL (aB (aC 0) aH)))) (bD 2 (aK sL (aC 0) (aC 1))) (jL (dE (aK CL (hR lL (aB (aC 0) aH)) (dC (.int 0)))) (bD 2 (aK jT (aC 2) (aK tG (aK CJ (aK sL (aC 0) (aK CJ (aC 1) (hR lL (aB (aC 0) aH)))) (dC (.int 2147483629))) (dC (.int 69623))))) eJ))
 (aS (bD 3 (aK jT (aK CJ (aK jT (aK tG (aK CJ (aC 2) (dC (.int 2147483629))) (dC (.int 48271))) (aK tG (dC (.int 40692)) (aC 1))) (dC (.int 2147483629))) (dC (.int 1))))
 (gO (iR (aB (iB (aK tG (aC 2) (hR FV (aB (aK Jo (aC 2) (aK Jn (dC (.int 10)) (dC (.int 18)))) aH)))) (aB (iB (aC 3)) aH)))))))
def eL:PySem.Aa4:=jM 4 gW
def cV:DS:=(aS (bD 1 (iR aH))
 (aS (mR (Az (aC 0)) (cT 2 (aL (hC 2) (aL (hC 3) dJ)))
 (gK (qT "list" 1 Fb (aB (bY [4] (Az (aC 3)) (hC 4) (dE (aK (Be true) (aC 4) (aC 1))) (iB (aC 4))) aH))))
 (gO (aC 1))))
def bI:PySem.Aa4:=jM 5 cV
def eX:DS:=(aS (bD 2 (aF 2 aD (aB (aC 0) (aB (aC 1) aH))))
 (aS (jL (dE (aK (Av false) (aC 1) (dC (.int 12)))) (gO (aK sL (iR (aB (dC (.int 0)) (aB (dC (.int 1)) (aB (dC (.int 2)) (aB (dC (.int 10)) (aB (dC (.int 11)) (aB (dC (.int 12)) (aB (dC (.int 21)) (aB (dC (.int 101)) (aB (dC (.int 111)) (aB (dC (.int 112)) (aB (dC (.int 121)) (aB (dC (.int 211)) aH))))))))))))) (aC 2))) eJ)
 (gO (aC 2))))
def bV:PySem.Aa4:=jM 3 eX
def eY:DS:=(aS (bD 3 (aF 1 bI (aB (aC 1) aH)))
 (aS (bD 4 (aK sL (iR (aB (dC (.int 2)) (aB (dC (.int 3)) (aB (dC (.int 5)) (aB (dC (.int 12)) (aB (dC (.int 1000)) aH)))))) (aF 2 aD (aB (aC 0) (aB (dC (.int 5)) aH)))))
 (aS (bD 5 (bY [14] (wD (aB (aF 2 aD (aB (aC 0) (aB (dC (.int 6)) aH))) aH)) (hC 14) fS (iB (bY [15] (Az (aC 3)) (hC 15) fS (iB (aF 2 bV (aB (aC 0) (aB (aC 4) aH))))))))
 (aS (bD 6 (aK sL (aK sL (iR (aB (iB (iR (aB (dC (.int 40)) (aB (dC (.int 40)) (aB (dC (.int 14)) (aB (dC (.int 7)) (aB (dC (.int 4)) (aB (dC (.int 3)) aH)))))))) (aB (iB (iR (aB (dC (.int 40)) (aB (dC (.int 17)) (aB (dC (.int 6)) (aB (dC (.int 4)) (aB (dC (.int 3)) (aB (dC (.int 2)) aH)))))))) aH))) (hR FV (aB (aK GZ (aC 2) (dC (.int 2000))) aH))) (aK GY (hR lL (aB (aC 1) aH)) (dC (.int 1)))))
 (aS (bD 7 (iB (aC 2)))
 (aS (bD 8 (GP (aK CL (aC 2) (dC (.int 0))) (aK (Av false) (aF 2 aD (aB (aC 0) (aB (dC (.int 2)) aH))) (dC (.int 0)))))
 (aS (bD 9 (iR aH))
 (aS (mR (Az (aC 1)) (cT 2 (aL (hC 10) (aL (hC 11) dJ)))
 (aS (bD 12 (dC (.int 40)))
 (aS (jL (dE (aK CL (aC 2) (dC (.int 0)))) (bD 12 (hR oR (aB (dC (.int 40)) (aB (aC 7) aH)))) eJ)
 (aS (jL (GJ (aC 8)) (bD 12 (hR oR (aB (aC 12) (aB (aC 6) aH)))) eJ)
 (aS (bD 13 (bY [16] (Az (aC 5)) (hC 16) fS (hR pN (aB (bY [15] (Az (aC 11)) (hC 15) fS (aK sL (aC 16) (fD "list" 3 Hl (aB (aC 15) aH)))) aH))))
 (aS (jL (dE (aK (Av false) (aF 2 aD (aB (aC 0) (aB (dC (.int 6)) aH))) (dC (.int 0)))) (bD 13 (iR aH)) eJ)
 (aS (mR (wD (aB (aF 2 aD (aB (aC 0) (aB (aK sL (iR (aB (iB (aK jT (aC 12) (dC (.int 1)))) (aB (iB (aK jT (hR oR (aB (aC 12) (aB (dC (.int 5)) aH))) (dC (.int 1)))) aH))) (aF 2 aD (aB (aC 0) (aB (dC (.int 2)) aH)))) aH))) aH)) (hC 14)
 (gK (fD "list" 13 Cy (aB (hR pN (aB (bY [15] (Az (aC 11)) (hC 15) fS (iB (aF 2 bV (aB (aC 0) (aB (aC 4) aH))))) aH)) aH))))
 (aS (bD 13 (Cw (hR iH (aB (aC 13) aH)) CM (dP (aC 12))))
 (aS (gK (fD "list" 9 Cy (aB (hR pN (aB (aC 13) aH)) aH)))
 (bD 7 (aK FX (aC 7) (hR Hc (aB (dC (.int 1)) (aB (hR lL (aB (aC 13) aH)) aH))))))))))))))
 (gO (hR pN (aB (aC 9) aH)))))))))))
def dZ:PySem.Aa4:=jM 17 eY
def cW:DS:=(aS (bD 2 (aF 1 bI (aB (aC 0) aH)))
 (aS (bD 3 (iB (iR (aB (iB (aK Iv (DD (aB (dC .non) aH)) (hR lL (aB (aC 2) aH)))) aH))))
 (aS (mR (yN (aB (aC 0) (aB (aC 1) aH))) (cT 2 (aL (cT 2 (aL (hC 4) (aL (hC 5) dJ))) (aL (hC 6) dJ)))
 (aS (bD 7 (bY [12] (Az (aC 5)) (hC 12) fS (iB (fD "list" 2 Hl (aB (aC 12) aH)))))
 (aS (bD 8 (iR aH))
 (aS (mR (Az (aC 3)) (hC 9)
 (mR (Az (aC 6)) (hC 10)
 (jL (dE (hR Hb (aB (bY [13,14] (yN (aB (aC 7) (aB (aC 10) aH))) (cT 2 (aL (hC 13) (aL (hC 14) dJ))) fS (aK (Be false) (aK sL (aC 9) (aC 13)) (DD (aB (dC .non) (aB (iB (aC 14)) aH))))) aH))) (aS (bD 11 (hR oE (aB (aC 7) (aB (aC 10) aH))))
 (gK (fD "list" 8 Cy (aB (hR pN (aB (bY [13] (wD (aB (hR lL (aB (aC 2) aH)) aH)) (hC 13) fS (iB (ID (aC 11) (aC 13) (aK sL (aC 9) (aC 13))))) aH)) aH)))) eJ)))
 (bD 3 (iB (aC 8)))))))
 (gO (hR iH (aB (aC 3) aH))))))
def cJ:PySem.Aa4:=jM 15 cW
def cX:DS:=(aS (bD 3 (aF 1 bI (aB (aC 0) aH)))
 (gO (hR pN (aB (bY [4] (Az (aK DJ (hR Iw (aB (aC 0) aH)) (aC 1))) (hC 4) fS (aK sL (aC 2) (fD "list" 3 Hl (aB (aC 4) aH)))) aH))))
def cK:PySem.Aa4:=jM 5 cX
def gZ:DS:=(aS (bD 2 (aF 2 cJ (aB (aC 0) (aB (aC 1) aH))))
 (gO (hR pN (aB (bY [3,4] (Az (aC 0)) (cT 2 (aL (hC 3) (aL (hC 4) dJ))) fS (hR pN (aB (hR iH (aB (bY [5] (Az (aC 2)) (hC 5) fS (iB (aF 3 cK (aB (aC 0) (aB (aC 3) (aB (aC 5) aH)))))) aH)) aH))) aH))))
def fU:PySem.Aa4:=jM 6 gZ
def hU:DS:=(gO (hR pN (aB (bY [2] (Az (aC 0)) (hC 2) (dE (aK (Av true) (aK sL (aC 2) (dC (.int 0))) (aC 1))) (iB (aC 2))) aH)))
def eM:PySem.Aa4:=jM 3 hU
def eA:DS:=(aS (bD 1 (iR aH))
 (aS (mR (Az (aC 0)) (cT 2 (aL (hC 2) (aL (hC 3) dJ)))
 (gK (qT "list" 1 Fb (aB (bY [4] (Az (aC 3)) (hC 4) (dE (aK (Be true) (aC 4) (aC 1))) (iB (aC 4))) aH))))
 (gO (hR pN (aB (aC 1) aH)))))
def cY:PySem.Aa4:=jM 5 eA
def hV:DS:=(gO (hR Hb (aB (bY [2] (Az (aC 1)) (hC 2) fS (aK (Be false) (aC 2) (aC 0))) aH)))
def fV:PySem.Aa4:=jM 3 hV
def eB:DS:=(aS (bD 3 (aF 2 eM (aB (aC 0) (aB (aC 1) aH))))
 (aS (jL (dE (aK (Av false) (hR lL (aB (aC 3) aH)) (dC (.int 0)))) (gO (iR (aB (dC .non) aH))) eJ)
 (aS (bD 4 (bY [5] (Az (aC 2)) (hC 5) (dE (aK (Be false) (aC 5) (aF 1 cY (aB (aC 3) aH)))) (iB (aC 5))))
 (gO (bY [6,7] (Az (aC 3)) (cT 2 (aL (hC 6) (aL (hC 7) dJ))) (dE (aF 2 fV (aB (aC 7) (aB (aC 4) aH)))) (iB (aC 6)))))))
def cZ:PySem.Aa4:=jM 8 eB
def hW:DS:=(aS (bD 1 (iR aH))
 (aS (mR (Az (aC 0)) (cT 2 (aL (hC 2) (aL (hC 3) dJ)))
 (gK (qT "list" 1 Fb (aB (bY [4] (Az (aF 3 cZ (aB (aC 0) (aB (aC 2) (aB (aC 3) aH))))) (hC 4) fS (DD (aB (iB (aC 2)) (aB (iB (aC 4)) aH)))) aH))))
 (gO (aC 1))))
def eN:PySem.Aa4:=jM 5 hW
def eZ:DS:=(aS (bD 1 (iB (aC 0)))
 (aS (bD 2 (iR aH))
 (aS (bD 3 (aF 1 eN (aB (aC 1) aH)))
 (aS (pJ (GJ (aC 3))
 (aS (gK (fD "list" 2 Cy (aB (aK sL (aC 3) (dC (.int 0))) aH)))
 (aS (bD 1 (aF 2 eM (aB (aC 1) (aB (aK sL (aK sL (aC 3) (dC (.int 0))) (dC (.int 0))) aH))))
 (bD 3 (aF 1 eN (aB (aC 1) aH))))))
 (gO (aC 2))))))
def eC:PySem.Aa4:=jM 4 eZ
def oF:DS:=(aS (bD 1 (aF 1 eC (aB (aC 0) aH)))
 (aS (jL (dE (aK (Av false) (hR lL (aB (aC 1) aH)) (hR lL (aB (aC 0) aH)))) (gO (DD (aB (dC (.str "ears")) (aB (iB (aC 1)) aH)))) eJ)
 vR))
def lJ:PySem.Aa4:=jM 2 oF
def cL:DS:=(aS (bD 1 (aF 1 lJ (aB (aC 0) aH)))
 (aS (jL (dE (aK (Av false) (aK sL (aC 1) (dC (.int 0))) (dC (.str "ring")))) vR eJ)
 (gO (aK sL (aC 1) (dC (.int 1))))))
def cB:PySem.Aa4:=jM 2 cL
def fA:DS:=(gO (bY [2,3] (yN (aB (aC 0) (aB (aC 1) aH))) (cT 2 (aL (hC 2) (aL (hC 3) dJ))) fS (DD (aB (aK sL (aC 2) (dC (.int 1))) (aB (iB (aC 3)) aH)))))
def eE:PySem.Aa4:=jM 4 fA
def fW:DS:=(gO (bY [1,2] (Az (aC 0)) (cT 2 (aL (hC 1) (aL (hC 2) dJ))) fS (iB (aC 1))))
def dG:PySem.Aa4:=jM 3 fW
def cM:DS:=(gO (hR oE (aB (aF 1 dG (aB (aC 0) aH)) (aB (aF 2 eE (aB (aC 0) (aB (aC 1) aH))) aH))))
def cC:PySem.Aa4:=jM 2 cM
def bS:DS:=(gO (bY [2] (Az (aK sL (aC 0) (dC (.int 0)))) (hC 2) (dE (aK (Be false) (aC 2) (aK sL (aC 1) (dC (.int 0))))) (iB (aC 2))))
def bN:PySem.Aa4:=jM 3 bS
def jI:DS:=(gO (hR pN (aB (bY [2] (Az (aC 1)) (hC 2) fS (aK sL (aC 0) (aC 2))) aH)))
def eO:PySem.Aa4:=jM 3 jI
def fB:DS:=(gO (bY [2] (Az (aC 1)) (hC 2) fS (iB (Iu JB (aC 0) (aC 2)))))
def bW:PySem.Aa4:=jM 3 fB
def hX:DS:=(aS (bD 3 (aF 2 bW (aB (aK sL (aC 0) (dC (.int 0))) (aB (aC 1) aH))))
 (aS (bD 4 (aF 2 bW (aB (aK sL (aC 0) (dC (.int 0))) (aB (aC 2) aH))))
 (Ge 5 6 (Az (aK sL (aC 0) (dC (.int 1)))) (aF 2 eO (aB (aC 6) (aB (aC 3) aH))) (aB (iB (aF 2 eO (aB (aC 6) (aB (aC 4) aH)))) aH))))
def fX:PySem.Aa4:=jM 7 hX
def eF:DS:=(aS (bD 2 (aF 2 bN (aB (aC 0) (aB (aC 1) aH))))
 (aS (bD 3 (aF 3 fX (aB (aC 1) (aB (aC 2) (aB (iR aH) aH)))))
 (aS (bD 4 (aF 2 bW (aB (aK sL (aC 0) (dC (.int 0))) (aB (aC 2) aH))))
 (gO (DD (aB (aK sL (aC 0) (dC (.int 0))) (aB (hR pN (aB (bY [5] (Az (aK sL (aC 0) (dC (.int 1)))) (hC 5) (dE (aK Iz (aF 2 eO (aB (aC 5) (aB (aC 4) aH))) (aC 3))) (iB (aC 5))) aH)) aH)))))))
def cD:PySem.Aa4:=jM 6 eF
def hZ:DS:=(aS (bD 2 (iB (Cw (aF 1 cB (aB (aC 0) aH)) CM (dP (De Kz (dC (.int 1)))))))
 (aS (bD 3 (aF 2 cC (aB (aC 0) (aB (aC 1) aH))))
 (aS (mR (Az (aC 2)) (cT 2 (aL (hC 4) (aL (hC 5) dJ)))
 (Hn 3 (aC 5) (iB (aF 2 cD (aB (aK DJ (aC 3) (aC 5)) (aB (aK DJ (aC 3) (aC 4)) aH))))))
 (aS (mR (IE (aB (aC 2) aH)) (cT 2 (aL (hC 4) (aL (hC 5) dJ)))
 (Hn 3 (aC 4) (iB (aF 2 cD (aB (aK DJ (aC 3) (aC 4)) (aB (aK DJ (aC 3) (aC 5)) aH))))))
 (gO (hR pN (aB (bY [4] (Az (aF 1 dG (aB (aC 0) aH))) (hC 4) fS (aK sL (aK DJ (aC 3) (aC 4)) (dC (.int 1)))) aH)))))))
def bX:PySem.Aa4:=jM 6 hZ
def vS:DS:=(aS (bD 1 (iR aH))
 (aS (mR (wD (aB (hR Hc (aB (dC (.int 2)) (aB (hR oR (aB (aK FX (hR lL (aB (aC 0) aH)) (dC (.int 2))) (aB (dC (.int 4)) aH))) aH))) aH)) (hC 2)
 (aS (bD 3 (aF 2 cA (aB (aF 2 eL (aB (aC 0) (aB (aK tG (dC (.int 2)) (aC 2)) aH))) (aB (dC (.int 1)) aH))))
 (aS (bD 4 (aF 3 dZ (aB (aF 2 eL (aB (aC 0) (aB (aK jT (aK tG (dC (.int 2)) (aC 2)) (dC (.int 1))) aH))) (aB (aC 3) (aB (dC (.int 1000)) aH)))))
 (aS (bD 5 (aF 2 fU (aB (aC 3) (aB (aC 4) aH))))
 (aS (gK (fD "list" 1 Cy (aB (DD (aB (iB (aC 3)) (aB (iB (aC 4)) (aB (iB (aC 5)) aH)))) aH)))
 (aS (bD 6 (aF 2 bX (aB (aC 3) (aB (aC 4) aH))))
 (jL (GL (Ic (dE (De (Ik "tuple") (aC 6)))) (GL (dE (aK (Av true) (aC 6) (aC 5))) (dE (aK (Av true) (aF 2 bX (aB (aC 3) (aB (aC 6) aH))) (aC 5))))) (gO (dC (.bl false))) eJ)))))))
 (aS (FU (cT 3 (aL (hC 3) (aL (hC 4) (aL (hC 5) dJ)))) (aK sL (aC 1) (dC (.int 0))))
 (gO (aK (Av false) (aF 2 bX (aB (aC 3) (aB (aC 4) aH))) (aC 5))))))
def lW:PySem.Aa4:=jM 7 vS
def dL{run:PySem.Aa4}(i:Nat)(h:tb[i]? = some f)(T:Txt X.K X.mg a)(F:Fk X.prog X.w X.K X.mg X.base a i k (Am n run))(c:Af k X.A)(d:Gl X f.n)(ha:GA X (e::es) b)
  (hd:(f.n==("__debug__":Str))=false:=by decide) (g:starEach (e::es) X.env=(false,eval e X.env)::starEach es X.env:=by rfl) (j:(backTo pos (starEach es X.env)).any (·.1)=false:=by rfl):GE X (.Call (.Name f.n p) (e::es) [] pos) (aF n run b):=
 Xm λΓ=>Uj F c d (T.m i f h) (T.F i f h).kp (bn T i f h) .nil UZ (gA ha Γ) hd g j
def F6:Dg [i] (iM i) (hC i):=bB (by simp)
def F7:Dg [i,j] (nN K 2 (nB (iM i) (nB (iM j) EU))) (cT 2 (aL (hC i) (aL (hC j) dJ))):=iV (aT (bB (by simp)) (aT (bB (by simp)) fQ))
def F8:Dg [k,i,j] (nN K 2 (nB (nN L 2 (nB (iM i) (nB (iM j) EU))) (nB (iM k) EU))) (cT 2 (aL (cT 2 (aL (hC i) (aL (hC j) dJ))) (aL (hC k) dJ))):=iV (aT (iV (aT (bB (by simp)) (aT (bB (by simp)) fQ))) (aT (bB (by simp)) fQ))
set_option hygiene false in
open Lean in
def PN(l:List Syntax):MacroM Syntax:=do
 let p:=fun(l:List Syntax)=>match l with
  |[]=>Syntax.missing
  |[x]=>x
  |h::r=>(Syntax.mkApp ⟨h⟩ (r.map fun x=>⟨x⟩).toArray).raw
 match l with
 |.atom _ "λ"::r=>return(←`(fun Γ=>$(⟨p r⟩))).raw
 |.atom _ "λ1"::r=>return(←`(fun _=>$(⟨p r⟩))).raw
 |.atom _ "λ2"::r=>return(←`(fun _ _=>$(⟨p r⟩))).raw
 |.atom _ "λ4"::r=>return(←`(fun _ _ _ _=>$(⟨p r⟩))).raw
 |[.atom _ ":",x,v]=>return mkNode ``Parser.Term.namedArgument #[mkAtom "(",x,mkAtom ":=",v,mkAtom ")"]
 |_=>return p l
open Lean in
def F9(z:List (String×Term))(t:String):MacroM Syntax:=do
 if let some x:=z.lookup t then return x.raw
 let c:=t.toList.headD ' '
 let u:=String.ofList (t.toList.drop 1)
 if c=='λ'||c==':' then return mkAtom t
 if c=='\'' then return(Syntax.mkStrLit u).raw
 if c=='.' then return mkNode ``Parser.Term.dotIdent #[mkAtom ".",mkIdent u.toName]
 if c=='@' then return mkNode ``Parser.Term.explicit #[mkAtom "@",mkIdent u.toName]
 if c.isDigit then return(Syntax.mkNumLit t).raw
 return(mkIdent t.toName).raw
open Lean in
def PQ(z:List (String×Term))(s:String):MacroM Term:=do
 let mut w:List (List Syntax):=[[]]
 for t in((((s.replace "(" " ( ").replace ")" " ) ").replace "[" " [ ").replace "]" " ] ").splitOn " " do
  if t=="" then continue
  if t=="("||t=="[" then w:=[]::w
  else if t==")"||t=="]" then
   let l:=(w.headD []).reverse
   let x←if t==")" then PN l else do
    let y:Array Term:=(l.map fun x=>⟨x⟩).toArray
    pure (←`([$y,*])).raw
   let r:=w.drop 1
   w:=(x::r.headD [])::r.drop 1
  else
   let x←F9 z t
   w:=(x::w.headD [])::w.drop 1
 return ⟨←PN (w.headD []).reverse⟩
set_option hygiene false in
local macro_rules | `(tactic|walk_at"k")=>do
 let z:=[("_",←`(_)),("?",←`(?_)),("%Q",←`(⟨rfl,rfl,rfl,rfl⟩)),("%O",←`(by first|exact .inl rfl|exact .inr rfl)),("%N",←`(T.o _ (by decide +kernel))),("%H",←`(hr.mono (by decide))),("%U",←`(by with_unfolding_all rfl)),("%X",←`(by kernel_rfl)),("%R",←`(by rfl)),("%D",←`(by decide))]
 let r:="GA _ _(aB _ _)~WG ? ?|GE _ _(aC _)~Wk(pv _)|GA _ _ aH~WE|GE _ _(dC(.int _))~Wl|CI _ _ _(aS _ _)~zW ? ?|CI _ _[_]_~MU ?|GE _ _(iB _)~WD ?|GE _ _(aK sL _ _)~XA ? ?(λ2 rfl)|GE _ _(aK jT _ _)~nP Xv Xw ? ?|GE _ _(iR _)~WI ?|GS _ _ _(gO _)~WO ?|GI _ _ _(Az _)~WW K %R ?|GS _ _ _(jL _ _ _)~WQ ? ? ?|CI _ _[]_~WL|GE _ _(hR lL _)~nQ XB(λ kI Vo %R %N ZC(gA ? Γ))|GE _ _(dC(.str _))~Wn|DZ _[]_~Xe|GE _ _(bY _ _(hC _)_ _)~xC(bB %D)(λ wO(HZ _ %X)(gI ? Γ)(λ4(aZ nd rfl %O %O))(dO %D)(λ4 ?)(λ4 gE ? Γ))|GS _ _ _(gK _)~WN ?|GE _ _(hR pN _)~nQ XS(λ kJ VA %R %N lP(gA ? Γ))|GE _ _(aK tG _ _)~nP Xx Xy ? ?|GE _ _(aK CJ _ _)~nP TC Xq ? ?|GT _ _(dE(aK(Av false)_ _))~mF(Nk hr.units)(KD(: neg false))? ?(lZ _)|GO _ _(dP _)~XG ?|GO _ _ CM~XF|GE _ _(Cw _ _ _)~XH ? ? ?|GE _ _(fD _ _ _ _)~qU XU(λ nO K %R Fv F.slot_list_append F.type_list_append tV(pv _)(gA ? Γ))|GI _ _ _(wD _)~WX(λ To %R %N(gA ? Γ))PySem.cI5|GT _ _(dE(aK CL _ _))~mF Mb Nb ? ?(lZ _)|GE _ _(DD _)~WH ?|GE _ _(hR oR _)~nQ XP(λ kI(Ub %R)%R %N ZG(gA ? Γ))|GT _ _(dE(aK(Be false)_ _))~mF(Nl hr.units)(KH(: neg false))? ? %U|GE _ _(hR FV _)~nQ XQ(λ kJ Uc %R %N ZA(gA ? Γ))|GE _ _(aK FX _ _)~nP Yb Yc ? ?|GS _ _ _(FW _ _ _)~Ya(λ Kb(gE ? Γ)(Te(pv _)(gE ? Γ)UL))|GE _ _(aK(Av false)_ _)~uB(Nk hr.units)(KD(: neg false))? ?(lZ _)|GT _ _(dE(aK(Be true)_ _))~mF(Yf hr.units)(KH(: neg true))? ? %U|GE _ _(hR oS _)~nQ XR(λ kJ Vz %R %N ZE(gA ? Γ))|GS _ _ _(mR _(hC _)_)~Jk F6(λ tL Gp rfl(gI ? Γ)(aZ nd rfl %O)(Im ? Γ))|DZ _[_]_~Xf ?|GE _(.BoolOp _[_]_)_~Wy ?|GE _ _(GP _ _)~Wz ? ?|GW _(.BoolOp .And[_]_)_~Wt ?|GW _ _(FO _ _)~Wv ? ?|GT _(.BoolOp _ _ _)_~GW.gt ?|GE _ _(aK GY _ _)~nP Tz Xp ? ?|GE _ _(GQ _ _ _)~WA ? ? ?|GM _ _[_]_~p3 ?|GE _ _(qT _ _ _ _)~WJ XX(λ nO K %R Fv F.slot_list_extend F.type_list_extend XW(pv _)(gA ? Γ))|GS _ _ _(mR _(cT _(aL(hC _)(aL(hC _)dJ)))_)~Jk F7(λ tL Gp rfl(gI ? Γ)(dQ(: n 2)K rfl rfl(aR(aZ nd rfl %O)(aR(aZ nd rfl %O)fP)))(Im ? Γ))|GS _ _ _(bD _(bY _ _(hC _)_ _))~pK(bB %D)(λ pF nd rfl rfl(HZ _ %X)(gI ? Γ)(λ4(aZ nd rfl %O %O))(dO %D)(λ4 ?)(λ4 gE ? Γ)rfl)|GE _ _(aK CL _ _)~uB Mb Nb ? ?(lZ _)|GT _ _(dE(aK GZ _ _))~mF Ma Na ? ?(lZ _)|GE _ _(aK Jn _ _)~nP TF Xr ? ?|GE _ _(aK Jo _ _)~uB TM Xs ? ?(lZ _)|GE _ _(De(Hf _)_)~Zt(: sep ')K(λ nO K %R F.plainAttrs_str F.slot_str_join F.type_str_join(Zv K %R)LM(gA ? Γ))|GS _ _ _(FU(cT _(aL(hC 7)(aL(hC 8)(aL(hC 9)dJ))))_)~MW(: own[7 8 9])(iV(aT(bB %D)(aT(bB %D)(aT(bB %D)fQ))))(λ Kb(gE ? Γ)(dQ(: n 3)K rfl rfl(aR(aZ nd rfl %O)(aR(aZ nd rfl %O)(aR(aZ nd rfl %O)fP)))))|GE _ _(fD _ _ _ _)~qU XZ(λ nO K %R Fv F.slot_list_pop F.type_list_pop US(pv _)(gA ? Γ))|GS _ _ _(pJ _ _)~Xc(λ Th Gp(gT ? Γ)(Im ? Γ))|GE _ _(wZ _ _ _)~WK XY(VW K %R Fv F.slot_list_pop F.type_list_pop UR(pv _))|GE _ _(fD _ _ _ _)~qU Zw(λ nO K %R Fv F.slot_list_remove F.type_list_remove VF(pv _)(gA ? Γ))|GS _ _ _(GR _ _ _)~WT(: j 3)(λ Tf(: j 3)rfl nd rfl rfl %D rfl rfl(gA ? Γ)rfl)|GE _ _(hR Hi _)~nQ y8(λ MA(: T 'tuple)(: U 'zip)(y3 rfl)%R %N lP %R %N rP(gA ? Γ))|GE _ _(aK GZ _ _)~uB Ma Na ? ?(lZ _)|GE _ _(fD _ _ _ _)~qU l0(λ nO K %R Fv F.slot_list_index F.type_list_index k9(pv _)(gA ? Γ))|GE _ _(hR Hc _)~nQ XO(λ kI(Ua %R)%R %N ZF(gA ? Γ))|GE _ _(bY _ _(cT _(aL(hC _)(aL(hC _)dJ)))_ _)~xC(iV(aT(bB %D)(aT(bB %D)fQ)))(λ wO(HZ _ %X)(gI ? Γ)(λ4(dQ(: n 2)K rfl rfl(aR(aZ nd rfl %O %O)(aR(aZ nd rfl %O %O)fP))))(kQ(dB(dO %D)(dB(dO %D)kM cQ)cQ))(λ4 ?)(λ4 gE ? Γ))|GE _ _(aK(Be false)_ _)~uB(Nl hr.units)(KH(: neg false))? ? %U|GT _ _(GJ _)~Ws ?(λ1 rfl)|GS _ _ _(bD _ _)~ZM nd rfl %O ?|GS _ _ _(mR _(cT _(aL(cT _ _)_))_)~Jk F8(λ tL Gp rfl(gI ? Γ)(dQ(: n 2)K rfl rfl(aR(dQ(: n 2)K rfl rfl(aR(aZ nd rfl %O)(aR(aZ nd rfl %O)fP)))(aR(aZ nd rfl %O)fP)))(Im ? Γ))|GT _ _(dE(aK(Av true)_ _))~mF(Ye hr.units)(KD(: neg true))? ?(lZ _)|GE _ _(dC(.bl _))~Wm|GE _ _(dC .non)~Wo|GW _(.BoolOp .Or[_]_)_~Wu ?|GW _ _(GL _ _)~Ww ? ?|GS _ _ _(bD _(bY _ _(cT _(aL(hC _)(aL(hC _)dJ)))_ _))~pK(iV(aT(bB %D)(aT(bB %D)fQ)))(λ pF nd rfl rfl(HZ _ %X)(gI ? Γ)(λ4(dQ(: n 2)K rfl rfl(aR(aZ nd rfl %O %O)(aR(aZ nd rfl %O %O)fP))))(kQ(dB(dO %D)(dB(dO %D)kM cQ)cQ))(λ4 ?)(λ4 gE ? Γ)rfl)|GE _ _(bY _ _(cT _(aL(hC _)(aL(cT _(aL(hC _)(aL(hC _)dJ)))dJ)))_ _)~xC(iV(aT(bB %D)(aT(iV(aT(bB %D)(aT(bB %D)fQ)))fQ)))(λ wO(HZ _ %X)(gI ? Γ)(λ4(dQ(: n 2)K rfl rfl(aR(aZ nd rfl %O %O)(aR(dQ(: n 2)K rfl rfl(aR(aZ nd rfl %O %O)(aR(aZ nd rfl %O %O)fP)))fP))))(kQ(dB(dO %D)(dB(kQ(dB(dO %D)(dB(dO %D)kM cQ)cQ))kM(q9(pV cQ(pV cQ q0))))cQ))(λ4 ?)(λ4 gE ? Γ))|GT _ _(dE(aK _ _ _))~mF(op_niT(HX hr))pur_niT ? ? %U|GT _ _(Ic _)~Wx ?|GI _ _ _(wD _)~WY(λ Tp %R %N(gA ? Γ))dX8|GE _ _(De _ _)~Wq TL Xt ?|GE _ _(hR iH _)~nQ vQ(λ g0(: id 'sorted)(: U 'set)(sM rfl(j0 hr))%R %N xQ %R %N ZH(gA ? Γ))|GE _ _(hR Hb _)~nQ XM(λ kI(XN K %R %R)%R %N Zz(gA ? Γ))|GE _ _(Iu _ _ _)~i8 j7(λ g8 F.slot_tuple_index F.type_tuple_index j5(gE ? Γ)(gA ? Γ))|Bv _[_]_~qH(LN(nO K %R Fv F.slot_list_append F.type_list_append tV(A2(HX hr)(pv _)(gE ? Γ)(Me Kk)%Q)(gA ? Γ)))|CI _ _ _(Ge _ _ _ _ _)~D7(: K K)(: g 5)(: row 6)%D(LR nd rfl %O We)(λ tL Gp rfl(gI ? Γ)(aZ nd rfl %O)?)(LO(B1(pv _)))|GE _ _(aF _ aD _)~dL 0 rfl T(BS T)%H %R ?|GE _ _(aF _ bC _)~dL 2 rfl T(BA T)%H %R ?|GE _ _(aF _ bI _)~dL 7 rfl T(Bj T)%H %R ?|GE _ _(aF _ bW _)~dL 26 rfl T(BF T)%H %R ?|GE _ _(aF _ eO _)~dL 25 rfl T(CT T)%H %R ?|GE _ _(aF _ bX _)~dL 29 rfl T(Cn T)%H %R ?|GE _ _(aF _ bM _)~dL 1 rfl T(Bz T)%H %R ?|GE _ _(aF _ bV _)~dL 8 rfl T(BB T)%H %R ?|GE _ _(aF _ eM _)~dL 13 rfl T(Cg T)%H %R ?|GE _ _(aF _ eN _)~dL 17 rfl T(Cj T)%H %R ?|GE _ _(aF _ dG _)~dL 22 rfl T(BU T)%H %R ?|GE _ _(aF _ cD _)~dL 28 rfl T(Bu T)%H %R ?|GE _ _(aF _ eL _)~dL 6 rfl T(Ce T)%H %R ?|GE _ _(aF _ aU _)~dL 3 rfl T(AB T)%H %R ?|GE _ _(aF _ aY _)~dL 4 rfl T(AI T)%H %R ?|GE _ _(aF _ cJ _)~dL 10 rfl T(Bk T)%H %R ?|GE _ _(aF _ cK _)~dL 11 rfl T(Bl T)%H %R ?|GE _ _(aF _ cY _)~dL 14 rfl T(Bs T)%H %R ?|GE _ _(aF _ fV _)~dL 15 rfl T(Ci T)%H %R ?|GE _ _(aF _ cZ _)~dL 16 rfl T(Bt T)%H %R ?|GE _ _(aF _ eC _)~dL 18 rfl T(BD T)%H %R ?|GE _ _(aF _ lJ _)~dL 19 rfl T(EC T)%H %R ?|GE _ _(aF _ eE _)~dL 21 rfl T(BE T)%H %R ?|GE _ _(aF _ bN _)~dL 24 rfl T(AJ T)%H %R ?|GE _ _(aF _ fX _)~dL 27 rfl T(Ck T)%H %R ?|GE _ _(aF _ cB _)~dL 20 rfl T(Ba T)%H %R ?|GE _ _(aF _ cC _)~dL 23 rfl T(Bb T)%H %R ?|GE _ _(aF _ cA _)~dL 5 rfl T(AZ T)%H %R ?|GE _ _(aF _ dZ _)~dL 9 rfl T(BC T)%H %R ?|GE _ _(aF _ fU _)~dL 12 rfl T(Cf T)%H %R ?|GE _ _(aK DJ _ _)~w8(HX hr)? ?(λ2 rfl)|GS _ _ _ vR~D3|GI _ _ _(yN _)~F4(λ u1 %R %N rP(gA ? Γ))|GE _ _(hR oE _)~nQ E3(λ MA(: T 'dict)(: U 'zip)(E2 rfl)%R %N uW %R %N rP(gA ? Γ))|GS _ _ _(Hn _ _ _)~y9(λ Wc(HX hr)(pv _)(gE ? Γ)(gE ? Γ)rfl)|GE _ _(aK Iv _ _)~nP o9 p0 ? ?|GE _ _(ID _ _ _)~E6 ? ? ? %Q|GS _ _ _(mR _(cT _(aL(cT _(aL(hC 4)(aL(hC 5)dJ)))(aL(hC 6)dJ)))_)~Jk(: own[6 4 5])(iV(aT(iV(aT(bB %D)(aT(bB %D)fQ)))(aT(bB %D)fQ)))(λ tL Gp rfl(gI ? Γ)(dQ(: n 2)K rfl rfl(aR(dQ(: n 2)K rfl rfl(aR(aZ nd rfl %O)(aR(aZ nd rfl %O)fP)))(aR(aZ nd rfl %O)fP)))(Im ? Γ))|GE _ _(hR Iw _)~nQ v8(λ kJ(u9 rfl)%R %N uW(gA ? Γ))|GT _ _(dE(aK Iz _ _))~mF(A5(HX hr))B0 ? ? %U|GI _ _ _(IE _)~F0(λ E8 %R %N rO(gA ? Γ))|GE _ _(De(Ik _)_)~Yh(: c 'tuple)K %D(λ kI(Yg K %R)%R %N nW(wJ(gE ? Γ)(wJ(SA(: v(.ty 'tuple))%R %N lP rfl)Kk)))|GS _ _ _(FU(cT _(aL(hC 3)(aL(hC 4)(aL(hC 5)dJ))))_)~MW(: own[3 4 5])(iV(aT(bB %D)(aT(bB %D)(aT(bB %D)fQ))))(λ Kb(gE ? Γ)(dQ(: n 3)K rfl rfl(aR(aZ nd rfl %O)(aR(aZ nd rfl %O)(aR(aZ nd rfl %O)fP)))))|GT _ _(dE _)~Wr ?".splitOn "|"
 let p←r.mapM fun r=>PQ z ((r.splitOn "~").headD "")
 let q←r.mapM fun r=>PQ z ((r.splitOn "~").getD 1 "")
 let p:=p.toArray
 let q:=q.toArray
 `(tactic|(try first|refine zW ?_ ?_|refine MU ?_|refine p6 ?_ ?_)<;>repeat' first $[| (with_reducible show $p);refine $q]*)
def BS(T:Txt K mg a):Fk P w K mg base a 0 1 (Am 2 aD):=by
 refine aQ (T.F 0 _ rfl) (sc 0 _ rfl) (by decide) fT (λcdv A outer s H E hr=>?_);have nd:=(sc 0 _ rfl).nd;unfold fT;walk_at"k"
def Bz(T:Txt K mg a):Fk P w K mg base a 1 2 (Am 2 bM):=by
 refine aQ (T.F 1 _ rfl) (sc 1 _ rfl) (by decide) eW (λcdv A outer s H E hr=>?_);have nd:=(sc 1 _ rfl).nd;unfold eW;walk_at"k"
def BA(T:Txt K mg a):Fk P w K mg base a 2 2 (Am 2 bC):=by
 refine aQ (T.F 2 _ rfl) (sc 2 _ rfl) (by decide) gG (λcdv A outer s H E hr=>?_);have nd:=(sc 2 _ rfl).nd;unfold gG;walk_at"k"
def AB(T:Txt K mg a):Fk P w K mg base a 3 3 (Am 3 aU):=by
 refine aQ (T.F 3 _ rfl) (sc 3 _ rfl) (by decide) bH (λcdv A outer s H E hr=>?_);have nd:=(sc 3 _ rfl).nd;unfold bH;walk_at"k"
def AI(T:Txt K mg a):Fk P w K mg base a 4 4 (Am 2 aY):=by
 refine aQ (T.F 4 _ rfl) (sc 4 _ rfl) (by decide) bR (λcdv A outer s H E hr=>?_);have nd:=(sc 4 _ rfl).nd;unfold bR;walk_at"k"
def AZ(T:Txt K mg a):Fk P w K mg base a 5 5 (Am 2 cA):=by
 refine aQ (T.F 5 _ rfl) (sc 5 _ rfl) (by decide) cI (λcdv A outer s H E hr=>?_);have nd:=(sc 5 _ rfl).nd;unfold cI;walk_at"k"
def Ce(T:Txt K mg a):Fk P w K mg base a 6 1 (Am 2 eL):=by
 refine aQ (T.F 6 _ rfl) (sc 6 _ rfl) (by decide) gW (λcdv A outer s H E hr=>?_);have nd:=(sc 6 _ rfl).nd;unfold gW;walk_at"k"
def Bj(T:Txt K mg a):Fk P w K mg base a 7 1 (Am 1 bI):=by
 refine aQ (T.F 7 _ rfl) (sc 7 _ rfl) (by decide) cV (λcdv A outer s H E hr=>?_);have nd:=(sc 7 _ rfl).nd;unfold cV;walk_at"k"
def BB(T:Txt K mg a):Fk P w K mg base a 8 2 (Am 2 bV):=by
 refine aQ (T.F 8 _ rfl) (sc 8 _ rfl) (by decide) eX (λcdv A outer s H E hr=>?_);have nd:=(sc 8 _ rfl).nd;unfold eX;walk_at"k"
def BC(T:Txt K mg a):Fk P w K mg base a 9 3 (Am 3 dZ):=by
 refine aQ (T.F 9 _ rfl) (sc 9 _ rfl) (by decide) eY (λcdv A outer s H E hr=>?_);have nd:=(sc 9 _ rfl).nd;unfold eY;walk_at"k"
def Bk(T:Txt K mg a):Fk P w K mg base a 10 2 (Am 2 cJ):=by
 refine aQ (T.F 10 _ rfl) (sc 10 _ rfl) (by decide) cW (λcdv A outer s H E hr=>?_);have nd:=(sc 10 _ rfl).nd;unfold cW;walk_at"k"
def Bl(T:Txt K mg a):Fk P w K mg base a 11 2 (Am 3 cK):=by
 refine aQ (T.F 11 _ rfl) (sc 11 _ rfl) (by decide) cX (λcdv A outer s H E hr=>?_);have nd:=(sc 11 _ rfl).nd;unfold cX;walk_at"k"
def Cf(T:Txt K mg a):Fk P w K mg base a 12 3 (Am 2 fU):=by
 refine aQ (T.F 12 _ rfl) (sc 12 _ rfl) (by decide) gZ (λcdv A outer s H E hr=>?_);have nd:=(sc 12 _ rfl).nd;unfold gZ;walk_at"k"
def Cg(T:Txt K mg a):Fk P w K mg base a 13 1 (Am 2 eM):=by
 refine aQ (T.F 13 _ rfl) (sc 13 _ rfl) (by decide) hU (λcdv A outer s H E hr=>?_);have nd:=(sc 13 _ rfl).nd;unfold hU;walk_at"k"
def Bs(T:Txt K mg a):Fk P w K mg base a 14 1 (Am 1 cY):=by
 refine aQ (T.F 14 _ rfl) (sc 14 _ rfl) (by decide) eA (λcdv A outer s H E hr=>?_);have nd:=(sc 14 _ rfl).nd;unfold eA;walk_at"k"
def Ci(T:Txt K mg a):Fk P w K mg base a 15 1 (Am 2 fV):=by
 refine aQ (T.F 15 _ rfl) (sc 15 _ rfl) (by decide) hV (λcdv A outer s H E hr=>?_);have nd:=(sc 15 _ rfl).nd;unfold hV;walk_at"k"
def Bt(T:Txt K mg a):Fk P w K mg base a 16 2 (Am 3 cZ):=by
 refine aQ (T.F 16 _ rfl) (sc 16 _ rfl) (by decide) eB (λcdv A outer s H E hr=>?_);have nd:=(sc 16 _ rfl).nd;unfold eB;walk_at"k"
def Cj(T:Txt K mg a):Fk P w K mg base a 17 3 (Am 1 eN):=by
 refine aQ (T.F 17 _ rfl) (sc 17 _ rfl) (by decide) hW (λcdv A outer s H E hr=>?_);have nd:=(sc 17 _ rfl).nd;unfold hW;walk_at"k"
def BD(T:Txt K mg a):Fk P w K mg base a 18 4 (Am 1 eC):=by
 refine aQ (T.F 18 _ rfl) (sc 18 _ rfl) (by decide) eZ (λcdv A outer s H E hr=>?_);have nd:=(sc 18 _ rfl).nd;unfold eZ;walk_at"k"
def EC(T:Txt K mg a):Fk P w K mg base a 19 5 (Am 1 lJ):=by
 refine aQ (T.F 19 _ rfl) (sc 19 _ rfl) (by decide) oF (λcdv A outer s H E hr=>?_);have nd:=(sc 19 _ rfl).nd;unfold oF;walk_at"k"
def Ba(T:Txt K mg a):Fk P w K mg base a 20 6 (Am 1 cB):=by
 refine aQ (T.F 20 _ rfl) (sc 20 _ rfl) (by decide) cL (λcdv A outer s H E hr=>?_);have nd:=(sc 20 _ rfl).nd;unfold cL;walk_at"k"
def BE(T:Txt K mg a):Fk P w K mg base a 21 1 (Am 2 eE):=by
 refine aQ (T.F 21 _ rfl) (sc 21 _ rfl) (by decide) fA (λcdv A outer s H E hr=>?_);have nd:=(sc 21 _ rfl).nd;unfold fA;walk_at"k"
def BU(T:Txt K mg a):Fk P w K mg base a 22 1 (Am 1 dG):=by
 refine aQ (T.F 22 _ rfl) (sc 22 _ rfl) (by decide) fW (λcdv A outer s H E hr=>?_);have nd:=(sc 22 _ rfl).nd;unfold fW;walk_at"k"
def Bb(T:Txt K mg a):Fk P w K mg base a 23 2 (Am 2 cC):=by
 refine aQ (T.F 23 _ rfl) (sc 23 _ rfl) (by decide) cM (λcdv A outer s H E hr=>?_);have nd:=(sc 23 _ rfl).nd;unfold cM;walk_at"k"
def AJ(T:Txt K mg a):Fk P w K mg base a 24 1 (Am 2 bN):=by
 refine aQ (T.F 24 _ rfl) (sc 24 _ rfl) (by decide) bS (λcdv A outer s H E hr=>?_);have nd:=(sc 24 _ rfl).nd;unfold bS;walk_at"k"
def CT(T:Txt K mg a):Fk P w K mg base a 25 1 (Am 2 eO):=by
 refine aQ (T.F 25 _ rfl) (sc 25 _ rfl) (by decide) jI (λcdv A outer s H E hr=>?_);have nd:=(sc 25 _ rfl).nd;unfold jI;walk_at"k"
def BF(T:Txt K mg a):Fk P w K mg base a 26 1 (Am 2 bW):=by
 refine aQ (T.F 26 _ rfl) (sc 26 _ rfl) (by decide) fB (λcdv A outer s H E hr=>?_);have nd:=(sc 26 _ rfl).nd;unfold fB;walk_at"k"
def Ck(T:Txt K mg a):Fk P w K mg base a 27 2 (Am 3 fX):=by
 refine aQ (T.F 27 _ rfl) (sc 27 _ rfl) (by decide) hX (λcdv A outer s H E hr=>?_);have nd:=(sc 27 _ rfl).nd;unfold hX;walk_at"k"
def Bu(T:Txt K mg a):Fk P w K mg base a 28 3 (Am 2 cD):=by
 refine aQ (T.F 28 _ rfl) (sc 28 _ rfl) (by decide) eF (λcdv A outer s H E hr=>?_);have nd:=(sc 28 _ rfl).nd;unfold eF;walk_at"k"
def Cn(T:Txt K mg a):Fk P w K mg base a 29 7 (Am 2 bX):=by
 refine aQ (T.F 29 _ rfl) (sc 29 _ rfl) (by decide) hZ (λcdv A outer s H E hr=>?_);have nd:=(sc 29 _ rfl).nd;unfold hZ;walk_at"k"
def G0(T:Txt K mg a):Fk P w K mg base a 30 8 (Am 1 lW):=by
 refine aQ (T.F 30 _ rfl) (sc 30 _ rfl) (by decide) vS (λcdv A outer s H E hr=>?_);have nd:=(sc 30 _ rfl).nd;unfold vS;walk_at"k"
def Tx(z:Str):Prop:=z.length<=100/\∀c∈z.cps.toList,c<128
theorem G1:SK (.str z) lo hi K=(z.length<=sizeLine/\K (.val (.str (slice z lo hi)))):=by
 show dY (if _ then _ else none) K=_;rw[aO];rfl
theorem yO:dY (tG (.str z) (.int i)) K=((z.length<=1000/\0<=i/\i<=1000)/\K (.val (.str (Txt.mul z i)))):=by
 unfold tG;rw[aO];rfl
theorem PR:jS [i] Z a=a.set i (Z[i]?.getD none):=rfl
def G2:(ofString "abcdefghijklmnopqrstuvwxyz").cps.toList.length=26:=rfl
def Fn(z:Str):z.length=z.cps.toList.length:=rfl
def oG(x y:Str):(x++y).cps.toList=x.cps.toList++y.cps.toList:=by show(x.cps++y.cps).toList=_;simp
theorem oH(x y:Str):(x++y).length=x.length+y.length:=by rw[Fn,Fn,Fn,oG,AO]
def As(z:Str):Prop:=∀c∈z.cps.toList,c<128
def Ln(a:As x)(b:As y):As (x++y):=by
 intro c hc;rw[oG]at hc;rcases Au.mp hc with h|h;exact a c h;exact b c h
def PU(h:As z)(lo hi:Option Int):As (slice z lo hi):=by
 intro c hc;unfold slice at hc;split at hc;exact h c hc;simp only[List.mem_filterMap]at hc;obtain⟨i,_,hi⟩:=hc;exact h c (Array.mem_toList_iff.mpr (Array.mem_of_getElem? hi))
theorem slice_le(z:Str)(lo hi:Option Int):(slice z lo hi).length<=z.length:=Txt.slice_le z lo hi
def yP(h:As z):dU (.str z)=true:=by
 unfold dU;rw[Ej];refine⟨?_,rfl⟩;show PyData.strOk z=true;unfold PyData.strOk;rw[← Array.all_toList,Ds];intro c hc;have:=h c hc
 lia
def PV(d:D)(l:List D):dU d=true->dU (.lst l)=true->(fL d).depth<=59->dU (.lst (d::l))=true:=by
 intro a b e;obtain⟨a1,f⟩:=bP a;obtain⟨a2,c⟩:=bP b;unfold dU;rw[Ej,Co];have g:(fL (.lst (d::l))).canLay0=((fL d).canLay0&&(fL (.lst l)).canLay0):=rfl;refine⟨by simp_all,?_⟩;simp only[fL,toPys,depth,depthAll]at c ⊢;lia
theorem sQ:∀{zs:List Str},(∀z∈zs,As z)->dU (.lst (zs.map D.str))=true
 |[],_=>rfl
 |z::r,h=>PV _ _ (yP (h z sT)) (sQ λy a=>h y (Ah _ a)) (by show depth (.str z)<=59;simp[depth])
theorem PX:dY (pI (.tup l)) K=K l:=rfl
theorem vT:dY (pI (.lst l)) K=K l:=rfl
theorem PY:aX [i] Z=Z.set i none:=rfl
theorem PZ:aX [i,j] Z=(Z.set i none).set j none:=rfl
theorem Qa:jS [i,j] Z a=(a.set i (Z[i]?.getD none)).set j (Z[j]?.getD none):=rfl
theorem Qb:aX [i,j,k] Z=((Z.set i none).set j none).set k none:=rfl
theorem Qd:jS [i,j,k] Z a=((a.set i (Z[i]?.getD none)).set j (Z[j]?.getD none)).set k (Z[k]?.getD none):=rfl
noncomputable def ov(b:Bool)(d:D):Option Sl:=if b=true then some ⟨.val,d⟩else none
theorem vU{r:Sg}:PySem.PK 0 (ov b d::r) s K=K (some s::r):=by cases b<;>rfl
theorem yQ:dY (Fb (.lst l) [.lst m]) K=(l.length+m.length<=sizeLine/\K (.lst (l++m),.non)):=by
 unfold Fb;rw[aO];rfl
theorem yR:dY (Hi [.lst l,.lst m]) K=K (.val (.tup (Hg l m))):=rfl
theorem Qe{r:Sg}:lendO (some 0) (some ⟨.own,d⟩::r)=some ⟨.lent,d⟩::r:=rfl
theorem G3{r:Sg}:lendO (some 0) (some ⟨.par,d⟩::r)=some ⟨.lent,d⟩::r:=rfl
theorem Qg{r:Sg}:lendO (some (i+1)) (o::r)=o::lendO (some i) r:=by
 show lend (i+1) (o::r)=o::lend i r;unfold lend;rw[EJ];generalize r[i]?=x
 match x with
 |none|some none|some (some ⟨.own,_⟩)|some (some ⟨.par,_⟩)|some (some ⟨.val,_⟩)|some (some ⟨.lent,_⟩)=>rfl
theorem Qi{a r:Sg}:wC (some 0) (some ⟨.own,e⟩::a) (some ⟨m,d⟩::r)=some ⟨.own,d⟩::r:=rfl
theorem G4{a r:Sg}:wC (some 0) (some ⟨.par,e⟩::a) (some ⟨m,d⟩::r)=some ⟨.par,d⟩::r:=rfl
theorem Qj{a r:Sg}:wC (some (i+1)) (o::a) (o'::r)=o'::wC (some i) a r:=by
 show Dh (i+1) (o::a) (o'::r)=o'::Dh i a r;unfold Dh;rw[EJ,EJ];generalize a[i]?=x;generalize r[i]?=y
 match x,y with
 |none,_|some none,_|some (some _),none|some (some _),some none|some (some ⟨.own,_⟩),some (some _)|some (some ⟨.par,_⟩),some (some _)|some (some ⟨.val,_⟩),some (some _)|some (some ⟨.lent,_⟩),some (some _)=>rfl
theorem G5:dY (Ik "tuple" (.tup l)) K=K (.val (.bl true)):=rfl
noncomputable def wo(o:Option (List D)):Option Sl:=o.map λl=>⟨.own,.lst l⟩
theorem G6{r:Sg}:PySem.PK 0 (wo o::r) s K=K (some s::r):=by cases o<;>rfl
theorem yS:dY (Kw (.bl b)) K=K b:=rfl
local macro_rules | `(tactic|walk_at"dx")=>do
 let l:=("G5 Oh ND NF NG Zb sN sO sP yR yQ vU vT PX G1 yO Np uK uL uM uN Ym Nq Yn Nr uO Nt uP uQ Nu Yp nT xF Ys Nv rA rB rC Nw Nx KL Ny Nz NA NB NC rD pO gQ Yu rE NI NJ uR NK NL NM Ox uT NN uU xG rF xH NO Yv NP NQ Yw NR Yx Yy KN nU kW nV Yz rG NZ Oa Ob YJ YK YL YM rR KP Od rL kY nX ZN YS xL xM YT YU YV YW YX YY YZ Za Zc Oe rM xN xO Zd Ze xP rN Of Zf Zg Og Zh Zi Zj Zk aW Zl Zm Zn Zo NW NX YC YD YE YF xI rH xJ YG YH reduceIte rX rY Yo Yq Yr G6 yS YI YB xZ i9 Py".splitOn " ").toArray.map fun s=>Lean.mkIdent s.toName
 let m:=("Qb Qd PY PZ Qa Zp Zq Zr Oi Zs Int.reducePow Int.reduceNeg Int.reduceLT Int.reduceLE Nat.reducePow Nat.reduceLT Int.reduceToNat Nat.reduceLeDiff Oo G3 G4 Oj Ol Om rJ rK xK PR List.getElem?_cons_succ List.getElem?_cons_zero Option.getD_some List.set_cons_zero List.set_cons_succ eG Ez Nat.reduceEqDiff decide_false List.length_cons List.length_nil Nat.reduceAdd Nat.zero_add true_and and_true and_self Bool.not_false Bool.not_true Bool.false_eq_true Bool.true_and Bool.and_true Bool.or_false decide_eq_true_eq Qe Qg Qi Qj".splitOn " ").toArray.map fun s=>Lean.mkIdent s.toName
 `(tactic|simp only[$[↓$l:ident],*,$[$m:ident],*])
def sl2:(2<=sizeLine):=by decide
def bK(h:0<m)(c:m<18446744073709551616)(k:∀d e f,0<=d->d<m->K (.val (.int d)) [⟨.par,.lst [.int e,.int f]⟩,⟨.val,.int m⟩]):CK aD [⟨.par,.lst [.int a,.int b]⟩,⟨.val,.int m⟩] K:=by
 unfold aD;rw[bF];show RS fT [_,_,none,none] _;unfold fT;walk_at"dx";rw[Oi h c];split;exact⟨h,True.intro,k _ _ _ (emod_nonneg _ (by lia)) (HG _ h)⟩;exact⟨h,k _ _ _ (emod_nonneg _ (by lia)) (HG _ h)⟩
def Qk{ns:List Int}(h0:0<=i)(h1:i<(ns.length:Int)):∃c,atI (ns.map D.int) i=some (.int c):=by
 obtain⟨c,hc⟩:=zM (ys:=ns) h0 h1;exact⟨c,by rw[wR,hc];rfl⟩
def Ql{ns:List Int}(h0:0<=n)(h1:n<1000)(k:∀a b,K (.own (.lst [.int a,.int b])) [⟨.val,.lst (ns.map D.int)⟩,⟨.val,.int n⟩]):CK eL [⟨.val,.lst (ns.map D.int)⟩,⟨.val,.int n⟩] K:=by
 unfold eL;rw[bF];show RS gW [_,_,none,none] _;unfold gW;walk_at"dx";split;obtain⟨c,hc⟩:=Qk (ns:=ns) h0 (by simp_all);rw[hc];walk_at"dx";exact⟨sl2,k _ _⟩;split;rename_i hc;refine⟨hc,?_⟩;obtain⟨c,hc⟩:=Qk (ns:=ns) (i:=n % ((ns.map D.int).length:Int)) (emod_nonneg _ (by lia)) (by have:=HG n hc;simp_all);rw[hc];walk_at"dx";exact⟨sl2,k _ _⟩;exact⟨sl2,k _ _⟩
def iI(h:(Di lo n)[i]?=some d):i<n/\d=.int (lo+i):=by
 unfold Di at h;cases e:(range n)[i]? with
 |none=>simp_all
 | some k=>
   obtain⟨hi,a⟩:=sS.mp e;rw[length_range]at hi
   simp_all
def cN(lo:Int)(n:Nat):(Di lo n).length=n:=by simp[Di]
def yT{c:a}(h:atI l i=some c):c∈l:=by
 obtain⟨j,_,b⟩:=aA h;exact AV b
def G7(h0:0<=d)(h1:d < (l.length:Int))(a:d < 9223372036854775808)(k:∀ y r,(y::r).Perm l->r.length+1=l.length->K (.lst r,y)):dY (uG (.lst l) [.int d]) K:=by
 obtain⟨n,rfl⟩:∃n:Nat,d=n:=⟨d.toNat,by lia⟩;have hn:n<l.length:=by simp_all
 unfold uG;dsimp only;rw[fI ⟨by simp,by simp[*]⟩];have e:AH l.length (n:Int)=some n:=by
  unfold AH
  simp_all
 rw[e];show dY ((l[n]?).map _) K;rw[nL hn];exact k _ _ (xV l n hn) (by grind)
def mO(P:Sg->Prop)(h1:RS a Z λo=>∃c,o=.nx c/\P c)(d:∀c,P c->RS b c Q):RS (aS a b) Z Q:=by
 rw[NH];refine bQ h1 ?_;rintro o ⟨c,rfl,h⟩;exact d c h
def sR(hm:m=.par/\t=.lst xs\/m=.val/\t=.lst xs\/m=.val/\t=.tup xs)(o:xs.length<=1000)(k:∀ ys c e,ys.Perm xs->K (.own (.lst ys)) [⟨.par,.lst [.int c,.int e]⟩,⟨m,t⟩]) :
  CK bC [⟨.par,.lst [.int a,.int b]⟩,⟨m,t⟩] K:=by
 unfold bC;rw[bF];show RS _ [_,_,none,none] _;unfold gG;refine mO (λτ=>τ=[some ⟨.par,.lst [.int a,.int b]⟩,some ⟨m,t⟩,some ⟨.own,.lst xs⟩,none]) ?_ ?_
 ·rcases hm with⟨rfl,rfl⟩ | ⟨rfl,rfl⟩ | ⟨rfl,rfl⟩
  all_goals
   walk_at"dx";exact⟨_,rfl,rfl⟩
 ·rintro _ rfl;walk_at"dx";refine⟨sY _,?_⟩;refine pQ (λm τ=>∃c e lft found,m=lft.length/\lft.length<=xs.length/\found.length+lft.length=xs.length/\(found++lft).Perm xs/\τ=[some ⟨.par,.lst [.int c,.int e]⟩,some _,some ⟨.own,.lst lft⟩,some ⟨.own,.lst found⟩]) xs.length (by lia) ⟨a,b,xs,[],rfl,hF _,by simp,.refl _,rfl⟩ ?_;rintro m τ ⟨c,e,lft,found,rfl,h,i,g,rfl⟩;walk_at"dx";split;refine bK (by simp_all) (by lia) λd a2 j l p=>?_;walk_at"dx";refine G7 l (by simp_all) (by lia) λy r f n=>?_;refine⟨Ax (by lia:found.length<1001) (by decide),.inl ⟨_,r.length,.inl rfl,le_of_eq n,a2,j,r,found++[y],rfl,by lia,by grind,?_,rfl⟩⟩;rw[append_assoc];exact(append_left found f).trans g
  rcases hm with⟨rfl,rfl⟩|⟨rfl,rfl⟩|⟨rfl,rfl⟩<;>(simp_all;exact k _ _ _ g)
theorem Qm:∀ (zs:List Str),(∀ z∈zs,z.length<=1)->(zs.map (·.length)).sum<=zs.length
 |[],_=>by simp
 | z::r,h=>by
   have b:=h z sT;have c:=Qm r λy a=>h y (Ah _ a)
   grind
def G8(a:0<=e)(b:e<26):∃c,atI (ofString "abcdefghijklmnopqrstuvwxyz").cps.toList e=some c/\c<128:=by
 obtain⟨c,hc⟩:=zM (ys:=(ofString "abcdefghijklmnopqrstuvwxyz").cps.toList) a (by exact b);exact⟨c,hc,Wf c (yT hc)⟩
def JJ(h:c<128):As ⟨#[c]⟩:=by
 intro x a
 simp_all
def G9:∀n:_root_.Fin 24,((ofString "abcdefghijklmnopqrstuvwxyz").cps.toList.drop n).take 3=[97+(n:Nat),98+(n:Nat),99+(n:Nat)]:=by decide
def H9(h0:0<=k)(h1:k < 24):∃ (z:Str) (p q r:Nat),slice (slice (ofString "abcdefghijklmnopqrstuvwxyz") (some k) none) none (some 3)=z/\z.length=3/\jV z=[.str ⟨#[p]⟩,.str ⟨#[q]⟩,.str ⟨#[r]⟩]/\(p < 128/\q < 128/\r < 128)/\p < q/\q < r:=by
 have d:(ofString "abcdefghijklmnopqrstuvwxyz").length=26:=rfl;have b:=pG (x:=ofString "abcdefghijklmnopqrstuvwxyz") h0 (by lia);have f:(slice (ofString "abcdefghijklmnopqrstuvwxyz") (some k) none).length=26-k.toNat:=by
  rw[Fn,b,EM,G2]
 have c:=zN (x:=slice (ofString "abcdefghijklmnopqrstuvwxyz") (some k) none) (j:=3) (by decide) (by lia);rw[b]at c;have e:=G9 ⟨k.toNat,by simp[*]⟩;have a:(slice (slice (ofString "abcdefghijklmnopqrstuvwxyz") (some k) none) none (some 3)).cps.toList=[97+k.toNat,98+k.toNat,99+k.toNat]:=c.trans e;generalize slice (slice (ofString "abcdefghijklmnopqrstuvwxyz") (some k) none) none (some 3)=z at a;exact⟨z,_,_,_,rfl,by rw[Fn,a];rfl,by unfold jV;rw[a];rfl,⟨by lia,by lia,by lia⟩,by simp,by simp⟩
def Lo(h:c<128):Tx ⟨#[c]⟩:=⟨by show 1<=100;decide,JJ h⟩
def JK(h1:x.length<=m/\As x)(a:y.length<=n/\As y):(x++y).length<=m+n/\As (x++y):=⟨by rw[oH];exact Nat.add_le_add h1.1 a.1,Ln h1.2 a.2⟩
theorem Lp(c:Nat):Str.length ⟨#[c]⟩=1:=rfl
def I0(h0:0<=e)(h1:e<11):∃z:Str,atI ([D.str "table",D.str "tree",D.str "none",D.str "answer",D.str "levels",D.str "looks"]++[D.str "at",D.str "count",D.str "ears",D.str "cover",D.str "place"]) e=some (.str z)/\Tx z:=by
 have:e=0\/e=1\/e=2\/e=3\/e=4\/e=5\/e=6\/e=7\/e=8\/e=9\/e=10:=by lia
 rcases this with rfl|rfl|rfl|rfl|rfl|rfl|rfl|rfl|rfl|rfl|rfl<;>exact⟨_,rfl,by unfold Tx;decide⟩
def yU(ys:List Str)(j:Nat)(z:Str):(ys.map D.str).set j (.str z)=(ys.set j z).map D.str:=by simp
def I3{n:Nat}{k:Int}(h0:0<=k)(h1:k < n)(q:∀ j,j < n->K j):dY (AH n k) K:=by
 obtain⟨m,rfl⟩:∃m:Nat,k=m:=⟨k.toNat,by lia⟩;have e:AH n (m:Int)=some m:=by
  unfold AH
  simp_all
 rw[e];exact q m (by simp_all)
def Lq(h:m=0\/m=1):(Txt.mul "z" m).length<=1/\As (Txt.mul "z" m):=by
 rcases h with rfl|rfl;exact⟨by decide,by unfold As;decide⟩;exact⟨by decide,by unfold As;decide⟩
def Qo(p:Prop)[Decidable p]:(if p then(1:Int)else 0)=0\/(if p then(1:Int)else 0)=1:=by lia
def J0(a:0<=e)(b:e<26):atI (ofString "abcdefghijklmnopqrstuvwxyz").cps.toList e=some (97+e.toNat):=by
 have h:∀n:_root_.Fin 26,atI (ofString "abcdefghijklmnopqrstuvwxyz").cps.toList ((n:Nat):Int)=some (97+(n:Nat)):=by decide
 have:=h ⟨e.toNat,by simp[*]⟩
 grind
theorem J1{ys:List Str}(h:∀(i j:Nat) y,i<j->ys[i]?=some y->ys[j]?=some y->False):ys.Nodup:=by
 rw[Eg,List.pairwise_iff_getElem];intro i j hi hj a z;exact h i j ys[i] a (nL hi) (by simp_all)
def JL{zs:List Str}(hz:As z)(h:∀ z∈zs,As z)(k:K (.val (.bl (if neg=true then !zs.contains z else zs.contains z)))):dY (Be neg (.str z) (.lst (zs.map D.str))) K:=by
 show dY (if _ then _ else none) K;rw[aO];refine⟨⟨yP hz,sQ h⟩,?_⟩;have e:((zs.map D.str).any λy=>wE y (.str z))=zs.contains z:=by
  rw[List.any_map,List.contains_eq_any_beq];congr 1;funext y;show(y==z)=(z==y)
  lia
 rw[e];exact k
def J3{a:Type}{l:List a}{z:a}(h:l.Nodup)(hz:z∉l):(l.set j z).Nodup:=by
 rw[Eg,List.pairwise_iff_getElem]at h ⊢;intro i k hi b c;rw[Dx]at hi b
 grind
def Qp(k:∀ (zs:List Str) E F,zs.length=6->zs.Nodup->(∀ z∈zs,Tx z)->K (.own (.lst (zs.map D.str))) [⟨.par,.lst [.int E,.int F]⟩,⟨.val,.int 6⟩]) :
  CK bM [⟨.par,.lst [.int a,.int b]⟩,⟨.val,.int 6⟩] K:=by
 unfold bM;rw[bF];show RS eW [_,_,none,none,none,none,none,none,none,none,none,none,none,none,none] _;unfold eW;walk_at"dx";refine bK (by decide) (by decide) λn a1 b1 n0 n5=>?_;walk_at"dx";refine⟨by lia,by rw[cN];exact oT (by lia:n.toNat<=5) (by decide),?_⟩;refine gU _ _ (λi acc τ=>i<=4/\∃(zs:List Str) (E F:Int),acc=zs.map D.str/\zs.length=i/\(∀z∈zs,z.length<=1/\As z)/\τ=[some ⟨.par,.lst [.int E,.int F]⟩,some ⟨.val,.int 6⟩,some ⟨.val,.str "abcdefghijklmnopqrstuvwxyz"⟩,none,none,none,none,none,none,none,none,none,none,none,none]) ⟨sY _,[],a1,b1,rfl,rfl,by simp,rfl⟩ ?_ ?_;rintro i d acc τ hd ⟨_,zs,E,F,rfl,hl,f,rfl⟩;obtain⟨hi,rfl⟩:=iI hd;walk_at"dx";refine bK (by decide) (by decide) λe a2 b2 L M=>?_;walk_at"dx";refine⟨by decide,?_⟩;obtain⟨c,hc,N⟩:=G8 L M;rw[hc];walk_at"dx";refine⟨_,rfl,by lia,zs++[⟨#[c]⟩],a2,b2,by rw[Bp];rfl,by rw[AO,hl];rfl,?_,rfl⟩;intro z π;rcases Au.mp π with h|h;exact f z h;rw[Aq]at h;subst h;exact⟨hF 1,JJ N⟩;rintro acc τ ⟨h5,zs,E,F,rfl,hl,f,rfl⟩;have hs:=Qm zs λz h=>(f z h).1;rw[Zu];refine⟨by simp only[show(ofString "").length=0 by decide];lia,?_⟩;have I:=wX (m:=128) (sep:=ofString "") (by decide) zs λz h=>(f z h).2;have s:(Txt.join (ofString "") zs).length<=4:=by
  refine oT (Vv _ _) ?_;simp only[show(ofString "").length=0 by decide];lia
 revert I s;generalize Txt.join (ofString "") zs=x;intro I s;have G:x.length<=sizeLine:=oT s (by decide);walk_at"dx";rw[ZO G];walk_at"dx";refine bK (by simp) (by lia) λo a2 b2 P k11=>?_;walk_at"dx";refine bK (by lia) (by lia) λv a3 b3 k20 k21=>?_;walk_at"dx";refine bK (by lia) (by lia) λk3 a4 b4 k30 k31=>?_;walk_at"dx";split
 ·refine bK (by lia) (by lia) λk4 a5 b5 A B=>?_;walk_at "dx";obtain⟨z,p,q,r,e,Q,es,⟨R,S,T⟩,pq,qr⟩:=H9 A B;rw[e,es];refine⟨by decide,oT (slice_le _ _ _) (by decide),Q,?_⟩;walk_at "dx";simp only[oH,Lp];refine⟨by decide,by decide,by decide,by decide,by decide,by decide,by decide,by decide,by decide,?_⟩;have tp:=Lo R;have tq:=Lo S;have tr:=Lo T;have l1:∀ {c:Nat},c < 128->Str.length ⟨#[c]⟩<=1/\As ⟨#[c]⟩:=λh=>⟨hF 1,JJ h⟩;have J:∀ {x:Str} {n:Nat},n<=100->x.length<=n/\As x->Tx x:=λhn h=>⟨oT h.1 hn,h.2⟩;refine k [⟨#[p]⟩,⟨#[p]⟩++⟨#[q]⟩,⟨#[q]⟩,⟨#[q]⟩++⟨#[r]⟩,⟨#[r]⟩,⟨#[p]⟩++⟨#[r]⟩] _ _ rfl ?_ ?_
  ·have C:∀x y:Nat,(⟨#[x]⟩:Str)++⟨#[y]⟩=⟨#[x,y]⟩:=λ_ _=>rfl;have n1:p≠q:=An pq;have n2:q≠r:=by lia
   have n3:p≠r:=by lia
   rw[C,C,C];simp[n1,n2,n3,Ne.symm n1,Ne.symm n2,Ne.symm n3]
  intro z f;simp only[mem_cons,not_mem_nil,or_false]at f;rcases f with rfl|rfl|rfl|rfl|rfl|rfl;exact tp;exact J (by decide) (JK (l1 R) (l1 S));exact tq;exact J (by decide) (JK (l1 S) (l1 T));exact tr;exact J (by decide) (JK (l1 R) (l1 T))
 ·refine⟨sY _,?_⟩;refine eK (λi τ=>i<=6/\∃ (ys:List Str) (b:Bool) (d e:D),ys.length=i/\(∀ (j:Nat) y,ys[j]? = some y->Tx y/\∃ t,y.cps.toList=(slice x none (some o)).cps.toList++(97+((v+5*(j:Int)) % 26).toNat)::t)/\τ=[some ⟨.par,.lst [.int a4,.int b4]⟩,some ⟨.val,.int 6⟩,some ⟨.val,.str "abcdefghijklmnopqrstuvwxyz"⟩,some ⟨.val,.str x⟩,some ⟨.val,.int o⟩,some ⟨.val,.int v⟩,some ⟨.val,.int k3⟩,none,none,none,none,some ⟨.own,.lst (ys.map D.str)⟩,ov b d,ov b e,none]) ⟨sY _,[],false,.non,.non,rfl,by simp,rfl⟩ ?_ ?_
  ·rintro i d τ hd ⟨_,ys,b0,d0,L,g,l,rfl⟩;obtain⟨hi,rfl⟩:=iI hd;have hc:=J0 (e:=(v+5*(0+(i:Int))) % 26) (emod_nonneg _ (by decide)) (HG _ (by decide));have N:97+((v+5*(0+(i:Int))) % 26).toNat < 128:=by
    have:=HG (v+5*(0+(i:Int))) (b:=26) (by decide);grind
   have l1:=slice_le x none (some o);have l2:=slice_le x (some o) none;have g1:=PU (z:=x) I none (some o);have g2:=PU (z:=x) I (some o) none;have sl:100<=sizeLine:=by decide
   have done:∀(w:Str) (m:Int) ,(w.length<=5/\As w)->(m=0\/m=1)->Tx (w++Txt.mul "z" m):=λw m U hm=>by
    have:=JK U (Lq hm);exact⟨by lia,this.2⟩
   have fin:∀ m:Int,(m=0\/m=1)->∀ (j:Nat) y,(ys++[slice x none (some o)++⟨#[97+((v+5*(0+(i:Int))) % 26).toNat]⟩++slice x (some o) none++Txt.mul "z" m])[j]? = some y->Tx y/\∃ t,y.cps.toList=(slice x none (some o)).cps.toList++(97+((v+5*(j:Int)) % 26).toNat)::t:=λm ht j y h=>by
    by_cases hj:j<ys.length;rw[BM hj]at h;exact l j y h;have V:j=i:=by
     have:=(sS.mp h).1;rw[AO,length_singleton]at this;lia
    subst V;rw[DN (le_of_eq g),g,Nat.sub_self]at h;obtain rfl:=Ap h;refine⟨done _ _ ⟨?_,Ln (Ln g1 (JJ N)) g2⟩ ht,(slice x (some o) none).cps.toList++(Txt.mul "z" m).cps.toList,?_⟩;rw[oH,oH,Lp,Fn,Fn,zN P (by lia),pG (by lia) (by lia),Ei,EM];rw[Fn]at s;grind;rw[oG,oG,oG,Int.zero_add];simp
   walk_at"dx";rw[hc];walk_at"dx";have z1:=Lq (Qo ((0+(i:Int)) % 2=1));have z0:=Lq (m:=0) (.inl rfl);have W:=Qo ((0+(i:Int)) % 2=1);simp only[oH,Lp];revert W z1;generalize (if(0+(i:Int)) % 2=1 then(1:Int)else 0)=zz;intro z1 W;refine⟨G,by decide,by lia,by omega,by lia,?_⟩;have H:(List.map D.str ys).length<sizeLine:=by rw[hB];lia
   split;exact⟨⟨by decide,by lia,by lia⟩,by lia,H,_,.inl rfl,by lia,ys++[_],true,_,_,by rw[AO,g];rfl,fin _ W,by rw[Bp];rfl⟩;exact⟨by decide,by lia,H,_,.inl rfl,by lia,ys++[_],true,_,_,by rw[AO,g];rfl,fin 0 (.inl rfl),by rw[Bp];rfl⟩
  ·rintro τ ⟨_,ys,b0,d0,L,g,l,rfl⟩;rw[cN]at g;have hn:ys.Nodup:=J1 λi j y hij h1 h2=>by
    obtain⟨_,t1,M⟩:=l i y h1;obtain⟨_,J,C⟩:=l j y h2;rw[M]at C;have e3:=(List.cons.inj (List.append_cancel_left C)).1;have hj:=(sS.mp h2).1;rw[g]at hj;have h6:j<6:=by omega
    grind
   have u:∀z∈ys,Tx z:=λz f=>by
    obtain⟨j,hj⟩:=List.mem_iff_getElem?.mp f;exact(l j z hj).1
   have X:∀z∈ys,As z:=λz h=>(u z h).2;walk_at"dx";refine⟨by decide,by decide,by decide,bK (by lia) (by lia) λk4 a5 b5 A B=>?_⟩;obtain⟨w,U,tw⟩:=I0 A B;walk_at"dx";rw[U];walk_at"dx";refine bK (by lia) (by lia) λk5 a6 b6 k50 k51=>?_;walk_at"dx";split
   ·refine JL tw.2 X ?_;walk_at "dx";split
    ·rename_i Y;have nw:w∉ys:=by simpa using Y
     refine bK (by lia) (by lia) λk6 a7 b7 σ k61=>?_;walk_at"dx";refine I3 σ (by rw[hB,g];omega) λj hj=>?_;rw[yU];refine k _ _ _ (by rw[Dx,g]) (J3 hn nw) λz f=>?_;rcases List.mem_or_eq_of_mem_set f with h|h;exact u z h;exact h▸tw
    ·exact k _ _ _ g hn u
   ·exact k _ _ _ g hn u
def J4{a:Type}{l:List a}(f:a->D)(h0:0<=i)(h1:i<(l.length:Int)):∃c,atI (l.map f) i=some (f c)/\c∈l:=by
 obtain⟨c,hc⟩:=zM (ys:=l) h0 h1;exact⟨c,by rw[wR,hc];rfl,yT hc⟩
def Qq(h:RT r Z Q)(w:∀b c,Q b c->a b c):RT r Z a:=bQ h λx=>w x.1 x.2
def Qr(h:RE r Z Q)(w:∀b c,Q b c->a b c):RE r Z a:=bQ h λx=>w x.1 x.2
def bT{m:Type}{g:D->Sg->Option Sg}(f:m->D)(u:m->D)(xs:List m)(l:Sg)(q:a=l)
  (hs:∀x∈xs,dY (g (u x) l) λc=>RT t c λb h=>b=true/\RE e h λr j=>r=.val (f x)/\aX ow j=l) (k:K (xs.map f,l)):dY (uX ow g t e (xs.map u) a) K:=by
 subst q;refine gU _ _ (λi acc τ'=>acc=(xs.take i).map f/\τ'=a) ⟨rfl,rfl⟩ ?_ ?_;rintro i d acc τ' hd ⟨rfl,rfl⟩;rw[Ar]at hd;obtain⟨x,o,rfl⟩:=Bf.mp hd;refine bQ (hs x (AV o)) λc s=>Qq s λb h n=>?_;obtain⟨rfl,n⟩:=n;rw[fI rfl];refine Qr n λr j p=>?_;exact⟨_,p.1,by rw[HH,o,Bp];rfl,p.2⟩
 grind
def dH{n:Type}{g:D->Sg->Option Sg}(p:n->Bool)(f:n->D)(u:n->D)(xs:List n)(j:Sg)(o:a=j)
  (hs:∀x∈xs,dY (g (u x) j) λl=>RT t l λb c=>b=p x/\aX ow c=j/\RE e c λr m=>r=.val (f x)/\aX ow m=j) (k:K ((xs.filter p).map f,j)):dY (uX ow g t e (xs.map u) a) K:=by
 subst o;refine gU _ _ (λi acc τ'=>acc=((xs.take i).filter p).map f/\τ'=a) ⟨rfl,rfl⟩ ?_ ?_
 ·rintro i d acc τ' hd ⟨rfl,rfl⟩;rw[Ar]at hd;obtain⟨x,q,rfl⟩:=Bf.mp hd;refine bQ (hs x (AV q)) λl v=>Qq v λb c s=>?_;obtain⟨rfl,s,w⟩:=s;have o:(xs.take (i+1)).filter p=(xs.take i).filter p++(if p x=true then[x]else[]):=by
   rw[HH,q,List.filter_append];cases h:p x<;>simp[h]
  by_cases y:p x=true
  ·rw[fI y];refine Qr w λr m z=>?_
   simp_all
  simp_all
 simp_all
def kD{a:Type}{f:a->D}{l:List a}{i:Nat}(h:(l.map f)[i]?=some d):∃y,l[i]?=some y/\d=f y:=by
 rw[Ar]at h;obtain⟨y,e,rfl⟩:=Bf.mp h
 simp_all
def Fo{a:Type}{l:List a}{y:a}(h:l[i]?=some y):l.take i++[y]=l.take (i+1):=by
 rw[HH,h];rfl
def Qs{c:Type}(f:c->D)(p:c->Bool)(l:List c)
  (hs:∀y∈l,dY (g (f y) a) λb=>RE e b λr j=>r=.val (.bl (p y))/\aX ow j=a) (k:K ((l.map p).map D.bl,a)):dY (uX ow g fS e (l.map f) a) K:=by
 refine gU _ _ (λi acc τ'=>acc=((l.take i).map p).map D.bl/\τ'=a) ⟨rfl,rfl⟩ ?_ ?_;rintro i d acc τ' hd ⟨rfl,rfl⟩;obtain⟨y,m,rfl⟩:=kD hd;refine bQ (hs y (AV m)) λb h=>?_;rw[nT,fI rfl];refine bQ h λr n=>⟨_,n.1,?_,n.2⟩;rw[← Fo m,Bp,Bp];rfl
 simp_all
def Qt{a:Type}(p:a->Bool)(l:List a):(l.map p).all id=l.all p:=by simp
abbrev qP(q:Str×List Str):D:=.tup [.str q.1,.tup (q.2.map D.str)]
abbrev qD(qs:List (Str×List Str)):D:=.tup (qs.map qP)
noncomputable def aN(qs:List (Str×List Str)):List Str:=qs.foldl (λacc q=>acc++q.2.filter λc=>!acc.contains c) []
def qA(qs:List (Str×List Str))(q:Str×List Str):aN (qs++[q])=aN qs++q.2.filter λc=>!(aN qs).contains c:=by
 unfold aN;rw[foldl_append];rfl
def Qn(qs:List (Str×List Str)):Prop:=qs.length<=100/\∀q∈qs,Tx q.1/\q.2.length<=100/\∀z∈q.2,Tx z
def oJ(h:z∈aN qs):∃ q∈qs,z∈q.2:=by
 have a:∀ (l:List (Str×List Str)) (acc:List Str),z∈l.foldl (λacc q=>acc++q.2.filter λc=>!acc.contains c) acc->z∈acc\/∃ q∈l,z∈q.2:=by
  intro l
  induction l with
  |nil=>intro acc h;exact .inl h
  | cons q r b=>
    intro acc h;rcases b _ h with h|⟨d,e,f⟩;rcases Au.mp h with h|h;exact .inl h;exact .inr ⟨q,sT,(List.mem_filter.mp h).1⟩;exact .inr ⟨d,Ah _ e,f⟩
 rcases a qs [] h with h|h;cases h;exact h
def vV(h:∀ q∈qs,q.2.length<=n):(aN qs).length<=qs.length*n:=by
 have a:∀ (l:List (Str×List Str)) (acc:List Str),(∀ q∈l,q.2.length<=n)->(l.foldl (λacc q=>acc++q.2.filter λc=>!acc.contains c) acc).length<=acc.length+l.length*n:=by
  intro l
  induction l with
  |nil=>intro acc _;simp
  | cons q r b=>
    intro acc h;have d:=b (acc++q.2.filter λc=>!acc.contains c) λx e=>h x (Ah _ e);have f:=h q sT;have g:=length_filter_le (λc=>!acc.contains c) q.2;rw[AO]at d;rw[foldl_cons,Ek,Nat.succ_mul];lia
 have:=a qs [] h;rw[HI,Bq]at this;exact this
def lX{a:Type}{l:List a}{y:a}(h:l[i]?=some y):l.take (i+1)=l.take i++[y]:=(Fo h).symm
def oK(l:Qn qs)(k:∀ a b e f,Q (.nx [some ⟨.val,qD qs⟩,some ⟨.own,.lst ((aN qs).map D.str)⟩,ov a e,ov b f,none])) :
  dY (Ip (cT 2 (aL (hC 2) (aL (hC 3) dJ))) (gK (qT "list" 1 Fb (aB (bY [4] (Az (aC 3)) (hC 4) (dE (aK (Be true) (aC 4) (aC 1))) (iB (aC 4))) aH))) (qs.map qP) [some ⟨.val,qD qs⟩,some ⟨.own,.lst []⟩,none,none,none]) Q:=by
 have sl:20000<=sizeLine:=by decide
 have r:∀i,∀z∈aN (qs.take i),As z:=λi z s=>by
  obtain⟨q,m,o⟩:=oJ s;exact((l.2 q (CW m)).2.2 z o).2
 have t:∀i,(aN (qs.take i)).length<=10000:=λi=>by
  have m:=vV (qs:=qs.take i) (n:=100) λq h=>(l.2 q (CW h)).2.1;have o:=l.1
  grind
 refine eK (λi p=>∃a b e f,p=[_,some ⟨.own,.lst ((aN (qs.take i)).map D.str)⟩,ov a e,ov b f,none]) ⟨false,false,.non,.non,rfl⟩ ?_ ?_
 ·rintro i d p hd ⟨a,b,e,f,rfl⟩;obtain⟨q,g,rfl⟩:=kD hd;have j:=l.2 q (AV g);walk_at "dx";refine⟨oT (by rw[hB];exact j.2.1) (by decide),dH (λc=>!(aN (qs.take i)).contains c) D.str D.str q.2 [_,_,_,_,none] rfl (λc hc=>?_) ?_⟩;walk_at "dx";refine JL (j.2.2 c hc).2 (r i) ?_;rfl;walk_at "dx";refine⟨by
   rw[hB,hB];have m:=t i;have o:=length_filter_le (λc=>!(aN (qs.take i)).contains c) q.2
   lia,_,.inl rfl,true,true,.str q.1,.tup (q.2.map D.str),?_⟩
  rw[lX g,qA,Bp];rfl
 ·rintro p ⟨a,b,e,f,rfl⟩;rw[hB,take_length];exact k a b e f
def kH(a:Qn qs)(k:K (.own (.lst ((aN qs).map D.str))) [⟨.val,qD qs⟩]):CK bI [⟨.val,qD qs⟩] K:=by
 unfold bI;rw[bF];show RS cV [_,none,none,none,none] _;unfold cV;walk_at"dx";refine⟨sY _,oK a λb c d e=>?_⟩;exact k
def J5(a:Qn qs)(k:K (.val (.tup ((aN qs).map D.str))) [⟨.val,qD qs⟩]):CK cY [⟨.val,qD qs⟩] K:=by
 unfold cY;rw[bF];show RS eA [_,none,none,none,none] _;unfold eA;walk_at"dx";refine⟨sY _,oK a λb c d e=>?_⟩;exact k
def Lr(l:List D)(h:0<=n):DF l none (some n)=l.take n.toNat:=by
 obtain⟨k,rfl⟩:=Int.eq_ofNat_of_zero_le h;unfold DF;rw[PySem.sIx_none,PySem.sIx_nat,drop_zero,Nat.sub_zero,toNat_natCast];simp
def J6(hm:m=.par/\t=.lst xs\/m=.val/\t=.lst xs\/m=.val/\t=.tup xs)(e:xs.length<=1000)(h0:0<=n)
  (k:∀(ys:List D) c d,ys.Perm xs->K (.val (.tup (ys.take n.toNat))) [⟨.par,.lst [.int c,.int d]⟩,⟨m,t⟩,⟨.val,.int n⟩]):CK aU [⟨.par,.lst [.int a,.int b]⟩,⟨m,t⟩,⟨.val,.int n⟩] K:=by
 unfold aU;rw[bF];show RS bH [_,_,_] _;unfold bH;rcases hm with⟨rfl,rfl⟩|⟨rfl,rfl⟩|⟨rfl,rfl⟩
 all_goals
  walk_at"dx";refine sR (by simp) e λys c d f=>?_;walk_at"dx";rw[Lr _ h0];exact k ys c d f
def J7{d:Type}{f:d->D}{zs:List d}(h:ys.Perm (zs.map f)):∃ l:List d,ys=l.map f/\l.Perm zs:=by
 generalize c:zs.map f=ws at h
 induction h generalizing zs with
 |nil=>simp_all
 | cons x h i=>
   cases zs with
   |nil=>cases c
   | cons a r=>
     cases c;obtain⟨l,rfl,p⟩:=i rfl;exact⟨a::l,rfl,p.cons a⟩
 | swap x y l=>
   match zs,c with
   |a::b::r,c=>cases c;exact⟨b::a::r,rfl,.swap ..⟩
 | trans j k i1 i2=>
   obtain⟨l2,rfl,e⟩:=i2 c;obtain⟨l1,rfl,g⟩:=i1 rfl;exact⟨l1,rfl,g.trans e⟩
def oM(h:ys.Perm (zs.map D.str)):∃l:List Str,ys=l.map D.str/\l.Perm zs:=J7 h
def Qu(zs:List Str)(ts:List (List Str)):Prop:=1<=ts.length/\ts.length<=6/\∀l∈ts,(1<=l.length/\l.length<=10)/\l.Nodup/\∀z∈l,z∈zs
abbrev Ls(ts:List (List Str)):D:=.lst (ts.map λl=>.tup (l.map D.str))
def Cs(zs l:List Str):Prop:=(1<=l.length/\l.length<=10)/\l.Nodup/\∀z∈l,z∈zs
abbrev tT(l:List Str):D:=.tup (l.map D.str)
def J8(ts:List (List Str))(l:List Str):Ls (ts++[l])=.lst ((ts.map λl=>.tup (l.map D.str))++[.tup (l.map D.str)]):=by simp
def Qv{ts:List (List Str)}(h0:0<=i)(h1:i<(ts.length:Int)):∃l,atI (ts.map λl=>D.tup (l.map D.str)) i=some (tT l)/\l∈ts:=J4 _ h0 h1
def Rn(ts:List (List Str))(own:List Str):Prop:=ts=[]\/∃l∈ts,∀c∈own,(∃m∈ts,c∈m)->c∈l
def Er(ts:List (List Str)):Prop:=∀(i:Nat) x,ts[i]?=some x->Rn (ts.take i) x
def J9(h:Er ts)(r:Rn ts own)(p:l.Perm own):Er (ts++[l]):=λi x e=>by
 have hi:=(sS.mp e).1;rw[AO,length_singleton]at hi;by_cases c:i<ts.length;rw[BM c]at e;rw[List.take_append_of_le_length (by simp_all +arith)];exact h i x e;obtain rfl:i=ts.length:=by lia
 rw[List.getElem?_concat_length]at e;cases e;rw[take_left];rcases r with r|⟨m,hm,k⟩;exact .inl r;exact .inr ⟨m,hm,λc hc=>k c (p.mem_iff.mp hc)⟩
structure Ea(zs lf:List Str)(ts:List (List Str)):Prop where
 nd:lf.Nodup
 sub:∀z∈lf,z∈zs
 cs:∀l∈ts,Cs zs l
 apart:∀l∈ts,∀c∈l,c∉lf
 er:Er ts
structure Ow(zs lf:List Str)(ts:List (List Str))(own:List Str):Prop where
 rn:Rn ts own
 nd:own.Nodup
 sub:∀z∈own,z∈zs
 apart:∀c∈own,c∉lf
def Ea.less(h:Ea zs lf ts)(nd:a.Nodup)(s:∀z∈a,z∈lf):Ea zs a ts:=⟨nd,λz b=>h.sub z (s z b),h.cs,λl d c hc z=>h.apart l d c hc (s c z),h.er⟩
def K0:dY (Il (.lst ((l++[z]).map D.str)) []) K=K (.lst (l.map D.str),.str z):=by
 show dY ((((l++[z]).map D.str)[((l++[z]).map D.str).length-1]?).map _) K=_;simp[dY,List.dropLast_append]
def Lu:DS:=(mR (wD (aB (aF 2 aD (aB (aC 0) (aB (aK GY (dC (.int 5)) (hR lL (aB (aC 5) aH))) aH))) aH)) (hC 7)
 (jL (dE (aK CL (hR lL (aB (aC 2) aH)) (dC (.int 0)))) (gK (fD "list" 5 Cy (aB (iB (wZ "list" 2 Il)) aH))) eJ))
def Lv:DS:=(jL (dE (aK (Av false) (hR lL (aB (aC 5) aH)) (dC (.int 0)))) (bD 5 (GQ (dE (aK (Av false) (aC 4) (dC (.int 0)))) (iR (aB (aK sL (aC 1) (dC (.int 0))) aH)) (iR (aB (aK sL (aK sL (aC 3) (dC (.int 0))) (dC (.int 0))) aH)))) eJ)
def Lw:DS:=(aS (jL (FO (dE (aK (Be false) (aK sL (aC 1) (dC (.int 0))) (aC 5))) (dE (aK (Be false) (aK sL (aC 1) (dC (.int 0))) (aC 2)))) (gK (fD "list" 2 Io (aB (aK sL (aC 1) (dC (.int 0))) aH))) eJ)
 (gK (fD "list" 3 Cy (aB (hR pN (aB (aF 2 bC (aB (aC 0) (aB (aC 5) aH))) aH)) aH))))
abbrev eS(a b:Int)(zs lf:List Str)(ts:List (List Str))(c d e s7:Option Sl):Sg:=[some ⟨.par,.lst [.int a,.int b]⟩,some ⟨.val,.lst (zs.map D.str)⟩,some ⟨.own,.lst (lf.map D.str)⟩,some ⟨.own,Ls ts⟩,c,d,e,s7]
def K1{Q:Sg->Prop}(p:Ea zs lf ts)(n:Ow zs lf ts own)(C:own.length<=4)
  (k:∀G H f own' g j,Ea zs f ts->Ow zs f ts own'->own'.length<=10->Q (eS G H zs f ts u (some ⟨.own,.lst (own'.map D.str)⟩) v (ov g j))):RS Lu (eS a b zs lf ts u (some ⟨.own,.lst (own.map D.str)⟩) v (ov A B)) λo=>∃t,o=.nx t/\Q t:=by
 unfold Lu eS;walk_at"dx";refine bK (by rw[hB];lia) (by lia) λJ a1 E K I=>?_;walk_at"dx";rw[hB]at I;refine⟨⟨by lia,by lia⟩,eK (λi t=>∃f own' g j,t=eS a1 E zs f ts u (some ⟨.own,.lst (own'.map D.str)⟩) v (ov g j)/\Ea zs f ts/\Ow zs f ts own'/\own'.length<=own.length+i) ⟨lf,own,A,B,rfl,p,n,hF _⟩ ?_ ?_⟩
 ·rintro i d t hd ⟨f,own',g,j,rfl,p,n,q⟩;obtain⟨hi,rfl⟩:=iI hd;unfold eS;walk_at "dx";rcases eq_nil_or_concat f with rfl | ⟨F,z,rfl⟩
  ·rw[gX (by simp)]
   try walk_at"dx"
   exact⟨_,.inl rfl,[],own',true,_,rfl,p,n,le_succ_of_le q⟩
  ·rw[concat_eq_append,fI (by simp)]
   try walk_at"dx"
   rw[K0];walk_at"dx";rw[concat_eq_append]at p n;have nd:=List.nodup_append.mp p.nd;have w:z∉F:=λh=>nd.2.2 z h z (by simp) rfl;refine⟨DU (by rw[hB];lia:_<=20) (by decide),_,.inl rfl,F,own'++[z],true,.int (0+(i:Int)),by simp[ov],p.less nd.1 (λz w=>by simp[w]),⟨?_,?_,?_,?_⟩,by simp;exact lt_succ_of_le q⟩
   ·rcases n.rn with r | ⟨l,C,k⟩;exact .inl r;exact .inr ⟨l,C,λc hc Z1=>by
     obtain⟨m,hm,s⟩:=Z1;rcases Au.mp hc with h|h;exact k c h ⟨m,hm,s⟩;rw[Aq.mp h]at s;exact absurd (by simp) (p.apart m hm z s)⟩
   ·exact List.nodup_append.mpr ⟨n.nd,by simp,λa ha b hb e=>n.apart a ha (by rw[mem_singleton]at hb;subst hb;rw[e];simp)⟩
   ·intro y x;rcases Au.mp x with h|h;exact n.sub y h;exact p.sub y (by simp[List.mem_singleton.mp h])
   ·intro y x h;rcases Au.mp x with h' | h';exact n.apart y h' (by simp[h]);rw[Aq.mp h']at h;exact w h
 ·rintro t ⟨f,own',g,j,rfl,p,n,q⟩;rw[cN]at q;exact⟨_,rfl,k a1 E f own' g j p n (by lia)⟩
def K2(o:∀ z∈d::j,As z)(g:Ea (d::j) lf ts)(y:own.Nodup)(os:∀ z∈own,z∈d::j)(p:∀ c∈own,c≠d->c∉lf)(rn:Rn ts own)(m:1<=own.length/\own.length<=10)(A:ts.length<=6)
  (k:∀t u f l,Ea (d::j) f (ts++[l])->Q (.nx (eS t u (d::j) f (ts++[l]) r (some ⟨.own,.lst (own.map D.str)⟩) s s7))):RS Lw (eS a b (d::j) lf ts r (some ⟨.own,.lst (own.map D.str)⟩) s s7) Q:=by
 unfold Lw;refine mO (λx=>∃f,x=eS a b (d::j) f ts r (some ⟨.own,.lst (own.map D.str)⟩) s s7/\Ea (d::j) f ts/\∀c∈own,c∉f) ?_ ?_
 ·have skip:d∉own\/d∉lf->∀ c∈own,c∉lf:=λh c hc m=>by
   by_cases e:c=d;subst e;rcases h with h|h;exact h hc;exact h m;exact p c hc e m
  unfold eS;rw[Bm];walk_at"dx";refine JL (o d (by simp)) (λz i=>o z (os z i)) ?_;walk_at"dx";by_cases v:own.contains d=true
  ·rw[v];walk_at "dx";refine JL (o d (by simp)) (λz i=>o z (g.sub z i)) ?_;walk_at "dx";by_cases q:lf.contains d=true
   ·rw[q];walk_at"dx";rw[Zx];have i:d∈lf:=by simpa using q
    refine⟨⟨i,g.nd⟩,_,rfl,lf.erase d,rfl,g.less (g.nd.erase d) (λz i=>List.mem_of_mem_erase i),λc hc m=>?_⟩;by_cases e:c=d;subst e;exact(List.Nodup.mem_erase_iff g.nd).mp m |>.1 rfl;exact p c hc e (List.mem_of_mem_erase m)
   ·rw[show lf.contains d=false by simpa using q];walk_at"dx";exact⟨_,rfl,lf,rfl,g,skip (.inr (by simpa using q))⟩
  ·rw[show own.contains d=false by simpa using v];walk_at"dx";exact⟨_,rfl,lf,rfl,g,skip (.inl (by simpa using v))⟩
 ·rintro x ⟨f,rfl,g,p⟩;unfold eS;walk_at"dx";refine sR (by first|exact .inl ⟨rfl,rfl⟩|exact .inr (.inl ⟨rfl,rfl⟩)) (by rw[hB];lia) λys t u B=>?_;walk_at"dx";obtain⟨l,rfl,n⟩:=oM B;have:=n.length_eq;refine⟨DU (by rw[hB];exact A:_<=6) (by decide),?_⟩;rw[← J8];refine k t u f l ⟨g.nd,g.sub,λw h'=>?_,λw h'=>?_,J9 g.er rn n⟩
  ·rcases Au.mp h' with h|h;exact g.cs w h;rw[Aq.mp h];exact⟨by simp[*],n.nodup_iff.mpr y,λz i=>os z (n.mem_iff.mp i)⟩
  ·rcases Au.mp h' with h|h;exact g.apart w h;rw[Aq.mp h];exact λc hc=>p c (n.mem_iff.mp hc)
def JM(P:Sg->Prop)(h1:RS a Z λo=>∃b,o=.nx b/\P b)(c:∀b,P b->K (.nx b)):RS a Z K:=bQ h1 λo Z1=>by obtain⟨b,e,h⟩:=Z1;simp_all
def K3{i:Nat}{Q:Sg->Prop}(hi:ts.length=i)(m:Ea (d::f) lf ts)(g:Ow (d::f) lf ts own)(p:own.length<=10)
  (k:∀(own':List Str),Rn ts own'->own'.Nodup->(∀z∈own',z∈d::f)->(∀c∈own',c≠d->c∉lf)->(1<=own'.length/\own'.length<=10)->Q (eS a b (d::f) lf ts (some ⟨.val,.int (0+(i:Int))⟩) (some ⟨.own,.lst (own'.map D.str)⟩) j s7)):RS Lv (eS a b (d::f) lf ts (some ⟨.val,.int (0+(i:Int))⟩) (some ⟨.own,.lst (own.map D.str)⟩) j s7) λo=>∃n,o=.nx n/\Q n:=by
 unfold Lv eS;walk_at"dx";rw[hB];by_cases h:own=[]
 ·subst h;rw[fI (by simp)]
  try walk_at"dx"
  by_cases h0:i=0
  ·subst h0;rw[fI (by simp),Bm]
   try walk_at"dx"
   refine⟨by decide,?_⟩
   try walk_at"dx"
   exact⟨_,rfl,k [d] (.inl (List.length_eq_zero_iff.mp hi)) (by simp) (by simp) (λc hc e=>absurd (Aq.mp hc) e) (by simp)⟩
  ·rw[gX (by simp[*])]
   try walk_at"dx"
   obtain⟨l,q,hm⟩:=Qv (ts:=ts) (i:=0) (by decide) (by lia);rw[q,aW];walk_at"dx";obtain⟨⟨l1,_⟩,l2,s⟩:=m.cs l hm;cases l with
   |nil=>simp at l1
   | cons c r=>
     rw[Bm];walk_at"dx";refine⟨by decide,?_⟩
     try walk_at"dx"
     exact⟨_,rfl,k [c] (.inr ⟨_,hm,λt hc _=>by rw[Aq.mp hc];simp⟩) (by simp) (by simpa using s c (by simp)) (λt hc _=>by rw[List.mem_singleton.mp hc];exact m.apart _ hm c (by simp)) (by simp)⟩
 ·rw[gX (by have:=List.length_pos_iff.mpr h;lia)]
  try walk_at"dx"
  exact⟨_,rfl,k own g.rn g.nd g.sub (λc hc _=>g.apart c hc) ⟨List.length_pos_iff.mpr h,p⟩⟩
def Lx:DS:=(jL (dE (aK CL (aC 4) (dC (.int 0)))) (aS (bD 6 (aK sL (aC 3) (aF 2 aD (aB (aC 0) (aB (aC 4) aH)))))
 (bD 5 (hR oS (aB (aF 3 aU (aB (aC 0) (aB (aC 6) (aB (aF 2 aD (aB (aC 0) (aB (aK jT (hR oR (aB (dC (.int 3)) (aB (hR lL (aB (aC 6) aH)) aH))) (dC (.int 1))) aH))) aH)))) aH)))) eJ)
def K4{i:Nat}{Q:Sg->Prop}(hi:ts.length=i)(E:i<=6)(m:Ea zs lf ts)
  (k:∀p q own e f,Ow zs lf ts own->own.length<=4->Q (eS p q zs lf ts (some ⟨.val,.int (0+(i:Int))⟩) (some ⟨.own,.lst (own.map D.str)⟩) (ov e f) s7)):RS Lx (eS a b zs lf ts (some ⟨.val,.int (0+(i:Int))⟩) (some ⟨.own,.lst []⟩) (ov g j) s7) λo=>∃n,o=.nx n/\Q n:=by
 unfold Lx eS;walk_at"dx";by_cases h0:i=0;rw[gX (by simp[*])];exact⟨_,rfl,k a b [] g j ⟨.inl (List.length_eq_zero_iff.mp (hi.trans h0)),.nil,(λz h=>nomatch h),(λz h=>nomatch h)⟩ (by simp)⟩;rw[fI (by lia)];refine bK (by lia) (by lia) λr a1 F s G=>?_;walk_at"dx";obtain⟨l,t,hm⟩:=Qv (ts:=ts) (i:=r) s (by simp_all);rw[t,aW];walk_at"dx";obtain⟨⟨l1,u⟩,l2,v⟩:=m.cs l hm;refine bK (by lia) (by lia) λw a2 H x I=>?_;walk_at"dx";refine J6 (.inr (.inr ⟨rfl,rfl⟩)) (by grind) x λys a3 y A=>?_;obtain⟨B,rfl,d⟩:=oM A;rw[← map_take];exact⟨_,rfl,k a3 y (B.take w.toNat) true _ ⟨.inr ⟨l,hm,λc hc _=>d.mem_iff.mp (CW hc)⟩,(d.nodup_iff.mpr l2).sublist (take_sublist _ _),λz C=>v z (d.mem_iff.mp (CW C)),λc hc=>m.apart l hm c (d.mem_iff.mp (CW hc))⟩ (by grind)⟩
def K5(S:zs.length=6)(nd:zs.Nodup)(T:∀ z∈zs,As z)(k:∀ ts u v,Qu zs ts->Er ts->K (.own (Ls ts)) [⟨.par,.lst [.int u,.int v]⟩,⟨.val,.lst (zs.map D.str)⟩]) :
  CK aY [⟨.par,.lst [.int a,.int b]⟩,⟨.val,.lst (zs.map D.str)⟩] K:=by
 unfold aY;rw[bF];show RS bR [_,_,none,none,none,none,none,none] _;rw[show bR=(aS (bD 2 (hR oS (aB (Cw (aC 1) CM (dP (dC (.int 6)))) aH))) (aS (bD 3 (iR aH)) (aS (mR (wD (aB (aK jT (dC (.int 1)) (aF 2 aD (aB (aC 0) (aB (dC (.int 6)) aH)))) aH)) (hC 4) (aS (bD 5 (iR aH)) (aS Lx (aS Lu (aS Lv Lw))))) (gO (aC 3)))))from rfl];obtain⟨j,o,rfl⟩:∃j o,zs=j::o:=by cases zs with|nil=>cases S|cons z r=>exact⟨z,r,rfl⟩
 walk_at"dx";rw[Lr _ (by decide),CC (by rw[hB,S];decide)];refine⟨sY _,bK (by decide) (by decide) λX a1 U Y σ=>?_⟩;walk_at"dx";refine⟨⟨by lia,by lia⟩,eK (λi τ=>∃u v lf ts E F G H I w y,τ=eS u v (j::o) lf ts (ov E F) (fo G) (ov H I) (ov w y)/\ts.length=i/\Ea (j::o) lf ts) ⟨a1,U,j::o,[],false,.non,none,false,.non,false,.non,rfl,rfl,nd,λz h=>h,(λl h=>nomatch h),(λl h=>nomatch h),(λi x h=>nomatch h)⟩ ?_ ?_⟩
 ·rintro i d τ hd ⟨u,v,lf,ts,E,F,G,H,I,w,y,rfl,hi,A⟩;obtain⟨V,rfl⟩:=iI hd;unfold eS;walk_at "dx";refine⟨sY _,?_⟩;refine JM (λτ=>∃ a2 C own f g,Ow (j::o) lf ts own/\own.length<=4/\τ=eS a2 C (j::o) lf ts (some ⟨.val,.int (0+(i:Int))⟩) (some ⟨.own,.lst (own.map D.str)⟩) (ov f g) (ov w y))
   (K4 (s7:=ov w y) hi (by lia) A λa2 C own f g J L=>⟨a2,C,own,f,g,J,L,rfl⟩) ?_
  rintro τ ⟨a2,C,own,f,g,J,L,rfl⟩;rw[gQ,pO];refine JM (λτ=>∃a3 B e own' m n,Ea (j::o) e ts/\Ow (j::o) e ts own'/\own'.length<=10/\τ=eS a3 B (j::o) e ts (some ⟨.val,.int (0+(i:Int))⟩) (some ⟨.own,.lst (own'.map D.str)⟩) (ov f g) (ov m n))
   (K1 A J L λa3 B e own' m n p q s=>⟨a3,B,e,own',m,n,p,q,s,rfl⟩) ?_
  rintro τ ⟨a3,B,e,own',m,n,p,q,s,rfl⟩;rw[gQ,pO];refine JM (λτ=>∃(own2:List Str),Rn ts own2/\own2.Nodup/\(∀z∈own2,z∈j::o)/\(∀c∈own2,c≠j->c∉e)/\(1<=own2.length/\own2.length<=10)/\τ=eS a3 B (j::o) e ts (some ⟨.val,.int (0+(i:Int))⟩) (some ⟨.own,.lst (own2.map D.str)⟩) (ov f g) (ov m n))
   (K3 hi p q s λown2 M N π P Q=>⟨own2,M,N,π,P,Q,rfl⟩) ?_
  rintro τ ⟨own2,M,N,π,P,Q,rfl⟩;rw[gQ];refine K2 T p N π P M Q (by grind) λa4 W t l R=>?_;refine⟨_,.inl rfl,a4,W,t,ts++[l],true,.int (0+(i:Int)),some (true,.lst (own2.map D.str)),f,g,m,n,rfl,by simp[hi],R⟩
 ·rintro τ ⟨u,v,lf,ts,E,F,G,H,I,w,y,rfl,hi,A⟩;rw[cN]at hi;unfold eS;walk_at"dx";exact k ts u v ⟨by lia,by (simp_all;omega),A.cs⟩ A.er
structure Qc(qs:List (Str×List Str)):Prop where
 l1:1<=qs.length
 l6:qs.length<=6
 qn:Qn qs
 cd:∀q∈qs,q.2.Nodup
 ne:∀q∈qs,q.2≠[]
 cs:∃cs:List Str,cs.length=6/\∀q∈qs,∀z∈q.2,z∈cs
 nn:(qs.map Prod.fst).Nodup
 er:Er (qs.map Prod.snd)
theorem Qw{a b:Type}:∀{l:List a} {m:List b},((l.zip m).map Prod.fst).Sublist l
 |[],_|_::_,[]=>by simp
 |x::l,y::m=>by exact Qw.cons_cons x
def K6(ns:List Str)(ts:List (List Str)):D.tup (Hg (ns.map D.str) (ts.map λl=>.tup (l.map D.str)))=qD (ns.zip ts):=by
 unfold Hg;rw[List.zip_map,map_map];rfl
def K7{zs ns:List Str}(c:zs.length=6)(f:∀ z∈zs,Tx z)(d:ns.length=6)(nt:∀ z∈ns,Tx z)(nn:ns.Nodup)(h:Qu zs ts)(er:Er ts):Qc (ns.zip ts):=by
 have b:(ns.zip ts).length=ts.length:=by rw[length_zip,d];have:=h.2.1;simp[*]
 have hm:∀q∈ns.zip ts,q.1∈ns/\q.2∈ts:=λq a=>of_mem_zip a;refine⟨by rw[b];exact h.1,by rw[b];exact h.2.1,⟨by grind,λq a=>?_⟩,λq a=>(h.2.2 _ (hm q a).2).2.1,λq a e=>?_,⟨zs,c,λq a=>(h.2.2 _ (hm q a).2).2.2⟩,nn.sublist Qw,by rw[map_snd_zip (by have:=h.2.1;simp[*])];exact er⟩
 ·obtain⟨⟨l1,l2⟩,g,i⟩:=h.2.2 _ (hm q a).2
  grind
 ·have:=(h.2.2 _ (hm q a).2).1.1
  simp_all
def Qx:DS:=(jL (dE (aK (Av false) (aF 2 aD (aB (aC 0) (aB (dC (.int 4)) aH))) (dC (.int 0)))) (bD 3 (iB (aF 2 bC (aB (aC 0) (aB (aC 2) aH))))) eJ)
def Qy:DS:=(aS (bD 4 (iB (aC 1)))
 (aS (jL (dE (aK (Av false) (aC 1) (dC (.int 3)))) (bD 4 (aF 2 aD (aB (aC 0) (aB (dC (.int 3)) aH)))) eJ)
 (aS (jL (dE (aK (Av false) (aC 4) (dC (.int 0)))) vR (jL (dE (aK (Av false) (aC 4) (dC (.int 1)))) (bD 5 (aF 2 aY (aB (aC 0) (aB (aC 2) aH)))) vR))
 (gO (hR Hi (aB (aC 3) (aB (aC 5) aH)))))))
def yV(k:∀qs c d,Qc qs->K (.val (qD qs)) [⟨.par,.lst [.int c,.int d]⟩,⟨.val,.int 1⟩]):CK cA [⟨.par,.lst [.int a,.int b]⟩,⟨.val,.int 1⟩] K:=by
 unfold cA;rw[bF];show RS cI [_,_,none,none,none,none] _;rw[show cI=aS (GR 2 3 (aB (iB (aF 2 bM (aB (aC 0) (aB (dC (.int 6)) aH)))) (aB (iB (aF 2 bM (aB (aC 0) (aB (dC (.int 6)) aH)))) aH))) (aS Qx Qy)from rfl];walk_at"dx";refine Qp λzs a1 q e m f=>?_;walk_at"dx";refine Qp λns a2 r g nn nt=>?_;walk_at"dx";refine⟨⟨rfl,rfl,by decide⟩,?_⟩;refine JM (λτ=>∃(a b:Int) (ns:List Str),ns.length=6/\ns.Nodup/\(∀z∈ns,Tx z)/\τ=[some ⟨.par,.lst [.int a,.int b]⟩,some ⟨.val,.int 1⟩,some ⟨.val,.lst (zs.map D.str)⟩,some ⟨.val,.lst (ns.map D.str)⟩,none,none]) ?_ ?_;unfold Qx;walk_at"dx";refine bK (by decide) (by decide) λv a3 n s t=>?_;walk_at"dx";split;refine sR (.inr (.inl ⟨rfl,rfl⟩)) (by rw[hB];simp[*]) λys a4 o p=>?_;obtain⟨l,rfl,i⟩:=oM p;walk_at"dx";exact⟨_,rfl,a4,o,l,by rw[i.length_eq];exact e,i.nodup_iff.mpr m,λz j=>f z (i.mem_iff.mp j),rfl⟩;exact⟨_,rfl,a3,n,ns,g,nn,nt,rfl⟩;rintro τ ⟨c,d,ns,g,nn,nt,rfl⟩;rw[gQ];unfold Qy;walk_at"dx";rw[gX (by decide),gX (by decide)];refine K5 e m (λz j=>(f z j).2) λts c d h er=>?_;walk_at"dx";rw[K6];exact k _ _ _ (K7 e f g nt nn h er)
def Ly{l:List a}(h:j < l.length):atI l (j:Int)=l[j]?:=by
 unfold atI;have e:AH l.length (j:Int)=some j:=by
  unfold AH
  simp_all
 simp_all
def K8(h0:0<=e)(h1:e<12):∃v:Int,atI [D.int 0,D.int 1,D.int 2,D.int 10,D.int 11,D.int 12,D.int 21,D.int 101,D.int 111,D.int 112,D.int 121,D.int 211] e=some (.int v)/\0<=v/\v<1000:=by
 obtain⟨c,hc⟩:=zM (ys:=[(0:Int),1,2,10,11,12,21,101,111,112,121,211]) h0 h1;exact⟨c,by have:=wR (f:=D.int) (ys:=[(0:Int),1,2,10,11,12,21,101,111,112,121,211]) (i:=e);rw[hc]at this;exact this,(by decide:∀c∈[(0:Int),1,2,10,11,12,21,101,111,112,121,211],0<=c/\c<1000) c (yT hc)⟩
def K9(h:0<m)(l:m<=1000)(k:∀v g i,0<=v/\v<1000->K (.val (.int v)) [⟨.par,.lst [.int g,.int i]⟩,⟨.val,.int m⟩]):CK bV [⟨.par,.lst [.int a,.int b]⟩,⟨.val,.int m⟩] K:=by
 unfold bV;rw[bF];show RS eX [_,_,none] _;unfold eX;walk_at"dx";refine bK h (by lia) λd a1 c f n=>?_;walk_at"dx";split;obtain⟨v,j,hb⟩:=K8 (e:=d) f (by simp_all);refine⟨by decide,?_⟩;rw[j];exact k v a1 c hb;exact k d a1 c ⟨f,by lia⟩
def L1(h0:0<=e)(h1:e<5):∃m:Int,atI [D.int 2,D.int 3,D.int 5,D.int 12,D.int 1000] e=some (.int m)/\0<m/\m<=1000:=by
 have:e=0\/e=1\/e=2\/e=3\/e=4:=by lia
 rcases this with rfl|rfl|rfl|rfl|rfl<;>exact⟨_,rfl,by decide,by decide⟩
def L3{b:Int}{n:Nat}(a:b=1000)(h0:1<=n)(h1:n<=6):∃(l:List D) (m:Int),atI [D.lst [D.int 40,D.int 40,D.int 14,D.int 7,D.int 4,D.int 3],D.lst [D.int 40,D.int 17,D.int 6,D.int 4,D.int 3,D.int 2]] (if b<2000 then 1 else 0)=some (.lst l)/\atI l ((n:Int)-1)=some (.int m)/\0<=m/\m<=40:=by
 have:n=1\/n=2\/n=3\/n=4\/n=5\/n=6:=by lia
 subst a;rcases this with rfl|rfl|rfl|rfl|rfl|rfl<;>exact⟨_,_,rfl,rfl,by decide,by decide⟩
def vW(b:q∈qs)(hz:z∈q.2):z∈aN qs:=by
 have a:∀ (l:List (Str×List Str)) (acc:List Str),(z∈acc\/∃ q∈l,z∈q.2)->z∈l.foldl (λacc q=>acc++q.2.filter λc=>!acc.contains c) acc:=by
  intro l
  induction l with
  | nil=>
    simp
  | cons p r d=>
    grind
 exact a qs [] (.inr ⟨q,b,hz⟩)
def yW(h:∀k∈ks,k.length=n)(g:2<=(Aa ks).length):∀k∈ks,k≠[]:=by
 rintro k i rfl;have d:n=0:=(h [] i).symm;have f:=gM ks
 match e:Aa ks,g with
 | a::b::r,_=>
   rw[e]at f;have c:=(Eh.mp f).1 b sT;have ha:=h a ((fF ks a).mp (by simp_all));have hb:=h b ((fF ks b).mp (by rw[e];simp));rw[DM (ha.trans d),DM (hb.trans d)]at c;cases c
noncomputable abbrev lI(vs:List Int):D:=.lst (vs.map D.int)
abbrev Vb(vs:List Int):Prop:=∀v∈vs,0<=v/\v<1000
def drawn{y:Type}{f:y->D}{l:List y}(z:0 < m)(A:m<=1000)(k:∀ (vs:List Int) p q,vs.length=l.length->Vb vs->K (vs.map D.int,[some ⟨.par,.lst [.int p,.int q]⟩,s1,s2,r,some ⟨.val,.int m⟩,s,t,s7,u,w,c,e,g,j,n,none,o])) :
  dY (uX [15] (hC 15) fS (iB (aF 2 bV (aB (aC 0) (aB (aC 4) aH)))) (l.map f) [some ⟨.par,.lst [.int a,.int b]⟩,s1,s2,r,some ⟨.val,.int m⟩,s,t,s7,u,w,c,e,g,j,n,none,o]) K:=by
 refine gU _ _ (λi acc τ=>∃(vs:List Int) (p q:Int),acc=vs.map D.int/\vs.length=i/\Vb vs/\τ=[some ⟨.par,.lst [.int p,.int q]⟩,s1,s2,r,some ⟨.val,.int m⟩,s,t,s7,u,w,c,e,g,j,n,none,o]) ⟨[],a,b,rfl,rfl,(λ_ h=>nomatch h),rfl⟩ ?_ ?_;rintro i d acc τ hd ⟨vs,p,q,rfl,B,hb,rfl⟩;walk_at"dx";refine K9 z A λv a2 C E=>?_;walk_at"dx";exact⟨_,rfl,vs++[v],a2,C,by simp,by simp_all,λx F=>(Au.mp F).elim (hb x) λh=>Aq.mp h▸E,rfl⟩;rintro acc τ ⟨vs,p,q,rfl,B,hb,rfl⟩;exact k vs p q (by simp_all) hb
def L4(a:0<=L/\L<=40)(h0:0<=e)(h1:e<2):∃c:Int,atI [D.int (L+1),D.int ((if 5<L then 5 else L)+1)] e=some (.int c)/\0<c/\c<=41:=by
 have:e=0\/e=1:=by lia
 rcases this with rfl|rfl;exact⟨_,rfl,by lia,Int.lt_of_le_of_lt a.2 h0⟩;exact⟨_,rfl,by lia,by lia⟩
abbrev hT(ks:List (List Int)):D:=.tup (ks.map tI)
abbrev hD(hs:List (List (List Int))):D:=.tup (hs.map hT)
noncomputable def pm(hs:List (List (List Int))):Nat:=(hs.map λk=>max 1 k.length).prod
def Qz:pm (hs++[k])=pm hs*max 1 k.length:=by unfold pm;simp
abbrev QB(qs:List (Str×List Str))(hs:List (List (List Int))):Prop:=∀(i:Nat) q ks,qs[i]?=some q->hs[i]?=some ks->(∀r∈ks,r.length=q.2.length/\Vb r)/\DH ks/\ks.length<=40
def Hh(qs:List (Str×List Str))(hs:List (List (List Int)))(room:Int):Prop:=QB qs hs/\(pm hs:Int)*room<=3000/\1<=room
structure Ho(qs:List (Str×List Str))(hs:List (List (List Int))):Prop where
 l:hs.length=qs.length
 w:QB qs hs
 p:pm hs<=3000
def L5(h:ce<=3000)(h1:1<=ce):Hh qs [] ce:=⟨λi q ks _ e=>by simp at e,by show((1:Nat):Int)*ce<=3000;simp[*],h1⟩
def Hh.nx(h:Hh qs hs room)(p:hs.length=i)(g:qs[i]? = some q)(k:∀ r∈ks,r.length=q.2.length/\Vb r)(b:DH ks)(c:ks.length<=40)(d:(ks.length:Int)<=room):Hh qs (hs++[ks]) (room / (if(ks.length:Int) > 1 then(ks.length:Int)else 1)):=by
 obtain⟨l,m,s⟩:=h;rw[show(if(ks.length:Int) > 1 then(ks.length:Int)else 1)=((max 1 ks.length:Nat):Int) by split<;>lia];have t:1<=max 1 ks.length:=Nat.le_max_left _ _;refine⟨λj n e f a=>?_,?_,(Int.le_ediv_iff_mul_le (by simp_all +arith)).mpr (by lia)⟩
 ·rcases lt_or_ge j hs.length with hj | hj;rw[BM hj]at a;exact l j n e f a;rw[DN hj]at a;have o:j-hs.length=0:=by
   rcases Nat.eq_zero_or_pos (j-hs.length)with z|z;exact z;rw[List.getElem?_eq_none (by simp;exact z)]at a;cases a
  rw[o]at a;cases a;have:j=i:=by grind
  rw[this,g]at f;cases f;exact⟨k,b,c⟩
 ·rw[Qz,Int.natCast_mul,Int.mul_assoc];exact Int.le_trans (Int.mul_le_mul_of_nonneg_left (Int.mul_comm _ _▸Int.ediv_mul_le _ (by lia)) (by lia)) m
def L6{a:Type}{l:List a}{f:a->Nat}(h:Vb vs):Vb (l.map λc=>vs.getD (f c) 0):=by
 intro x b;obtain⟨c,_,rfl⟩:=Bc.mp b;rw[Dq];cases e:vs[f c]? with
 |none=>simp
 |some y=>exact h y (AV e)
abbrev oL(ks:List (List Int)):Option Sl:=some ⟨.own,.lst (ks.map tI)⟩
abbrev hS(d:Int)(qs:List (Str×List Str))(m:Int)(c:List (List Int))(e room:Int)(f:Bool)(hs:List (List (List Int)))(q:Str×List Str)(v:Md)(a b L:Int)(s t u:Option Sl):Sg:=[some ⟨.par,.lst [.int a,.int b]⟩,some ⟨.val,qD qs⟩,some ⟨.val,.int d⟩,some ⟨.own,.lst ((aN qs).map D.str)⟩,some ⟨.val,.int m⟩,some ⟨v,.lst (c.map lI)⟩,some ⟨.val,.int e⟩,some ⟨.val,.int room⟩,some ⟨.val,.bl f⟩,some ⟨.own,.lst (hs.map hT)⟩,some ⟨.val,.str q.1⟩,some ⟨.val,.tup (q.2.map D.str)⟩,some ⟨.val,.int L⟩,s,t,none,u]
def L7(hce:o=1000)(x:Qc qs)(k:∀ (hs:List (List (List Int))) J M,Ho qs hs->K (.val (hD hs)) [⟨.par,.lst [.int J,.int M]⟩,⟨.val,qD qs⟩,⟨.val,.int o⟩]) :
  CK dZ [⟨.par,.lst [.int a,.int b]⟩,⟨.val,qD qs⟩,⟨.val,.int o⟩] K:=by
 have sl:10000<=sizeLine:=by decide
 unfold dZ;rw[bF];show RS eY [_,_,_,none,none,none,none,none,none,none,none,none,none,none,none,none,none] _;unfold eY;walk_at"dx";refine kH x.qn ?_;have hcl:(aN qs).length<=600:=by
  have h1:=vV (qs:=qs) (n:=100) λq h=>(x.qn.2 q h).2.1;have h2:=Nat.mul_le_mul_right 100 x.l6;exact oT h1 h2
 walk_at"dx";refine⟨by decide,bK (by decide) (by decide) λn a1 b1 n0 n5=>?_⟩;obtain⟨m,hm,m0,m1⟩:=L1 n0 n5;walk_at"dx";rw[hm];walk_at"dx";refine bK (by decide) (by decide) λn2 a2 b2 n20 n21=>?_;walk_at"dx";refine⟨by lia,by rw[cN];exact oT (by lia:n2.toNat<=6) (by decide),?_⟩;refine gU _ _ (λi acc τ=>i<=6/\∃(vss:List (List Int)) (J M:Int),acc=vss.map lI/\vss.length=i/\(∀vs∈vss,vs.length=(aN qs).length/\Vb vs)/\τ=[some ⟨.par,.lst [.int J,.int M]⟩,_,_,_,_,none,none,none,none,none,none,none,none,none,none,none,none]) ⟨sY _,[],a2,b2,rfl,rfl,by simp,rfl⟩ ?_ ?_;rintro i d acc τ hd ⟨_,vss,J,M,rfl,hl,σ,rfl⟩;obtain⟨hi,rfl⟩:=iI hd;walk_at"dx";refine⟨by rw[hB];lia,drawn m0 m1 λvs a3 b3 u z=>?_⟩;walk_at"dx";refine⟨_,rfl,by lia,vss++[vs],a3,b3,by rw[Bp];rfl,by rw[AO,hl];rfl,?_,rfl⟩;intro y hy;rcases Au.mp hy with h|h;exact σ y h;rw[Aq.mp h];exact⟨u,z⟩;rintro acc τ ⟨_,vss,J,M,rfl,hl,σ,rfl⟩;rw[cN]at hl;have lq:(qs.map qP).length=qs.length:=hB _;walk_at"dx";rw[lq];obtain⟨el,s,he1,hev,ev0,ev1⟩:=L3 hce x.l1 x.l6;have c0:o > 0:=by simp_all
 rw[he1];walk_at"dx";rw[hev];walk_at"dx";rw[fI c0];refine⟨by decide,by decide,by decide,bK (by decide) (by decide) λn3 a3 b3 n30 n31=>?_⟩;walk_at"dx";generalize decide (n3=0)=be;refine⟨sY _,?_⟩;refine eK (λi τ=>i<=6/\∃(hs:List (List (List Int))) (a b room:Int) (A B C e:Bool) (E F G f:D) (l:Option (List D)),0<=room/\hs.length=i/\Hh qs hs room/\τ=[some ⟨.par,.lst [.int a,.int b]⟩,some ⟨.val,qD qs⟩,some ⟨.val,.int o⟩,some ⟨.own,.lst ((aN qs).map D.str)⟩,some ⟨.val,.int m⟩,some ⟨.own,.lst (vss.map lI)⟩,some ⟨.val,.int s⟩,some ⟨.val,.int room⟩,some ⟨.val,.bl be⟩,some ⟨.own,.lst (hs.map hT)⟩,ov A E,ov B F,ov C G,wo l,ov e f,none,none]) ⟨sY _,[],a3,b3,o,false,false,false,false,.non,.non,.non,.non,none,by lia,rfl,L5 (by simp[*]) (by assumption),rfl⟩ ?_ ?_
 ·rintro i d τ hd ⟨_,hs,a,b,room,A,B,C,e,E,F,G,f,l,r0,v,t,rfl⟩;obtain⟨q,H,rfl⟩:=kD hd;have hil:i<qs.length:=(sS.mp H).1;have N:=AV H;have hqq:=x.qn.2 q N;have hq6:=x.l6;simp only[nU,kW,nV,KN,uU,vU,uT,NN,length_cons,List.length_nil,Nat.reduceAdd,true_and];refine mO (λτ=>τ=(hS o qs m vss s room be hs q .own a b 40 (wo l) (ov e f) none)) ?_ ?_;walk_at"dx";exact⟨_,rfl,rfl⟩
  rintro τ rfl;refine mO (λτ=>∃L:Int,(0<=L/\L<=40/\L<=room)/\τ=(hS o qs m vss s room be hs q .own a b L (wo l) (ov e f) none)) ?_ ?_;walk_at"dx";rw[fI c0];refine⟨_,rfl,_,?_,rfl⟩;split<;>lia
  rintro τ ⟨L0,π,rfl⟩;refine mO (λτ=>∃L:Int,(0<=L/\L<=40/\L<=room)/\τ=(hS o qs m vss s room be hs q .own a b L (wo l) (ov e f) none)) ?_ ?_;walk_at"dx";split;refine⟨_,rfl,_,?_,rfl⟩;split<;>lia;exact⟨_,rfl,_,π,rfl⟩
  rintro τ ⟨L,hL,rfl⟩;clear π;have hcq:(q.2.map D.str).length=q.2.length:=hB _;refine mO (λτ=>∃ks:List (List Int),ks.length<=5/\(∀r∈ks,r.length=q.2.length/\Vb r)/\τ=(hS o qs m vss s room be hs q .own a b L (oL ks) (ov e f) none)) ?_ ?_
  ·simp only[↓uR,↓KL,↓kY,↓KP,↓uK,↓uL,↓uM,↓uN,↓uO,↓vT,↓uQ,↓uP];walk_at"dx";refine⟨by rw[hB];lia,bT (λvs=>tI (q.2.map λc=>vs.getD ((aN qs).idxOf c) 0)) lI vss (hS o qs m vss s room be hs q .lent a b L (wo l) (ov e f) none) rfl (λvs I=>?_) ?_⟩;walk_at"dx";refine⟨by lia,bT (λc=>.int (vs.getD ((aN qs).idxOf c) 0)) D.str q.2 (hS o qs m vss s room be hs q .lent a b L (wo l) (ov e f) (some ⟨.val,lI vs⟩)) rfl (λc hc=>?_) ?_⟩;walk_at"dx";have P:=vW N hc;refine⟨P,?_⟩;have hix:=List.idxOf_lt_length_iff.mpr P;have u:=(σ vs I).1;rw[Ly (by rw[hB];simp[*]),Ar,nL (by simp[*]),Dq,nL (by simp[*])];rfl;walk_at"dx";show hQ.val (.tup _)=hQ.val (.tup ((q.2.map _).map D.int));rw[map_map];rfl;show PySem.PtK 13 (.own (.lst _)) (hS o qs m vss s room be hs q .own a b L (wo l) (ov e f) none) _;walk_at"dx";refine⟨_,rfl,vss.map λvs=>q.2.map λc=>vs.getD ((aN qs).idxOf c) 0,by rw[hB];lia,?_,by unfold hS oL;rw[map_map];rfl⟩;intro r w;obtain⟨vs,I,rfl⟩:=Bc.mp w;exact⟨hB _,L6 (σ vs I).2⟩
  rintro τ ⟨ks0,Q,R,rfl⟩;refine mO (λτ=>∃(ks:List (List Int)) (a b:Int),ks.length<=5/\(∀r∈ks,r.length=q.2.length/\Vb r)/\τ=(hS o qs m vss s room be hs q .own a b L (oL ks) (ov e f) none)) ?_ ?_;walk_at"dx";refine bK (by decide) (by decide) λn4 a4 b4 n40 n41=>?_;walk_at"dx";split;exact⟨sY _,_,rfl,[],a4,b4,sY _,(λr h=>nomatch h),rfl⟩;exact⟨_,rfl,ks0,a4,b4,Q,R,rfl⟩
  rintro τ ⟨ks1,a5,b5,S,T,rfl⟩;clear Q R;refine mO (λτ=>∃(ks:List (List Int)) (a b:Int) (e:Bool) (f:D),ks.length<=45/\(∀r∈ks,r.length=q.2.length/\Vb r)/\τ=(hS o qs m vss s room be hs q .own a b L (oL ks) (ov e f) none)) ?_ ?_
  ·walk_at"dx";refine⟨by decide,bK (by decide) (by decide) λn6 a7 b7 n60 n61=>?_⟩;obtain⟨c,hc,c0,c1⟩:=L4 ⟨hL.1,hL.2.1⟩ n60 n61;walk_at"dx";rw[hc];walk_at"dx";refine bK c0 (by lia) λn7 a8 b8 n70 n71=>?_;walk_at"dx";refine⟨by lia,?_⟩;refine eK (λj τ=>j<=40/\∃(ks:List (List Int)) (a b:Int) (e:Bool) (f:D),ks.length<=5+j/\(∀r∈ks,r.length=q.2.length/\Vb r)/\τ=(hS o qs m vss s room be hs q .own a b L (oL ks) (ov e f) none)) ⟨sY _,ks1,a8,b8,e,f,S,T,rfl⟩ ?_ ?_;rintro j d τ hd ⟨_,ks,a,b,e,f,hk,w,rfl⟩;obtain⟨hj,rfl⟩:=iI hd;walk_at"dx";refine⟨by lia,drawn m0 m1 λvs a9 b9 u z=>?_⟩;walk_at"dx";refine⟨by rw[hB];lia,_,.inl rfl,by lia,ks++[vs],a9,b9,true,_,by rw[AO];simp;exact lt_succ_of_le hk,?_,by unfold hS oL;rw[Bp];rfl⟩;intro y hy;rcases Au.mp hy with h|h;exact w y h;rw[Aq.mp h];exact⟨u,z⟩;rintro τ ⟨hj,ks,a,b,e,f,hk,w,rfl⟩;exact⟨_,rfl,ks,a,b,e,f,by lia,w,rfl⟩
  rintro τ ⟨p,a6,b6,U,V,hk2,W,rfl⟩;clear S T;have hsl:=sK p;walk_at"dx";refine⟨⟨by lia,yW λr w=>(W r w).1⟩,?_⟩;rw[Lr _ hL.1,← map_take];have hl3:((Aa p).take L.toNat).length<=L.toNat:=by rw[Ei];exact Nat.min_le_left _ _
  have X:∀r∈(Aa p).take L.toNat,r.length=q.2.length/\Vb r:=λr w=>W r ((fF p r).mp (CW w));have Y:DH ((Aa p).take L.toNat):=List.Pairwise.sublist (take_sublist _ _) (gM p);generalize (Aa p).take L.toNat=g at hl3 X Y ⊢;have l3:(g.map tI).length=g.length:=hB _;rw[l3];have nx:=t.nx v H X Y (by lia) (show(g.length:Int)<=room by grind);have hc:0<(if(g.length:Int) > 1 then(g.length:Int)else 1)/\(if(g.length:Int) > 1 then(g.length:Int)else 1)<=100:=by split<;>lia
  revert hc nx;generalize (if(g.length:Int) > 1 then(g.length:Int)else 1)=c;intro nx hc;refine⟨by rw[hB];lia,⟨hc.1,by lia⟩,_,.inl rfl,by lia,hs++[g],a6,b6,room / c,true,true,true,U,_,_,_,V,some (g.map tI),Int.ediv_nonneg r0 (Int.le_of_lt hc.1),by rw[AO,v];rfl,nx,by rw[Bp];rfl⟩
 ·rintro τ ⟨h6,hs,a,b,room,A,B,C,e,E,F,G,f,l,r0,v,t,rfl⟩;walk_at"dx";exact k hs a b ⟨v.trans (hB _),t.1,by have h:=Int.le_trans (Int.mul_le_mul_of_nonneg_left t.2.2 (Int.natCast_nonneg _)) t.2.1;lia⟩
noncomputable def pk(cs so:List Str)(row:List Int):List Int:=so.map λz=>row.getD (cs.idxOf z) 0
def QC{row:List Int}(h:n<row.length):atI (row.map D.int) (n:Int)=some (.int (row.getD n 0)):=by
 unfold atI AH
 simp_all
def fY{a:Type}{l:List a}(h:l.length<=100):l.length<=sizeLine:=oT h (by decide)
def JN{cs:List Str}(h:z∈cs):cs.idxOf z<cs.length:=List.idxOf_lt_length_of_mem h
def QD(cs so:List Str)(row:List Int):tI (pk cs so row)=.tup (so.map λz=>.int (row.getD (cs.idxOf z) 0)):=by
 unfold tI pk;rw[map_map];rfl
def oN(a:row.length=cs.length)(hs:∀ z∈so,z∈cs)(c:so.length<=100)(k:K (.val (tI (pk cs so row))) [⟨.val,tI row⟩,⟨.par,.lst (so.map λz=>.int (cs.idxOf z:Nat))⟩]) :
  CK eO [⟨.val,tI row⟩,⟨.par,.lst (so.map λz=>.int (cs.idxOf z:Nat))⟩] K:=by
 unfold eO;rw[bF];show RS jI [_,_,none] _;unfold jI;walk_at"dx";refine⟨fY (by simp_all),bT (λz=>.int (row.getD (cs.idxOf z) 0)) (λz=>.int (cs.idxOf z:Nat)) so [_,_,none] rfl (λz b=>?_) ?_⟩;walk_at"dx";rw[QC (by rw[a];exact JN (hs z b))];rfl;rw[QD]at k;exact k
def yX(h:dU d=true)(k:K (.val (.bl (!neg)))):dY (Av neg d d) K:=by
 have e:wE d d=true:=SeqAt.eqv_refl _ (bP h).1;show dY (if _ then _ else none) K;rw[aO,e];refine⟨⟨h,h⟩,?_⟩;cases neg<;>exact k
theorem sV(hm:m<=59):∀ (l:List D),(∀ d∈l,dU d=true/\(fL d).depth<=m)->(dU (.tup l)=true/\dU (.lst l)=true)/\(fL (.tup l)).depth<=m+1
 |[],_=>⟨⟨rfl,rfl⟩,by simp[fL,toPys,depth,depthAll]⟩
 | d::r,h=>by
   obtain⟨⟨a,b⟩,c⟩:=sV hm r λx e=>h x (Ah _ e);obtain⟨p,q⟩:=h d sT;obtain⟨a1,i⟩:=bP p;obtain⟨a2,j⟩:=bP a;have f:(fL (.tup (d::r))).canLay0=((fL d).canLay0&&(fL (.tup r)).canLay0):=by
    simp only[fL,toPys,PyData.canLay0,canLayAll0]
   have g:(fL (.tup (d::r))).depth<=m+1:=by
    simp only[fL,toPys,depth,depthAll]at c ⊢;lia
   refine⟨⟨?_,PV d r p b (oT q hm)⟩,g⟩;unfold dU;rw[Ej,Co,f,a1,a2];exact⟨rfl,by lia⟩
def L8(k:List Int):dU (tI k)=true/\(fL (tI k)).depth<=1:=by
 obtain⟨⟨a,_⟩,b⟩:=sV (m:=0) (by decide) (k.map D.int) λd hd=>by
  obtain⟨i,_,rfl⟩:=Bc.mp hd;exact⟨rfl,hF 0⟩
 exact⟨a,b⟩
def pB{K:a->Prop}(e:o=some x)(k:K x):dY o K:=cU.mpr ⟨x,e,k⟩
def L9(h0:Z[g]?=some none)(h:RI ri (Z.set g (some SG)) λitems l σ1=>l=none/\σ1[g]?=some (some SG)/\items.length<4000/\dY (Gd row a b items [] (σ1.set g none)) λy=>Q (.rt (.own (IB y.1)) (y.2.set g none))):RS (Ge g row ri a b) Z Q:=by
 obtain⟨x,e,d,f,i,c⟩:=cU.mp h;obtain⟨y,j,q⟩:=cU.mp c;refine pB (x:=.rt (.own (IB y.1)) (y.2.set g none)) ?_ q;unfold Ge
 simp_all
theorem QE{h:Type}(u:h->D)(f:h->List Key)(v:h->D)(P:Sg->Prop):∀ (xs:List h) (acc:BZ) (b:Sg),P b ->
  (∀x∈xs,∀b,P b->dY (hC row (u x) b) λc=>RE i c λr g=>IA r=some (f x)/\RA l g λrs d=>vals rs=some [v x]/\P d)->(∀b,P b->K (xs.foldl (λa x=>wF (f x) (v x) a) acc,b))->dY (Gd row i l (xs.map u) acc b) K
 |[],acc,b,j,_,k=>pB rfl (k b j)
 | x::xs,acc,b,j,hs,k=>by
   obtain⟨c,m,n⟩:=cU.mp (hs x sT b j);obtain⟨⟨r,g⟩,o,p,s⟩:=cU.mp n;obtain⟨⟨rs,d⟩,t,w,A⟩:=cU.mp s;obtain⟨z,e,q⟩:=cU.mp (QE (K:=K) u f v P xs (wF (f x) (v x) acc) d A (λy B=>hs y (Ah _ B)) k);refine pB (x:=z) ?_ q;show(hC row (u x) b).bind _=some z;rw[m];show(i c).bind _=some z;rw[o];show(IA r).bind _=some z;rw[p];rw[t];show(vals rs).bind _=some z;rw[w];exact e
noncomputable def lk:BZ->List Key->Option (List D)
 |[],_=>none
 |p::r,k=>if p.1=k then some p.2 else lk r k
theorem iC:∀ k:List Key,lT (k.map iQ)=some k
 |[]=>rfl
 | x::r=>by
   show(Lg (iQ x)).bind _=_;have e:Lg (iQ x)=some x:=by cases x<;>rfl
   rw[e];rw[iC r];rfl
theorem QF(k:List Key):∀ acc:BZ,Hq (acc.map λp=>.tup (p.1.map iQ)) (acc.map λp=>.lst p.2) k=some ((lk acc k).map .lst)
 |[]=>rfl
 | p::r=>by
   show(lT (p.1.map iQ)).bind _=some ((if p.1=k then some p.2 else lk r k).map D.lst);rw[iC];show(if p.1=k then _ else _)=_;by_cases e:p.1=k
   ·simp_all
   ·rw[gX e,gX e];exact QF k r
theorem QG(k j:List Key)(v:D):∀ acc:BZ,lk (wF k v acc) j=if k=j then some ((lk acc k).getD []++[v])else lk acc j
 |[]=>rfl
 | p::r=>by
   show lk (if p.1=k then _ else _) j=_;by_cases e:p.1=k
   ·rw[fI e];show(if p.1=j then _ else _)=_;by_cases z:k=j
    ·rw[fI (e.trans z),fI z];show _=some ((if p.1=k then some p.2 else _).getD []++[v])
     simp_all
    ·rw[gX (λq=>z (e.symm.trans q)),gX z];show _=(if p.1=j then _ else _)
     simp_all
   ·rw[gX e];show(if p.1=j then _ else _)=_;rw[QG k j v r];show _=if k=j then some ((if p.1=k then some p.2 else lk r k).getD []++[v])else(if p.1=j then _ else _)
    by_cases z:k=j
    ·simp_all
    simp_all
theorem QH{b:Type}(f:b->List Key)(v:b->D)(k:List Key):∀ (xs:List b) (acc:BZ),((lk (xs.foldl (λa x=>wF (f x) (v x) a) acc) k).getD []=(lk acc k).getD []++(xs.filter λx=>decide (f x=k)).map v) /\
  ((lk (xs.foldl (λa x=>wF (f x) (v x) a) acc) k).isSome=((lk acc k).isSome||xs.any λx=>decide (f x=k)))
 |[],acc=>by simp
 | x::xs,acc=>by
   obtain⟨c,d⟩:=QH f v k xs (wF (f x) (v x) acc);rw[foldl_cons,c,d,QG];by_cases e:f x=k;simp[e]
   simp_all
abbrev tD(cs:List Str)(ks:List (List Int)):D:=.tup [.tup (cs.map D.str),.tup (ks.map tI)]
def QI{zs:List Str}(hz:As z)(h:∀ z∈zs,As z)(k:K (.val (.bl (if neg=true then !zs.contains z else zs.contains z)))):dY (Be neg (.str z) (.tup (zs.map D.str))) K:=by
 show dY (if _ then _ else none) K;rw[aO];refine⟨⟨yP hz,sQ h⟩,?_⟩;have e:((zs.map D.str).any λy=>wE y (.str z))=zs.contains z:=by
  rw[List.any_map,List.contains_eq_any_beq];congr 1;funext y;show(y==z)=(z==y)
  lia
 rw[e];exact k
def lY{cs so:List Str}(hs:∀ z∈so,z∈cs)(a:so.length<=100)(k:K (.own (.lst (so.map λz=>.int (cs.idxOf z:Nat)))) [⟨.val,.tup (cs.map D.str)⟩,⟨.par,.lst (so.map D.str)⟩]) :
  CK bW [⟨.val,.tup (cs.map D.str)⟩,⟨.par,.lst (so.map D.str)⟩] K:=by
 unfold bW;rw[bF];show RS fB [_,_,none] _;unfold fB;walk_at"dx";refine⟨fY (by simp_all),bT (λz=>.int (cs.idxOf z:Nat)) D.str so [_,_,none] rfl (λz b=>?_) ?_⟩
 ·walk_at"dx"
  simp_all
 ·exact k
noncomputable def cmn(cs a:List Str):List Str:=cs.filter λz=>a.contains z
def JO:∀z∈cmn cs a,z∈cs:=λz h=>(List.mem_filter.mp h).1
def Lz:∀z∈cmn cs a,z∈a:=λz h=>by simpa using(List.mem_filter.mp h).2
def M0(hc:cs.length<=20)(c:∀ z∈cs,Tx z)(d:∀ z∈a,Tx z)(k:K (.own (.lst ((cmn cs a).map D.str))) [⟨.val,tD cs ks⟩,⟨.val,tD a b⟩]) :
  CK bN [⟨.val,tD cs ks⟩,⟨.val,tD a b⟩] K:=by
 unfold bN;rw[bF];show RS bS [_,_,none] _;unfold bS;walk_at"dx";refine⟨fY (by grind),dH (λz=>a.contains z) D.str D.str cs [_,_,none] rfl (λz e=>?_) k⟩;walk_at"dx";refine QI (c z e).2 (λz h=>(d z h).2) ?_;rfl
def M3(l:List Int):IA (.val (tI l))=some (l.map Sum.inl):=by
 show lT (l.map D.int)=_;have:l.map D.int=(l.map (Sum.inl:Int->Key)).map iQ:=by rw[map_map];rfl
 rw[this,iC]
def LA(cs so mo:List Str)(ks:List (List Int)):BZ:=ks.foldl (λa x=>wF ((pk cs so x).map Sum.inl) (tI (pk cs mo x)) a) []
def M4(c:∀ y∈ks,y.length=cs.length)(g:ks.length<=3600)(hs:∀ z∈so,z∈cs)(hm:∀ z∈mo,z∈cs)(sl:so.length<=100)(e:mo.length<=100)
  (k:K (.own (IB (LA cs so mo ks))) [⟨.val,tD cs ks⟩,⟨.par,.lst (so.map D.str)⟩,⟨.par,.lst (mo.map D.str)⟩]) :
  CK fX [⟨.val,tD cs ks⟩,⟨.par,.lst (so.map D.str)⟩,⟨.par,.lst (mo.map D.str)⟩] K:=by
 unfold fX;rw[bF];show RS hX [_,_,_,none,none,none,none] _;unfold hX;walk_at"dx";refine lY hs sl ?_;walk_at"dx";refine lY hm e ?_;walk_at"dx";refine L9 rfl ?_;walk_at"dx";refine⟨by rw[hB];lia,QE tI (λx=>(pk cs so x).map Sum.inl) (λx=>tI (pk cs mo x)) (λa=>∃b d,a=[_,_,_,_,_,none,ov b d]) ks [] _ ⟨false,.non,rfl⟩ ?_ ?_⟩;rintro x f a ⟨b,d,rfl⟩;walk_at"dx";refine oN (c x f) hs sl ?_;walk_at"dx";refine⟨M3 _,oN (c x f) hm e ?_⟩;exact⟨rfl,true,_,rfl⟩;rintro a ⟨b,d,rfl⟩;exact k
def M5{a:Type}{l:List a}(h:l.length<=3600):l.length<=sizeLine:=oT h (by decide)
def M6{a b:List Int}:a.map (Sum.inl:Int->Key)=b.map Sum.inl↔a=b:=List.map_inj_right λx y h=>by simp_all
def M7{cs a so mo:List Str}:(lk (LA a so mo b) (k.map Sum.inl)).isSome=b.any λf=>decide (pk a so f=k):=by
 have:=(QH (λx=>(pk a so x).map Sum.inl) (λx=>tI (pk a mo x)) (k.map Sum.inl) b []).2;refine this.trans ?_;show(false||_)=_;rw[Bool.false_or];congr 1;funext f;rw[FA,Co,Co,M6]
def M8:decide (D.str x=D.str y)=decide (x=y):=by rw[FA,Co,Co,D.str.injEq]
def QJ(a:As x)(b:As y)(k:K (.val (.bl (if neg=true then !decide (x=y)else decide (x=y))))):dY (Av neg (.str x) (.str y)) K:=
 D8 (n:=0) (m:=0) (.str a) (.str b) (by decide) (by decide) (by rw[M8];exact k)
def QK{zs:List Str}(hz:As z)(h:∀z∈zs,As z)(k:K (.val (.bl (if neg=true then !decide (z∈zs)else decide (z∈zs))))):dY (Be neg (.str z) (.tup (zs.map D.str))) K:=
 QI hz h (by rw[List.contains_eq_mem];exact k)
def cO:z∈aN qs↔∃q∈qs,z∈q.2:=⟨oJ,λ⟨_,a,b⟩=>vW a b⟩
noncomputable def wot(qs:List (Str×List Str))(z:Str):List (Str×List Str):=qs.filter λq=>!decide (q.1=z)
def gH(h:q∈wot qs z):q∈qs/\q.1≠z:=by
 have:=List.mem_filter.mp h;exact⟨this.1,by simpa using this.2⟩
def Qn.wo(h:Qn qs)(z:Str):Qn (wot qs z):=⟨oT (length_filter_le _ _) h.1,λq a=>h.2 q (gH a).1⟩
def qB(a:Qn qs)(hz:As z)(k:K (.val (qD (wot qs z))) [⟨.val,qD qs⟩,⟨.val,.str z⟩]):CK eM [⟨.val,qD qs⟩,⟨.val,.str z⟩] K:=by
 unfold eM;rw[bF];show RS hU [_,_,none] _;unfold hU;walk_at"dx";refine⟨fY (by rw[hB];exact a.1),dH (λq=>!decide (q.1=z)) qP qP qs [_,_,none] rfl (λq h=>?_) ?_⟩;walk_at"dx";refine QJ (a.2 q h).1.2 hz ?_;walk_at"dx";walk_at"dx";exact k
def M9{cs ss:List Str}(hc:∀ z∈cs,As z)(hs:∀ z∈ss,As z)(a:ss.length<=100)(k:K (.val (.bl (ss.all λc=>decide (c∈cs)))) [⟨.val,.tup (cs.map D.str)⟩,⟨.par,.lst (ss.map D.str)⟩]) :
  CK fV [⟨.val,.tup (cs.map D.str)⟩,⟨.par,.lst (ss.map D.str)⟩] K:=by
 unfold fV;rw[bF];show RS hV [_,_,none] _;unfold hV;walk_at"dx";refine⟨fY (by rw[hB];exact a),Qs D.str (λc=>decide (c∈cs)) ss (λy b=>?_) ?_⟩
 ·walk_at"dx";refine QK (hs y b) hc ?_;walk_at"dx"
  try rfl
 ·walk_at"dx";rw[Qt];exact k
noncomputable abbrev oD:Option Str->D
 |none=>.non
 |some z=>.str z
abbrev eD(p:Str×Option Str):D:=.tup [.str p.1,oD p.2]
def IG(cs:List Str)(o:List (Str×List Str)):List Str:=cs.filter λc=>decide (c∈aN o)
def hold(lft:List (Str×List Str))(z:Str)(cs:List Str):List (Option Str):=
 if(wot lft z).length=0 then[none]else((wot lft z).filter λo=>(IG cs (wot lft z)).all λc=>decide (c∈o.2)).map λo=>some o.1
def N0:(hold lft z cs).length<=lft.length+1:=by
 unfold hold;split;show 1<=_;lia;rw[hB];exact oT (length_filter_le _ _) (oT (length_filter_le _ _) (le_succ _))
def N2(h:Qn qs):∀z∈aN qs,As z:=λz a=>by
 obtain⟨q,b,c⟩:=oJ a;exact((h.2 q b).2.2 z c).2
def N3(b:Qn lft)(hz:As z)(hc:∀ z∈cs,As z)(d:cs.length<=100)
  (k:K (.own (.lst ((hold lft z cs).map oD))) [⟨.val,qD lft⟩,⟨.val,.str z⟩,⟨.val,.tup (cs.map D.str)⟩]):CK cZ [⟨.val,qD lft⟩,⟨.val,.str z⟩,⟨.val,.tup (cs.map D.str)⟩] K:=by
 unfold cZ;rw[bF];show RS eB [_,_,_,none,none,none,none,none] _;unfold eB;walk_at"dx";refine qB b hz ?_;have a:=b.wo z;walk_at"dx";unfold hold at k;split;rename_i h0;rw[fI (by rw[hB]at h0;lia)]at k;exact⟨by decide,k⟩;rename_i h0;rw[gX (by rw[hB]at h0;lia)]at k;have hs:∀c∈IG cs (wot lft z),As c:=λc h=>hc c (List.mem_filter.mp h).1;have e:(IG cs (wot lft z)).length<=100:=oT (length_filter_le _ _) d;refine⟨fY (by rw[hB];lia),dH (λc=>decide (c∈aN (wot lft z))) D.str D.str cs [_,_,_,_,none,none,none,none] rfl (λc h=>?_) ?_⟩
 ·walk_at"dx";refine J5 a ?_;walk_at"dx";refine QK (hc c h) (N2 a) ?_;walk_at"dx"
  try rfl
 ·walk_at "dx";have f:=a.1;refine⟨fY (by rw[hB];omega),dH (λo=>(IG cs (wot lft z)).all λc=>decide (c∈o.2)) (λo=>.str o.1) qP (wot lft z) [_,_,_,_,some ⟨.own,.lst ((IG cs (wot lft z)).map D.str)⟩,none,none,none] rfl (λq h=>?_) ?_⟩
  ·walk_at"dx";refine M9 (λc h'=>((a.2 q h).2.2 c h').2) hs (by omega) ?_;walk_at"dx"
   try rfl
  ·walk_at"dx";rw[map_map]at k;exact k
def tH(lft:List (Str×List Str)):List (Str×Option Str):=lft.flatMap λq=>(hold lft q.1 q.2).map λh=>(q.1,h)
def LB(h:n<=20000):n<=sizeLine:=oT h (by decide)
def qC(c:Qn lft)(k:K (.own (.lst ((tH lft).map eD))) [⟨.val,qD lft⟩]):CK eN [⟨.val,qD lft⟩] K:=by
 unfold eN;rw[bF];show RS hW [_,none,none,none,none] _;unfold hW;walk_at"dx";refine⟨sY _,eK (λi τ=>∃e f g j,((lft.take i).flatMap λq=>(hold lft q.1 q.2).map λh=>(q.1,h)).length<=i*101/\τ=[_,some ⟨.own,.lst (((lft.take i).flatMap λq=>(hold lft q.1 q.2).map λh=>(q.1,h)).map eD)⟩,ov e g,ov f j,none]) ⟨false,false,.non,.non,sY _,rfl⟩ ?_ ?_⟩;rintro i d τ hd ⟨e,f,g,j,hi,rfl⟩;obtain⟨q,a,rfl⟩:=kD hd;have l:i<lft.length:=(sS.mp a).1;have b:=c.2 q (AV a);have m:=c.1;have n:=N0 (lft:=lft) (z:=q.1) (cs:=q.2);walk_at"dx";refine N3 c b.1.2 (λz h=>(b.2.2 z h).2) b.2.1 ?_;walk_at"dx";refine⟨LB (by rw[hB];lia),bT (λh=>eD (q.1,h)) oD (hold lft q.1 q.2) [_,_,_,_,none] rfl (λh _=>?_) ?_⟩;walk_at"dx";exact sl2;walk_at"dx";refine⟨LB (by simp only[length_map];lia),_,.inl rfl,true,true,.str q.1,.tup (q.2.map D.str),?_,?_⟩;rw[lX a,List.flatMap_append,AO,List.flatMap_singleton,hB];lia;rw[lX a,List.flatMap_append,List.flatMap_singleton,Bp,map_map];rfl;rintro τ ⟨e,f,g,j,_,rfl⟩;rw[hB,take_length];walk_at"dx";exact k
def sW:List (Str×List Str)->List (Str×Option Str)->Bool
 |a,[]=>decide (a.length=0)
 |a,p::r=>decide (p∈tH a)&&sW (wot a p.1) r
section
open Classical
def JP{α:Type}(E:List (List α))(S:List α)(v:α):Prop:=∃e∈E,∀f∈E,v∈f->∀x∈S,x∈f->x∈e
def El(E:List (List α)):List α->Prop
 |[]=>True
 |v::b=>JP E (v::b) v/\El E b
def ED(E:List (List α))(S:List α):Prop:=∃l,(∀x,x∈l↔x∈S)/\El E l
def JP.mono{v:α}(h:JP E S v)(w:∀x∈S',x∈S):JP E S' v:=by
 obtain⟨e,a,q⟩:=h;exact⟨e,a,λf b c x d=>q f b c x (w x d)⟩
theorem El.filter(p:α->Bool):∀ {l:List α},El E l->El E (l.filter p)
 |[],_=>True.intro
 | v::b,⟨t,q⟩=>by
   by_cases c:p v=true;rw[List.filter_cons_of_pos c];refine⟨t.mono λx a=>?_,q.filter p⟩;rcases Aj.mp a with e|a;rw[e];exact sT;exact Ah _ (List.mem_filter.mp a).1;rw[List.filter_cons_of_neg c];exact q.filter p
theorem El.ear{e f:List α}(c:∀ g,g∈E↔g=e\/g∈E')(k:f∈E')(m:∀ x∈e,(∃ g∈E',x∈g)->x∈f):∀ {l:List α},El E l->El E' l
 |[],_=>True.intro
 | v::b,⟨⟨t,n,q⟩,r⟩=>by
   refine⟨?_,r.ear c k m⟩;rcases(c t).mp n with rfl|h;exact⟨f,k,λg d i x j a=>m x (q g ((c g).mpr (.inr d)) i x j a) ⟨g,d,a⟩⟩;exact⟨t,h,λg d i x j a=>q g ((c g).mpr (.inr d)) i x j a⟩
theorem El.pre{b:List α}(d:e∈E)(hb:El E b):∀{a:List α},(∀v∈a,∀g∈E,v∈g->g=e)->El E (a++b)
 |[],_=>hb
 |v::a,h=>⟨⟨e,d,λg f c x _ i=>by rw[← h v sT g f c];exact i⟩,hb.pre d λv c=>h v (Ah _ c)⟩
theorem El.back{e f:List α}(d:∀ g,g∈E↔g=e\/g∈E')(k:f∈E')(h:∀ x∈e,(∃ g∈E',x∈g)->x∈f):∀ {l:List α},El E' l->(∀ x∈l,x∈e->∃ g∈E',x∈g)->El E l
 |[],_,_=>True.intro
 | v::b,⟨⟨t,m,q⟩,r⟩,np=>by
   refine⟨⟨t,(d t).mpr (.inr m),λg n i x c a=>?_⟩,r.back d k h λx c=>np x (Ah _ c)⟩;rcases(d g).mp n with rfl|j;exact q f k (h v i (np v sT i)) x c (h x a (np x c a));exact q g j i x c a
def QL{e f:List α}(a:∀g,g∈E↔g=e\/g∈E')(d:f∈E')(i:∀x∈e,(∃g∈E',x∈g)->x∈f):ED E S↔ED E' S:=by
 constructor;rintro⟨l,m,q⟩;exact⟨l,m,q.ear a d i⟩;rintro⟨l,m,q⟩;refine⟨l.filter (λx=>decide (x∈e/\¬ ∃g∈E',x∈g))++l.filter (λx=>!decide (x∈e/\¬ ∃g∈E',x∈g)),λx=>?_,?_⟩;rw[← m x,Au,mem_filter,mem_filter];constructor;rintro(h|h)<;>exact h.1;intro h;by_cases j:x∈e/\¬ ∃g∈E',x∈g;exact .inl ⟨h,Dm j⟩;exact .inr ⟨h,by rw[Ft j];rfl⟩;refine El.pre ((a e).mpr (.inl rfl)) (El.back a d i (q.filter _) λx k b=>?_) λv n g o c=>?_;have:=(List.mem_filter.mp k).2;by_cases h:∃g∈E',x∈g;exact h;rw[Dm (p:=x∈e/\¬ ∃g∈E',x∈g) ⟨b,h⟩]at this;cases this;have:=of_decide_eq_true (List.mem_filter.mp n).2;rcases(a g).mp o with h|h;exact h;exact absurd ⟨g,h,c⟩ this.2
theorem El.has_ear(s:2<=E.length):∀ {l:List α},El E l->∃ i j,i < E.length/\j < E.length/\i≠j/\∀ x∈l,x∈E[i]?.getD []->(∃ k,k≠i/\k < E.length/\x∈E[k]?.getD [])->x∈E[j]?.getD []
 |[],_=>⟨0,1,by lia,by assumption,by decide,λ_ h=>nomatch h⟩
 | v::b,⟨⟨t,u,q⟩,r⟩=>by
   obtain⟨i,j,hi,hj,w,h⟩:=r.has_ear s;obtain⟨ti,c,rfl⟩:=BY u;have gd:∀{k:Nat} (f:k<E.length),E[k]?.getD []=E[k]:=λf=>by rw[nL f];rfl
   by_cases n:v∈E[i]?.getD []/\(∃k,k≠i/\k<E.length/\v∈E[k]?.getD [])/\v∉E[j]?.getD [];obtain⟨o,⟨k,y,m,p⟩,A⟩:=n;by_cases e:ti=i;subst e;refine⟨k,ti,m,c,y,λx d g _=>?_⟩;rw[gd m]at g p;rw[gd c];exact q _ (DW m) p x d g;refine⟨i,ti,hi,c,λz=>e z.symm,λx d a _=>?_⟩;rw[gd hi]at a o;rw[gd c];exact q _ (DW hi) o x d a
   ·refine⟨i,j,hi,hj,w,λx d a f=>?_⟩;rcases Aj.mp d with rfl|d;by_cases z:x∈E[j]?.getD [];exact z;exact absurd ⟨a,f,z⟩ n;exact h x d a f
end
def QM(d:D)(l:List D):atI (d::l) 0=some d:=by unfold atI AH;simp
noncomputable abbrev EE(qs:List (Str×List Str)):List (List Str):=qs.map Prod.snd
def sZ:e∈EE qs↔∃q∈qs,q.2=e:=Bc
def N4(h:∀q∈r,q.1≠z):wot r z=r:=List.filter_eq_self.mpr λq a=>by simpa using h q a
theorem qE:∀ {lft:List (Str×List Str)},(lft.map Prod.fst).Nodup->(∃ q∈lft,q.1=z)->(wot lft z).length+1=lft.length
 |[],_,⟨q,h,_⟩=>nomatch h
 | p::r,hn,⟨q,h,e⟩=>by
   rw[Bm,CD]at hn;by_cases a:p.1=z;have:wot (p::r) z=wot r z:=List.filter_cons_of_neg (by simpa using a);rw[this,N4 λq b c=>hn.1 (by rw[a,← c];exact List.mem_map_of_mem b),Ek]
   ·have:wot (p::r) z=p::wot r z:=List.filter_cons_of_pos (by simpa using a);rw[this,Ek,Ek,qE hn.2 ⟨q,by
     rcases Aj.mp h with rfl|h;exact absurd e a
     ·exact h,e⟩]
def mP{lft:List (Str×List Str)}(hn:(lft.map Prod.fst).Nodup)(d:p∈lft)(g:q∈lft)(e:p.1=q.1):p=q:=by
 induction lft with
 |nil=>cases d
 | cons a r h=>
   rw[Bm,CD]at hn;rcases Aj.mp d with rfl|c;rcases Aj.mp g with rfl|b;rfl;exact absurd (List.mem_map_of_mem (f:=Prod.fst) b) (e▸hn.1);rcases Aj.mp g with rfl|b;exact absurd (List.mem_map_of_mem (f:=Prod.fst) c) (e▸hn.1);exact h hn.2 c b
def N5(lft:List (Str×List Str))(z:Str):((wot lft z).map Prod.fst).Sublist (lft.map Prod.fst):=(List.filter_sublist).map _
def iJ:Nat->List (Str×List Str)->List (Str×Option Str)
 |0,_=>[]
 | n+1,a=>match tH a with
   |[]=>[]
   |p::_=>p::iJ n (wot a p.1)
def Hr(qs:List (Str×List Str))(S:List Str):Prop:=∀q∈qs,∀z∈q.2,z∈S
def Hr.wo(h:Hr qs S)(z:Str):Hr (wot qs z) S:=λq a=>h q (gH a).1
def LC(h:q∈qs)(n:q.1≠z):q∈wot qs z:=List.mem_filter.mpr ⟨h,by simpa using n⟩
def IH(h:(qs.map Prod.fst).Nodup)(z:Str):((wot qs z).map Prod.fst).Nodup:=h.sublist (N5 qs z)
def iK:p∈tH lft↔∃q∈lft,q.1=p.1/\p.2∈hold lft q.1 q.2:=by
 unfold tH;rw[List.mem_flatMap];constructor;rintro⟨q,a,h⟩;obtain⟨x,b,rfl⟩:=Bc.mp h;exact⟨q,a,rfl,b⟩;rintro⟨q,a,e,h⟩;exact⟨q,a,Bc.mpr ⟨p.2,h,by rw[e]⟩⟩
def QN(hn:(lft.map Prod.fst).Nodup)(b:2<=lft.length)(a:q∈lft):(wot lft q.1).length≠0:=by
 have:=qE hn ⟨q,a,rfl⟩;lia
def N6(hn:(lft.map Prod.fst).Nodup)(b:q∈lft)(g:List Str):g∈EE lft↔g=q.2\/g∈EE (wot lft q.1):=by
 rw[sZ,sZ];constructor;rintro⟨t,a,rfl⟩;by_cases e:t.1=q.1;rw[mP hn a b e];exact .inl rfl;exact .inr ⟨t,LC a e,rfl⟩;rintro(rfl|⟨t,a,rfl⟩);exact⟨q,b,rfl⟩;exact⟨t,(gH a).1,rfl⟩
def N7(hn:(lft.map Prod.fst).Nodup)(h:2<=lft.length)(i:p∈tH lft):ED (EE lft) S↔ED (EE (wot lft p.1)) S:=by
 obtain⟨q,d,e,a⟩:=iK.mp i;unfold hold at a;rw[gX (QN hn h d)]at a;obtain⟨f,b,_⟩:=Bc.mp a;obtain⟨b,ha⟩:=List.mem_filter.mp b;rw[← e];refine QL (e:=q.2) (f:=f.2) (N6 hn d) (sZ.mpr ⟨f,b,rfl⟩) λx j Z0=>?_;obtain⟨g,k,c⟩:=Z0;obtain⟨t,l,rfl⟩:=sZ.mp k;have:=Ds.mp ha x (List.mem_filter.mpr ⟨j,Dm (cO.mpr ⟨t,l,c⟩)⟩);exact of_decide_eq_true this
def N8(hn:(lft.map Prod.fst).Nodup)(b:2<=lft.length)(f:Hr lft S)(h:ED (EE lft) S):tH lft≠[]:=λz=>by
 obtain⟨l,m,q⟩:=h;obtain⟨i,j,hi,hj,g,n⟩:=q.has_ear (by rw[hB];exact b);rw[hB]at hi hj;have gd:∀{k:Nat} (a:k<lft.length),(EE lft)[k]?.getD []=lft[k].2:=λa=>by rw[Ar,nL a];rfl
 have ne:lft[j].1≠lft[i].1:=λe=>g ((List.getElem?_inj (l:=lft.map Prod.fst) (by rw[hB];exact hi) hn).mp (by rw[Ar,Ar,nL hi,nL hj];exact Cq some e.symm));have:(lft[i].1,some lft[j].1)∈tH lft:=by
  refine iK.mpr ⟨lft[i],DW hi,rfl,?_⟩;unfold hold;rw[gX (QN hn b (DW hi))];refine Bc.mpr ⟨lft[j],List.mem_filter.mpr ⟨LC (DW hj) ne,Ds.mpr λc hc=>Dm ?_⟩,rfl⟩;obtain⟨d,o⟩:=List.mem_filter.mp hc;obtain⟨t,p,ct⟩:=cO.mp (of_decide_eq_true o);obtain⟨r,s⟩:=gH p;obtain⟨k,a,rfl⟩:=BY r;have:=n c ((m c).mpr (f _ (DW hi) c d)) (by rw[gd hi];exact d) ⟨k,λz=>s (by subst z;rfl),by rw[hB];exact a,by rw[gd a];exact ct⟩;rwa[gd hj]at this
 rw[z]at this;cases this
def QO(q:Str×List Str)(S:List Str):ED (EE [q]) S:=by
 refine⟨S,λ_=>Iff.rfl,?_⟩
 induction S with
 |nil=>trivial
 |cons v b c=>exact⟨⟨q.2,by simp,λf d _ x _ a=>by rw[show f=q.2 by simpa using d]at a;exact a⟩,c⟩
def N9(q:Str×List Str):tH [q]=[(q.1,none)]:=by
 have:wot [q] q.1=[]:=List.filter_eq_nil_iff.mpr λx a=>by rw[Aq.mp a];simp
 unfold tH hold;rw[List.flatMap_cons,this];rfl
theorem vX:∀ (n:Nat) (lft:List (Str×List Str)),lft.length=n->(lft.map Prod.fst).Nodup->Hr lft S->1<=n->((iJ n lft).length=n↔ED (EE lft) S)
 |0,_,_,_,_,h=>absurd h (by decide)
 | 1,lft,hl,hn,a,_=>by
   obtain⟨q,rfl⟩:=List.length_eq_one_iff.mp hl;unfold iJ;rw[N9];exact⟨λ_=>QO q S,λ_=>rfl⟩
 | n+2,lft,hl,hn,a,_=>by
   unfold iJ;cases e:tH lft with
   |nil=>exact⟨λh=>by simp at h,λh=>absurd e (N8 hn (by simp[*]) a h)⟩
   | cons p r=>
     have b:p∈tH lft:=by rw[e];exact sT
     obtain⟨q,c,d,_⟩:=iK.mp b;have g:=qE hn ⟨q,c,d⟩;have f:=vX (S:=S) (n+1) (wot lft p.1) (by simp_all) (IH hn _) (a.wo _) (by lia);rw[N7 hn (by simp[*]) b,← f,Ek];lia
theorem qF:∀ (n:Nat) (lft:List (Str×List Str)),lft.length=n->(lft.map Prod.fst).Nodup->(iJ n lft).length=n->sW lft (iJ n lft)=true
 |0,lft,hl,_,_=>by unfold iJ sW;exact Dm hl
 | n+1,lft,hl,hn,a=>by
   unfold iJ at a ⊢;cases e:tH lft with
   |nil=>rw[e]at a;simp at a
   | cons p r=>
     rw[e]at a;have b:p∈tH lft:=by rw[e];exact sT
     obtain⟨q,c,d,_⟩:=iK.mp b;have f:=qE hn ⟨q,c,d⟩;unfold sW;rw[Dm b,qF n (wot lft p.1) (by simp_all) (IH hn _) (by simpa using a)];rfl
def O0(qs:List (Str×List Str)):Hr qs (aN qs):=λq a z b=>cO.mpr ⟨q,a,b⟩
def O1(x:List Str)(S:List Str):ED [x] S:=QO (default,x) S
def O2:∀(n:Nat) (ts:List (List Str)),ts.length=n->ts≠[]->Er ts->ED ts S:=by
 intro n
 induction n with
 |zero=>intro ts h e _;exact absurd (List.length_eq_zero_iff.mp h) e
 | succ n d=>
   intro ts h e er;rcases eq_nil_or_concat ts with a|⟨l,x,a⟩;exact absurd a e;rw[concat_eq_append]at a;subst a;have r:=er l.length x (List.getElem?_concat_length);rw[take_left]at r;rcases r with rfl|⟨f,b,k⟩;exact O1 x S;refine(QL (e:=x) (f:=f) (E':=l) (λg=>by rw[Au,Aq,or_comm]) b k).mpr (d l (by simpa using h) (λz=>by rw[z]at b;cases b) λi y c=>?_);have hi:=(sS.mp c).1;have:=er i y (by rw[BM hi];exact c);rwa[List.take_append_of_le_length (by lia)]at this
theorem Qc.tk(h:Qc qs):(iJ qs.length qs).length=qs.length:=(vX qs.length qs rfl h.nn (O0 qs) h.l1).mpr (O2 _ _ rfl (λz=>by have:=h.l1;rw[List.map_eq_nil_iff.mp z]at this;cases this) h.er)
def Qc.sh(h:Qc qs):sW qs (iJ qs.length qs)=true:=qF _ _ rfl h.nn h.tk
def O3(a:Qn lft)(h:p∈tH lft):As p.1:=by
 obtain⟨q,b,e,_⟩:=iK.mp h;rw[← e];exact(a.2 q b).1.2
def vY(d:Qn qs)(hn:(qs.map Prod.fst).Nodup)(k:K (.own (.lst ((iJ qs.length qs).map eD))) [⟨.val,qD qs⟩]):CK eC [⟨.val,qD qs⟩] K:=by
 have i:=d.1;unfold eC;rw[bF];show RS eZ [_,none,none,none] _;unfold eZ;walk_at"dx";refine⟨sY _,qC d ?_⟩;walk_at"dx";refine pQ (λm τ=>∃a done,m=a.length/\Qn a/\(a.map Prod.fst).Nodup/\done++iJ a.length a=iJ qs.length qs/\done.length+a.length=qs.length/\τ=[some ⟨.val,qD qs⟩,some ⟨.val,qD a⟩,some ⟨.own,.lst (done.map eD)⟩,some ⟨.own,.lst ((tH a).map eD)⟩]) qs.length (by lia) ⟨qs,[],rfl,d,hn,rfl,by simp,rfl⟩ ?_;rintro m τ ⟨a,done,rfl,b,c,f,j,rfl⟩;walk_at"dx";cases e:tH a with
 | nil=>
   refine pB (x:=false) rfl ?_;rw[gX (by decide)];have:iJ a.length a=[]:=by
    cases a.length with
    |zero=>rfl
    |succ n=>unfold iJ;rw[e]
   rw[this,Dw]at f;subst f;exact k
 | cons p r=>
   have h:p∈tH a:=by rw[e];exact sT
   obtain⟨q,g,l,_⟩:=iK.mp h;have s:=qE c ⟨q,g,l⟩;refine pB (x:=true) rfl ?_;rw[fI rfl];refine pB (x:=eD p) (by rw[Bm];exact(QM _ _)) ⟨LB (by rw[hB];lia),pB (x:=eD p) (by rw[Bm];exact(QM _ _)) ?_⟩;walk_at"dx";refine qB b (O3 b h) ?_;walk_at"dx";refine qC (b.wo _) ?_;walk_at"dx";refine .inl ⟨_,_,.inl rfl,by lia,wot a p.1,done++[p],rfl,b.wo _,IH c _,?_,by rw[AO,length_singleton];lia,by rw[Bp];rfl⟩;rw[← f];have o:a.length=(wot a p.1).length+1:=by lia
   rw[o];rw[append_assoc]
   conv=>rhs;unfold iJ
   rw[e];rfl
abbrev QP(qs:List (Str×List Str)):D:=.lst ((iJ qs.length qs).map eD)
def O4(h:Qc qs)(k:K (.val (.tup [.str "ears",QP qs])) [⟨.val,qD qs⟩]):CK lJ [⟨.val,qD qs⟩] K:=by
 unfold lJ;rw[bF];show RS oF [_,none] _;unfold oF;walk_at"dx";refine vY h.qn h.nn ?_;walk_at"dx";rw[fI (by rw[hB,hB,h.tk])];exact⟨by decide,k⟩
def O5(h:Qc qs)(k:K (.val (QP qs)) [⟨.val,qD qs⟩]):CK cB [⟨.val,qD qs⟩] K:=by
 unfold cB;rw[bF];show RS cL [_,none] _;unfold cL;walk_at"dx";refine O4 h ?_;walk_at"dx";refine QJ (x:="ears") (y:="ring") (by unfold As;decide) (by unfold As;decide) ?_;walk_at"dx";rw[gX (by decide)];exact k
abbrev Tw:=List Str×List (List Int)
abbrev BV(t:Tw):D:=tD t.1 t.2
theorem tE{a b:Type}{f:a->D}{g:b->D}:∀ {l:List a} {m:List b},yA (l.map f) (m.map g)=(l.zip m).map λp=>D.tup [f p.1,g p.2]
 |[],_|_::_,[]=>rfl
 | x::l,y::m=>by
   show D.tup [f x,g y]::yA (l.map f) (m.map g)=_;rw[tE];rfl
noncomputable def II(qs:List (Str×List Str))(hs:List (List (List Int))):List Tw:=(qs.zip hs).map λp=>(p.1.2,p.2)
def O6(a:hs.length=qs.length)(b:qs.length<=6)(k:K (.own (.lst ((II qs hs).map BV))) [⟨.val,qD qs⟩,⟨.val,hD hs⟩]):CK eE [⟨.val,qD qs⟩,⟨.val,hD hs⟩] K:=by
 unfold eE;rw[bF];show RS fA [_,_,none,none] _;unfold fA;walk_at"dx";refine⟨by rw[hB,hB,a],?_⟩;rw[tE];refine⟨oT (by rw[hB,length_zip];lia:_<=6) (by decide),bT (λp:(Str×List Str)×List (List Int)=>BV (p.1.2,p.2)) _ (qs.zip hs) [_,_,none,none] rfl (λp c=>?_) ?_⟩;obtain⟨⟨d,own⟩,ks⟩:=p;walk_at"dx";exact sl2;rw[show(qs.zip hs).map (λp:(Str×List Str)×List (List Int)=>BV (p.1.2,p.2))=(II qs hs).map BV by unfold II;rw[map_map];rfl];exact k
def O7{cs:List Str}:dY (oE [.lst (cs.map D.str),.lst m]) K=((cs.length=m.length/\cs.length<4000/\cs.Nodup)/\K (.own (.dic (cs.map D.str) m))):=by
 show dY ((lT (cs.map D.str)).bind _) K=_;rw[show cs.map D.str=(cs.map (Sum.inr:Str->Key)).map iQ by rw[map_map];rfl,iC];show dY (if _ then _ else none) K=_;rw[aO,hB];congr 2;rw[Eg,List.pairwise_map,Eg];simp
def oO(a:qs.length<=100)(k:K (.own (.lst ((qs.map Prod.fst).map D.str))) [⟨.val,qD qs⟩]):CK dG [⟨.val,qD qs⟩] K:=by
 unfold dG;rw[bF];show RS fW [_,none,none] _;unfold fW;walk_at"dx";refine⟨fY (by rw[hB];exact a),bT (λq=>.str q.1) qP qs [_,none,none] rfl (λq b=>?_) ?_⟩
 ·walk_at"dx"
  try exact sl2
 ·rw[show(qs.map λq=>D.str q.1)=(qs.map Prod.fst).map D.str by rw[map_map];rfl];exact k
noncomputable def rw0(qs:List (Str×List Str))(hs:List (List (List Int)))(z:Str):List (List Int):=hs.getD ((qs.map Prod.fst).idxOf z) []
def vZ(hn:(qs.map Prod.fst).Nodup)(h:qs[i]?=some q):rw0 qs hs q.1=hs.getD i []:=by
 obtain⟨hi,rfl⟩:=sS.mp h;unfold rw0;have:=hn.idxOf_getElem i (by rw[hB];exact hi);rw[getElem_map]at this;rw[this]
def QQ(hn:(qs.map Prod.fst).Nodup)(a:hs.length=qs.length):II qs hs=qs.map λq=>(q.2,rw0 qs hs q.1):=by
 unfold II;refine ext_getElem (by simp[a]) λi c b=>?_;have hi:i<qs.length:=by simpa using b
 rw[getElem_map,getElem_map,getElem_zip,vZ hn (nL hi),Dq,nL (by lia)];rfl
abbrev Hs(qs:List (Str×List Str))(T:Str->List (List Int)):D:=.dic ((qs.map Prod.fst).map D.str) (qs.map λq=>BV (q.2,T q.1))
def O8(a:Qc qs)(b:hs.length=qs.length)(k:K (.own (Hs qs (rw0 qs hs))) [⟨.val,qD qs⟩,⟨.val,hD hs⟩]):CK cC [⟨.val,qD qs⟩,⟨.val,hD hs⟩] K:=by
 have c:=a.l6;unfold cC;rw[bF];show RS cM [_,_] _;unfold cM;walk_at"dx";refine oO (by lia) ?_;walk_at"dx";refine O6 b c ?_;walk_at"dx";rw[O7];refine⟨⟨by rw[hB,hB,QQ a.nn b,hB],by rw[hB];lia,a.nn⟩,?_⟩;walk_at"dx";rw[QQ a.nn b,map_map (g:=BV)];exact k
def Gf(cs a:List Str)(ks c:List (List Int)):List (List Int):=ks.filter λb=>c.any λf=>decide (pk a (cmn cs a) f=pk cs (cmn cs a) b)
def O9(q:K (.val (.bl (ks.any λf=>decide (pk cs so f=k))))):dY (Iz (tI k) (IB (LA cs so mo ks))) K:=by
 refine pB (x:=.val (.bl (ks.any λf=>decide (pk cs so f=k)))) ?_ q;show(lT (k.map D.int)).bind _=_;rw[show k.map D.int=(k.map (Sum.inl:Int->Key)).map iQ by rw[map_map];rfl,iC];show(Hq _ _ _).bind _=_;rw[QF];show some (hQ.val (D.bl (Option.isSome (Option.map _ _))))=_;rw[isSome_map,M7 (cs:=cs)]
def QR(hc:cs.length<=20)(d:∀ z∈cs,Tx z)(e:∀ z∈a,Tx z)(i:ks.length<=40)(hj:c.length<=40)(g:∀ y∈ks,y.length=cs.length)(hs:∀ y∈c,y.length=a.length)
  (k:K (.val (tD cs (Gf cs a ks c))) [⟨.val,tD cs ks⟩,⟨.val,tD a c⟩]) :
  CK cD [⟨.val,tD cs ks⟩,⟨.val,tD a c⟩] K:=by
 have cl:(cmn cs a).length<=20:=oT (length_filter_le _ _) hc;unfold cD;rw[bF];show RS eF [_,_,none,none,none,none] _;unfold eF;walk_at"dx";refine M0 hc d e ?_;walk_at"dx";refine⟨sY _,M4 (so:=cmn cs a) (mo:=[]) hs (by lia) Lz (by simp) (by lia) (by simp) ?_⟩;walk_at"dx";refine lY (so:=cmn cs a) JO (by lia) ?_;walk_at"dx";refine⟨fY (by rw[hB];lia),dH (λb=>c.any λf=>decide (pk a (cmn cs a) f=pk cs (cmn cs a) b)) tI tI ks [_,_,_,_,_,none] rfl (λb h=>?_) ?_⟩
 ·walk_at"dx";refine oN (g b h) JO (by lia) ?_;walk_at"dx";refine O9 (cs:=a) ?_;walk_at"dx"
  try rfl
 ·walk_at"dx";exact⟨by decide,k⟩
def QU(h:RE j Z λx f=>∃d,x=.val d/\JD k f=true/\RE i f λy g=>RD g y λe=>MK k g (λa _=>(JC e d a).map λb=>(b,.non)) [] λ_ c=>Q (.nx c)):RS (Hn k i j) Z Q:=by
 unfold RS Hn;rw[aE];refine bQ h λx Z0=>?_;obtain⟨d,e,n,h⟩:=Z0;rw[e];dsimp only;rw[fI n,aE];refine bQ h λy h=>?_;rw[aE];refine bQ h λe h=>?_;rw[aE];exact(Ju (Q:=λ_ c=>Q (.nx c))).mpr h
def IJ{l:List Str}(a:Qc qs)(nd:l.Nodup)(h:∀z∈l,∃q∈qs,z∈q.2):l.length<=6:=by
 obtain⟨cs,b,hc⟩:=a.cs;rw[← b];exact List.Nodup.length_le_of_subset nd λz c=>let ⟨q,d,e⟩:=h z c;hc q d z e
noncomputable def dI(qs:List (Str×List Str))(z:Str):List Str:=((qs.find? λq=>decide (q.1=z)).map Prod.snd).getD []
def jJ(hn:(qs.map Prod.fst).Nodup)(a:q∈qs):dI qs q.1=q.2:=by
 unfold dI;cases e:qs.find? λp=>decide (p.1=q.1)with
 |none=>exact absurd (List.find?_eq_none.mp e q a) (by simp)
 | some p=>
   have b:=List.find?_some e;have c:=List.mem_of_find?_eq_some e;rw[mP hn c a (by simpa using b)];rfl
def Ao(C:Str->List Str)(T:Str->List (List Int))(a b:Str):Str->List (List Int):=λz=>if z=a then Gf (C a) (C b) (T a) (T b)else T z
def fwd(C:Str->List Str)(l:List (Str×Str))(T:Str->List (List Int)):Str->List (List Int):=l.foldl (λT p=>Ao C T p.2 p.1) T
def Dl(C:Str->List Str)(l:List (Str×Str))(T:Str->List (List Int)):Str->List (List Int):=l.foldl (λT p=>Ao C T p.1 p.2) T
def BW(C:Str->List Str)(l:List (Str×Str))(T:Str->List (List Int)):Str->List (List Int):=Dl C l.reverse (fwd C l T)
def Fp(qs:List (Str×List Str))(T:Str->List (List Int)):Prop:=∀q∈qs,(T q.1).length<=40/\∀r∈T q.1,r.length=q.2.length
def Fp.st(h:Fp qs T):Fp qs (Ao C T a b):=λq c=>by
 unfold Ao;split;rename_i e;rw[← e];exact⟨oT (length_filter_le _ _) (h q c).1,λr d=>(h q c).2 r (List.mem_filter.mp d).1⟩;exact h q c
def EF:List (Str×List Str)->List (Str×Str)->Prop
 |a,[]=>a.length=1
 |a,p::r=>(∃q∈a,q.1=p.1/\∃o∈wot a p.1,o.1=p.2/\∀c∈q.2,c∈aN (wot a p.1)->c∈o.2)/\EF (wot a p.1) r
theorem QV:∀ {es:List (Str×Option Str)} {lft:List (Str×List Str)},sW lft es=true->lft≠[]->(lft.map Prod.fst).Nodup->∃ l z,es=l.map (λp=>(p.1,some p.2))++[(z,none)]/\EF lft l
 | [],lft,h,n,_=>by
   unfold sW at h;exact absurd (List.length_eq_zero_iff.mp (of_decide_eq_true h)) n
 | p::r,lft,h,n,hn=>by
   unfold sW at h;rw[Ej,Co]at h;obtain⟨q,d,e,b⟩:=iK.mp h.1;unfold hold at b;split at b
   ·rename_i h0;rw[Aq]at b;have f:wot lft p.1=[]:=by rw[← e];exact List.length_eq_zero_iff.mp h0
    rw[f]at h;cases r with
    | cons m s=>
      unfold sW at h;have:=h.2;rw[Ej,Co]at this;cases this.1
    | nil=>
      refine⟨[],p.1,by rw[← b];rfl,?_⟩;show lft.length=1;rw[← qE hn ⟨q,d,e⟩,f];rfl
   ·obtain⟨o,a,g⟩:=Bc.mp b;obtain⟨a,ha⟩:=List.mem_filter.mp a;rw[e]at a ha;obtain⟨l,z,i,j⟩:=QV h.2 (λz=>by rw[z]at a;cases a) (IH hn _);refine⟨(p.1,o.1)::l,z,?_,⟨q,d,e,o,a,rfl,λc hc k=>?_⟩,j⟩;rw[i,Bm,List.cons_append];congr 1;exact Prod.ext rfl g.symm;exact of_decide_eq_true (Ds.mp ha c (List.mem_filter.mpr ⟨hc,Dm k⟩))
theorem yZ:∀ {l:List (Str×Str)} {lft:List (Str×List Str)},EF lft l->∀ p∈l,(∃ q∈lft,q.1=p.1)/\∃ q∈lft,q.1=p.2
 | p::r,lft,⟨⟨q,i,j,o,k,m,_⟩,h⟩,x,g=>by
   rcases Aj.mp g with rfl|g;exact⟨⟨q,i,j⟩,o,(gH k).1,m⟩;obtain⟨⟨a,b,c⟩,d,e,f⟩:=yZ h x g;exact⟨⟨a,(gH b).1,c⟩,d,(gH e).1,f⟩
theorem QW{T:Str->List (List Int)}:∀ {qs:List (Str×List Str)},(qs.map Prod.fst).Nodup->∀ {q},q∈qs->oY ((qs.map Prod.fst).map D.str) (qs.map λq=>BV (q.2,T q.1)) q.1=some (BV (q.2,T q.1))
 | p::qs,hn,q,a=>by
   show(if p.1=q.1 then some (BV (p.2,T p.1))else oY ((qs.map Prod.fst).map D.str) (qs.map λq=>BV (q.2,T q.1)) q.1)=_;by_cases e:p.1=q.1;rw[fI e,mP hn sT a e];rw[gX e];rcases Aj.mp a with rfl|h;exact absurd rfl e;exact QW (CD.mp hn).2 h
def IK(hn:(qs.map Prod.fst).Nodup)(a:q∈qs)(k:K (.val (BV (q.2,T q.1)))):dY (DJ (Hs qs T) (.str q.1)) K:=by
 show dY ((oY _ _ _).map hQ.val) K;rw[QW hn a];exact k
def QX(d:qs.length < 4000)(hn:(qs.map Prod.fst).Nodup)(a:q∈qs)(k:K (Hs qs (λz=>if z=q.1 then ks else T z),.non)):dY ((JC (.str q.1) (BV (q.2,ks)) (Hs qs T)).map λb=>(b,D.non)) K:=by
 show dY (((kX ((qs.map Prod.fst).map D.str)).bind _).map _) K;rw[jC];show dY ((if _ then _ else none:Option D).map _) K;rw[fI ⟨Bc.mpr ⟨q,a,rfl⟩,by rw[hB];exact d⟩];have e:Iy q.1 (BV (q.2,ks)) (qs.map Prod.fst) (qs.map λq=>BV (q.2,T q.1))=qs.map λp=>BV (p.2,if p.1=q.1 then ks else T p.1):=by
  unfold Iy;rw[List.zip_map',map_map];refine map_congr_left λp f=>?_;show(if p.1=q.1 then BV (q.2,ks)else BV (p.2,T p.1))=_;by_cases c:p.1=q.1;rw[fI c,fI c,mP hn f a c];rw[gX c,gX c]
 rw[e];exact k
def P0:DF (l++[x]) none (some (-1))=l:=by
 unfold DF PySem.sIx;simp;rw[show(-1+((l.length:Int)+1)).toNat=l.length by lia,take_left]
def LD(h:Qc qs):∃l,EF qs l/\DF ((iJ qs.length qs).map eD) none (some (-1))=l.map λp:Str×Str=>D.tup [.str p.1,.str p.2]:=by
 obtain⟨l,z,e,a⟩:=QV h.sh (λz=>by have:=h.l1;rw[z]at this;cases this) h.nn;refine⟨l,a,?_⟩;rw[e,Bp,map_map];exact P0
abbrev IL(qs:List (Str×List Str))(l:List (Str×Str))(hs:List (List (List Int))):List (List (List Int)):=qs.map λq=>BW (dI qs) l (rw0 qs hs) q.1
def qG(a:Qc qs)(A:hs.length=qs.length)(B:Fp qs (rw0 qs hs))(sl:EF qs l)(cl:DF ((iJ qs.length qs).map eD) none (some (-1))=l.map λp:Str×Str=>D.tup [.str p.1,.str p.2])
  (k:K (.val (hD (IL qs l hs))) [⟨.val,qD qs⟩,⟨.val,hD hs⟩]):CK bX [⟨.val,qD qs⟩,⟨.val,hD hs⟩] K:=by
 have G:=a.l6;have t:=yZ sl;unfold bX;rw[bF];show RS hZ [_,_,none,none,none,none] _;unfold hZ;walk_at"dx";refine O5 a ?_;walk_at"dx";rw[cl];refine O8 a A ?_;walk_at"dx";refine eK (λi τ=>∃f g j m,Fp qs (fwd (dI qs) (l.take i) (rw0 qs hs))/\τ=[_,_,some ⟨.val,.lst (l.map λp:Str×Str=>D.tup [.str p.1,.str p.2])⟩,some ⟨.own,Hs qs (fwd (dI qs) (l.take i) (rw0 qs hs))⟩,ov f g,ov j m]) ⟨false,.non,false,.non,B,rfl⟩ ?_ ?_
 ·rintro i d τ hd ⟨f,g,j,m,tk,rfl⟩;rw[Ar]at hd;obtain⟨p,n,rfl⟩:=Bf.mp hd;obtain⟨⟨q,b,r⟩,o,c,s⟩:=t p (AV n);have u:=(a.qn.2 q b).2;have v:=(a.qn.2 o c).2;obtain⟨x,y⟩:=p;dsimp only at r s;subst r s;walk_at "dx";refine QU ?_;walk_at "dx";refine IK a.nn c ?_;walk_at "dx";refine IK a.nn b ?_;walk_at "dx";refine QR (oT (IJ a (a.cd o c) λz w=>⟨o,c,w⟩) (by decide)) v.2 u.2 (tk _ c).1 (tk _ b).1 (tk _ c).2 (tk _ b).2 ?_;refine⟨_,rfl,rfl,?_⟩;walk_at "dx";refine QX (by lia) a.nn c ?_;walk_at "dx";have e:fwd (dI qs) (l.take (i+1)) (rw0 qs hs)=Ao (dI qs) (fwd (dI qs) (l.take i) (rw0 qs hs)) o.1 q.1:=by
   unfold fwd;rw[← Fo n,foldl_append];rfl
  refine⟨_,.inl rfl,true,.str q.1,true,.str o.1,by rw[e];exact tk.st,?_⟩;rw[e];unfold Ao;rw[jJ a.nn b,jJ a.nn c];rfl
 ·rintro τ ⟨f,g,j,m,tk,rfl⟩;rw[hB,take_length]at *;rw[gQ];walk_at "dx";refine F3 ?_;walk_at "dx";refine⟨_,rfl,?_⟩;rw[← List.map_reverse];have t:∀ p∈l.reverse,(∃ q∈qs,q.1=p.1)/\∃ q∈qs,q.1=p.2:=λp C=>t p (List.mem_reverse.mp C);generalize E:fwd (dI qs) l (rw0 qs hs)=T at tk;refine eK (λi τ=>∃ f g j m,Fp qs (Dl (dI qs) (l.reverse.take i) T)/\τ=[_,_,some ⟨.val,.lst (l.map λp:Str×Str=>D.tup [.str p.1,.str p.2])⟩,some ⟨.own,Hs qs (Dl (dI qs) (l.reverse.take i) T)⟩,ov f g,ov j m]) ⟨f,g,j,m,tk,rfl⟩ ?_ ?_
  ·rintro i d τ hd ⟨f,g,j,m,tk,rfl⟩;rw[Ar]at hd;obtain⟨p,n,rfl⟩:=Bf.mp hd;obtain⟨⟨q,b,r⟩,o,c,s⟩:=t p (AV n);have u:=(a.qn.2 q b).2;have v:=(a.qn.2 o c).2;obtain⟨x,y⟩:=p;dsimp only at r s;subst r s;walk_at "dx";refine QU ?_;walk_at "dx";refine IK a.nn b ?_;walk_at "dx";refine IK a.nn c ?_;walk_at "dx";refine QR (oT (IJ a (a.cd q b) λz w=>⟨q,b,w⟩) (by decide)) u.2 v.2 (tk _ b).1 (tk _ c).1 (tk _ b).2 (tk _ c).2 ?_;refine⟨_,rfl,rfl,?_⟩;walk_at "dx";refine QX (by lia) a.nn b ?_;walk_at "dx";have e:Dl (dI qs) (l.reverse.take (i+1)) T=Ao (dI qs) (Dl (dI qs) (l.reverse.take i) T) q.1 o.1:=by
    unfold Dl;rw[← Fo n,foldl_append];rfl
   refine⟨_,.inl rfl,true,.str q.1,true,.str o.1,by rw[e];exact tk.st,?_⟩;rw[e];unfold Ao;rw[jJ a.nn b,jJ a.nn c];rfl
  ·rintro τ ⟨f,g,j,m,tk,rfl⟩;rw[hB,take_length]at *;rw[gQ];walk_at "dx";refine oO (by lia) ?_;walk_at "dx";refine⟨fY (by rw[hB,hB];lia),?_⟩;rw[map_map];refine bT (λq:Str×List Str=>hT (Dl (dI qs) l.reverse T q.1)) _ qs [_,_,_,_,none,_] rfl (λq h=>?_) ?_;walk_at "dx";refine IK a.nn h ?_;walk_at "dx";walk_at "dx";subst E;have F:D.tup (qs.map λq=>hT (Dl (dI qs) l.reverse (fwd (dI qs) l (rw0 qs hs)) q.1))=hD (IL qs l hs):=by
    show _=D.tup ((qs.map _).map _);rw[map_map];rfl
   rw[F];exact k
noncomputable def gt(cs:List Str)(row:List Int)(z:Str):Int:=row.getD (cs.idxOf z) 0
def JQ(cs so:List Str)(row:List Int):pk cs so row=so.map (gt cs row):=rfl
def JR(h:z∈cs):gt cs (cs.map f) z=f z:=by
 unfold gt;have a:=JN h
 simp_all
def JS{cs:List Str}(nd:cs.Nodup)(a:row.length=cs.length):cs.map (gt cs row)=row:=by
 refine ext_getElem (by simp[a]) λi b c=>?_;unfold gt;have hi:i<cs.length:=by lia
 simp_all
def P1{so:List Str}{f g:Str->Int}(h:so.map f=so.map g):∀z∈so,f z=g z:=List.map_inj_left.mp h
def QY{C:Str->List Str}{T:Str->List (List Int)}(na:(C a).Nodup)(nb:(C b).Nodup)(lb:∀ r∈T b,r.length=(C b).length):(C a).map f∈Gf (C a) (C b) (T a) (T b)↔(C a).map f∈T a/\∃ g,(C b).map g∈T b/\∀ c∈C a,c∈C b->f c=g c:=by
 have h:pk (C a) (cmn (C a) (C b)) ((C a).map f)=(cmn (C a) (C b)).map f:=by
  rw[JQ];exact map_congr_left λc hc=>JR (JO c hc)
 unfold Gf;rw[mem_filter,h];refine and_congr_right λ_=>?_;rw[List.any_eq_true];constructor;rintro⟨r,d,e⟩;have e:=of_decide_eq_true e;rw[JQ]at e;refine⟨gt (C b) r,by rw[JS nb (lb r d)];exact d,λc i j=>?_⟩;exact(P1 e c (List.mem_filter.mpr ⟨i,by simpa using j⟩)).symm;rintro⟨g,k,e⟩;refine⟨_,k,Dm ?_⟩;rw[JQ];refine map_congr_left λc hc=>?_;rw[JR (Lz c hc)];exact(e c (JO c hc) (Lz c hc)).symm
def LF:(Ao C T a b z).Sublist (T z):=by
 unfold Ao;split;rename_i e;rw[e];exact List.filter_sublist;exact .refl _
theorem QZ:∀{l:List (Str×Str)} {T:Str->List (List Int)},(fwd C l T z).Sublist (T z)
 |[],_=>.refl _
 |p::l,T=>(QZ (T:=Ao _ T p.2 p.1)).trans LF
theorem Ra:∀{l:List (Str×Str)} {T:Str->List (List Int)},(Dl C l T z).Sublist (T z)
 |[],_=>.refl _
 |p::l,T=>(Ra (T:=Ao _ T p.1 p.2)).trans LF
def JT:(BW C l T z).Sublist (T z):=Ra.trans QZ
def LG(h:r∈Ao C T a b z):r∈T z:=LF.subset h
def zA(h:r∈BW C l T z):r∈T z:=JT.subset h
theorem Rb:∀ {l:List (Str×Str)} {T:Str->List (List Int)},(∀ p∈l,p.1≠z/\p.2≠z)->fwd C l T z=T z
 |[],_,_=>rfl
 | p::l,T,h=>by
   have:fwd C l (Ao C T p.2 p.1) z=Ao C T p.2 p.1 z:=Rb λx a=>h x (Ah _ a);refine this.trans ?_;unfold Ao;rw[gX (h p sT).2.symm]
theorem Rc:∀ {l:List (Str×Str)} {T:Str->List (List Int)},(∀ p∈l,p.1≠z/\p.2≠z)->Dl C l T z=T z
 |[],_,_=>rfl
 | p::l,T,h=>by
   have:Dl C l (Ao C T p.1 p.2) z=Ao C T p.1 p.2 z:=Rc λx a=>h x (Ah _ a);refine this.trans ?_;unfold Ao;rw[gX (h p sT).1.symm]
def P2(h:∀p∈l,p.1≠z/\p.2≠z):BW C l T z=T z:=(Rc λp a=>h p (List.mem_reverse.mp a)).trans (Rb h)
def P4:BW C (p::l) T=Ao C (BW C l (Ao C T p.2 p.1)) p.1 p.2:=by
 unfold BW Dl;rw[List.reverse_cons,foldl_append];rfl
def Ec(qs:List (Str×List Str))(T:Str->List (List Int))(F:Str->Int):Prop:=∀p∈qs,p.2.map F∈T p.1
open Classical in
theorem Rf:∀ {l:List (Str×Str)} {lft:List (Str×List Str)} {T:Str->List (List Int)},EF lft l->(lft.map Prod.fst).Nodup->(∀ q∈lft,C q.1=q.2/\q.2.Nodup/\∀ r∈T q.1,r.length=q.2.length) ->
  ∀q∈lft,∀f,q.2.map f∈BW C l T q.1↔∃F,Ec lft T F/\∀c∈q.2,F c=f c
 | [],lft,T,hs,hn,Q,q,E,f=>by
   obtain⟨x,rfl⟩:=List.length_eq_one_iff.mp (show lft.length=1 from hs);obtain rfl:=Aq.mp E;constructor;intro h;exact⟨f,λp i=>by rw[Aq.mp i];exact h,λ_ _=>rfl⟩;rintro⟨F,h,e⟩;have:=h q E;rwa[map_congr_left e]at this
 | (n,h)::l,lft,T,⟨⟨d,t,W,o,G,X,ear⟩,hl⟩,hn,Q,q,E,f=>by
   dsimp only at W X ear hl G;subst W X;obtain⟨H,U⟩:=gH G;obtain⟨I,Y,l1⟩:=Q d t;obtain⟨J,σ,l2⟩:=Q o H;have kin:∀{p:Str×List Str},p∈lft->p.1=d.1\/p∈wot lft d.1:=λ{p} i=>by
    by_cases c:p.1=d.1;exact .inl c;exact .inr (LC i c)
   have u:∀{k:Str->List (List Int)} {f:Str->Int},(∀z r,r∈k z->r∈T z)->(o.2.map f∈Gf (C o.1) (C d.1) (k o.1) (k d.1)↔o.2.map f∈k o.1/\∃g,d.2.map g∈k d.1/\∀c∈o.2,c∈d.2->f c=g c):=λ{k f} s=>by
    have:=QY (C:=C) (T:=k) (a:=o.1) (b:=d.1) (f:=f) (by rw[J];exact σ) (by rw[I];exact Y) λr K=>by rw[I];exact l1 r (s _ r K)
    rw[I,J]at this ⊢;exact this
   have w:∀{k:Str->List (List Int)} {f:Str->Int},(∀z r,r∈k z->r∈T z)->(d.2.map f∈Gf (C d.1) (C o.1) (k d.1) (k o.1)↔d.2.map f∈k d.1/\∃g,o.2.map g∈k o.1/\∀c∈d.2,c∈o.2->f c=g c):=λ{k f} s=>by
    have:=QY (C:=C) (T:=k) (a:=d.1) (b:=o.1) (f:=f) (by rw[I];exact Y) (by rw[J];exact σ) λr K=>by rw[J];exact l2 r (s _ r K)
    rw[I,J]at this ⊢;exact this
   have v:∀{F g:Str->Int},(∀p∈wot lft d.1,p.2.map F∈T p.1)->d.2.map g∈T d.1->(∀c∈d.2,c∈o.2->F c=g c)->Ec lft T (λc=>if c∈aN (wot lft d.1)then F c else g c):=λ{F g} A h2 h3 p i=>by
    rcases kin i with e|L;rw[mP hn i t e];rw[map_congr_left (g:=g) λc hc=>?_];exact h2;by_cases j:c∈aN (wot lft d.1);rw[fI j];exact h3 c hc (ear c hc j);rw[gX j];rw[map_congr_left (g:=F) λc hc=>fI (cO.mpr ⟨p,L,hc⟩)];exact A p L
   have M:∀z,z≠o.1->Ao C T o.1 d.1 z=T z:=λz hz=>by unfold Ao;rw[gX hz]
   have N:∀{S:List Str} {f:Str->Int},(∀c∈S,c∈aN (wot lft d.1))->((∃F,Ec (wot lft d.1) (Ao C T o.1 d.1) F/\∀c∈S,F c=f c)↔∃F,Ec lft T F/\∀c∈S,F c=f c):=λ{S f} hS=>by
    constructor;rintro⟨F,m,e⟩;have A:=m o G;unfold Ao at A;rw[fI rfl]at A;obtain⟨_,g,V,R⟩:=(u λ_ _ h=>h).mp A;exact⟨_,v (λp i=>LG (m p i)) V λc a b=>R c b a,λc hc=>by rw[fI (hS c hc)];exact e c hc⟩;rintro⟨F,m,e⟩;refine⟨F,λp i=>?_,e⟩;have B:=(gH i).1;by_cases c:p.1=o.1;obtain rfl:=mP hn B H c;unfold Ao;rw[fI rfl];exact(u λ_ _ h=>h).mpr ⟨m p B,F,m d t,λ_ _ _=>rfl⟩;rw[M _ c];exact m p B
   have ih:=Rf (C:=C) (T:=Ao C T o.1 d.1) hl (IH hn _) λp i=>by
    obtain⟨x,y,z⟩:=Q p (gH i).1;exact⟨x,y,λr K=>z r (LG K)⟩
   have D:∀p∈wot lft d.1,∀f,p.2.map f∈BW C l (Ao C T o.1 d.1) p.1↔∃F,Ec lft T F/\∀c∈p.2,F c=f c:=λp i f=>(ih p i f).trans (N λc hc=>cO.mpr ⟨p,i,hc⟩);rw[P4];dsimp only;rcases kin E with e|π
   ·obtain rfl:=mP hn E t e;have out:BW C l (Ao C T o.1 q.1) q.1=T q.1:=by
     rw[P2 λp i=>?_,M _ (iA U)];obtain⟨⟨x,x1,x2⟩,y,y1,y2⟩:=yZ hl p i;exact⟨by rw[← x2];exact(gH x1).2,by rw[← y2];exact(gH y1).2⟩
    rw[show Ao C (BW C l (Ao C T o.1 q.1)) q.1 o.1 q.1=Gf (C q.1) (C o.1) (BW C l (Ao C T o.1 q.1) q.1) (BW C l (Ao C T o.1 q.1) o.1) by unfold Ao;rw[fI rfl],w λz r h=>LG (zA h),out];constructor;rintro⟨A,g,V,R⟩;obtain⟨F,m,P⟩:=(D o G g).mp V;refine⟨_,v (g:=f) (λp i=>m p (gH i).1) A λc a b=>(P c b).trans (R c a b).symm,λc hc=>?_⟩;by_cases j:c∈aN (wot lft q.1);rw[fI j,P c (ear c hc j),R c hc (ear c hc j)];rw[gX j];rintro⟨F,m,P⟩;refine⟨?_,F,(D o G F).mpr ⟨F,m,λ_ _=>rfl⟩,λc hc _=>(P c hc).symm⟩;rw[← map_congr_left P];exact m q E
   ·rw[show Ao C (BW C l (Ao C T o.1 d.1)) d.1 o.1 q.1=BW C l (Ao C T o.1 d.1) q.1 by unfold Ao;rw[gX (gH π).2]];exact D q π f
noncomputable def Rg(r:Option D)(z:hQ):hQ:=match r with
 |some v=>.val v
 |none=>z
def P5(h:RE i Z λx b=>RD b x λg=>Li g=true/\RE j b λy c=>RE f c λz a=>RD a x λd=>RD a y λe=>∃r,Ll d e=some r/\Q (Rg r z) a):RE (ID i j f) Z Q:=by
 obtain⟨⟨x,b⟩,k,h⟩:=cU.mp h;obtain⟨g,l,h0,h⟩:=cU.mp h;obtain⟨⟨y,c⟩,m,h⟩:=cU.mp h;obtain⟨⟨z,a⟩,n,h⟩:=cU.mp h;obtain⟨d,o,h⟩:=cU.mp h;obtain⟨e,p,r,q,h⟩:=cU.mp h;refine cU.mpr ⟨(Rg r z,a),?_,h⟩;unfold ID;rw[k];show(rd b x).bind _=_;rw[l];show(if Li g=true then _ else none)=_;rw[fI h0,m];show(f c).bind _=_;rw[n];show(rd a x).bind _=_;rw[o];show(rd a y).bind _=_;rw[p];show(Ll d e).bind _=_;rw[q];rfl
def P6{cs:List Int}:dY (oE [.lst (cs.map D.int),.tup m]) K=((cs.length=m.length/\cs.length<4000/\cs.Nodup)/\K (.own (.dic (cs.map D.int) m))):=by
 show dY ((lT (cs.map D.int)).bind _) K=_;rw[show cs.map D.int=(cs.map (Sum.inl:Int->Key)).map iQ by rw[map_map];rfl,iC];show dY (if _ then _ else none) K=_;rw[aO,hB];congr 2;rw[Eg,List.pairwise_map,Eg];simp
noncomputable abbrev oI:Option Int->D
 |none=>.non
 |some v=>.int v
abbrev pD(cs:List Str)(φ:Str->Option Int):D:=.tup (cs.map λc=>oI (φ c))
noncomputable def Gg(φ:Str->Option Int)(own:List Str)(g:Str->Int):Bool:=own.all λc=>decide (φ c=none\/φ c=some (g c))
noncomputable def Ed(φ:Str->Option Int)(own:List Str)(g:Str->Int):Str->Option Int:=λc=>if c∈own then some (g c)else φ c
def CU(own:List Str)(ks:List (List Int))(φ:Str->Option Int):List (Str->Option Int):=(ks.filter λr=>Gg φ own (gt own r)).map λr=>Ed φ own (gt own r)
def ext(own:List Str)(ks:List (List Int))(fs:List (Str->Option Int)):List (Str->Option Int):=fs.flatMap (CU own ks)
def Rh:(CU own ks φ).length<=ks.length:=by
 unfold CU;rw[hB];exact length_filter_le _ _
def Ri(fs:List (Str->Option Int)):(ext own ks fs).length<=fs.length*ks.length:=by
 induction fs with
 |nil=>simp[ext]
 | cons f fs a=>
   have:=Rh (own:=own) (ks:=ks) (φ:=f);unfold ext at *;rw[List.flatMap_cons,AO,Ek,Nat.succ_mul];lia
def P7{cs:List Str}{φ:Str->Option Int}(h:c∈cs):atI (cs.map λc=>oI (φ c)) ((cs.idxOf c:Nat):Int)=some (oI (φ c)):=by
 have hi:=JN h;rw[Ly (by rw[hB];exact hi),Ar,nL hi,getElem_idxOf];rfl
def P8(o:Option Int):Ok 0 (oI o):=by cases o with|none=>exact .non|some v=>exact .int
def P9(k:K (.val (.bl (decide (o=none\/o=some v))))):dY (Be false (oI o) (.tup [.non,.int v])) K:=by
 refine E1 (n:=0) (m:=0) (P8 o) (λx a=>?_) (by decide) (by decide) ?_;simp only[mem_cons,not_mem_nil,or_false]at a;rcases a with rfl|rfl;exact .non;exact .int;rw[show decide (oI o∈[D.non,D.int v])=decide (o=none\/o=some v) by
  cases o with
  |none=>simp
  |some w=>rw[FA,Co,Co];simp]
 exact k
theorem Rj{g:Str->Int}{cs:List Str}(hn:cs.Nodup):∀ {o:List Str},(∀ c∈o,c∈cs)->∀ {j:Nat} (hj:j < cs.length),Fm (o.map λc=>.int (cs.idxOf c:Nat)) (o.map λc=>.int (g c)) (j:Int)=some (if cs[j]∈o then some (.int (g cs[j]))else none)
 |[],_,j,hj=>by simp[Fm]
 | c::o,h,j,hj=>by
   show(if((cs.idxOf c:Nat):Int)=(j:Int)then some (some (D.int (g c)))else Fm (o.map λc=>.int (cs.idxOf c:Nat)) (o.map λc=>.int (g c)) (j:Int))=_;have hc:=h c sT;by_cases e:cs.idxOf c=j;subst e;rw[fI rfl,getElem_idxOf,fI sT];rw[gX (by lia),Rj hn (λc hc=>h c (Ah _ hc)) hj];have:cs[j]≠c:=λa=>e (by rw[← a,hn.idxOf_getElem]);congr 1;by_cases m:cs[j]∈o;rw[fI m,fI (Ah _ m)];rw[gX m,gX (λh=>by rcases Aj.mp h with h|h;exact this h;exact m h)]
theorem wA{a:Type}{f g:a->D}:∀ {l:List a},yA (l.map f) (l.map g)=l.map λx=>D.tup [f x,g x]
 |[]=>rfl
 | x::l=>by
   show D.tup [f x,g x]::yA (l.map f) (l.map g)=_;rw[wA];rfl
local macro_rules | `(tactic|walk_at"dy")=>do
 let l:=("Oh ND NF NG sN sO sP F5 vU vT PX Np uK uL uM uN Nq Nr uO Nt uP uQ Nu nT Nv rA rB rC Nw Nx KL Ny Nz NA NB NC rD pO gQ rE NI NJ uR NK NL NM Ox uT uU rF NO NP NQ NR KN nU kW nV rG NZ Oa Ob rR KP Od rL kY Oe rM Of Og aW NW NX rH reduceIte rY Py".splitOn " ").toArray.map fun s=>Lean.mkIdent s.toName
 let m:=("Qb Qd PY PZ Qa Int.reducePow Int.reduceNeg Int.reduceLT Int.reduceLE Nat.reducePow Nat.reduceLT Int.reduceToNat Nat.reduceLeDiff Oo Oj Ol Om rJ rK PR List.getElem?_cons_succ List.getElem?_cons_zero Option.getD_some List.set_cons_zero List.set_cons_succ eG Ez Nat.reduceEqDiff List.length_cons List.length_nil Nat.reduceAdd Nat.zero_add true_and and_true and_self Bool.not_true Bool.false_eq_true Bool.true_and Bool.and_true Bool.or_false Qe Qg Qi Qj".splitOn " ").toArray.map fun s=>Lean.mkIdent s.toName
 `(tactic|simp -implicitDefEqProofs only[$[↓$l:ident],*,$[$m:ident],*])
def Rk:∀ {qs:List (Str×List Str)},(∀ q∈qs,q.2.Nodup)->(aN qs).Nodup:=by
 intro qs;have c:∀ n,∀ qs:List (Str×List Str),qs.length=n->(∀ q∈qs,q.2.Nodup)->(aN qs).Nodup:=by
  intro n
  induction n with
  |zero=>intro qs h _;rw[List.length_eq_zero_iff.mp h];exact .nil
  | succ n d=>
    intro qs h hd;rcases eq_nil_or_concat qs with e|⟨l,q,e⟩;rw[e]at h;cases h;rw[concat_eq_append]at e;subst e;rw[qA];refine List.nodup_append.mpr ⟨d l (by simpa using h) λq f=>hd q (Fw _ f),(hd q (by simp)).sublist List.filter_sublist,λa ha b hb e=>?_⟩;have:=(List.mem_filter.mp hb).2;rw[← e]at this;simp[ha]at this
 exact c _ qs rfl
def Q0{c:Type}{l:List c}{a b:c}[BEq c][LawfulBEq c](ha:a∈l)(hb:b∈l)(h:l.idxOf a=l.idxOf b):a=b:=by
 have d:=getElem_idxOf (List.idxOf_lt_length_of_mem ha);have e:=getElem_idxOf (List.idxOf_lt_length_of_mem hb);rw[← d,← e];simp only[h]
def Rl:pm (k::hs)=max 1 k.length*pm hs:=rfl
def Q1(h:l.Sublist m):pm l<=pm m:=by
 induction h with
 |slnil=>simp
 |cons k _ a=>rw[Rl];exact oT a (Nat.le_mul_of_pos_left _ (by lia))
 |cons_cons k _ a=>exact Nat.mul_le_mul_left _ a
abbrev Qh:=(Str×List Str)×List (List Int)
def fsA(l:List Qh):List (Str->Option Int):=l.foldl (λfs p=>ext p.1.2 p.2 fs) [λ_=>none]
def Rm:fsA (l++[p])=ext p.1.2 p.2 (fsA l):=by unfold fsA;rw[foldl_append];rfl
def zB(l:List Qh):∀fs:List (Str->Option Int),(l.foldl (λfs p=>ext p.1.2 p.2 fs) fs).length<=fs.length*pm (l.map Prod.snd):=by
 induction l with
 |nil=>intro fs;simp[pm]
 | cons p l a=>
   intro fs;rw[foldl_cons,Bm,Rl];refine oT (a _) ?_;rw[← mul_assoc];exact Nat.mul_le_mul_right _ (oT (Ri fs) (Nat.mul_le_mul_left _ (by lia)))
def Q2(t:Qc qs)(F:Ho qs hs)
   (er:(fsA (qs.zip hs)).map (pD (aN qs))=s.map tI) (Y:∀r∈s,r.length=(aN qs).length) (k:K (.own (.lst ((Aa s).map tI))) [⟨.val,qD qs⟩,⟨.val,hD hs⟩]):CK cJ [⟨.val,qD qs⟩,⟨.val,hD hs⟩] K:=by
 have h6:=t.l6;have hl:=F.l;have c6:(aN qs).length<=6:=IJ t (Rk t.cd) λz G=>cO.mp G;have J:∀ (i:Nat) {p:Qh},(qs.zip hs)[i]? = some p->(fsA ((qs.zip hs).take i)).length*p.2.length<=3000:=λi {p} C=>by
  have u:=zB ((qs.zip hs).take i) [λ_=>none];rw[length_singleton,one_mul]at u;have v:pm (((qs.zip hs).take (i+1)).map Prod.snd)<=3000:=by
   refine oT (Q1 ?_) F.p;refine((take_sublist _ _).map Prod.snd).trans ?_;rw[map_snd_zip (by lia)];exact List.Sublist.refl _
  rw[← Fo C,Bp,List.map_singleton,Qz]at v;exact oT (Nat.mul_le_mul u (by lia)) v
 have c1:1<=(aN qs).length:=by
  cases e:qs with
  |nil=>rw[e]at t;exact absurd t.l1 (by decide)
  | cons q r=>
    have hm:q∈qs:=by rw[e];exact sT
    obtain⟨z,G⟩:=List.exists_mem_of_ne_nil _ (t.ne q hm);rw[← e];exact List.length_pos_of_mem (cO.mpr ⟨q,hm,G⟩)
 have H:=Rk t.cd;have I:∀q∈qs,∀c∈q.2,c∈aN qs:=λq t c hc=>cO.mpr ⟨q,t,hc⟩;unfold cJ;rw[bF];show RS cW [_,_,none,none,none,none,none,none,none,none,none,none,none,none,none] _;unfold cW;walk_at"dy";refine kH t.qn ?_;walk_at"dy";generalize aN qs=cs at er Y c6 c1 H I ⊢;rw[p1,hB];refine⟨by decide,⟨by lia,by lia⟩,?_⟩;rw[toNat_natCast,show D.tup (replicate cs.length D.non)=pD cs (λ_=>none) by rw[← List.map_const']];walk_at"dy";refine⟨by decide,by rw[hB,hB,hl],?_⟩;rw[tE];refine eK (λi y=>∃M N π A h P Q R B n S T f,y=[some ⟨.val,qD qs⟩,some ⟨.val,hD hs⟩,some ⟨.own,.lst (cs.map D.str)⟩,some ⟨.val,.lst ((fsA ((qs.zip hs).take i)).map (pD cs))⟩,ov M P,ov N Q,ov π R,fo S,fo T,ov A B,ov h n,fo f,none,none,none])
  ⟨false,false,false,false,false,.non,.non,.non,.non,.non,none,none,none,rfl⟩ ?_ ?_
 ·rintro i d y hd ⟨M,N,π,A,h,P,Q,R,B,n,S,T,f,rfl⟩;obtain⟨⟨q,ks⟩,C,rfl⟩:=kD hd;have E:q∈qs:=(of_mem_zip (AV C)).1;have J:=J i C;have nd:=t.cd q E;have q6:q.2.length<=6:=IJ t nd λz G=>⟨q,E,G⟩;have o:∀ c∈q.2,c∈cs:=I q E;have U:∀ r∈ks,r.length=q.2.length:=by
   obtain⟨u,v⟩:=List.getElem?_zip_eq_some.mp C;exact λr U=>((F.w i q ks u v).1 r U).1
  generalize V:fsA ((qs.zip hs).take i)=fs at J;walk_at"dy";refine⟨fY (by rw[hB];lia),bT (λc=>.int (cs.idxOf c:Nat)) D.str q.2 [_,_,_,_,_,_,_,_,_,_,_,_,none,none,none] rfl (λc hc=>?_) ?_⟩;walk_at"dy";exact o c hc
  walk_at"dy";refine⟨sY _,?_⟩;refine eK (λj y=>∃A h B n f,y=[_,_,_,_,_,_,_,_,some ⟨.own,.lst (((fs.take j).flatMap (CU q.2 ks)).map (pD cs))⟩,ov A B,ov h n,fo f,none,none,none]) ⟨A,h,B,n,f,rfl⟩ ?_ ?_
  ·rintro j d y hd ⟨A,h,B,n,f,rfl⟩;obtain⟨φ,hj,rfl⟩:=kD hd;have lj:((fs.take j).flatMap (CU q.2 ks)).length<=3000:=by
    refine oT (Ri (fs.take j)) (oT (Nat.mul_le_mul_right _ ?_) J);exact List.length_take_le' _ _
   have kl:ks.length<=40:=((List.getElem?_zip_eq_some.mp C).elim λu v=>(F.w i q ks u v).2.2);generalize hL:(fs.take j).flatMap (CU q.2 ks)=L at lj;walk_at"dy";refine eK (λm y=>∃h n f,y=[_,_,_,_,_,_,_,_,some ⟨.own,.lst ((L++CU q.2 (ks.take m) φ).map (pD cs))⟩,some ⟨.val,pD cs φ⟩,ov h n,fo f,none,none,none]) ⟨h,n,f,by rw[show CU q.2 (ks.take 0) φ=[]from rfl,Dw]⟩ ?_ ?_
   ·rintro m d y hd ⟨h,n,f,rfl⟩;obtain⟨r,hm,rfl⟩:=kD hd;have el:(L++CU q.2 (ks.take m) φ).length<=3040:=by
     have u:=Rh (own:=q.2) (ks:=ks.take m) (φ:=φ);have v:=List.length_take_le' m ks;rw[AO];lia
    have es:CU q.2 (ks.take (m+1)) φ=CU q.2 (ks.take m) φ++if Gg φ q.2 (gt q.2 r)=true then[Ed φ q.2 (gt q.2 r)]else[]:=by
     unfold CU;rw[← Fo hm,List.filter_append,Bp];congr 1;by_cases c:Gg φ q.2 (gt q.2 r)=true;rw[fI c,List.filter_cons_of_pos (p:=λr=>Gg φ q.2 (gt q.2 r)) c];rfl;rw[gX c,List.filter_cons_of_neg (p:=λr=>Gg φ q.2 (gt q.2 r)) c];rfl
    have er:tI r=.tup (q.2.map λc=>.int (gt q.2 r c)):=by
     conv=>lhs;rw[← JS nd (U r (AV hm))]
     show D.tup (List.map _ (List.map _ _))=_;rw[map_map];rfl
    generalize gt q.2 r=g at es er;rw[er,es];walk_at"dy";refine⟨by rw[hB,hB],?_⟩;rw[wA];refine⟨fY (by rw[hB];lia),Qs (λc=>D.tup [.int (cs.idxOf c:Nat),.int (g c)]) (λc=>decide (φ c=none\/φ c=some (g c))) q.2 (λc hc=>?_) ?_⟩
    ·walk_at"dy";rw[P7 (o c hc)];walk_at"dy";refine⟨sl2,P9 ?_⟩
     first|exact⟨rfl,rfl⟩|rfl
    walk_at"dy";rw[Qt,show(q.2.all λc=>decide (φ c=none\/φ c=some (g c)))=Gg φ q.2 g from rfl];by_cases c:Gg φ q.2 g=true
    ·rw[fI c,fI c];have W:(q.2.map λc=>((cs.idxOf c:Nat):Int)).Nodup:=List.pairwise_map.mpr (nd.imp_of_mem λ{a b} ha hb X e=>X (Q0 (o a ha) (o b hb) (by lia)));have σ:(q.2.map λc=>D.int (cs.idxOf c:Nat))=(q.2.map λc=>((cs.idxOf c:Nat):Int)).map D.int:=by rw[map_map];rfl
     rw[σ,P6,← σ];refine⟨⟨by rw[hB,hB],by rw[hB];lia,W⟩,?_⟩;walk_at"dy";rw[hB];refine⟨⟨by lia,by lia⟩,?_⟩;refine⟨fY (by rw[cN];lia),bT (λj=>oI (Ed φ q.2 g (cs.getD j default))) (λj:Nat=>.int (0+(j:Int))) (range cs.length) [_,_,_,_,_,_,_,_,_,_,_,_,none,none,none] rfl (λj hj=>?_) ?_⟩
     ·have hj:=Cr.mp hj;walk_at "dy";refine P5 ?_;walk_at "dy";refine⟨rfl,?_⟩;rw[show(0+(j:Int))=(j:Int) by lia];have hg:cs[j]? = some cs[j]:=nL hj;refine pB (x:=oI (φ cs[j])) (by rw[Ly (by rw[hB];exact hj),Ar,hg];rfl) ?_;refine⟨_,Rj (H) o hj,?_⟩;have hd:cs.getD j default=cs[j]:=by rw[Dq,hg];rfl
      rw[hd];unfold Ed;by_cases m:cs[j]∈q.2
      ·rw[fI m,fI m];show FK (.val (.int _)) _ _;walk_at"dy"
       try exact⟨rfl,rfl⟩
      ·rw[gX m,gX m];show FK (.val _) _ _;walk_at"dy"
       try exact⟨rfl,rfl⟩
     walk_at"dy";have e9:(range cs.length).map (λj=>oI (Ed φ q.2 g (cs.getD j default)))=cs.map λc=>oI (Ed φ q.2 g c):=by
      refine ext_getElem (by simp) λj u v=>?_;rw[getElem_map,getElem_map,List.getElem_range,Dq,nL (by simpa using v)];rfl
     rw[e9];refine⟨DU (by rw[hB];exact el:_<=3040) (by decide),_,.inl rfl,true,.tup (q.2.map λc=>.int (g c)),some (true,.dic (q.2.map λc=>D.int (cs.idxOf c:Nat)) (q.2.map λc=>.int (g c))),?_⟩;rw[← append_assoc,Bp (l₂:=[Ed φ q.2 g])];rfl
    ·rw[gX c,gX c,Dw];exact⟨_,.inl rfl,true,_,f,rfl⟩
   ·rintro y ⟨h,n,f,rfl⟩;rw[hB,take_length];refine⟨_,.inl rfl,true,h,pD cs φ,n,f,?_⟩;rw[← Fo hj,List.flatMap_append,List.flatMap_singleton,hL];rfl
  ·rintro y ⟨A,h,B,n,f,rfl⟩;rw[hB,take_length];rw[gQ];walk_at"dy";refine⟨_,.inl rfl,true,true,true,A,h,.str q.1,.tup (q.2.map D.str),hT ks,B,n,some (true,.lst (q.2.map λc=>D.int (cs.idxOf c:Nat))),some (false,.lst ((fs.flatMap (CU q.2 ks)).map (pD cs))),f,?_⟩;rw[← Fo C,Rm,V];rfl
 ·rintro y ⟨M,N,π,A,h,P,Q,R,B,n,S,T,f,rfl⟩;rw[hB,take_length];rw[gQ];walk_at "dy";have ll:s.length<=3000:=by
   have u:=zB (qs.zip hs) [λ_=>none];rw[length_singleton,one_mul,map_snd_zip (by lia)]at u;have v:=Cq List.length er;rw[hB,hB]at v;have h3:=F.p;have h4:(fsA (qs.zip hs)).length<=pm hs:=u;lia
  rw[er];walk_at"dy";exact⟨⟨by lia,yW Y⟩,k⟩
def Ht(l:List Qh)(F:Str->Int):Prop:=∀p∈l,p.1.2.map F∈p.2
def Cv(l:List Qh)(c:Str):Prop:=∃p∈l,c∈p.1.2
def LH(l:List Qh)(F:Str->Int)(φ:Str->Option Int):Prop:=∀c,(Cv l c->φ c=some (F c))/\(¬Cv l c->φ c=none)
def Ro:Ht (l++[p]) F↔Ht l F/\p.1.2.map F∈p.2:=by
 unfold Ht;simp only[mem_append,mem_singleton];exact⟨λh=>⟨λx a=>h x (.inl a),h p (.inr rfl)⟩,λh x a=>a.elim (h.1 x) λe=>e▸h.2⟩
def Rq:Cv (l++[p]) c↔Cv l c\/c∈p.1.2:=by
 unfold Cv;simp only[mem_append,mem_singleton];exact⟨λ⟨x,h,e⟩=>h.elim (λh=>.inl ⟨x,h,e⟩) λh=>.inr (h▸e),λh=>h.elim (λ⟨x,h,e⟩=>⟨x,.inl h,e⟩) λe=>⟨p,.inr rfl,e⟩⟩
open Classical in
def Rr:∀ (n:Nat) (l:List Qh),l.length=n->(∀ p∈l,p.1.2.Nodup/\∀ r∈p.2,r.length=p.1.2.length)->(∀ φ∈fsA l,∃ F,Ht l F/\LH l F φ)/\∀ F,Ht l F->∃ φ∈fsA l,LH l F φ:=by
 intro n
 induction n with
 | zero=>
   intro l h _;obtain rfl:=List.length_eq_zero_iff.mp h;have no:∀c,¬Cv [] c:=λc ⟨p,a,_⟩=>nomatch a;exact⟨λφ b=>⟨λ_=>0,(λp a=>nomatch a),λc=>⟨λh=>absurd h (no c),λ_=>by rw[Aq.mp b]⟩⟩,λF _=>⟨λ_=>none,Aq.mpr rfl,λc=>⟨λh=>absurd h (no c),λ_=>rfl⟩⟩⟩
 | succ n u=>
   intro l h k;rcases eq_nil_or_concat l with e|⟨l,⟨q,ks⟩,e⟩;rw[e]at h;cases h
   rw[concat_eq_append]at e;subst e;obtain⟨v,w⟩:=u l (by simpa using h) λp a=>k p (Fw _ a);obtain⟨nd,o⟩:=k (q,ks) (by simp);dsimp only at nd o;rw[Rm];dsimp only;constructor
   ·intro x b;obtain⟨φ,j,d⟩:=List.mem_flatMap.mp b;obtain⟨r,i,rfl⟩:=Bc.mp d;obtain⟨i,y⟩:=List.mem_filter.mp i;obtain⟨F,f,fit⟩:=v φ j;have er:=JS nd (o r i);refine⟨λc=>if c∈q.2 then gt q.2 r c else F c,Ro.mpr ⟨λp a=>?_,?_⟩,λc=>?_⟩
    ·rw[map_congr_left (g:=F) λc hc=>?_];exact f p a;by_cases m:c∈q.2;rw[fI m];have:=of_decide_eq_true (Ds.mp y c m);rw[(fit c).1 ⟨p,a,hc⟩]at this;rcases this with e|e;cases e;exact(Ap e).symm;rw[gX m]
    ·dsimp only;rw[map_congr_left (g:=gt q.2 r) λc hc=>fI hc,er];exact i
    ·rw[Rq];dsimp only;unfold Ed;by_cases m:c∈q.2;rw[fI m,fI m];exact⟨λ_=>rfl,λh=>absurd (.inr m) h⟩;rw[gX m,gX m];exact⟨λh=>(fit c).1 (h.resolve_right m),λh=>(fit c).2 λd=>h (.inl d)⟩
   ·intro F f;obtain⟨f,s⟩:=Ro.mp f;obtain⟨φ,j,fit⟩:=w F f;dsimp only at s;have t:∀c∈q.2,gt q.2 (q.2.map F) c=F c:=λc hc=>JR hc;refine⟨Ed φ q.2 (gt q.2 (q.2.map F)),List.mem_flatMap.mpr ⟨φ,j,Bc.mpr ⟨_,List.mem_filter.mpr ⟨s,Ds.mpr λc hc=>Dm ?_⟩,rfl⟩⟩,λc=>?_⟩;rw[t c hc];by_cases m:Cv l c;exact .inr ((fit c).1 m);exact .inl ((fit c).2 m);rw[Rq];dsimp only;unfold Ed;by_cases m:c∈q.2;rw[fI m,t c m];exact⟨λ_=>rfl,λh=>absurd (.inr m) h⟩;rw[gX m];exact⟨λh=>(fit c).1 (h.resolve_right m),λh=>(fit c).2 λd=>h (.inl d)⟩
def Rt(hn:(qs.map Prod.fst).Nodup)(c:hs.length=qs.length):Ht (qs.zip hs) F↔Ec qs (rw0 qs hs) F:=by
 constructor;intro h q a;obtain⟨i,hi,rfl⟩:=BY a;have:=h (qs[i],hs[i]) (List.mem_iff_getElem.mpr ⟨i,by rw[length_zip];lia,by rw[getElem_zip]⟩);rw[vZ hn (nL hi),Dq,nL (by lia)];exact this;intro h p b;obtain⟨i,hi,rfl⟩:=BY b;rw[length_zip]at hi;rw[getElem_zip];have:=h qs[i] (DW (by lia));rw[vZ hn (nL (by lia)),Dq,nL (by lia)]at this;exact this
def lK(qs:List (Str×List Str))(hs:List (List (List Int))):List (List Int):=(fsA (qs.zip hs)).map λφ=>(aN qs).map λc=>(φ c).getD 0
def Ru(b:Qc qs)(c:Ho qs hs):∀p∈qs.zip hs,p.1.2.Nodup/\∀r∈p.2,r.length=p.1.2.length:=λp a=>by
 obtain⟨i,hi⟩:=getElem?_of_mem a;obtain⟨d,e⟩:=List.getElem?_zip_eq_some.mp hi;exact⟨b.cd _ (of_mem_zip a).1,λr f=>((c.w i _ _ d e).1 r f).1⟩
def Rv(b:hs.length=qs.length)(h:c∈aN qs):Cv (qs.zip hs) c:=by
 obtain⟨q,a,hc⟩:=cO.mp h;obtain⟨i,hi,rfl⟩:=BY a;exact⟨(qs[i],hs[i]),List.mem_iff_getElem.mpr ⟨i,by rw[length_zip];lia,by rw[getElem_zip]⟩,hc⟩
def Q3(d:Qc qs)(b:Ho qs hs):(fsA (qs.zip hs)).map (pD (aN qs))=(lK qs hs).map tI:=by
 unfold lK;rw[map_map];refine map_congr_left λφ a=>?_;obtain⟨F,_,fit⟩:=(Rr _ _ rfl (Ru d b)).1 φ a;show D.tup _=D.tup (((aN qs).map _).map _);rw[map_map];congr 1;refine map_congr_left λc hc=>?_;show oI (φ c)=D.int ((φ c).getD 0);rw[(fit c).1 (Rv b.l hc)];rfl
def wB(f:Qc qs)(d:Ho qs hs):row∈lK qs hs↔∃F,Ec qs (rw0 qs hs) F/\row=(aN qs).map F:=by
 have b:=Rr _ _ rfl (Ru f d);have e:∀{F:Str->Int} {φ:Str->Option Int},LH (qs.zip hs) F φ->((aN qs).map λc=>(φ c).getD 0)=(aN qs).map F:=λ{F φ} fit=>map_congr_left λc hc=>by rw[(fit c).1 (Rv d.l hc)];rfl
 constructor;intro h;obtain⟨φ,a,rfl⟩:=Bc.mp h;obtain⟨F,g,fit⟩:=b.1 φ a;exact⟨F,(Rt f.nn d.l).mp g,e fit⟩;rintro⟨F,g,rfl⟩;obtain⟨φ,a,fit⟩:=b.2 F ((Rt f.nn d.l).mpr g);exact Bc.mpr ⟨φ,a,e fit⟩
theorem Rw:∀ (l:List (Str×List Str)),Gb (l.map qP)=some (l.map λq=>(q.1,.tup (q.2.map D.str)))
 |[]=>rfl
 | q::r=>by
   show(Gb (r.map qP)).map _=_;rw[Rw r];rfl
def Q4(a:l.length<4000)(hn:(l.map Prod.fst).Nodup)(k:K (.own (.dic (l.map λq=>.str q.1) (l.map λq=>.tup (q.2.map D.str))))):dY (Iw [qD l]) K:=by
 show dY ((Gb (l.map qP)).bind _) K;rw[Rw];show dY (if _ then _ else none) K;rw[fI ⟨by rw[hB];exact a,by rw[map_map];exact hn⟩,map_map,map_map];exact k
theorem Rx:∀ {qs:List (Str×List Str)},(qs.map Prod.fst).Nodup->∀ {q},q∈qs->oY (qs.map λq=>.str q.1) (qs.map λq=>.tup (q.2.map D.str)) q.1=some (.tup (q.2.map D.str))
 | p::qs,hn,q,a=>by
   show(if p.1=q.1 then some (D.tup (p.2.map D.str))else oY (qs.map λq=>.str q.1) (qs.map λq=>.tup (q.2.map D.str)) q.1)=_;by_cases e:p.1=q.1;rw[fI e,mP hn sT a e];rw[gX e];rcases Aj.mp a with rfl|h;exact absurd rfl e;exact Rx (CD.mp hn).2 h
def Q5(b:Qc qs)(hm:q∈qs)(d:row.length=(aN qs).length)
  (k:K (.val (tI (pk (aN qs) q.2 row))) [⟨.val,qD qs⟩,⟨.val,.str q.1⟩,⟨.val,tI row⟩]):CK cK [⟨.val,qD qs⟩,⟨.val,.str q.1⟩,⟨.val,tI row⟩] K:=by
 have f:=b.l6;have g:q.2.length<=6:=IJ b (b.cd q hm) λz e=>⟨q,hm,e⟩;have a:∀c∈q.2,c∈aN qs:=λc hc=>cO.mpr ⟨q,hm,hc⟩;unfold cK;rw[bF];show RS cX [_,_,_,none,none] _;unfold cX;walk_at"dx";refine kH b.qn ?_;generalize aN qs=cs at d k a ⊢;walk_at"dx";refine Q4 (by lia) b.nn ?_;walk_at"dx";refine pB (x:=.val (.tup (q.2.map D.str))) (by show(oY _ _ _).map hQ.val=_;rw[Rx b.nn hm];rfl) ?_;walk_at"dx";refine⟨fY (by rw[hB];lia),bT (λc=>.int (row.getD (cs.idxOf c) 0)) D.str q.2 [_,_,_,_,none] rfl (λc hc=>?_) ?_⟩;walk_at"dx";refine⟨a c hc,?_⟩;rw[QC (by rw[d];exact JN (a c hc))];rfl;walk_at"dx";rw[QD]at k;exact k
abbrev tJ(qs:List (Str×List Str))(hs:List (List (List Int))):List (List (List Int)):=qs.map λq=>Aa ((Aa (lK qs hs)).map (pk (aN qs) q.2))
def Q6(c:Qc qs)(d:Ho qs hs)(k:K (.val (hD (tJ qs hs))) [⟨.val,qD qs⟩,⟨.val,hD hs⟩]):CK fU [⟨.val,qD qs⟩,⟨.val,hD hs⟩] K:=by
 have i:=c.l6;have e:∀r∈lK qs hs,r.length=(aN qs).length:=λr a=>by
  obtain⟨φ,_,rfl⟩:=Bc.mp a;exact hB _
 have g:(Aa (lK qs hs)).length<=3000:=by
  have f:=zB (qs.zip hs) [λ_=>none];rw[length_singleton,one_mul,map_snd_zip (by have:=d.l;lia)]at f;have j:=d.p;have m:=sK (lK qs hs);have o:(lK qs hs).length=(fsA (qs.zip hs)).length:=hB _;have s:(fsA (qs.zip hs)).length<=pm hs:=f;lia
 unfold fU;rw[bF];show RS gZ [_,_,none,none,none,none] _;unfold gZ;walk_at"dx";refine Q2 c d (Q3 c d) e ?_;have b:∀r∈Aa (lK qs hs),r.length=(aN qs).length:=λr a=>e r (by rwa[fF]at a);have k:K (.val (hD (qs.map λq=>Aa ((Aa (lK qs hs)).map (pk (aN qs) q.2))))) [⟨.val,qD qs⟩,⟨.val,hD hs⟩]:=k;generalize Aa (lK qs hs)=rs at k g b;walk_at"dx";refine⟨fY (by rw[hB];lia),bT (λq:Str×List Str=>hT (Aa (rs.map (pk (aN qs) q.2)))) qP qs [_,_,_,none,none,none] rfl (λq hm=>?_) ?_⟩
 ·walk_at "dx";refine⟨M5 (by rw[hB];lia),bT (λr=>tI (pk (aN qs) q.2 r)) tI rs [_,_,_,_,_,none] rfl (λr a=>?_) ?_⟩;walk_at "dx";refine Q5 c hm (b r a) ?_;walk_at "dx";walk_at "dx";rw[show(rs.map λr=>tI (pk (aN qs) q.2 r))=(rs.map (pk (aN qs) q.2)).map tI by rw[map_map];rfl];walk_at "dx";exact⟨by rw[hB];lia,yW (n:=q.2.length) λr a=>by
   obtain⟨r,_,rfl⟩:=Bc.mp a;exact hB _⟩
 ·walk_at "dx";have h:D.tup (qs.map λq=>hT (Aa (rs.map (pk (aN qs) q.2))))=hD (qs.map λq=>Aa (rs.map (pk (aN qs) q.2))):=by
   show _=D.tup ((qs.map _).map _);rw[map_map];rfl
  rw[h];exact k
def Hu(f:Qc qs)(d:Ho qs hs)(hm:q∈qs):(∀ r∈rw0 qs hs q.1,r.length=q.2.length)/\DH (rw0 qs hs q.1)/\(rw0 qs hs q.1).length<=40:=by
 obtain⟨i,hi,rfl⟩:=BY hm;have h:=d.l;have e:hs[i]?=some (rw0 qs hs qs[i].1):=by
  rw[vZ f.nn (nL hi),Dq,nL (by lia)];rfl
 obtain⟨a,b,c⟩:=d.w i _ _ (nL hi) e;exact⟨λr g=>(a r g).1,b,c⟩
def tok(a:Qc qs)(b:Ho qs hs):Fp qs (rw0 qs hs):=λq hm=>⟨(Hu a b hm).2.2,(Hu a b hm).1⟩
def zC(b:Qc qs)(d:Ho qs hs)(hm:q∈qs):r∈Aa ((Aa (lK qs hs)).map (pk (aN qs) q.2))↔∃ F,Ec qs (rw0 qs hs) F/\q.2.map F=r:=by
 have e:∀F:Str->Int,pk (aN qs) q.2 ((aN qs).map F)=q.2.map F:=λF=>by
  rw[JQ];exact map_congr_left λc hc=>JR (cO.mpr ⟨q,hm,hc⟩)
 rw[fF,Bc];constructor;rintro⟨row,h,rfl⟩;rw[fF]at h;obtain⟨F,a,rfl⟩:=(wB b d).mp h;exact⟨F,a,(e F).symm⟩;rintro⟨F,a,rfl⟩;exact⟨_,by rw[fF];exact(wB b d).mpr ⟨F,a,rfl⟩,e F⟩
def Ry(b:Qc qs)(sl:EF qs l)(f:∀q∈qs,∀r∈T q.1,r.length=q.2.length)(hm:q∈qs):r∈BW (dI qs) l T q.1↔∃F,Ec qs T F/\q.2.map F=r:=by
 have a:=Rf (C:=dI qs) (T:=T) sl b.nn (λp c=>⟨jJ b.nn c,b.cd p c,f p c⟩) q hm;constructor;intro h;have er:=JS (b.cd q hm) (f q hm r (zA h));rw[← er]at h;obtain⟨F,d,e⟩:=(a _).mp h;exact⟨F,d,by rw[map_congr_left e,er]⟩;rintro⟨F,d,rfl⟩;exact(a F).mpr ⟨F,d,λ_ _=>rfl⟩
def Rz(a:Qc qs)(b:Ho qs hs)(sl:EF qs l):IL qs l hs=tJ qs hs:=map_congr_left λq hm=>
 vG ((Hu a b hm).2.1.sublist JT) (gM _) λr=>(Ry a sl (λp c=>(Hu a b c).1) hm).trans (zC a b hm).symm
def LI(a:Qc qs)(hm:q∈qs):rw0 qs (tJ qs hs) q.1=Aa ((Aa (lK qs hs)).map (pk (aN qs) q.2)):=by
 obtain⟨i,hi,rfl⟩:=BY hm;rw[vZ a.nn (nL hi),Dq,Ar,nL hi];rfl
def RB(a:Qc qs)(b:Ho qs hs):Fp qs (rw0 qs (tJ qs hs)):=λq hm=>by
 rw[LI a hm];obtain⟨l,sl,_⟩:=LD a;have e:=Cq (λx:List (List (List Int))=>x[qs.idxOf q]?) (Rz a b sl);have hi:qs[qs.idxOf q]?=some q:=by rw[nL (List.idxOf_lt_length_of_mem hm),getElem_idxOf]
 dsimp only[IL,tJ]at e;rw[Ar,Ar,hi]at e;have e:BW (dI qs) l (rw0 qs hs) q.1=Aa ((Aa (lK qs hs)).map (pk (aN qs) q.2)):=Ap e;rw[← e];exact⟨oT JT.length_le (Hu a b hm).2.2,λr c=>(Hu a b hm).1 r (zA c)⟩
def Q7(a:Qc qs)(c:Ho qs hs)(sl:EF qs l):IL qs l (tJ qs hs)=tJ qs hs:=map_congr_left λq hm=>by
 have e:∀p∈qs,∀r∈rw0 qs (tJ qs hs) p.1,r.length=p.2.length:=λp b=>(RB a c p b).2;have dm:∀{p:Str×List Str},p∈qs->∀{r:List Int},r∈rw0 qs (tJ qs hs) p.1↔∃F,Ec qs (rw0 qs hs) F/\p.2.map F=r:=λb=>by rw[LI a b];exact zC a c b
 have rs:DH (rw0 qs (tJ qs hs) q.1):=by rw[LI a hm];exact gM _
 refine vG (rs.sublist JT) (gM _) λr=>?_;rw[Ry a sl e hm,zC a c hm];constructor;rintro⟨F,d,rfl⟩;exact(dm hm).mp (d q hm);rintro⟨F,d,rfl⟩;exact⟨F,λp b=>(dm b).mpr ⟨F,d,rfl⟩,rfl⟩
def RC(a:Qc qs)(b:Ho qs hs)(k:K (.val (hD (tJ qs hs))) [⟨.val,qD qs⟩,⟨.val,hD hs⟩]):CK bX [⟨.val,qD qs⟩,⟨.val,hD hs⟩] K:=by
 obtain⟨l,sl,cl⟩:=LD a;exact qG a b.l (tok a b) sl cl (by rw[Rz a b sl];exact k)
def Q8(a:Qc qs)(b:Ho qs hs)(k:K (.val (hD (tJ qs hs))) [⟨.val,qD qs⟩,⟨.val,hD (tJ qs hs)⟩]):CK bX [⟨.val,qD qs⟩,⟨.val,hD (tJ qs hs)⟩] K:=by
 obtain⟨l,sl,cl⟩:=LD a;exact qG a (hB _) (RB a b) sl cl (by rw[Q7 a b sl];exact k)
def LJ(hs:List (List (List Int))):dU (hD hs)=true:=by
 refine(sV (m:=2) (by decide) _ λd hd=>?_).1.1;obtain⟨ks,_,rfl⟩:=Bc.mp hd;have:=sV (m:=1) (by decide) (ks.map tI) λd hd=>by
  obtain⟨k,_,rfl⟩:=Bc.mp hd;exact L8 k
 exact⟨this.1.1,this.2⟩
def Mt(d:D):Prop:=∃qs hs,Qc qs/\Ho qs hs/\d=.tup [qD qs,hD hs,hD (tJ qs hs)]
def Q9(ns:List Int)(hn:ns.length<=63):∃ as',lW [⟨.val,.lst (ns.map D.int)⟩]=some (.val (.bl true),as'):=by
 suffices h:CK lW [⟨.val,.lst (ns.map D.int)⟩] λy _=>y=.val (.bl true) by
  obtain⟨⟨y,as'⟩,e,rfl⟩:=cU.mp h;exact⟨as',e⟩
 have x:(ns.map D.int).length=ns.length:=hB _;unfold lW;rw[bF];show RS vS [_,none,none,none,none,none,none] _;unfold vS;walk_at"dx";generalize w:(if(if 4<((ns.map D.int).length:Int) / 2 then(4:Int)else((ns.map D.int).length:Int) / 2) > 2 then(if 4<((ns.map D.int).length:Int) / 2 then(4:Int)else((ns.map D.int).length:Int) / 2)else 2)=N;have z:2<=N/\N<=4:=by rw[← w];split<;>split<;>lia
 refine⟨sY _,⟨by lia,by lia⟩,?_⟩;refine eK (λi τ=>i<=4/\∃(L:List D) (g j k l n:Bool) (o p q r s:D),L.length=i/\(∀d∈L,Mt d)/\τ=[_,some ⟨.own,.lst L⟩,ov g o,ov j p,ov k q,ov l r,ov n s]) ⟨sY _,[],false,false,false,false,false,.non,.non,.non,.non,.non,rfl,(λ_ h=>nomatch h),rfl⟩ ?_ ?_;rintro i d τ hd ⟨u,L,g,j,k,l,n,o,p,q,r,s,rfl,t,rfl⟩;obtain⟨hi,rfl⟩:=iI hd;walk_at"dx";refine Ql (by lia) (by lia) λa b=>?_;walk_at"dx";refine yV λqs a1 A c=>?_;walk_at"dx";refine Ql (by lia) (by lia) λa2 B=>?_;walk_at"dx";refine L7 rfl c λhs a3 C f=>?_;walk_at"dx";refine Q6 c f ?_;walk_at"dx";refine⟨by decide,DU u (by decide),RC c f ?_⟩;walk_at"dx";refine yX (LJ _) ?_;walk_at"dx";refine Q8 c f ?_;walk_at"dx";refine yX (LJ _) ?_;walk_at"dx";refine⟨_,.inl rfl,by lia,L++[.tup [qD qs,hD hs,hD (tJ qs hs)]],true,true,true,true,true,.int (0+(L.length:Int)),qD qs,hD hs,hD (tJ qs hs),hD (tJ qs hs),AO,λd hd=>?_,rfl⟩;rcases Au.mp hd with h|h;exact t d h;exact⟨qs,hs,c,f,Aq.mp h⟩;rintro τ ⟨u,L,g,j,k,l,n,o,p,q,r,s,v,t,rfl⟩;rw[cN]at v;cases L with
 |nil=>exact absurd v (by simp;lia)
 | cons m L=>
   obtain⟨qs,hs,c,f,rfl⟩:=t m sT;rw[gQ];walk_at"dx";refine RC c f ?_;walk_at"dx";refine yX (LJ _) ?_;walk_at"dx"
def RF:KQ:=⟨λi=>[209,221,216,228,242,254,202,259,266,271,276,281,286,115,56,120,125,130,137,144,151,183,51,190,166,161,156,173,178,195,293].getD i 0,λi=>[PySem.bW8,PySem.bX0,PySem.bW9,PySem.bX1,PySem.bX2,PySem.bX3,PySem.bW7,PySem.bX4,PySem.bX5,PySem.bX6,PySem.bX7,PySem.bX8,PySem.bX9,PySem.bV2,PySem.cX0,PySem.bV3,PySem.bV4,PySem.bV5,PySem.bV6,PySem.bV7,PySem.bV8,PySem.bW4,PySem.cW9,PySem.bW5,PySem.bW1,PySem.bW0,PySem.bV9,PySem.bW2,PySem.bW3,PySem.bW6,PySem.zD].getD i default⟩
def R0(e:fd=W.fnOf x x (qJ s) (jW s) (cF s) .none .none .none fd.pyModule none fd.code .none)(l:K.lookup f=some ⟨.type "function",none,.func fd,#[]⟩)(d:W.codeIn K fd.code x=true)(k:W.keepIn K (.ref f)=true):EW K x x s f fd:=⟨⟨_,_,_,_,_,_,_,_,_,e,l,d⟩,k⟩
def R1(X:(PySem.KF P).In h)(G:h.Ns mainGlobals mg):Txt (PySem.KF P) mg RF:=by
 refine⟨?_,?_,λx h=>?_⟩
 ·unfold tb
  repeat' first|exact Jw|refine rQ (W.mg_of X G (by kernel_rfl)) ?_
 ·unfold tb
  repeat' first|exact Jw|refine rQ (R0 (by kernel_rfl) (by kernel_rfl) (by kernel_rfl) (by kernel_rfl)) ?_
 ·repeat' (first|cases h;done|(cases h with|head=>exact W.mg_none_of X G (by kernel_rfl)|tail _ h=>?_))
def R4(T:Txt (PySem.KF w.params) mg RF):AR P w (PySem.KF w.params) mg base DX 8 293 PySem.zD ["_law_script"] (Am 1 lW):=
 G0 T
def bV1:W.WalkO PySem.Vw [] (W.XL PySem.Vw []) (W.InK PySem.KF) PySem.Challenge.rw_mostrows_k53_houses_thinned.row.toRowW PySem.dP0 [] (λf vs=>PySem.call f vs):=by
 refine PySem.cF2 (l:=PySem.Challenge.rw_mostrows_k53_houses_thinned) (K:=PySem.KF) (n:=63) (k:=8) (x:="_law_script") (CX:=λ_=>DX) (sp:=λw=>Am 1 lW) rfl (by decide) (by kernel_rfl) ⟨rfl,by decide,by decide,rfl⟩ (λw h Y=>Y) (λw mg g h X G e=>?_) (λw _ a ns b c hS=>Yj (by kernel_rfl) c hS (Q9 ns b)) λ_ _ _ _ _ z=>z;have T:=R1 X G;have d:=(T.m 30 _ rfl).symm.trans e;cases d;exact⟨PySem.zD,λs v=>.of_eq (by kernel_rfl),λbase _ _=>R4 T⟩
end PySem
open PySem.W PySem PyProof.Rows
theorem PySem.Challenge.cw_mostrows_k53_houses_thinned_holds : PySem.Challenge.rw_mostrows_k53_houses_thinned.Holds :=
 PySem.dZ1 PySem.bV1
