import PyProof.Rows.All
import Wide.All
import OpenK.AllK
import Wide.FinOn
import Lean
import PyProof.EqAt
import PyProof.EqKinds
import PyProof.TupleCall
import PyProof.StationsW
import PyProof.RulesAs
import PyProof.ExcClass2
import PyProof.Rows.Exc
import OpenK.KMake
import PyProof.InstStoreFacts
import OpenK.KCls
import PyProof.ExcArgsOwn
import PyProof.ExcAttrAll.ValueError
import PyProof.FitsInt
import PyProof.FString
import PyProof.FString4
import PyProof.StrLawsRepr
import PyProof.NsDelKeeps
import PyProof.NoPylong
import PyProof.FitsBits
import PyProof.Rows.RuleM_int
import PyProof.P3In
import PyProof.NeData
import PyProof.Draws
import PyProof.ZipIter
import PyProof.EnumMake
import PyProof.ListMulAny
import PySem.SetOps
import PyProof.SetScanFacts
import PyProof.WalksMore
import PyProof.SetNew
import PyProof.SetKind
import PyProof.Rows.SetFrom
import PyProof.TupleKey
import PyProof.IsRules
import PyProof.SetRoads
import PyProof.ListMulRoad
import PyProof.Rows.ListMulArg
import PyProof.Rows.SumAny
import PyProof.AttrMissHeap
import PyProof.FactsAll.zip_1
import Wide.Seal
import PyProof.P3Eq
import PyProof.WalkInts
import PyProof.SeqI3
import PyProof.Rows.CallKwBuiltin
import PyProof.DictRoadsH
import PySem.Challenge.RW_mostrows_k27_whole_any_tree
set_option compiler.extract_closed false
set_option Elab.async false
set_option linter.all false
set_option maxRecDepth 100000
set_option maxHeartbeats 4000000
set_option bootstrap.genMatcherCode false
set_option genSizeOf false
set_option genSizeOfSpec false
set_option tactic.hygienic false
open List(length_map mem_singleton mem_append length_append map_append mem_cons size_toArray map_cons length_range length_cons range getElem_inj of_mem_zip replicate take_sublist reverse_cons forIn_cons lookup_cons append_assoc drop_eq_getElem_cons drop_zero length_reverse find?_cons drop_length nil_append length_nil nodup_range not_mem_nil pairwise_singleton range' map_map map_fst_zip length_zip map_snd_zip map_nil take_append_drop take_add drop_drop mem_of_mem_drop take_length getElem?_of_mem getElem?_take getElem?_drop foldl_cons take_append take_take getElem_mem toArray length_filter_le concat_eq_append map_congr_left prod_cons)
open Nat(zero_le le_of_eq add_le_add_left lt_of_not_le mul_le_mul le_succ_of_le mul_assoc add_comm lt_succ_of_lt mod_lt succ_pos lt_of_le_of_ne lt_succ_of_le sub_lt_of_lt sub_add_cancel le_add_right exists_eq_add_of_le add_assoc add_sub_cancel_left sub_lt one_pos pos_of_ne_zero add_zero lt_or_ge)
open PySem.Value(isInt_shape float type)
open PySem.Heap(SameBut ExtBut IsTuple IsList)
open False(elim)
open PySem.Builtin.Str(occurrences glued)
open PySem.Builtin.Slice(sliceAdjust slicePlaces)
open PySem.Str(ofString)
open PySem.Builtin.Tuple(tupleItemsOf tupleExact)
open PySem.Obj(mapSeq putSet)
open Option(getD_none getD_some map_some)
open PySem.Builtin.List(listTooLong listLengthHint listExtendWith listSameRef listItems)
open PySem.Txt(slice)
open PySem.Builtin.SmallTypes(ownedTupleIsFree nextOf ownedTupleHandOut)
open Array(size_push getElem?_push toArray_toList toList_append size_map size_append toList_reverse)
open PySem.PyData(canLayAll0 depthAll depth canLay0)
open Int(toNat_natCast zero_add emod_nonneg)
open List.Pairwise(imp_of_mem)
open Bool(false_eq_true)
open List.Perm(append_left)
open PySem.Builtin.Dict(pairItems updateFrom)
noncomputable section
def dV:=@PySem.wpAny_bind
def eH:=@PySem.wpAny_pure
def a0m:=@if_neg
def gV:=@if_pos
def Ax:=@PySem.wpAny_holding
def Bf:=@PySem.wpAny_field
def BX:=@PySem.wpAny_call_entry
def Ep:=@decide_eq_true_eq
def Cj:=@PySem.wpAny_seqItems
def Bx:=@PySem.wpAny_rule
def Ck:=@PySem.wpAny_mono
def DW:=@PySem.codeAny_builtin
def FV:=@PySem.builtinLookup_eq_fast
def EU:=@PySem.wpAny_newObj_type
def Er:=@PySem.wpAny_specialOf
def FW:=@PySem.wpAny_Call_Name_kw
def DK:=@PySem.sizeLine_eq
def Cn:=@congrArg
def Y1:=@if_false
def DL:=@beq_iff_eq
def Es:=@PySem.wpAny_attempt
def FX:=@decide_eq_false
def FY:=@PySem.wpAny_passesOwn
def EV:=@PySem.plainId_quiet
def Y2:=@bne_self_eq_false
def Y3:=@if_true
def EW:=@PySem.wpAny_typeOf
def IS:=@PySem.wpAny_getItem_str_slice
def Et:=@PySem.call_meets
def HP:=@PySem.wpAny_askSetting
def GF:=@PySem.codeAny_mono
def IT:=@PySem.wpAny_pyIter_tuple
def HQ:=@decide_eq_true
def HR:=@PySem.wpAny_setField
def IU:=@PySem.wpAny_truthy_bool
def HS:=@PySem.wpAny_standAt
def IV:=@PySem.wpAny_updateSeq
def Kd:=@PySem.wpAny_setEntries_of
def GG:=@PySem.putSet_of
def RV:=@PySem.wpAny_loadPart'
def eI:=@length_map
def sL:=@List.getElem?_eq_some_iff
def oI:=@List.getElem?_eq_getElem
def sT:=@PySem.Heap.get?_push_of_some
def gY:=@Nat.le_trans
def sU:=@List.getElem?_set_ne
def Aa:=@List.mem_cons_self
def hF:=@Nat.le_refl
def Ab:=@List.getElem?_map
def Am:=@List.mem_cons_of_mem
def An:=@List.mem_of_getElem?
def Ak:=@PySem.Heap.get?_push_size
def AN:=@Classical.byContradiction
def Ah:=@mem_singleton
def rN:=@PySem.Heap.lt_size
def AE:=@List.mem_append_right
def Ao:=@Nat.lt_of_lt_of_le
def Ac:=@mem_append
def Bg:=@Option.map_eq_some_iff
def Bc:=@Array.getElem?_toList
def Ap:=@Option.some.inj
def AL:=@length_append
def By:=@Array.getElem?_eq_getElem
def sY:=@List.mem_map
def Bo:=@List.getElem?_set_self
def BG:=@List.getElem?_append_left
def AH:=@map_append
def Ad:=@zero_le
def Az:=@mem_cons
def BH:=@List.mem_of_mem_take
def Bz:=@Array.length_toList
def BY:=@List.mem_append_left
def AF:=@Nat.ne_of_lt
def Co:=@List.take_of_length_le
def hR:=@Ne.symm
def Di:=@List.getElem?_append_right
def Dj:=@List.nodup_iff_pairwise_ne
def Cp:=@List.getElem?_toArray
def AO:=@Nat.le_of_lt
def BA:=@List.length_take
def DX:=@List.eq_nil_of_length_eq_zero
def DZ:=@List.getD_eq_getElem?_getD
def Dk:=@PySem.Heap.get?_update_other
def BZ:=@Bool.and_eq_true
def Eb:=@List.getElem?_eq_none_iff
def Dl:=@PySem.Heap.get?_update_self
def CC:=@size_toArray
def CS:=@Nat.lt_of_le_of_lt
def Dm:=@List.getElem_of_mem
def BI:=@Nat.lt_irrefl
def BJ:=@map_cons
def BL:=@Nat.zero_add
def FZ:=@PyProof.Rows.callWith_type1
def GH:=@PyProof.Rows.slot_tuple_getitem
def Cq:=@List.mem_range
def EX:=@List.getElem?_cons_succ
def EY:=@PySem.F.plainAttrs_list
def Dp:=@List.append_nil
def Dq:=@List.nodup_cons
def Dr:=@Nat.not_lt_zero
def Ds:=@List.length_set
def Eu:=@PySem.Heap.SameBut.update
def Ec:=@Nat.le_of_lt_succ
def GJ:=@Array.getElem?_eq_some_iff
def EZ:=@PySem.Around.under_plainId
def Ew:=@List.pairwise_cons
def DM:=@PySem.W.kia_one
def Ed:=@Nat.le_of_not_lt
def Ey:=@length_range
def CT:=@Nat.lt_trans
def Fb:=@Array.toList_push
def Fc:=@List.ext_getElem?
def Ga:=@Bool.false_ne_true
def Fd:=@List.length_drop
def Fe:=@length_cons
def Ee:=@List.map_take
def DN:=@Nat.ne_of_gt
def Ez:=@PySem.Heap.size_push
def Ke:=@PyProof.Rows.F.plain_set_update_loop
def Ff:=@PySem.PassesOwn.never
def IW:=@PySem.F.slot_tuple_iterator_next
def GL:=@Nat.lt_succ_self
def GP:=@List.take_add_one
def HU:=@PySem.mem_of_lookup
def HV:=@PySem.F.plain_extend_loop
def IZ:=@Array.getElem?_eq_none
def HW:=@Int.emod_lt_of_pos
def Fg:=@Nat.mul_comm
def Fh:=@Nat.pow_succ
def HX:=@List.all_eq_true
def Ja:=@List.mem_filterMap
def Gb:=@Nat.le_succ
def Fj:=@Nat.not_lt
namespace PySem
section
open W
noncomputable def Aq(i:Nat):Stmt:=PySem.Challenge.pw_mostrows_k27_whole_any_tree.main.body.getD i (.Pass ⟨0,0,0,0⟩)
noncomputable def kG(x q:Str)(s:Stmt)(m:Value)(c:Addr):FuncData:=match s with
 |.FunctionDef _ a b _ _ _ e _ _ _=>fnOf x q a b e .none .none .none m none (.ref c) .none
 |_=>default
def dU7:DefRec:=match Aq 42 with
 |.FunctionDef n a b _ _ _ e _ _ p=>⟨n,a,b,e,p⟩
 |_=>⟨"",default,[],default,default⟩
noncomputable def kE(P:Params)(x:Str)(t:Tok)(v:Value):DictEntry:=⟨PyData.keyHash P x,.str x t,v⟩
noncomputable def kT(l:List Value):Obj:=⟨.type "tuple",none,.seq l.toArray 0,#[]⟩
noncomputable def kF(f:FuncData):Obj:=⟨.type "function",none,.func f,#[]⟩
noncomputable def Jb:Value:=.str "mostrows.questions" 187
def dD7:=kG "names_of" "names_of" (Aq 1) Jb 18
def dD8:=kG "columns_of" "columns_of" (Aq 2) Jb 23
def dD9:=kG "part" "part" (Aq 3) Jb 28
def dE0:=kG "belonging" "belonging" (Aq 4) Jb 33
noncomputable def Fl:Value:=.str "mostrows.tables" 213
def dE1:=kG "table_of" "table_of" (Aq 6) Fl 40
def dE2:=kG "places_of" "places_of" (Aq 7) Fl 45
def dE3:=kG "picked" "picked" (Aq 8) Fl 50
def dE4:=kG "cut" "cut" (Aq 9) Fl 55
def dE5:=kG "common_columns" "common_columns" (Aq 10) Fl 60
def dE6:=kG "grouped" "grouped" (Aq 11) Fl 67
def dE7:=kG "joined" "joined" (Aq 12) Fl 72
def dE8:=kG "all_joined" "all_joined" (Aq 13) Fl 79
noncomputable def Jc:Value:=.str "mostrows.houses" 275
def dE9:=kG "tables_of" "tables_of" (Aq 15) Jc 84
def dF0:=kG "named_tables" "named_tables" (Aq 16) Jc 91
def dF1:=kG "answers" "answers" (Aq 17) Jc 98
def cC3:=kG "house_part" "house_part" (Aq 18) Jc 105
def cC4:=kG "pairs_of" "pairs_of" (Aq 20) (.str "mostrows.trees" 308) 112
def cC5:=kG "by_tree" "by_tree" (Aq 22) (.str "mostrows.treewise" 320) 119
noncomputable def mN:Value:=.str "law_mostrows_k27_whole_any_tree" 334
def cC6:=kG "_law_box" "_law_box" (Aq 24) mN 126
def cC7:=kG "_law_take" "_law_take" (Aq 25) mN 133
def cC8:=kG "_law_order" "_law_order" (Aq 26) mN 140
def cC9:=kG "_law_names" "_law_names" (Aq 27) mN 145
def cD0:=kG "_law_some_columns" "_law_some_columns" (Aq 28) mN 152
def cD1:=kG "_law_any_tables" "_law_any_tables" (Aq 29) mN 159
def cD2:=kG "_law_ear_tables" "_law_ear_tables" (Aq 30) mN 166
def cD3:=kG "_law_ring_tables" "_law_ring_tables" (Aq 31) mN 171
def cD4:=kG "_law_question" "_law_question" (Aq 32) mN 178
def cD5:=kG "_law_columns" "_law_columns" (Aq 33) mN 183
def cD6:=kG "_law_value" "_law_value" (Aq 34) mN 190
def cD7:=kG "_law_house" "_law_house" (Aq 35) mN 195
def cD8:=kG "_law_tree" "_law_tree" (Aq 36) mN 202
def cD9:=kG "_law_leaves" "_law_leaves" (Aq 37) mN 209
def cE0:=kG "_law_pairs" "_law_pairs" (Aq 38) mN 216
def cE1:=kG "_law_parts_right" "_law_parts_right" (Aq 39) mN 223
def cE2:=kG "_law_turned" "_law_turned" (Aq 40) mN 228
def cE3:=kG "_law_seen" "_law_seen" (Aq 41) mN 233
def aC5:=kG "law" "law" (Aq 42) mN 238
noncomputable def kC(x:Str)(a:Tok)(q:Str)(b c:Tok)(d e f:Int)(g:Addr)(h:Int)(i j k l:Addr)(m n:Int)(o:Tok):Obj:=⟨.type "code",none,.fields #[.str x a,.str q b,.str "/claim/cut.py" c,.int d 0,.int e 0,.int 0 0,.int 0 0,.int f 0,.ref g,.bool true,.int h 0,.ref i,.none,.ref j,.ref k,.ref l,.int m 0,.int n 0,.str "/claim/cut.py" o],#[]⟩
noncomputable def KF(P:Params):W.Frag:=[
(2,⟨.none,none,(.dict #[] 0),#[]⟩),
(3,⟨(.type "dict"),none,(.dict #[kE P "__name__" 165 (.str "law_mostrows_k27_whole_any_tree" 334),kE P "__doc__" 166 .none,kE P "__package__" 167 .none,kE P "__loader__" 168 (.builtin "__main__.__loader__#opaque"),kE P "__spec__" 169 .none,kE P "__annotations__" 170 (.ref 6),kE P "__builtins__" 171 (.ref 4),kE P "__file__" 173 (.str "/claim/cut.py" 172),kE P "__cached__" 174 .none,kE P "names_of" 194 (.ref 19),kE P "columns_of" 200 (.ref 24),kE P "part" 206 (.ref 29),kE P "belonging" 212 (.ref 34),kE P "table_of" 222 (.ref 41),kE P "places_of" 228 (.ref 46),kE P "picked" 234 (.ref 51),kE P "cut" 240 (.ref 56),kE P "common_columns" 246 (.ref 61),kE P "grouped" 259 (.ref 68),kE P "joined" 265 (.ref 73),kE P "all_joined" 274 (.ref 80),kE P "tables_of" 282 (.ref 85),kE P "named_tables" 290 (.ref 92),kE P "answers" 298 (.ref 99),kE P "house_part" 307 (.ref 106),kE P "pairs_of" 319 (.ref 113),kE P "by_tree" 333 (.ref 120),kE P "_law_box" 345 (.ref 127),kE P "_law_take" 355 (.ref 134),kE P "_law_order" 365 (.ref 141),kE P "_law_names" 371 (.ref 146),kE P "_law_some_columns" 380 (.ref 153),kE P "_law_any_tables" 391 (.ref 160),kE P "_law_ear_tables" 405 (.ref 167),kE P "_law_ring_tables" 411 (.ref 172),kE P "_law_question" 423 (.ref 179),kE P "_law_columns" 429 (.ref 184),kE P "_law_value" 438 (.ref 191),kE P "_law_house" 444 (.ref 196),kE P "_law_tree" 455 (.ref 203),kE P "_law_leaves" 462 (.ref 210),kE P "_law_pairs" 469 (.ref 217),kE P "_law_parts_right" 483 (.ref 224),kE P "_law_turned" 489 (.ref 229),kE P "_law_seen" 495 (.ref 234),kE P "law" 501 (.ref 239)] 46),#[]⟩),
(15,kT []),
(18,⟨(.type "code"),none,(.fields #[(.str "names_of" 189),(.str "names_of" 190),(.str "/claim/cut.py" 191),(.int 2 0),(.int 1 0),(.int 0 0),(.int 0 0),(.int 3 0),(.ref 15),(.bool true),(.int 181 0),(.ref 16),.none,.none,.none,(.ref 17),(.int 192 0),(.int 2 0),(.str "/claim/cut.py" 193)]),#[]⟩),
(19,kF dD7),
(20,kT []),
(23,⟨(.type "code"),none,(.fields #[(.str "columns_of" 195),(.str "columns_of" 196),(.str "/claim/cut.py" 197),(.int 4 0),(.int 1 0),(.int 0 0),(.int 0 0),(.int 3 0),(.ref 20),(.bool true),(.int 181 0),(.ref 21),.none,.none,.none,(.ref 22),(.int 198 0),(.int 4 0),(.str "/claim/cut.py" 199)]),#[]⟩),
(24,kF dD8),
(25,kT []),
(28,⟨(.type "code"),none,(.fields #[(.str "part" 201),(.str "part" 202),(.str "/claim/cut.py" 203),(.int 9 0),(.int 2 0),(.int 0 0),(.int 0 0),(.int 3 0),(.ref 25),(.bool true),(.int 181 0),(.ref 26),.none,.none,.none,(.ref 27),(.int 204 0),(.int 9 0),(.str "/claim/cut.py" 205)]),#[]⟩),
(29,kF dD9),
(30,kT []),
(33,⟨(.type "code"),none,(.fields #[(.str "belonging" 207),(.str "belonging" 208),(.str "/claim/cut.py" 209),(.int 11 0),(.int 3 0),(.int 0 0),(.int 0 0),(.int 3 0),(.ref 30),(.bool true),(.int 181 0),(.ref 31),.none,.none,.none,(.ref 32),(.int 210 0),(.int 11 0),(.str "/claim/cut.py" 211)]),#[]⟩),
(34,kF dE0),
(35,kT []),
(37,kT [(.str "columns" 218),(.str "rows" 219)]),
(38,kT []),
(40,kC "table_of" 215 "table_of" 216 217 14 2 3 35 181 36 37 38 39 220 14 221),
(41,kF dE1),
(42,kT []),
(45,⟨(.type "code"),none,(.fields #[(.str "places_of" 223),(.str "places_of" 224),(.str "/claim/cut.py" 225),(.int 16 0),(.int 2 0),(.int 0 0),(.int 0 0),(.int 3 0),(.ref 42),(.bool true),(.int 181 0),(.ref 43),.none,.none,.none,(.ref 44),(.int 226 0),(.int 16 0),(.str "/claim/cut.py" 227)]),#[]⟩),
(46,kF dE2),
(47,kT []),
(50,⟨(.type "code"),none,(.fields #[(.str "picked" 229),(.str "picked" 230),(.str "/claim/cut.py" 231),(.int 18 0),(.int 2 0),(.int 0 0),(.int 0 0),(.int 3 0),(.ref 47),(.bool true),(.int 181 0),(.ref 48),.none,.none,.none,(.ref 49),(.int 232 0),(.int 18 0),(.str "/claim/cut.py" 233)]),#[]⟩),
(51,kF dE3),
(52,kT []),
(55,⟨(.type "code"),none,(.fields #[(.str "cut" 235),(.str "cut" 236),(.str "/claim/cut.py" 237),(.int 20 0),(.int 2 0),(.int 0 0),(.int 0 0),(.int 3 0),(.ref 52),(.bool true),(.int 181 0),(.ref 53),.none,.none,.none,(.ref 54),(.int 238 0),(.int 20 0),(.str "/claim/cut.py" 239)]),#[]⟩),
(56,kF dE4),
(57,kT []),
(60,⟨(.type "code"),none,(.fields #[(.str "common_columns" 241),(.str "common_columns" 242),(.str "/claim/cut.py" 243),(.int 23 0),(.int 2 0),(.int 0 0),(.int 0 0),(.int 3 0),(.ref 57),(.bool true),(.int 181 0),(.ref 58),.none,.none,.none,(.ref 59),(.int 244 0),(.int 23 0),(.str "/claim/cut.py" 245)]),#[]⟩),
(61,kF dE5),
(62,kT []),
(64,kT [(.str "table" 250),(.str "columns" 251),(.str "others" 252),(.str "places" 253),(.str "other_places" 254),(.str "groups" 255),(.str "row" 256)]),
(65,kT []),
(67,kC "grouped" 247 "grouped" 248 249 25 3 3 62 181 63 64 65 66 257 25 258),
(68,kF dE6),
(69,kT []),
(72,⟨(.type "code"),none,(.fields #[(.str "joined" 260),(.str "joined" 261),(.str "/claim/cut.py" 262),(.int 32 0),(.int 2 0),(.int 0 0),(.int 0 0),(.int 3 0),(.ref 69),(.bool true),(.int 181 0),(.ref 70),.none,.none,.none,(.ref 71),(.int 263 0),(.int 32 0),(.str "/claim/cut.py" 264)]),#[]⟩),
(73,kF dE7),
(74,kT []),
(76,kT [(.str "tables" 269),(.str "whole" 270),(.str "table" 271)]),
(77,kT []),
(79,kC "all_joined" 266 "all_joined" 267 268 41 1 3 74 181 75 76 77 78 272 41 273),
(80,kF dE8),
(81,kT []),
(84,⟨(.type "code"),none,(.fields #[(.str "tables_of" 277),(.str "tables_of" 278),(.str "/claim/cut.py" 279),(.int 47 0),(.int 2 0),(.int 0 0),(.int 0 0),(.int 3 0),(.ref 81),(.bool true),(.int 181 0),(.ref 82),.none,.none,.none,(.ref 83),(.int 280 0),(.int 47 0),(.str "/claim/cut.py" 281)]),#[]⟩),
(85,kF dE9),
(86,kT []),
(88,kT [(.str "question" 286),(.str "house" 287)]),
(89,kT []),
(91,kC "named_tables" 283 "named_tables" 284 285 49 2 3 86 181 87 88 89 90 288 49 289),
(92,kF dF0),
(93,kT []),
(95,kT [(.str "question" 294),(.str "house" 295)]),
(96,kT []),
(98,kC "answers" 291 "answers" 292 293 51 2 3 93 181 94 95 96 97 296 51 297),
(99,kF dF1),
(100,kT []),
(102,kT [(.str "question" 302),(.str "house" 303),(.str "tables" 304)]),
(103,kT []),
(105,kC "house_part" 299 "house_part" 300 301 53 3 3 100 181 101 102 103 104 305 53 306),
(106,kF cC3),
(107,kT []),
(109,kT [(.str "tree" 313),(.str "found" 314),(.str "waiting" 315),(.str "one" 316)]),
(110,kT []),
(112,kC "pairs_of" 310 "pairs_of" 311 312 56 1 3 107 181 108 109 110 111 317 56 318),
(113,kF cC4),
(114,kT []),
(116,kT [(.str "question" 325),(.str "house" 326),(.str "tree" 327),(.str "made" 328),(.str "sizes" 329),(.str "pair" 330)]),
(117,kT []),
(119,kC "by_tree" 322 "by_tree" 323 324 66 3 3 114 181 115 116 117 118 331 66 332),
(120,kF cC5),
(121,kT []),
(123,kT [(.str "_law_script" 339),(.str "_law_k" 340),(.str "_law_cell" 341),(.str "_law_seed" 342)]),
(124,kT []),
(126,kC "_law_box" 336 "_law_box" 337 338 74 2 3 121 181 122 123 124 125 343 74 344),
(127,kF cC6),
(128,kT []),
(130,kT [(.str "_law_box_here" 349),(.str "_law_many" 350),(.str "_law_digit" 351),(.str "_law_one" 352)]),
(131,kT []),
(133,kC "_law_take" 346 "_law_take" 347 348 82 2 3 128 181 129 130 131 132 353 82 354),
(134,kF cC7),
(135,kT []),
(137,kT [(.str "_law_box_here" 359),(.str "_law_things" 360),(.str "_law_left" 361),(.str "_law_found" 362)]),
(138,kT []),
(140,kC "_law_order" 356 "_law_order" 357 358 90 2 3 135 181 136 137 138 139 363 90 364),
(141,kF cC8),
(142,kT []),
(145,⟨(.type "code"),none,(.fields #[(.str "_law_names" 366),(.str "_law_names" 367),(.str "/claim/cut.py" 368),(.int 96 0),(.int 2 0),(.int 0 0),(.int 0 0),(.int 3 0),(.ref 142),(.bool true),(.int 181 0),(.ref 143),.none,.none,.none,(.ref 144),(.int 369 0),(.int 96 0),(.str "/claim/cut.py" 370)]),#[]⟩),
(146,kF cC9),
(147,kT []),
(149,kT [(.str "_law_box_here" 375),(.str "_law_names_here" 376),(.str "_law_many" 377)]),
(150,kT []),
(152,kC "_law_some_columns" 372 "_law_some_columns" 373 374 116 3 3 147 181 148 149 150 151 378 116 379),
(153,kF cD0),
(154,kT []),
(156,kT [(.str "_law_box_here" 384),(.str "_law_names_here" 385),(.str "_law_pool" 386),(.str "_law_found" 387),(.str "_law_k" 388)]),
(157,kT []),
(159,kC "_law_any_tables" 381 "_law_any_tables" 382 383 118 2 3 154 181 155 156 157 158 389 118 390),
(160,kF cD1),
(161,kT []),
(163,kT [(.str "_law_box_here" 395),(.str "_law_names_here" 396),(.str "_law_left" 397),(.str "_law_found" 398),(.str "_law_k" 399),(.str "_law_own" 400),(.str "_law_one" 401),(.str "_law_j" 402)]),
(164,kT []),
(166,kC "_law_ear_tables" 392 "_law_ear_tables" 393 394 124 2 3 161 181 162 163 164 165 403 124 404),
(167,kF cD2),
(168,kT []),
(171,⟨(.type "code"),none,(.fields #[(.str "_law_ring_tables" 406),(.str "_law_ring_tables" 407),(.str "/claim/cut.py" 408),(.int 141 0),(.int 2 0),(.int 0 0),(.int 0 0),(.int 3 0),(.ref 168),(.bool true),(.int 181 0),(.ref 169),.none,.none,.none,(.ref 170),(.int 409 0),(.int 141 0),(.str "/claim/cut.py" 410)]),#[]⟩),
(172,kF cD3),
(173,kT []),
(175,kT [(.str "_law_box_here" 415),(.str "_law_kind" 416),(.str "_law_columns_here" 417),(.str "_law_tables" 418),(.str "_law_way" 419),(.str "_law_sets" 420)]),
(176,kT []),
(178,kC "_law_question" 412 "_law_question" 413 414 154 2 3 173 181 174 175 176 177 421 154 422),
(179,kF cD4),
(180,kT []),
(183,⟨(.type "code"),none,(.fields #[(.str "_law_columns" 424),(.str "_law_columns" 425),(.str "/claim/cut.py" 426),(.int 168 0),(.int 1 0),(.int 0 0),(.int 0 0),(.int 3 0),(.ref 180),(.bool true),(.int 181 0),(.ref 181),.none,.none,.none,(.ref 182),(.int 427 0),(.int 168 0),(.str "/claim/cut.py" 428)]),#[]⟩),
(184,kF cD5),
(185,kT []),
(187,kT [(.str "_law_box_here" 433),(.str "_law_span" 434),(.str "_law_value_here" 435)]),
(188,kT []),
(190,kC "_law_value" 430 "_law_value" 431 432 173 2 3 185 181 186 187 188 189 436 173 437),
(191,kF cD6),
(192,kT []),
(195,⟨(.type "code"),none,(.fields #[(.str "_law_house" 439),(.str "_law_house" 440),(.str "/claim/cut.py" 441),(.int 178 0),(.int 3 0),(.int 0 0),(.int 0 0),(.int 3 0),(.ref 192),(.bool true),(.int 181 0),(.ref 193),.none,.none,.none,(.ref 194),(.int 442 0),(.int 178 0),(.str "/claim/cut.py" 443)]),#[]⟩),
(196,kF cD7),
(197,kT []),
(199,kT [(.str "_law_box_here" 448),(.str "_law_names_here" 449),(.str "_law_left" 450),(.str "_law_one" 451),(.str "_law_other" 452)]),
(200,kT []),
(202,kC "_law_tree" 445 "_law_tree" 446 447 201 2 3 197 181 198 199 200 201 453 201 454),
(203,kF cD8),
(204,kT []),
(206,kT [(.str "_law_tree_here" 459)]),
(207,kT []),
(209,kC "_law_leaves" 456 "_law_leaves" 457 458 208 1 3 204 181 205 206 207 208 460 208 461),
(210,kF cD9),
(211,kT []),
(213,kT [(.str "_law_tree_here" 466)]),
(214,kT []),
(216,kC "_law_pairs" 463 "_law_pairs" 464 465 212 1 3 211 181 212 213 214 215 467 212 468),
(217,kF cE0),
(218,kT []),
(220,kT [(.str "_law_question_here" 473),(.str "_law_house_here" 474),(.str "_law_tree_here" 475),(.str "_law_sizes" 476),(.str "_law_pairs_here" 477),(.str "_law_pair" 478),(.str "_law_many" 479),(.str "_law_names_here" 480)]),
(221,kT []),
(223,kC "_law_parts_right" 470 "_law_parts_right" 471 472 216 4 3 218 181 219 220 221 222 481 216 482),
(224,kF cE1),
(225,kT []),
(228,⟨(.type "code"),none,(.fields #[(.str "_law_turned" 484),(.str "_law_turned" 485),(.str "/claim/cut.py" 486),(.int 225 0),(.int 3 0),(.int 0 0),(.int 0 0),(.int 3 0),(.ref 225),(.bool true),(.int 181 0),(.ref 226),.none,.none,.none,(.ref 227),(.int 487 0),(.int 225 0),(.str "/claim/cut.py" 488)]),#[]⟩),
(229,kF cE2),
(230,kT []),
(233,⟨(.type "code"),none,(.fields #[(.str "_law_seen" 490),(.str "_law_seen" 491),(.str "/claim/cut.py" 492),(.int 233 0),(.int 3 0),(.int 0 0),(.int 0 0),(.int 3 0),(.ref 230),(.bool true),(.int 181 0),(.ref 231),.none,.none,.none,(.ref 232),(.int 493 0),(.int 233 0),(.str "/claim/cut.py" 494)]),#[]⟩),
(234,kF cE3),
(235,kT []),
(238,⟨(.type "code"),none,(.fields #[(.str "law" 496),(.str "law" 497),(.str "/claim/cut.py" 498),(.int 237 0),(.int 1 0),(.int 0 0),(.int 0 0),(.int 3 0),(.ref 235),(.bool true),(.int 181 0),(.ref 236),.none,.none,.none,(.ref 237),(.int 499 0),(.int 237 0),(.str "/claim/cut.py" 500)]),#[]⟩),
(239,kF aC5)]
noncomputable def Vw:Program:=view PySem.Challenge.pw_mostrows_k27_whole_any_tree [1,2,3,4,6,7,8,9,10,11,12,13,15,16,17,18,20,22,24,25,26,27,28,29,30,31,32,33,34,35,36,37,38,39,40,41,42]
def RW:PySem.Challenge.rw_mostrows_k27_whole_any_tree.wellSaid=true:=by kernel_rfl
def RY:LeftO PySem.Challenge.rw_mostrows_k27_whole_any_tree.row.prog Vw [] (λs=>xlAt Vw [] s&&recOk (RowW.records PySem.Challenge.rw_mostrows_k27_whole_any_tree.row.toRowW) s) (λs=>[2,3,15,18,19,20,23,24,25,28,29,30,33,34,35,37,38,40,41,42,45,46,47,50,51,52,55,56,57,60,61,62,64,65,67,68,69,72,73,74,76,77,79,80,81,84,85,86,88,89,91,92,93,95,96,98,99,100,102,103,105,106,107,109,110,112,113,114,116,117,119,120,121,123,124,126,127,128,130,131,133,134,135,137,138,140,141,142,145,146,147,149,150,152,153,154,156,157,159,160,161,163,164,166,167,168,171,172,173,175,176,178,179,180,183,184,185,187,188,190,191,192,195,196,197,199,200,202,203,204,206,207,209,210,211,213,214,216,217,218,220,221,223,224,225,228,229,230,233,234,235,238,239].map s.heap.get?) (λw=>(KF w.params).map λp=>some p.2) 2400:=λw=>by kernel_rfl
def eE5(h:WalkO Vw [] (XL Vw []) (InK KF) PySem.Challenge.rw_mostrows_k27_whole_any_tree.row.toRowW dU7 [] (λf v=>PySem.call f v)):PySem.Challenge.rw_mostrows_k27_whole_any_tree.Holds:=
 holds_law RW λe=>holds_open (d:=dU7) (kwd:=[]) RY (InK.of λ_=>by kernel_rfl) InK.keeps (λs e=>xl_of s (Bool.and_eq_true_iff.mp e).1) XL.keeps (by kernel_rfl) (by kernel_rfl) (by kernel_rfl) (λs e=>recFacts_of (Bool.and_eq_true_iff.mp e).2) (by kernel_rfl) e (by kernel_rfl) ⟨rfl,rfl,rfl,rfl,rfl,by decide +kernel⟩ (by w_witness2) h
end
section
open PyProof.Rows Spec
abbrev Key:=Sum Int Str
noncomputable def xA:Key->Value->Bool
 |.inl k,v=>Value.isInt k v
 |.inr x,v=>Value.isStrOf x v
noncomputable def RZ(w:World):Key->Int
 |.inl k=>hashInt k
 |.inr x=>hashStr w x
def bU:∀{k:Key} {v:Value},xA k v=true->(∃i t,k=Sum.inl i/\v=Value.int i t)\/(∃x t,k=Sum.inr x/\v=Value.str x t)
 | .inl i,v,h=>by
   obtain⟨t,e⟩:=isInt_shape (k:=i) (v:=v) h;exact .inl ⟨i,t,rfl,e⟩
 | .inr x,v,h=>by
   obtain⟨t,e⟩:=Value.isStrOf_shape (x:=x) (v:=v) h;exact .inr ⟨x,t,rfl,e⟩
def Sa(i:Int)(t:Tok):xA (.inl i) (.int i t)=true:=by simp[xA,Value.isInt]
def Sb(x:Str)(t:Tok):xA (.inr x) (.str x t)=true:=by simp[xA,Value.isStrOf]
def Sd(a b:Int):decide ((Sum.inl a:Key)=Sum.inl b)=(a==b):=by lia
def Se(a b:Str):decide ((Sum.inr a:Key)=Sum.inr b)=decide (a=b):=by simp
def Sf(a:Int)(b:Str):decide ((Sum.inl a:Key)=Sum.inr b)=false:=FX (λq=>nomatch q)
def Sh(a:Str)(b:Int):decide ((Sum.inr a:Key)=Sum.inl b)=false:=FX (λq=>nomatch q)
def bH(prog:Program)(w:World):PySem.KeyKind prog w Key where
 is:=xA
 hash:=RZ w
 inj:=λv a b g H=>by
  rcases bU g with⟨i,t,rfl,rfl⟩|⟨x,t,rfl,rfl⟩
  ·rcases bU H with⟨j,u,rfl,e⟩|⟨y,u,rfl,e⟩
   ·injection e with c _;rw[c]
   ·exact nomatch e
  ·rcases bU H with⟨j,u,rfl,e⟩|⟨y,u,rfl,e⟩;exact nomatch e;injection e with c _;rw[c]
 byValue:=λk v h=>by
  rcases bU h with⟨i,t,rfl,rfl⟩|⟨x,t,rfl,rfl⟩<;>rfl
 pyHash:=λd h=>by
  rcases bU d with⟨i,t,rfl,rfl⟩|⟨x,t,rfl,rfl⟩;exact wpAny_pyHash_int h;exact wpAny_pyHash_str h
 eqBool:=λf d h=>by
  rcases bU f with⟨i,t,rfl,rfl⟩|⟨x,t,rfl,rfl⟩;rcases bU d with⟨j,u,rfl,rfl⟩|⟨y,u,rfl,rfl⟩;rw[Sd]at h;exact wpAny_eqBool_int h;rw[Sf]at h;exact SeqAt.EqAt.int_str i t y u _ _ _ _ h;rcases bU d with⟨j,u,rfl,rfl⟩|⟨y,u,rfl,rfl⟩;rw[Sh]at h;exact SeqAt.EqAt.str_int x t j u _ _ _ _ h;rw[Se]at h;exact wpAny_eqBool_str h
 «strs»:=λk x t v h=>by
  rcases bU h with⟨i,u,rfl,e⟩|⟨y,u,rfl,e⟩;exact nomatch e;injection e with c _
  subst c;cases v<;>rfl
def xB(prog:Program)(w:World)(i:Int)(t:Tok):(bH prog w).is (.inl i) (.int i t)=true:=Sa i t
def xC(prog:Program)(w:World)(x:Str)(t:Tok):(bH prog w).is (.inr x) (.str x t)=true:=Sb x t
inductive V where
 |non|bl (b:Bool)|int (i:Int)|str (x:Str)|byt (b:Array UInt8)|flt (b:UInt64)|ref (a:Addr)|ty (n:String)
 deriving DecidableEq
def cJ:V->Value->Prop
 |.non,u=>u=Value.none
 |.bl b,u=>u=Value.bool b
 |.int i,u=>∃t,u=Value.int i t
 |.str x,u=>∃t,u=Value.str x t
 |.byt b,u=>∃t,u=Value.bytes b t
 |.flt b,u=>∃t,u=float b t
 |.ref a,u=>u=Value.ref a
 |.ty n,u=>u=type n
abbrev bF:List V->List Value->Prop:=Paired cJ
theorem bF.length{xs:List V}{u:List Value}(r:bF xs u):xs.length=u.length:=Paired.length r
def bF.get{i:Nat}(r:bF xs U)(e:xs[i]?=some x):∃u,U[i]?=some u/\cJ x u:=by
 induction r generalizing i with
 |nil=>cases e
 | cons r _ j=>
   cases i with
   |zero=>obtain rfl:=Ap e;exact⟨_,rfl,r⟩
   |succ i=>exact j e
theorem bF.set(r:cJ x u):∀{xs:List V} {U:List Value} (i:Nat),bF xs U->bF (xs.set i x) (U.set i u)
 |_,_,_,.nil=>.nil
 |_,_,0,.cons _ t=>.cons r t
 |_,_,i+1,.cons q t=>.cons q (bF.set r i t)
def bF.append(r:bF xs u)(s:bF y w):bF (xs++y) (u++w):=by
 induction r with
 |nil=>exact s
 |cons r _ i=>exact .cons r i
theorem bF.take:∀{xs:List V} {u:List Value} (n:Nat),bF xs u->bF (xs.take n) (u.take n)
 |_,_,0,_|_,_,_+1,.nil=>.nil
 |_,_,n+1,.cons r t=>.cons r (bF.take n t)
theorem bF.drop:∀{xs:List V} {u:List Value} (n:Nat),bF xs u->bF (xs.drop n) (u.drop n)
 |_,_,0,r=>r
 |_,_,_+1,.nil=>.nil
 |_,_,n+1,.cons _ t=>bF.drop n t
def GQ:Option V->Option Value->Prop
 |some v,some u=>cJ v u
 |none,none=>True
 |_,_=>False
def KV:List (κ×V)->List (κ×Value)->Prop:=Paired λ(p:κ×V) (q:κ×Value)=>p.1=q.1/\cJ p.2 q.2
noncomputable def kV:Key->V
 |.inl i=>.int i
 |.inr x=>.str x
inductive Tk where
 |s (x:Str)|p (a b:Tk)
deriving DecidableEq
noncomputable def Tk.dep:Tk->Nat
 |.s _=>0
 |.p a b=>max a.dep b.dep+1
noncomputable def gQ(w:World):Tk->Int
 |.s x=>hashStr w x
 |.p a b=>reduceHash (Builtin.Tuple.tupleHashOf [gQ w a,gQ w b])
inductive HO where
 |lst (xs:List V)
 |tup (xs:List V)
 |dK (kvs:List (Key×V))|dT (kvs:List (List Key×V))|dM (kvs:List (Tk×V))
 |set (S:Int->Bool) (n:Nat)
 |ins (C dx:Addr) (fs:List (Str×V))
 |own (x:Addr)
 |xd (fs:List (Str×V))
 |met (f x:Addr)
 |rng (lo hi:Int)
 |frz (o:Obj) (u:HO)
 |tbl (ps:Array Value)
 |ext (φ:Heap->Prop)
abbrev Hp:=Addr->Option HO
noncomputable def fI(H:Hp)(a:Addr)(o:HO):Hp:=λb=>if b=a then some o else H b
def aJ:fI H a o a=some o:=by unfold fI;simp
def aG(h:b≠a):fI H a o b=H b:=by unfold fI;rw[a0m h]
def MB:fI (fI H a o) a u=fI H a u:=by
 funext b;unfold fI;simp_all
def Si{H:Hp}(h:H a=some o)(h':H b=some u)(d:o≠u):a≠b:=by lia
def bP{H:Hp}(h:H a=some o)(h':H b=none):a≠b:=by lia
def xD(H:Hp):Tk->V->Prop
 |.s x,v=>v=.str x
 |.p a b,v=>∃q x y,v=.ref q/\H q=some (.tup [x,y])/\xD H a x/\xD H b y
theorem xD.mono(a:∀b xs,H b=some (.tup xs)->g b=some (.tup xs)):∀{k:Tk} {v:V},xD H k v->xD g k v
 |.s _,_,h=>h
 |.p _ _,_,⟨q,x,y,e,c,d,f⟩=>⟨q,x,y,e,a _ _ c,xD.mono a d,xD.mono a f⟩
def MD(h:Heap)(a:Addr):Prop:=∃o,h.get? a=some o/\o.dict=none
section
variable (P:Program)(w:World)
def cC(H:Hp)(h:Heap)(a:Addr):HO->Prop
 |.lst d=>d.length<=sizeLine/\∃(i:List Value) (n:Nat),bF d i/\h.get? a=some {cls:=.type "list",data:=.seq i.toArray n}
 |.tup d=>d.length<=sizeLine/\∃i:List Value,bF d i/\IsTup h a i.toArray/\MD h a
 |.dK k=>k.length<=sizeLine/\(a==sysModules)=false/\∃r,KV k r/\h.DictOf (bH P w) a r
 | .dT k=>k.length<=sizeLine/\(a==sysModules)=false/\∃ d:List (List Key×Addr×Value),
   Paired (λ(p:List Key×V) (q:List Key×Addr×Value)=>p.1=q.1/\H q.2.1=some (.tup (p.1.map kV))/\cJ p.2 q.2.2) k d /\
   ∃o E l,h.get? a=some o/\o.ExactDict/\o.data=.dict E l/\E.toList=d.map (entryOfKey (tupleKind (bH P w)))/\(d.map (·.1)).Nodup
 | .dM k=>k.length<=sizeLine/\(a==sysModules)=false/\∃ d:List (Tk×Value×Value),Paired (λ(p:Tk×V) (q:Tk×Value×Value)=>p.1=q.1/\(∃ y,xD H p.1 y/\cJ y q.2.1)/\cJ p.2 q.2.2) k d /\
   ∃o E l,h.get? a=some o/\o.ExactDict/\o.data=.dict E l/\E.toList=d.map (λx=>⟨gQ w x.1,x.2.1,x.2.2⟩)/\(d.map (·.1)).Nodup
 |.set S n=>h.SetOf (intKind P w) a S n
 | .ins C g e=>H g=some (.own a)/\e.length<=1000/\g≠a/\h.get? a=some (W.instObj C g) /\
   ∃m,h.Ns1 g m/\(∀f,GQ (e.lookup f) (m f))/\Within m (e.map (·.1))
 |.own _=>∃o,h.get? a=some o
 |.xd e=>∃m,h.Ns1 a m/\∀f,GQ (e.lookup f) (m f)
 |.rng L z=>∃t u v,h.get? a=some {cls:=.type "range",data:=.fields #[.int L t,.int z u,.int 1 v]}
 |.frz o u=>h.get? a=some o/\cC H h a u
 |.tbl s=>h.get? a=some {cls:=.none,data:=.fields s}
 |.met f x=>h.get? a=some (W.methodObj (.ref f) (.ref x))
 |.ext j=>j h/\(∃o,h.get? a=some o)/\∀b c:Heap,j b->(∀o,b.get? a=some o->c.get? a=some o)->j c
def AA(H:Hp)(h:Heap):Prop:=∀a o,H a=some o->cC P w H h a o
end
theorem cC.lt(x:cC P w H h a o):a<h.objs.size:=by
 cases o with
 |lst b=>obtain⟨_,_,_,_,e⟩:=x;exact rN e
 |tup b=>obtain⟨_,_,_,p,_⟩:=x;exact p.lt
 |dK k|dT k|dM k=>obtain⟨_,_,_,_,o,_,_,e,_⟩:=x;exact rN e
 |set S n=>obtain⟨o,_,_,_,e,_⟩:=x;exact rN e
 |ins C j c=>obtain⟨_,_,_,e,_⟩:=x;exact rN e
 |own y=>obtain⟨_,e⟩:=x;exact rN e
 |xd c=>obtain⟨_,⟨_,_,_,e,_⟩,_⟩:=x;exact rN e
 |rng l i=>obtain⟨_,_,_,e⟩:=x;exact rN e
 |frz O u=>obtain⟨e,_⟩:=x;exact rN e
 |tbl g|met f y=>exact rN (show h.get? a=some _ from x)
 |ext d=>obtain⟨_,⟨_,e⟩,_⟩:=x;exact rN e
def Paired.mapP{L:List c}{l:List d}(r:Paired F L l)(f:∀a b,F a b->G a b):Paired G L l:=by
 induction r with
 |nil=>exact .nil
 |cons r _ i=>exact .cons (f _ _ r) i
def cC.stay(x:cC P w H h a o)(k:∀ b u,(b=a\/H b=some (.own a))->h.get? b=some u->h'.get? b=some u)
  (l:∀b,H b=some (.own a)->L b=some (.own a)) (j:∀b xs,H b=some (.tup xs)->L b=some (.tup xs)):cC P w L h' a o:=by
 induction o with
 |lst xs=>obtain⟨z,I,n,r,e⟩:=x;exact⟨z,I,n,r,k _ _ (.inl rfl) e⟩
 |tup xs=>obtain⟨z,I,r,⟨O,e,c⟩,⟨g,i,m⟩⟩:=x;exact⟨z,I,r,⟨O,k _ _ (.inl rfl) e,c⟩,⟨g,k _ _ (.inl rfl) i,m⟩⟩
 |dK B=>obtain⟨z,y,N,r,O,E,A,e,c⟩:=x;exact⟨z,y,N,r,O,E,A,k _ _ (.inl rfl) e,c⟩
 | dT B=>
   obtain⟨z,y,xs,r,O,E,A,e,c⟩:=x;exact⟨z,y,xs,Paired.mapP r λp q z=>⟨z.1,j _ _ z.2.1,z.2.2⟩,O,E,A,k _ _ (.inl rfl) e,c⟩
 | dM B=>
   obtain⟨z,y,xs,r,O,E,A,e,c⟩:=x;exact⟨z,y,xs,Paired.mapP r λp q z=>⟨z.1,let ⟨y,a,b⟩:=z.2.1;⟨y,a.mono j,b⟩,z.2.2⟩,O,E,A,k _ _ (.inl rfl) e,c⟩
 |set S n=>obtain⟨O,E,A,t,e,c⟩:=x;exact⟨O,E,A,t,k _ _ (.inl rfl) e,c⟩
 | ins C dx U=>
   obtain⟨d,z,T,e,M,⟨G,E,A,i,c⟩,r⟩:=x;exact⟨l _ d,z,T,k _ _ (.inl rfl) e,M,⟨G,E,A,k _ _ (.inr d) i,c⟩,r⟩
 |own y=>obtain⟨O,e⟩:=x;exact⟨O,k _ _ (.inl rfl) e⟩
 |xd U=>obtain⟨M,⟨G,E,A,e,c⟩,r⟩:=x;exact⟨M,⟨G,E,A,k _ _ (.inl rfl) e,c⟩,r⟩
 |rng lo hi=>obtain⟨t,u,v,e⟩:=x;exact⟨t,u,v,k _ _ (.inl rfl) e⟩
 |frz O u s=>obtain⟨e,q⟩:=x;exact⟨k _ _ (.inl rfl) e,s q⟩
 | tbl Q=>
   have e:h.get? a=some {cls:=.none,data:=.fields Q}:=x;exact k a _ (.inl rfl) e
 | met f y=>
   have e:h.get? a=some (W.methodObj (.ref f) (.ref y)):=x;exact k a _ (.inl rfl) e
 |ext Y=>obtain⟨p,⟨o,e⟩,J⟩:=x;exact⟨J _ _ p λo q=>k _ _ (.inl rfl) q,⟨o,k _ _ (.inl rfl) e⟩,J⟩
theorem AA.lt(x:AA P w H h)(e:H a=some o):a<h.objs.size:=(x a o e).lt
theorem AA.fresh{a:Addr}(x:AA P w H h)(e:h.objs.size<=a):H a=none:=by
 cases q:H a with
 |none=>rfl
 |some u=>exact absurd (Ao (x.lt q) e) (BI _)
def AA.kept(x:AA P w H h)(k:∀b u,h.get? b=some u->h'.get? b=some u):AA P w H h':=λa o e=>
 (x a o e).stay (λb u _ q=>k b u q) (λ_ q=>q) λ_ _ q=>q
def AA.laid{a:Addr}(x:AA P w H h)(k:∀b u,h.get? b=some u->h'.get? b=some u)(d:h.objs.size<=a)(f:cC P w (fI H a o) h' a o):AA P w (fI H a o) h':=λb u e=>by
 have g:=x.fresh d;by_cases i:b=a;subst i;rw[aJ]at e;lia;rw[aG i]at e;exact(x b u e).stay (λc v _ q=>k c v q) (λc q=>by rw[aG (bP q g)];exact q) λc j q=>by rw[aG (bP q g)];exact q
def Rd(H:Hp)(a:Addr)(u:HO):Prop:=H a=some u\/∃o,H a=some (.frz o u)
theorem Rd.ok(r:Rd H a u)(x:AA P w H h):cC P w H h a u:=by
 rcases r with r|⟨o,r⟩;exact x a u r;obtain⟨_,q⟩:=x a _ r;exact q
def GR:Option HO->Prop
 |some (.lst _)|some (.dK _)|some (.dT _)|some (.dM _)|some (.set _ _)|some (.ins _ _ _)|some (.ext _)=>True
 |_=>False
def AA.write(ok:AA P w H h)(mu:GR (H x))(l:e=x\/H e=some (.own x))(k:∀ b u,b≠e->h.get? b=some u->h'.get? b=some u)(f:∃ u,h'.get? e=some u)
  (i:cC P w (fI H x o') h' x o'):AA P w (fI H x o') h':=λb u q=>by
 have a:∀c y,H c=some (.own y)->c≠x:=λc y r z=>by subst z;rw[r]at mu;exact mu
 have d:∀c n,H c=some (.tup n)->c≠x:=λc n r z=>by subst z;rw[r]at mu;exact mu
 by_cases o:b=x;subst o;rw[aJ]at q;lia;rw[aG o]at q;by_cases j:b=e
 ·have g:H b=some (.own x):=by lia
  rw[q]at g;cases g;obtain⟨v,m⟩:=f;exact⟨v,by simp_all⟩
 ·refine(ok b u q).stay (λc v hc r=>k c v ?_ r) (λc r=>by rw[aG (a c b r)];exact r) λc n r=>by rw[aG (d c n r)];exact r
  grind
structure Un(fs ex:List Addr)(H H':Hp)(h h':Heap):Prop where
 keep:∀b o,h.get? b=some o->H b=none->b∉fs->b∉ex->h'.get? b=some o
 slot:∀b o,h.get? b=some o->H b=none->b∈fs->b∉ex->∃sl,h'.get? b=some {o with slots:=sl}
 free:∀b o,h.get? b=some o->H b=none->b∉ex->H' b=none
 there:∀b o,h.get? b=some o->b∉ex->∃o',h'.get? b=some o'
 tups:∀b xs,H b=some (.tup xs)->H' b=some (.tup xs)
 frzs:∀b o u,H b=some (.frz o u)->H' b=some (.frz o u)
 tbls:∀b ps,H b=some (.tbl ps)->∃more,H' b=some (.tbl (ps++more))
def Un.any(u:Un f ex H e h d)(q:h.get? b=some ob)(n:H b=none)(a:b∉ex):∃s,d.get? b=some {ob with slots:=s}:=by
 by_cases c:b∈f;exact u.slot b ob q n c a;exact⟨ob.slots,u.keep b ob q n c a⟩
def Un.kept(k:∀b u,h.get? b=some u->h'.get? b=some u):Un f ex H H h h':=
 ⟨λb O q _ _ _=>k b O q,λb O q _ _ _=>⟨O.slots,k b O q⟩,λ_ _ _ n _=>n,λb O q _=>⟨O,k b O q⟩,λ_ _ q=>q,λ_ _ _ q=>q,λ_ p q=>⟨#[],by simp_all⟩⟩
def Un.refl:Un f ex H H h h:=Un.kept λ_ _ q=>q
def Un.laid{h:Heap}{a:Addr}(k:∀b u,h.get? b=some u->h'.get? b=some u)(c:h.objs.size<=a)(d:H a=none):Un f ex H (fI H a o) h h' where
 keep:=λb u q _ _ _=>k b u q
 slot:=λb u q _ _ _=>⟨u.slots,k b u q⟩
 free:=λb u q n _=>by rw[aG (AF (Ao (rN q) c))];exact n
 there:=λb u q _=>⟨u,k b u q⟩
 tups:=λb x q=>by rw[aG (bP q d)];exact q
 frzs:=λb u x q=>by rw[aG (bP q d)];exact q
 tbls:=λb p q=>⟨#[],by rw[aG (bP q d),q];simp⟩
def Un.write(mu:GR (H x))(d:e=x\/H e=some (.own x))(k:∀ b u,b≠e->h.get? b=some u->h'.get? b=some u)(a:∃ u,h'.get? e=some u):Un j ex H (fI H x o) h h':=by
 have c:∀b,H b=none->b≠x:=λb n z=>by subst z;rw[n]at mu;exact mu
 have g:∀b,H b=none->b≠e:=λb n z=>by lia
 have f:∀b u,H b=some u->¬GR (some u)->b≠x:=λb u q N z=>by lia
 refine⟨λb u q n _ _=>k b u (g b n) q,λb u q n _ _=>⟨u.slots,k b u (g b n) q⟩,λb u q n _=>by rw[aG (c b n)];exact n,λb u q _=>?_,
  λb i q=>by rw[aG (f b _ q λz=>z)];exact q,λb u i q=>by rw[aG (f b _ q λz=>z)];exact q,λb p q=>⟨#[],by rw[aG (f b _ q λz=>z),q];simp⟩⟩
 grind
noncomputable def Jd(h:Heap)(H:Hp):List Addr:=(range h.objs.size).filter λa=>(H a).isSome
def EA(h:Heap)(H:Hp):Heap:=W.hideAll h (Jd h H)
def Sj(h:Heap)(H:Hp):(EA h H).objs.size=h.objs.size:=W.hideAll_size _ _
def Sk(e:h.get? b=some o)(n:H b=none):(EA h H).get? b=some o:=
 W.hideAll_get _ e λa=>by
  have q:(H b).isSome=true:=(List.mem_filter.mp a).2
  simp_all
def Sm(e:(EA h H).get? b=some o):h.get? b=some o/\H b=none:=by
 have a:h.get? b=some o:=W.of_hideAll (Jd h H) e;refine⟨a,?_⟩;cases q:H b with
 |none=>rfl
 | some x=>
   have c:b∈Jd h H:=List.mem_filter.mpr ⟨Cq.mpr (rN a),by simp[q]⟩;have z:(EA h H).get? b=none:=W.hideAll_none (Jd h H) c
   lia
noncomputable def Sn(g h:Heap)(L:Addr):List (Addr×Obj):=(range h.objs.size).filterMap λa=>if a=L\/(g.get? a).isSome=true then none else(h.get? a).map λo=>(a,o)
def dW(g h:Heap)(L d:Addr):List (Addr×Obj):=(Sn g h L).filter λp=>decide (p.1≠d)
structure Mod(K:W.Frag)(mg:Str->Option Value)(base:Heap):Prop where
 kin:K.In base
 glob:base.Ns mainGlobals mg
 blt:∃mb,base.Ns builtinsNs mb/\∀x:Str,x≠"__name__"->mb x=bootBuiltins x
 nolimit:base.NoLimit
structure Cx where
 prog:Program
 w:World
 K:W.Frag
 mg:Str->Option Value
 base:Heap
 A:Around
 N:List Str
 s₀:Shared
 H₀:Hp
 env:Env
 outer:List Env
 stack:List Env
 ex:List Addr
 fn:Str->Bool
 calm:Bool
 pn:List (Addr×Obj)
 xe:Value->Shared->Prop
noncomputable def frs(l:List Env):List Addr:=l.filterMap (·.frame)
abbrev Cx.fs(X:Cx):List Addr:=frs X.outer
def Kf(s:Scope)(x:Str):Prop:=s.names.lookup x=some .local\/s.names.lookup x=some .cell\/s.names.lookup x=some .free
def HY(s:Scope)(x:Str):Prop:=s.names.lookup x=some .local\/s.names.lookup x=some .cell
def Sq(env:Env)(h:Heap)(m:Str->Option Value)(x:Str)(u:Value):Prop:=
 (env.kindOf x=some .local/\m x=some u)\/((env.kindOf x=some .cell\/env.kindOf x=some .free)/\∃c,env.cells.lookup x=some c/\h.IsCell c (some u))
structure Cx.Ok(X:Cx):Prop where
 mod:Mod X.K X.mg X.base
 kind:X.env.scope.kind=.function
 glob:X.env.globals=mainGlobals
 blt:X.env.builtins=builtinsNs
 above:X.s₀.heap.objs.size<=X.env.locals
 inj:∀x y c,X.env.cells.lookup x=some c->X.env.cells.lookup y=some c->x=y
 has:∀x,(X.env.kindOf x=some .cell\/X.env.kindOf x=some .free)->∃c,X.env.cells.lookup x=some c
 cab:∀x c,X.fn x=true->X.env.cells.lookup x=some c->X.s₀.heap.objs.size<=c
 hd:X.calm=true->X.A.handled=none
 frames:X.A.frames=some X.stack
 stk:X.stack=X.outer\/(X.stack=X.env::X.outer/\X.env.frame=some X.env.locals)
 exf:∀b∈X.ex,b≠X.env.locals/\∀x c,X.env.cells.lookup x=some c->c≠b
 bs:∀b o,X.base.get? b=some o->X.s₀.heap.get? b=some o/\X.H₀ b=none
 bsz:X.base.objs.size<=X.s₀.heap.objs.size
 noex:∀b o,X.base.get? b=some o->b∉X.ex
 exfs:∀b∈X.ex,b∉X.fs
 funs:X.s₀.heap.FunFrames X.base X.outer
 frf:∀b∈X.fs,X.H₀ b=none
structure eD(X:Cx)(pins:List (Addr×Obj))(Z:List (Option V))(H:Hp)(s:Shared):Prop where
 ok:X.Ok
 os:s.os=X.s₀.os
 bare:AllBare s.gens
 base:Un X.fs X.ex X.H₀ H X.s₀.heap s.heap
 loc:∃m,s.heap.Ns X.env.locals m/\∀(i:Nat) (x:Str) (v:V),X.N[i]?=some x->Z[i]?=some (some v)->Kf X.env.scope x->∃u,cJ v u/\Sq X.env s.heap m x u
 cell:∀x c,X.env.cells.lookup x=some c->∃v,s.heap.IsCell c v
 free:H X.env.locals=none
 freeC:∀x c,X.env.cells.lookup x=some c->H c=none
 pin:∀p∈X.pn++pins,s.heap.get? p.1=some p.2/\H p.1=none/\p.1≠X.env.locals/\p.1∉X.fs/\∀v,p.2.data≠.cell v
 hok:AA X.prog X.w H s.heap
 len:Z.length=X.N.length
def Cx.Ok.nofr{X:Cx}(ok:X.Ok)(e:X.base.get? b=some o):b∉X.fs:=λh=>by
 have:=(ok.funs.mem h).1
 lia
theorem eD.bs(I:eD X a Z H s):∀b o,X.base.get? b=some o->s.heap.get? b=some o/\H b=none:=λb o e=>
 ⟨I.base.keep b o (I.ok.bs b o e).1 (I.ok.bs b o e).2 (I.ok.nofr e) (I.ok.noex b o e),I.base.free b o (I.ok.bs b o e).1 (I.ok.bs b o e).2 (I.ok.noex b o e)⟩
def eD.bk(I:eD X a Z H s):∀b o,X.base.get? b=some o->s.heap.get? b=some o:=λb o e=>(I.bs b o e).1
theorem eD.mod(I:eD X a Z H s):Mod X.K X.mg X.base:=I.ok.mod
def eD.kIn(I:eD X a Z H s):X.K.In s.heap:=I.ok.mod.kin.keeps I.bk
theorem eD.lt(I:eD X a Z H s):X.env.locals<s.heap.objs.size:=let ⟨_,h,_⟩:=I.loc;h.lt
def eD.sz(I:eD X a Z H s):X.s₀.heap.objs.size<=s.heap.objs.size:=gY I.ok.above (AO I.lt)
def eD.nofs{a:Addr}(I:eD X d Z H s)(h:s.heap.objs.size<=a):a∉X.fs:=λe=>by
 obtain⟨_,o,b,_⟩:=I.ok.funs.mem e;exact absurd (Ao (rN b) (gY I.sz h)) (BI _)
def eD.cne(I:eD X f Z H s):∀x c,X.env.cells.lookup x=some c->c≠X.env.locals:=λx c e z=>by
 obtain⟨v,o,d,h⟩:=I.cell x c e;obtain⟨m,⟨O,E,g,a,b,_⟩,_⟩:=I.loc
 lia
theorem eD.funs(I:eD X k Z H s):s.heap.FunFrames X.base X.outer:=by
 have A:∀ (l:List Env),(∀ b∈frs l,b∈X.fs)->X.s₀.heap.FunFrames X.base l->s.heap.FunFrames X.base l:=by
  intro l
  induction l with
  |nil=>intro _ _;trivial
  | cons E r d=>
    intro n f;obtain⟨g,⟨L,o,c,q,h,t⟩,i⟩:=f;have a:L∈X.fs:=n L (by unfold frs;simp_all);obtain⟨y,e⟩:=I.base.slot L o h (I.ok.frf L a) a λz=>I.ok.exfs L z a;exact⟨g,⟨L,_,c,q,e,t⟩,d (λb j=>n b (by unfold frs;rw[List.filterMap_cons,c];exact Am _ j)) i⟩
 exact A X.outer (λ_ j=>j) I.ok.funs
theorem eD.stack(I:eD X b Z H s):s.heap.FunFrames X.base X.stack:=by
 rcases I.ok.stk with e|⟨e,a⟩;rw[e];exact I.funs;rw[e];obtain⟨m,h,_⟩:=I.loc;refine .cons (by rw[I.ok.kind];decide) a h ?_ I.funs;exact Heap.get?_none_of_le (gY I.ok.bsz I.ok.above)
def eD.stkSub(I:eD X d Z H s):∀b∈frs X.stack,b∈X.env.locals::X.fs:=λb h=>by
 rcases I.ok.stk with e|⟨e,a⟩
 ·simp_all
 ·rw[e]at h;unfold frs at h;rw[List.filterMap_cons,a]at h;exact h
def eD.stkFree(I:eD X d Z H s):∀b∈frs X.stack,H b=none:=λb h=>by
 rcases Az.mp (I.stkSub b h)with e|h;rw[e];exact I.free;obtain⟨_,o,a,_⟩:=I.ok.funs.mem h;exact I.base.free b o a (I.ok.frf b h) λz=>I.ok.exfs b z h
def eD.step{ch:List Addr}(I:eD X M Z H s)
  (f:∀b∈ch,(b∈X.ex\/X.s₀.heap.objs.size<=b)/\b≠X.env.locals/\(∀x c,X.env.cells.lookup x=some c->c≠b)/\∀p∈X.pn++M,p.1≠b)
  (keep:∀b o,b≠X.env.locals->b∉X.fs->b∉ch->s.heap.get? b=some o->H b=none->h'.get? b=some o)
  (slot:∀b o,b≠X.env.locals->b∈X.fs->b∉ch->s.heap.get? b=some o->H b=none->∃Y,h'.get? b=some {o with slots:=Y}) (free:∀b o,b∉ch->s.heap.get? b=some o->H b=none->T b=none)
  (there:∀b o,b∉ch->s.heap.get? b=some o->∃Q,h'.get? b=some Q)
  (tups:∀b xs,H b=some (.tup xs)->T b=some (.tup xs)) (frzs:∀b o u,H b=some (.frz o u)->T b=some (.frz o u)) (tbls:∀b U,H b=some (.tbl U)->∃more,T b=some (.tbl (U++more)))
  (ns:∀m,s.heap.Ns X.env.locals m->h'.Ns X.env.locals m) (hok:AA X.prog X.w T h') (F:AllBare g') :
  eD X M Z T {s with heap:=h',gens:=g',drawn:=d',toks:=t'}:=by
 have A:∀b o,X.s₀.heap.get? b=some o->b≠X.env.locals:=λb o e=>AF (Ao (rN e) I.ok.above);have j:∀b o,X.s₀.heap.get? b=some o->b∉X.ex->b∉ch:=λb o e a O=>by
  rcases(f b O).1 with z|z;exact a z;exact absurd (Ao (rN e) z) (BI _)
 have g:∀x c,X.env.cells.lookup x=some c->∀v,s.heap.IsCell c v->h'.IsCell c v:=λx c e v Z1=>by
  obtain⟨o,y,hd⟩:=Z1;have h:c∉ch:=λz=>(f c z).2.2.1 x c e rfl;by_cases hc:c∈X.fs;obtain⟨Y,q⟩:=slot c o (I.cne x c e) hc h y (I.freeC x c e);exact⟨_,q,hd⟩;exact⟨o,keep c o (I.cne x c e) hc h y (I.freeC x c e),hd⟩
 refine⟨I.ok,I.os,F,⟨λb o e n O a=>?_,λb o e n O a=>?_,λb o e n a=>?_,λb o e a=>?_,λb xs e=>tups b xs (I.base.tups b xs e),λb o xs e=>frzs b o xs (I.base.frzs b o xs e),λb U e=>?_⟩,?_,λx c e=>?_,?_,λx c e=>?_,λp D=>?_,hok,I.len⟩;exact keep b o (A b o e) O (j b o e a) (I.base.keep b o e n O a) (I.base.free b o e n a);obtain⟨Y,t⟩:=I.base.slot b o e n O a;obtain⟨C,B⟩:=slot b _ (A b o e) O (j b o e a) t (I.base.free b o e n a);exact⟨C,B⟩;obtain⟨Q,t⟩:=I.base.there b o e a;exact free b Q (j b o e a) t (I.base.free b o e n a);obtain⟨Q,t⟩:=I.base.there b o e a;exact there b Q (j b o e a) t;obtain⟨G,t⟩:=I.base.tbls b U e;obtain⟨J,B⟩:=tbls b _ t;exact⟨G++J,by rw[B,Array.append_assoc]⟩;obtain⟨m,hn,K⟩:=I.loc;refine⟨m,ns m hn,λi x v t B L=>?_⟩;obtain⟨u,r,l⟩:=K i x v t B L;refine⟨u,r,?_⟩;rcases l with l|⟨k,c,e,z⟩;exact .inl l;exact .inr ⟨k,c,e,g x c e _ z⟩;obtain⟨v,z⟩:=I.cell x c e;exact⟨v,g x c e v z⟩;obtain⟨m,⟨o,_,_,y,_⟩,_⟩:=I.loc;exact free _ o (λz=>(f _ z).2.1 rfl) y I.free;obtain⟨v,o,y,hd⟩:=I.cell x c e;exact free c o (λz=>(f c z).2.2.1 x c e rfl) y (I.freeC x c e);obtain⟨e,n,ne,E,d⟩:=I.pin p D;have h:p.1∉ch:=λz=>(f p.1 z).2.2.2 p D rfl;exact⟨keep p.1 p.2 ne E h e n,free p.1 p.2 h e n,ne,E,d⟩
def eD.un(I:eD X j Z H s)(u:Un X.fs [] H l s.heap h')(hok:AA X.prog X.w l h'):eD X j Z l {s with heap:=h',toks:=t'}:=by
 obtain⟨m,⟨o,E,y,f,r⟩,_⟩:=id I.loc;obtain⟨t,g⟩:=u.any f I.free (by simp);exact I.step (g':=s.gens) (d':=s.drawn) (ch:=[]) (λ_ z=>nomatch z) (λb o _ k _ e n=>u.keep b o e n k (by simp)) (λb o _ k _ e n=>u.slot b o e n k (by simp)) (λb o _ e n=>u.free b o e n (by simp)) (λb o _ e=>u.there b o e (by simp)) u.tups u.frzs u.tbls (λM q=>by
  obtain⟨O,c,d,a,h⟩:=q;rw[f]at a;cases a;exact⟨_,c,d,g,h⟩) hok I.bare
def eD.call(I:eD X l Z H s)(u:Un (frs X.stack) ch H q s.heap h')(hok:AA X.prog X.w q h')(j:AllBare g')
  (a:∀b∈ch,(b∈X.ex\/X.s₀.heap.objs.size<=b)/\b≠X.env.locals/\(∀x c,X.env.cells.lookup x=some c->c≠b)/\∀p∈X.pn++l,p.1≠b) :
  eD X l Z q {s with heap:=h',gens:=g',drawn:=d',toks:=t'}:=by
 obtain⟨m,⟨o,E,B,i,r⟩,_⟩:=id I.loc;obtain⟨A,f⟩:=u.any i I.free λz=>(a _ z).2.1 rfl;exact I.step (ch:=ch) a (λb o f y hc e n=>u.keep b o e n (λz=>(Az.mp (I.stkSub b z)).elim f y) hc) (λb o _ _ hc e n=>u.any e n hc) (λb o hc e n=>u.free b o e n hc) (λb o hc e=>u.there b o e hc) u.tups u.frzs u.tbls (λM t=>by
  obtain⟨O,g,h,d,k⟩:=t;rw[i]at d;cases d;exact⟨_,g,h,f,k⟩) hok j
def eD.turned(I:eD X j Z H s)(k:∀ b o,b≠it->s.heap.get? b=some o->h'.get? b=some o)(C:H it=none)(a:it≠X.env.locals)
  (y:it∈X.ex\/X.s₀.heap.objs.size<=it) (d:∀x c,X.env.cells.lookup x=some c->c≠it) (f:∀p∈X.pn++j,p.1≠it):eD X j Z H {s with heap:=h',toks:=t'}:=by
 have g:∀b u,H b=some u->b≠it:=λb u e z=>by lia
 refine I.step (g':=s.gens) (d':=s.drawn) (ch:=[it]) (λb t=>?_) (λb o _ _ hc e _=>k b o (λz=>hc (by simp[z])) e) (λb o _ _ hc e _=>⟨o.slots,k b o (λz=>hc (by simp[z])) e⟩) (λ_ _ _ _ n=>n)
  (λb o hc e=>⟨o,k b o (λz=>hc (by simp[z])) e⟩) (λ_ _ e=>e) (λ_ _ _ e=>e) (λb B e=>⟨#[],by simp_all⟩) (λm l=>?_) (λb u e=>?_) I.bare
 ·have e:b=it:=by simpa using t
  subst e;exact⟨y,a,d,f⟩
 ·obtain⟨o,E,A,h,r⟩:=l;exact⟨o,E,A,k _ o (hR a) h,r⟩
 ·refine(I.hok b u e).stay (λc v hc q=>k c v ?_ q) (λ_ q=>q) λ_ _ q=>q
  lia
def eD.tok(I:eD X a Z H s)(t:Nat):eD X a Z H {s with toks:=t}:=I.un (h':=s.heap) (t':=t) Un.refl I.hok
theorem eD.kept(I:eD X a Z H s)(k:∀b u,s.heap.get? b=some u->h'.get? b=some u):eD X a Z H {s with heap:=h',toks:=t'}:=I.un (Un.kept k) (I.hok.kept k)
theorem eD.laid{a:Addr}(I:eD X e Z H s)(k:∀ b u,s.heap.get? b=some u->h'.get? b=some u)(c:s.heap.objs.size<=a)(d:cC X.prog X.w (fI H a o) h' a o) :
  eD X e Z (fI H a o) {s with heap:=h',toks:=t'}:=I.un (Un.laid k c (I.hok.fresh c)) (I.hok.laid k c d)
theorem eD.write(I:eD X f Z H s)(mu:GR (H x))(d:e=x\/H e=some (.own x))(k:∀ b u,b≠e->s.heap.get? b=some u->h'.get? b=some u)(a:∃ u,h'.get? e=some u)
  (c:cC X.prog X.w (fI H x o) h' x o):eD X f Z (fI H x o) {s with heap:=h',toks:=t}:=I.un (Un.write mu d k a) (I.hok.write mu d k a c)
def eD.weak(I:eD X g Z H s)(b:f.length=Z.length)(w:∀(i:Nat) v,f[i]?=some (some v)->Z[i]?=some (some v)):eD X g f H s:=
 ⟨I.ok,I.os,I.bare,I.base,let ⟨m,h,a⟩:=I.loc;⟨m,h,λi x v c d e=>a i x v c (w i v d) e⟩,I.cell,I.free,I.freeC,I.pin,I.hok,b.trans I.len⟩
def eD.pins_of(I:eD X d Z H s)(h:∀p∈a,s.heap.get? p.1=some p.2/\H p.1=none/\p.1≠X.env.locals/\p.1∉X.fs/\∀v,p.2.data≠.cell v):eD X a Z H s:=
 ⟨I.ok,I.os,I.bare,I.base,I.loc,I.cell,I.free,I.freeC,λp b=>(Ac.mp b).elim (λz=>I.pin p (BY _ z)) (h p),I.hok,I.len⟩
def ME{N:List Str}{i j:Nat}(c:N.Nodup)(a:N[i]?=some x)(b:N[j]?=some x):i=j:=by
 obtain⟨f,d⟩:=sL.mp a;obtain⟨g,e⟩:=sL.mp b;exact(getElem_inj c).mp (d.trans e.symm)
def uE(I:eD X pins Z H s)(hN:X.N.Nodup)(hi:X.N[i]? = some x)(l:HY X.env.scope x)(r:cJ v u)
  (h:∀s',eD X pins (Z.set i (some v)) H s'->(∃a,SameBut a s.heap s'.heap/\(a=X.env.locals\/X.env.cells.lookup x=some a))->Q () s') (hf:X.fn x=true\/X.env.scope.names.lookup x=some .local:=by first|exact .inl rfl|exact .inr rfl|assumption):wpAny M A (storeName X.env x u) Q E s:=by
 obtain⟨m,hn,hl⟩:=id I.loc;have G:(X.env.scope.kind==.class||(X.env.scope.kind==.module&&X.env.locals != X.env.globals))=false:=by rw[I.ok.kind];rfl
 have C:i<Z.length:=by rw[I.len];exact(sL.mp hi).1
 have cne:=I.cne;have f:∀{a:Addr} {h':Heap},(∃o,s.heap.get? a=some o/\H a=none)->SameBut a s.heap h'->AA X.prog X.w H h':=λ{a h'} ha w b ob e=>by
  obtain⟨_,_,t⟩:=ha;refine(I.hok b ob e).stay (λc P hc q=>(w.2 c ?_).trans q) (λ_ q=>q) λ_ _ q=>q;rintro rfl;rcases hc with rfl|hc;rw[t]at e;cases e;rw[t]at hc;cases hc
 rcases l with D|D
 ·refine wpAny_storeName_local D hn (λh' S w=>?_) G;obtain⟨oL,_,_,T,_⟩:=id hn;refine h _ ⟨I.ok,I.os,I.bare,⟨λb o e n O l=>?_,λb o e n O l=>?_,I.base.free,λb o e l=>?_,I.base.tups,I.base.frzs,I.base.tbls⟩,⟨_,S,λj y U g B W=>?_⟩,λy c e=>?_,I.free,I.freeC,λp Y=>?_,f ⟨oL,T,I.free⟩ w,by simpa using I.len⟩ ⟨_,w,.inl rfl⟩;exact(w.2 b (AF (Ao (rN e) I.ok.above))).trans (I.base.keep b o e n O l);obtain⟨sl,g⟩:=I.base.slot b o e n O l;exact⟨sl,(w.2 b (AF (Ao (rN e) I.ok.above))).trans g⟩;obtain⟨o',g⟩:=I.base.there b o e l;exact⟨o',(w.2 b (AF (Ao (rN e) I.ok.above))).trans g⟩;by_cases N:j=i;subst N;rw[hi]at g;cases g;rw[Bo C]at B;cases B;exact⟨u,r,.inl ⟨D,by simp⟩⟩;rw[sU (hR N)]at B;obtain⟨σ,r',q⟩:=hl j y U g B W;refine⟨σ,r',?_⟩;rcases q with⟨k,e⟩|⟨k,c,e,z⟩;refine .inl ⟨k,?_⟩;have:y≠x:=λe=>N (ME hN g (e▸hi));simp[this,e];exact .inr ⟨k,c,e,z.sameBut w (cne y c e)⟩;obtain⟨P,z⟩:=I.cell y c e;exact⟨P,z.sameBut w (cne y c e)⟩;obtain⟨e,n,ne,nf,d⟩:=I.pin p Y;exact⟨(w.2 p.1 ne).trans e,n,ne,nf,d⟩
 ·have F:X.fn x=true:=by
   rcases hf with z|z;exact z;rw[z]at D;cases D
  obtain⟨c,hc⟩:=I.ok.has x (.inl D);obtain⟨P,z⟩:=I.cell x c hc;refine wpAny_storeName_cell I.ok.kind D hc z (λh' J w=>?_);obtain⟨oc,K,L⟩:=id z;refine h {s with heap:=h'} ⟨I.ok,I.os,I.bare,⟨λb o e n O l=>?_,λb o e n O l=>?_,I.base.free,λb o e l=>?_,I.base.tups,I.base.frzs,I.base.tbls⟩,⟨m,hn.sameBut w (hR (cne x c hc)),λj y U g B W=>?_⟩,λy R e=>?_,I.free,I.freeC,λp Y=>?_,f ⟨oc,K,I.freeC x c hc⟩ w,by simpa using I.len⟩ ⟨c,w,.inr hc⟩;exact(w.2 b (AF (Ao (rN e) (I.ok.cab x c F hc)))).trans (I.base.keep b o e n O l);obtain⟨sl,g⟩:=I.base.slot b o e n O l;exact⟨sl,(w.2 b (AF (Ao (rN e) (I.ok.cab x c F hc)))).trans g⟩;obtain⟨o',g⟩:=I.base.there b o e l;exact⟨o',(w.2 b (AF (Ao (rN e) (I.ok.cab x c F hc)))).trans g⟩;by_cases N:j=i;subst N;rw[hi]at g;cases g;rw[Bo C]at B;cases B;exact⟨u,r,.inr ⟨.inl D,c,hc,J⟩⟩;rw[sU (hR N)]at B;obtain⟨σ,r',q⟩:=hl j y U g B W;refine⟨σ,r',?_⟩;rcases q with q|⟨k,R,e,z'⟩;exact .inl q;refine .inr ⟨k,R,e,z'.sameBut w ?_⟩;rintro rfl;exact N (ME hN g (I.ok.inj _ _ _ e hc▸hi));by_cases π:R=c;subst π;exact⟨_,J⟩;obtain⟨w2,z2⟩:=I.cell y R e;exact⟨w2,z2.sameBut w π⟩;obtain⟨e,n,ne,nf,d⟩:=I.pin p Y;refine⟨(w.2 p.1 ?_).trans e,n,ne,nf,d⟩;intro q;rw[q,K]at e;have q':oc=p.2:=Ap e;exact d P (by rw[← q'];exact L)
def nG(I:eD X p Z H s)(a:X.N.Nodup)(hi:X.N[i]? = some x)(b:HY X.env.scope x)(r:cJ v u)
  (h:∀e,eD X p (Z.set i (some v)) H e->Q () e) (c:X.fn x=true\/X.env.scope.names.lookup x=some .local:=by first|exact .inl rfl|exact .inr rfl|assumption):wpAny M A (storeName X.env x u) Q E s:=
 uE I a hi b r (λe d _=>h e d) c
def eD.call'(I:eD X g Z H s)(d:h.os=s.os)(u:Un (frs X.stack) ch H j s.heap h.heap)(hok:AA X.prog X.w j h.heap)(f:AllBare h.gens)
  (a:∀b∈ch,(b∈X.ex\/X.s₀.heap.objs.size<=b)/\b≠X.env.locals/\(∀x c,X.env.cells.lookup x=some c->c≠b)/\∀p∈X.pn++g,p.1≠b):eD X g Z j h:=by
 obtain⟨k,g',d',t',o⟩:=h;have e:o=s.os:=d;subst e;exact I.call (g':=g') (t':=t') (d':=d') u hok f a
abbrev XK:=Value->Option Addr->Hp->Prop
abbrev St:=List (Option V)
abbrev VK:=V->Hp->Prop
abbrev TE:=St->Hp->VK->Prop
abbrev TT:=St->Hp->(Bool->Hp->Prop)->Prop
abbrev TA:=St->Hp->(List V->Hp->Prop)->Prop
structure AQ where
 nx:St->Hp->Prop
 rt:VK
 bk:St->Hp->Prop:=λ_ _=>False
 ct:St->Hp->Prop:=λ_ _=>False
abbrev TS:=AQ->St->Hp->Prop
def EP(X:Cx)(p:List (Addr×Obj))(Z:St)(Q:VK)(u:Value)(s:Shared):Prop:=∃v H,eD X p Z H s/\cJ v u/\Q v H
def TP(X:Cx)(p:List (Addr×Obj))(Z:St)(Q:Bool->Hp->Prop)(b:Bool)(s:Shared):Prop:=∃H,eD X p Z H s/\Q b H
def AP(X:Cx)(p:List (Addr×Obj))(Z:St)(Q:List V->Hp->Prop)(u:List Value)(s:Shared):Prop:=∃v H,eD X p Z H s/\bF v u/\Q v H
def SP(X:Cx)(p:List (Addr×Obj))(D:AQ)(f:Flow)(s:Shared):Prop:=
 match f with
 |.next=>∃a H,eD X p a H s/\D.nx a H
 |.brk=>∃a H,eD X p a H s/\D.bk a H
 |.cont=>∃a H,eD X p a H s/\D.ct a H
 |.ret u=>∃v a H,eD X p a H s/\cJ v u/\D.rt v H
def PE(X:Cx)(e:Expr)(t:TE):Prop:=
 ∀(p:List (Addr×Obj)) (s:Shared) (Z:St) (H:Hp) (Q:VK),eD X p Z H s->t Z H Q->wpAny (model X.prog X.w) X.A (eval e X.env) (EP X p Z Q) X.xe s
def PT(X:Cx)(e:Expr)(t:TT):Prop:=
 ∀(p:List (Addr×Obj)) (s:Shared) (Z:St) (H:Hp) (Q:Bool->Hp->Prop),eD X p Z H s->t Z H Q->wpAny (model X.prog X.w) X.A (isTrue e X.env (eval e X.env)) (TP X p Z Q) X.xe s
def PW(X:Cx)(e:Expr)(t:TT):Prop:=
 ∀(a:Sem Value) (p:List (Addr×Obj)) (s:Shared) (Z:St) (H:Hp) (Q:Bool->Hp->Prop),eD X p Z H s->t Z H Q->wpAny (model X.prog X.w) X.A (isTrue e X.env a) (TP X p Z Q) X.xe s
def PW.pt(h:PW X e t):PT X e t:=h _
def PA(X:Cx)(e:List Expr)(t:TA):Prop:=
 ∀(a:Pos) (p:List (Addr×Obj)) (s:Shared) (Z:St) (H:Hp) (Q:List V->Hp->Prop),eD X p Z H s->t Z H Q->wpAny (model X.prog X.w) X.A (spliced (backTo a (starEach e X.env))) (AP X p Z Q) X.xe s
def PS(X:Cx)(a:Stmt)(t:TS):Prop:=
 ∀(p:List (Addr×Obj)) (s:Shared) (Z:St) (H:Hp) (D:AQ),eD X p Z H s->t D Z H->wpAny (model X.prog X.w) X.A (exec a X.env) (SP X p D) X.xe s
def BB(X:Cx)(a:List Stmt)(t:TS):Prop:=
 ∀(p:List (Addr×Obj)) (s:Shared) (Z:St) (H:Hp) (D:AQ),eD X p Z H s->t D Z H->wpAny (model X.prog X.w) X.A (execs a X.env) (SP X p D) X.xe s
def thn{Q c:b->Shared->Prop}(h:wpAny M A t Q E s)(d:∀a s,Q a s->c a s):wpAny M A t c E s:=Ck h d λ_ _ x=>x
def pY(i:Nat):TE:=λZ H Q=>∃v,Z[i]?=some (some v)/\Q v H
def tC(v:V):TE:=λ_ H Q=>Q v H
def Sr(f:X.N[i]?=some x)(g:Kf X.env.scope x)(n:(x==("__debug__":Str))=false:=by decide)(d:(x==("__classdict__":Str))=false:=by decide):PE X (.Name x pos) (pY i):=by
 intro p s Z H Q I h;obtain⟨v,e,h⟩:=h;obtain⟨m,o,j⟩:=I.loc;obtain⟨u,r,l⟩:=j i x v f e g;have k:EP X p Z Q u s:=⟨v,H,I,r,h⟩;rcases l with⟨b,q⟩|⟨b,c,hc,a⟩;exact wpAny_Name (wpAny_loadName_local I.ok.kind b o q k) n;rcases b with b|b;exact wpAny_Name (wpAny_loadName_cell I.ok.kind b hc a k) n;exact wpAny_Name (wpAny_loadName_free I.ok.kind b hc a k d) n
def Ss:PE X (.Constant (.int i) j pos) (tC (.int i)):=λ_ _ _ H _ I h=>wpAny_Constant_int ⟨.int i,H,I.tok _,⟨_,rfl⟩,h⟩
def Su:PE X (.Constant (.bool b) j pos) (tC (.bl b)):=λ_ _ _ H _ I h=>Constant_bool ⟨.bl b,H,I,rfl,h⟩
def MF:PE X (.Constant (.str x) j pos) (tC (.str x)):=λ_ _ _ H _ I h=>Calls.Constant_str ⟨.str x,H,I.tok _,⟨_,rfl⟩,h⟩
def Gl(X:Cx)(x:Str):Prop:=X.env.kindOf x=some .globalImplicit
def Sv{Z:St}(I:eD X p Z H s)(a:Gl X x)(b:X.mg x=some u)(h:Q u s)
  (c:(x==("__debug__":Str))=false:=by decide):wpAny (model X.prog X.w) X.A (eval (.Name x pos) X.env) Q E s:=
 Calls.Name_function_global I.ok.kind a (Calls.loadGlobal_global (by rw[I.ok.glob];exact I.mod.glob.keeps I.bk) b h) c
def jY{Z:St}(I:eD X p Z H s)(a:Gl X x)(f:X.mg x=none)(b:bootBuiltins x=some u)(h:Q u s)
  (e:x≠"__name__":=by decide) (g:(x==("__debug__":Str))=false:=by decide):wpAny (model X.prog X.w) X.A (eval (.Name x pos) X.env) Q E s:=by
 obtain⟨m,c,d⟩:=I.mod.blt;exact Calls.Name_function_global I.ok.kind a (Calls.loadGlobal_builtin (by rw[I.ok.glob];exact I.mod.glob.keeps I.bk) f (by rw[I.ok.blt];exact c.keeps I.bk) ((d x e).trans b) h) g
def Sw(a:Gl X x)(d:X.mg x=none)(b:bootBuiltins x=some u)(r:cJ v u)(c:x≠"__name__":=by decide)(e:(x==("__debug__":Str))=false:=by decide):PE X (.Name x pos) (tC v):=
 λ_ _ _ H _ I h=>jY I a d b ⟨v,H,I,r,h⟩ c e
def tB(t:TE):TT:=λZ H Q=>t Z H λx a=>∃c,x=.bl c/\Q c a
def Sy(h:PE X e t)(b:∀a,isTrue e X.env a=(do let v ← a;standAt e.pos;holding [v] (truthy v)):=by intro _;rfl):PT X e (tB t):=by
 intro p s Z H Q I c;refine isTrue_plain (thn (h p s Z H _ I c) λv k z=>?_) (b _);obtain⟨x,f,g,i,j⟩:=z;obtain⟨d,rfl,q⟩:=j;cases i;exact IU ⟨f,g,q⟩
def Sz(t u:TT):TT:=λZ H Q=>t Z H λc a=>if c=true then u Z a Q else Q false a
def SA(t u:TT):TT:=λZ H Q=>t Z H λc a=>if c=true then Q true a else u Z a Q
def SD(t:TT):TT:=λZ H Q=>t Z H λc a=>Q (!c) a
def SE(d:PT X a t):PW X (.BoolOp .And [a] pos) t:=by
 intro b p s Z H Q I h;refine isTrue_and (thn (d p s Z H Q I h) λc f e=>?_);cases c with
 |true=>exact isTrue_and_nil e
 |false=>exact e
def SF(d:PT X a t):PW X (.BoolOp .Or [a] pos) t:=by
 intro b p s Z H Q I h;refine isTrue_or (thn (d p s Z H Q I h) λc f e=>?_);cases c with
 |false=>exact isTrue_or_nil e
 |true=>exact e
def SH{i:List Expr}(k:PT X a T)(hb:PW X (.BoolOp .And (b::i) pos) t):PW X (.BoolOp .And (a::b::i) pos) (Sz T t):=by
 intro g p s Z H Q I h;refine isTrue_and (thn (k p s Z H _ I h) λc j z=>?_);obtain⟨d,e,f⟩:=z;cases c with
 |true=>exact hb g p j Z d Q e f
 |false=>exact⟨d,e,f⟩
def SI{i:List Expr}(k:PT X a T)(hb:PW X (.BoolOp .Or (b::i) pos) t):PW X (.BoolOp .Or (a::b::i) pos) (SA T t):=by
 intro g p s Z H Q I h;refine isTrue_or (thn (k p s Z H _ I h) λc j z=>?_);obtain⟨d,e,f⟩:=z;cases c with
 |true=>exact⟨d,e,f⟩
 |false=>exact hb g p j Z d Q e f
def SJ(d:PT X a t):PT X (.UnaryOp .Not a pos) (SD t):=by
 intro p s Z H Q I h;exact isTrue_not (d p s Z H (λc b=>Q (!c) b) I h)
def SM(T t:TE):TE:=λZ H Q=>T Z H λx a=>∃c,x=.bl c/\if c=true then t Z a Q else Q (.bl false) a
def SN(h:PE X a t):PE X (.BoolOp o [a] pos) t:=λp s Z H Q I b=>BoolOp_one (h p s Z H Q I b)
def SO{i:List Expr}(k:PE X a T)(hb:PE X (.BoolOp .And (b::i) pos) t):PE X (.BoolOp .And (a::b::i) pos) (SM T t):=by
 intro p s Z H Q I h;refine BoolOp_and (thn (k p s Z H _ I h) λv j z=>?_);obtain⟨x,e,f,g,d⟩:=z;obtain⟨c,rfl,d⟩:=d;cases g;refine IU ?_;cases c with
 |true=>exact hb p j Z e Q f d
 |false=>exact⟨.bl false,e,f,rfl,d⟩
def SQ(t:TT)(b T:TE):TE:=λZ H Q=>t Z H λc a=>if c=true then b Z a Q else T Z a Q
def SR(hc:PT X c j)(k:PE X a T)(hb:PE X b t):PE X (.IfExp c a b pos) (SQ j T t):=by
 intro p s Z H Q I h;refine wpAny_IfExp (thn (hc p s Z H _ I h) λd i z=>?_);obtain⟨e,f,g⟩:=z;cases d with
 |true=>exact k p i Z e Q f g
 |false=>exact hb p i Z e Q f g
def Bd(K:W.Frag)(H:Hp)(a:Addr)(xs:List V):Prop:=
 Rd H a (.lst xs) \/
  ∃(o:Obj) (i:Array Value) (n:Nat),K.lookup a=some o/\o.cls=.type "list"/\o.dict=none/\o.data=.seq i n/\i.size<=sizeLine/\bF xs i.toList
def BV(K:W.Frag)(H:Hp)(a:Addr)(xs:List V):Prop:=
 Rd H a (.tup xs) \/
  ∃(o:Obj) (i:Array Value) (n:Nat),K.lookup a=some o/\o.cls=.type "tuple"/\o.data=.seq i n/\i.size<=sizeLine/\bF xs i.toList
noncomputable def SS:Value->Option V
 |.none=>some .non
 |.bool b=>some (.bl b)
 |.int i _=>some (.int i)
 |.str x _=>some (.str x)
 |.bytes b _=>some (.byt b)
 |.float b _=>some (.flt b)
 |.ref a=>some (.ref a)
 |.type n=>some (.ty n)
 |_=>none
def cJ.abs(r:cJ x u):SS u=some x:=by
 cases x with
 |non|bl _=>cases r;rfl
 |int _|str _|byt _|flt _=>obtain⟨t,rfl⟩:=r;rfl
 |ref _|ty _=>cases r;rfl
def cJ.inj{x y:V}{u:Value}(r:cJ x u)(q:cJ y u):x=y:=Ap (r.abs.symm.trans q.abs)
theorem bF.inj{xs y:List V}{u:List Value}(r:bF xs u)(s:bF y u):xs=y:=by
 induction r generalizing y with
 |nil=>cases s;rfl
 |cons r _ i=>cases s with|cons q t=>rw[r.inj q,i t]
def Bd.of{K:W.Frag}(h:H a=some (.lst xs)):Bd K H a xs:=.inl (.inl h)
def eD.list{Z:St}(I:eD X f Z H s)(h:Bd X.K H a xs):∃d:List Value,bF xs d/\PlainL s.heap a d.toArray/\xs.length<=sizeLine:=by
 rcases h with h|⟨o,d,n,b,hc,g,j,c,r⟩;obtain⟨z,d,n,r,e⟩:=h.ok I.hok;exact⟨d,r,⟨_,n,e,rfl,rfl,rfl⟩,z⟩;refine⟨d.toList,r,⟨o,n,I.kIn a o b,hc,g,by simp_all⟩,?_⟩;have e:=r.length
 grind
def eD.tuple{Z:St}(I:eD X f Z H s)(h:BV X.K H a xs):∃d:List Value,bF xs d/\IsTup s.heap a d.toArray/\xs.length<=sizeLine:=by
 rcases h with h|⟨o,d,n,b,hc,g,c,r⟩;obtain⟨z,d,r,p,_⟩:=h.ok I.hok;exact⟨d,r,p,z⟩;refine⟨d.toList,r,⟨o,I.kIn a o b,hc,n,by simp_all⟩,?_⟩;have e:=r.length
 grind
def eD.list_inj{Z:St}(I:eD X k Z H s)(h:Bd X.K H a xs)(h':Bd X.K H a y):xs=y:=by
 obtain⟨j,r,⟨o,n,e,_,_,d⟩,_⟩:=I.list h;obtain⟨b,c,⟨O,g,f,_,_,l⟩,_⟩:=I.list h';rw[e]at f;have:j=b:=by lia
 subst this;exact r.inj c
def eD.tuple_inj{Z:St}(I:eD X k Z H s)(h:BV X.K H a xs)(h':BV X.K H a y):xs=y:=by
 obtain⟨j,r,⟨o,e,_,n,d⟩,_⟩:=I.tuple h;obtain⟨b,c,⟨O,f,_,g,l⟩,_⟩:=I.tuple h';rw[e]at f;have:j=b:=by lia
 subst this;exact r.inj c
noncomputable abbrev Cx.wish(X:Cx)(E:Value->Shared->Prop):Cx:={X with xe:=E}
abbrev Cx.nox(X:Cx):Cx:=X.wish λ_ _=>False
theorem Cx.Ok.wish{X:Cx}(ok:X.Ok)(E:Value->Shared->Prop):(X.wish E).Ok:=
 ⟨ok.mod,ok.kind,ok.glob,ok.blt,ok.above,ok.inj,ok.has,ok.cab,ok.hd,ok.frames,ok.stk,ok.exf,ok.bs,ok.bsz,ok.noex,ok.exfs,ok.funs,ok.frf⟩
def Cx.Ok.unwish{X:Cx}(ok:(X.wish E).Ok):X.Ok:=
 ⟨ok.mod,ok.kind,ok.glob,ok.blt,ok.above,ok.inj,ok.has,ok.cab,ok.hd,ok.frames,ok.stk,ok.exf,ok.bs,ok.bsz,ok.noex,ok.exfs,ok.funs,ok.frf⟩
theorem eD.wish{Z:St}(I:eD X a Z H s)(E:Value->Shared->Prop):eD (X.wish E) a Z H s:=⟨I.ok.wish E,I.os,I.bare,I.base,I.loc,I.cell,I.free,I.freeC,I.pin,I.hok,I.len⟩
theorem eD.unwish{Z:St}(I:eD (X.wish E) a Z H s):eD X a Z H s:=⟨I.ok.unwish,I.os,I.bare,I.base,I.loc,I.cell,I.free,I.freeC,I.pin,I.hok,I.len⟩
theorem SP.unwish(h:SP (X.wish E) p D f s):SP X p D f s:=by
 cases f with
 |next|brk|cont=>obtain⟨a,H,I,q⟩:=h;exact⟨a,H,I.unwish,q⟩
 |ret u=>obtain⟨v,a,H,I,r,q⟩:=h;exact⟨v,a,H,I.unwish,r,q⟩
theorem BB.nox{b:List Stmt}(h:BB X.nox b t):BB X b t:=λp s Z H D I a=>
 Ck (h p s Z H D (I.wish _) a) (λ_ _ q=>q.unwish) λ_ _ z=>elim z
def Kg:TS:=λD Z H=>D.nx Z H
def CU(t u:TS):TS:=λD Z H=>t {D with nx:=u D} Z H
def MG:BB X [] Kg:=λ_ _ Z H _ I h=>wpAny_execs_nil ⟨Z,H,I,h⟩
def eZ{d:Stmt}{e:List Stmt}(i:PS X d t)(a:BB X e u):BB X (d::e) (CU t u):=by
 intro p s Z H D I h;refine wpAny_execs_cons (thn (i p s Z H {D with nx:=u D} I h) λf g q=>?_);cases f with
 | next=>
   obtain⟨c,j,b,q⟩:=q;exact a p g c j D b q
 |ret v|brk|cont=>exact q
def kB{a:Stmt}(b:PS X a t):BB X [a] t:=by
 intro p s Z H D I h;refine wpAny_execs_cons (thn (b p s Z H D I h) λf c q=>?_);cases f with
 |next=>exact wpAny_execs_nil q
 |ret v|brk|cont=>exact q
def eD.quiet{Z:St}(I:eD X a Z H s):interactive X.env=false:=by simp[interactive,I.ok.kind]
def xE(t:TE):TS:=λD Z H=>t Z H λ_ a=>D.nx Z a
def xF(a:PE X e t)(g:swapsWith e none pos.line X.env=pure false:=by rfl):PS X (.Expr e pos) (xE t):=by
 intro p s Z H D I h;exact wpAny_Expr_any (thn (a p s Z H _ I h) λv i ⟨x,b,c,f,d⟩=>⟨Z,b,c,d⟩) I.quiet g
def Kh(t:TE):TS:=λD Z H=>t Z H D.rt
def MH(a:PE X e t):PS X (.Return (some e) pos) (Kh t):=by
 intro p s Z H D I h;exact wpAny_Return_some (thn (a p s Z H _ I h) λv g ⟨x,b,c,d,f⟩=>⟨x,Z,b,c,d,f⟩)
def Ki(c:TT)(t u:TS):TS:=λD Z H=>c Z H λb a=>if b=true then t D Z a else u D Z a
def Kj(hc:PT X c T)(j:BB X a t)(hb:BB X b u):PS X (.If c a b pos) (Ki T t u):=by
 intro p s Z H D I h;refine wpAny_If (thn (hc p s Z H _ I h) λd i z=>?_);obtain⟨e,f,g⟩:=z;cases d with
 |true=>exact j p i Z e D f g
 |false=>exact hb p i Z e D f g
abbrev TG:=V->St->Hp->(St->Hp->Prop)->Prop
abbrev Fm:=List V->St->Hp->(St->Hp->Prop)->Prop
def PG(X:Cx)(a:Expr)(t:TG):Prop:=
 ∀ (p:List (Addr×Obj)) (s:Shared) (Z:St) (H:Hp) (v:V) (u:Value) (Q:St->Hp->Prop),eD X p Z H s->cJ v u->t v Z H Q ->
   wpAny (model X.prog X.w) X.A (assign a X.env u) (λ_ c=>∃b h,eD X p b h c/\Q b h) X.xe s
def GU(X:Cx)(T:List Expr)(t:Fm):Prop:=
 ∀ (p:List (Addr×Obj)) (s:Shared) (Z:St) (H:Hp) (v:List V) (u:List Value) (Q:St->Hp->Prop),eD X p Z H s->bF v u->t v Z H Q ->
   wpAny (model X.prog X.w) X.A (assignInOrder ((assignEach T X.env).map (·.2)) u) (λ_ b=>∃a h,eD X p a h b/\Q a h) X.xe s
abbrev rL:=V->V->V->Hp->(Hp->Prop)->Prop
def Kk(X:Cx)(t:rL):Prop:=
 ∀ (p:List (Addr×Obj)) (s:Shared) (Z:St) (H:Hp) (o i v:V) (O a u:Value) (Q:Hp->Prop),eD X p Z H s->cJ o O->cJ i a->cJ v u->t o i v H Q ->
   wpAny (model X.prog X.w) X.A (setItem O a u) (λ_ b=>∃h,eD X p Z h b/\Q h) X.xe s
def gM(i:Nat):TG:=λv Z H Q=>Q (Z.set i (some v)) H
def aX(a:X.N.Nodup)(hi:X.N[i]?=some x)(b:HY X.env.scope x)(c:X.fn x=true\/X.env.scope.names.lookup x=some .local:=by first|exact .inl rfl|exact .inr rfl|assumption):PG X (.Name x pos) (gM i):=by
 intro p s Z H v u Q I r h;exact wpAny_assign_Name (nG I a hi b r (λe d=>⟨_,H,d,h⟩) c)
def Fn:Fm:=λv Z H Q=>v=[]/\Q Z H
def nY(t:TG)(u:Fm):Fm:=λb Z H Q=>∃v r,b=v::r/\t v Z H λa h=>u r a h Q
def fN:GU X [] Fn:=by
 intro p s Z H v u Q I r h;obtain⟨e,h⟩:=h;exact assignInOrder_nil ⟨Z,H,I,h⟩
def aS(m:PG X e t)(b:GU X E u)
  (l:(assignEach (e::E) X.env).map (·.2)=assign e X.env::(assignEach E X.env).map (·.2):=by rfl):GU X (e::E) (nY t u):=by
 intro p s Z H n U Q I r h;obtain⟨v,j,c,h⟩:=h;subst c;cases r with
 | cons r d=>
   rw[l];refine assignInOrder_cons (thn (m p s Z H _ _ _ I r h) λ_ k z=>?_);obtain⟨a,f,g,i⟩:=z;exact b p k a f _ _ Q g d i
def SU(K:W.Frag)(n:Nat)(t:Fm):TG:=λv Z H Q=>∃a x,v=.ref a/\BV K H a x/\x.length=n/\t x Z H Q
def SV(hc:X.calm=true)(h:GU X E t)
  (z:(assignEach E X.env).length=n:=by rfl) (c:(assignEach E X.env).findIdx? (·.1)=none:=by rfl):PG X (.Tuple E k pos) (SU X.K n t):=by
 intro w s Z H v u Q I r d;obtain⟨a,x,f,g,i,d⟩:=d;subst f;cases r;obtain⟨y,j,l,q⟩:=I.tuple g;refine assign_Tuple_tuple (I.ok.hd hc) l (by simp[z,← i,j.length]) c λA m=>?_;have p:eD X w Z H {s with heap:=A}:=I.kept (t':=s.toks) λb o e=>m b o (AF (rN e)) e;exact h w _ Z H x _ Q p (by simp_all) d
def Kl(to T:TE)(t:rL):TG:=λv Z H Q=>to Z H λo a=>T Z a λi b=>t o i v b λc=>Q Z c
def MI(b:PE X o to)(hi:PE X i T)(B:Kk X t)
  (E:∀v,assign (.Subscript o i pos) X.env v=(do
   let O ← holding [v] (eval o X.env)
   let a ← holding [v,O] (eval i X.env)
   standAt pos
   holding [v,O,a] (setItem O a v)
   release [v,O,a] []):=by intro _;rfl):PG X (.Subscript o i pos) (Kl to T t):=by
 intro w s Z H v u Q I r h;refine dV (Ax (thn (b w s Z H _ I h) λO A C=>?_));obtain⟨x,c,d,e,f⟩:=C;refine dV (Ax (thn (hi w A Z c _ d f) λa z ⟨y,g,j,k,l⟩=>?_));refine dV (HS (dV (Ax (thn (B w z Z g x y v O a u _ j e k r l) λ_ q ⟨m,n,p⟩=>?_))));exact wpAny_release ⟨Z,m,n,p⟩
def EB(a:TE)(g:TG):TS:=λD Z H=>a Z H λx b=>g x Z b D.nx
def Je(b:PE X e a)(c:PG X t g)(m:swapsWithSole [t] e pos.line X.env=pure false:=by rfl)(d:swappedStores [t] e X.env=pure none:=by rfl)
  (n:(assignEach [t] X.env).map (·.2)=[assign t X.env]:=by rfl):PS X (.Assign [t] e pos) (EB a g):=by
 intro p s Z H D I h;refine wpAny_Assign_stores (thn (b p s Z H _ I h) λv l z=>?_) m d;obtain⟨x,f,i,j,k⟩:=z;rw[n];exact thn (c p l Z f x v _ i j k) λ_ o q=>q
def Jf(c:X.N.Nodup)(hi:X.N[i]? = some x)(d:HY X.env.scope x)(f:PE X e b)(o:swapsWith e (some (.Name x a)) pos.line X.env=pure false:=by rfl)(g:X.fn x=true\/X.env.scope.names.lookup x=some .local:=by first | exact .inl rfl | exact .inr rfl | assumption) :
  PS X (.Assign [.Name x a] e pos) (EB b (gM i)):=by
 intro p s Z H D I h;refine wpAny_Assign_Name (thn (f p s Z H _ I h) λv r z=>?_) o;obtain⟨y,j,k,l,m⟩:=z;exact nG k c hi d l (λq n=>⟨_,j,n,m⟩) g
def MJ(i j:Nat)(a:TA):TS:=λD Z H=>a Z H λc b=>∃v w,c=[v,w]/\D.nx ((Z.set i (some v)).set j (some w)) b
def SW(hc:X.calm=true)(z:X.N.Nodup)(hi:X.N[i]? = some x)(hj:X.N[j]? = some y)(m:i≠j)
  (A:X.env.scope.names.lookup x=some .local) (B:X.env.scope.names.lookup y=some .local) (ha:PA X [a,b] u)
  (F:swappedStores [.Tuple [.Name x g,.Name y k] U T] (.Tuple [a,b] l c) X.env=pure (some [x,y]))
  (hs:swapsWithSole [.Tuple [.Name x g,.Name y k] U T] (.Tuple [a,b] l c) pos.line X.env=pure false:=by rfl) :
  PS X (.Assign [.Tuple [.Name x g,.Name y k] U T] (.Tuple [a,b] l c) pos) (MJ i j u):=by
 intro N s Z H D I h;refine dV (HS ?_);refine dV (eH ?_);refine dV (Tuple_ (thn (ha _ N s Z H _ I h) λY O Z0=>?_));obtain⟨vs,C,G,J,n⟩:=Z0;obtain⟨v,w,K,n⟩:=n;subst K;obtain⟨d,f,rfl,L,r⟩:∃ d f,Y=[d,f]/\cJ v d/\cJ w f:=by
  cases J with
  | cons p q=>
    cases q with
    | cons M π=>
      cases π;exact⟨_,_,rfl,p,M⟩
 refine EU ?_ (by show 2<=sizeLine;decide);have P:eD X N Z C {O with heap:=O.heap.push {cls:=.type "tuple",data:=.seq [d,f].toArray}}:=G.kept (t':=O.toks) λb o e=>sT _ e;rw[F];refine dV (eH ?_);refine dV (Bx (dV (unpackItems_tuple (items:=#[d,f]) (I.ok.hd hc) (IsTup.new O.heap _) λh' t=>?_)));have Q:=P.kept (h':=h') (t':=O.toks) λb o e=>t b o (AF (rN e)) e;refine dV (assignInOrder_cons (wpAny_bindName (nG Q z hj (.inl B) r (λs2 R=>?_) (.inr B))));refine assignInOrder_cons (wpAny_bindName (nG R z hi (.inl A) L (λS E=>assignInOrder_nil (eH ?_)) (.inr A)));rw[List.set_comm _ _ (hR m)]at E;exact⟨_,C,E,n⟩
def Km(c:TT)(t:TS):TS:=λD Z H=>∃W:Nat->St->Hp->Prop,(∃m,W m Z H)/\∀m Z H,W m Z H ->
 c Z H λb a=>if b=true then ∃N:St->Hp->Prop,(∀d h,N d h->∃M,M < m/\W M d h)/\t {D with nx:=N,ct:=N,bk:=D.nx} Z a else D.nx Z a
def SX(m:PassesOwn (model X.prog X.w) X.A X.env X.xe)(hc:PT X c G)(hb:BB X e J):PS X (.While c e [] pos) (Km G J):=by
 intro w s Z H D I h;obtain⟨W,⟨t,u⟩,T⟩:=h;refine wpAny_While (codeAny_whileLoop (λn Q=>∃A E,eD X w A E Q/\W n A E) ?_ t ⟨Z,H,I,u⟩);rintro n O ⟨d,o,x,y⟩;refine FY m (thn (hc w O d o _ x (T n d o y)) λb L U=>?_);obtain⟨p,q,i⟩:=U;cases b with
 | true=>
   obtain⟨N,r,i⟩:=i;refine FY m (thn (hb w L d p _ q i) λf z j=>?_);cases f with
   | next=>
     obtain⟨a,g,k,B⟩:=j;obtain⟨M,C,l⟩:=r a g B;exact⟨M,C,a,g,k,l⟩
   | cont=>
     obtain⟨a,g,k,B⟩:=j;obtain⟨M,C,l⟩:=r a g B;exact⟨M,C,a,g,k,l⟩
   |brk|ret v=>exact j
 | false=>
   exact wpAny_execs_nil ⟨d,p,q,i⟩
structure It where
 go:Nat->Hp->Prop
 yld:Nat->Hp->V->Hp->Prop
 stop:Nat->Hp->Prop
def DP(X:Cx)(a:List (Addr×Obj))(H:Hp)(b:Addr):Prop:=
 H b=none/\b≠X.env.locals/\b∉X.fs/\(b∈X.ex\/X.s₀.heap.objs.size<=b)/\(∀x c,X.env.cells.lookup x=some c->c≠b)/\∀p∈X.pn++a,p.1≠b
def eD.fpOk{Z:St}{b:Addr}(I:eD X d Z H s)(hb:s.heap.objs.size<=b)(h:f b=none):DP X d f b:=by
 refine⟨h,DN (Ao I.lt hb),I.nofs hb,.inr (gY I.sz hb),λx c e z=>?_,λp a z=>?_⟩;obtain⟨v,q⟩:=I.cell x c e;exact absurd (Ao q.lt (by simp_all)) (BI _);exact absurd (Ao (rN (I.pin p a).1) (by simp_all)) (BI _)
structure Cr(P:Program)(w:World)(K:W.Frag)(tg:Expr)(J:It)(fp:List Addr)(it:Addr)(tn:Nat->Heap->Prop):Prop where
 mem:it∈fp
 obj:∀i h,tn i h->∀b∈fp,∃o,h.get? b=some o/\∀v,o.data≠.cell v
 keep:∀i h h',tn i h->(∀b∈fp,∀o,h.get? b=some o->h'.get? b=some o)->tn i h'
 item:∀ (X:Cx),X.prog=P->X.w=w->X.K=K->X.calm=true->∀ (i:Nat) (pins:List (Addr×Obj)) (s:Shared) (Z:St) (H:Hp) (E:Value->Shared->Prop),eD X pins Z H s->(∀ b∈fp,DP X pins H b)->tn i s.heap->J.go i H ->
  wpAny (model P w) X.A (pyNext (.ref it)) (λr s1=>∃u,r=some u /\
   wpAny (model P w) X.A (letOwnedTupleGo tg (.ref it) u) (λ_ s2=>∃x H',eD X pins Z H' s2/\cJ x u/\J.yld i H x H'/\tn (i+1) s2.heap/\∀b∈fp,H' b=none) E s1) E s
 done:∀(X:Cx),X.prog=P->X.w=w->X.K=K->X.calm=true->∀(i:Nat) (pins:List (Addr×Obj)) (s:Shared) (Z:St) (H:Hp) (E:Value->Shared->Prop),eD X pins Z H s->(∀b∈fp,DP X pins H b)->tn i s.heap->J.stop i H ->
  wpAny (model P w) X.A (pyNext (.ref it)) (λr s1=>r=none/\eD X pins Z H s1) E s
 self:∀(A:Around) (i:Nat) (s:Shared) (Q:Value->Shared->Prop) (E:Value->Shared->Prop),tn i s.heap->Q (.ref it) s->wpAny (model P w) A (pyIter (.ref it)) Q E s
abbrev TI:=St->Hp->(It->Hp->Prop)->Prop
def ML(X:Cx)(p:List (Addr×Obj))(Z:St)(T:Expr)(R:It->Hp->Prop)(a:Value)(s:Shared):Prop:=
 ∃(i:Addr) (f:List Addr) (t:Nat->Heap->Prop) (J:It) (H:Hp),a=.ref i/\eD X p Z H s/\Cr X.prog X.w X.K T J f i t/\t 0 s.heap/\(∀b∈f,DP X p H b)/\R J H
def PI(X:Cx)(t iter:Expr)(a:TI):Prop:=
 ∀ (p:List (Addr×Obj)) (s:Shared) (Z:St) (H:Hp) (R:It->Hp->Prop),eD X p Z H s->a Z H R ->
   wpAny (model X.prog X.w) X.A (eval iter X.env) (λv b=>wpAny (model X.prog X.w) X.A (pyIter v) (ML X p Z t R) X.xe b) X.xe s
def HZ(b:s.heap.get? i=some o)(hc:o.cls=.type n)(c:o.data=.fields v)
  (H:["enumerate","zip","dict_itemiterator","dict_reverseitemiterator","odict_iterator","itertools.zip_longest","itertools.pairwise"].contains n=false) (a:Q () s):wpAny M A (letOwnedTupleGo t (.ref i) u) Q E s:=by
 cases t<;>first
  |exact eH a
  | (cases u<;>first
    |exact eH a
    | (refine dV (wpAny_load b ?_)
       rw[hc,c];show wpAny M A (if(["enumerate","zip","dict_itemiterator","dict_reverseitemiterator","odict_iterator","itertools.zip_longest","itertools.pairwise"].contains n&&v[0]? == some (rawInt _))=true then _ else _) Q E s;rw[a0m (by intro h;rw[H,Bool.false_and]at h;lia)];exact eH a))
noncomputable def Kn(K:W.Frag)(a:Addr):It:=
 ⟨λi H=>∃b x,Bd K H a b/\b[i]?=some x,λi H x h=>h=H/\∀b,Bd K H a b->b[i]?=some x,λi H=>∃b,Bd K H a b/\b.length<=i⟩
noncomputable def Ko(K:W.Frag)(a:Addr):It:=
 ⟨λi H=>∃b x,BV K H a b/\b[i]?=some x,λi H x h=>h=H/\∀b,BV K H a b->b[i]?=some x,λi H=>∃b,BV K H a b/\b.length<=i⟩
noncomputable def Ia(l:Int)(n:Nat):It:=⟨λi _=>i<n,λi H x h=>h=H/\x=.int (l+i),λi _=>n<=i⟩
def SY{K:W.Frag}(a T:Addr):Cr P w K tg (Kn K a) [T] T (λi h=>h.IsListIter T a i) where
 mem:=by simp
 obj:=λi h O b U=>by
  have e:b=T:=by simp_all
  obtain⟨o,e,c,d⟩:=O
  simp_all
 keep:=λi h h' O k=>O.at λo e=>k T (by simp) o e
 item:=by
  intro X j l m hc i Q s Z H E I f O n;subst j l m;obtain⟨xs,x,g,q⟩:=n;obtain⟨its,r,p,B⟩:=I.list g;obtain⟨u,M,C⟩:=r.get q;obtain⟨t,v,D,y,z,A⟩:=f T (by simp);refine wpAny_pyNext_list_item O p.isList (x:=u) (by simp_all) λh' Y F=>?_;have G:eD X Q Z H {s with heap:=h'}:=I.turned (t':=s.toks) (λb o U e=>(F.2 b U).trans e) t v y z A;obtain⟨o,e,c,d⟩:=id Y;exact⟨u,rfl,HZ (s:={s with heap:=h'}) e c d (rfl) ⟨x,H,G,C,⟨rfl,λys J=>by rw[I.list_inj J g];exact q⟩,Y,λb U=>(f b U).1⟩⟩
 done:=by
  intro X j l m hc i Q s Z H E I f O n;subst j l m;obtain⟨xs,g,q⟩:=n;obtain⟨its,r,p,B⟩:=I.list g;obtain⟨t,v,D,y,z,A⟩:=f T (by simp);have N:=r.length;exact wpAny_pyNext_list_end (I.ok.hd hc) O p.isList (by simp_all) λh' L=>⟨rfl,I.turned (t':=s.toks) (λb o U e=>L b o U e) t v y z A⟩
 self:=λ_ _ _ _ _ O h=>wpAny_pyIter_listiter O h
def Ta{K:W.Frag}(a U:Addr):Cr P w K tg (Ko K a) [U] U (λi h=>h.IsTupleIter U a i) where
 mem:=by simp
 obj:=λi h O b Y=>by
  have e:b=U:=by simp_all
  obtain⟨o,e,c,d⟩:=O
  simp_all
 keep:=λi h h' O k=>O.at λo e=>k U (by simp) o e
 item:=by
  intro X j l m hc i Q s Z H E I f O n;subst j l m;obtain⟨xs,x,g,q⟩:=n;obtain⟨T,r,p,B⟩:=I.tuple g;obtain⟨u,M,C⟩:=r.get q;obtain⟨t,v,D,y,z,A⟩:=f U (by simp);refine wpAny_pyNext_tuple_item O (show s.heap.IsTuple a T.toArray from p) (x:=u) (by simp_all) λh' st' F=>?_;have G:eD X Q Z H {s with heap:=h'}:=I.turned (t':=s.toks) (λb o Y e=>(F.2 b Y).trans e) t v y z A;obtain⟨o,e,c,d⟩:=id st';exact⟨u,rfl,HZ (s:={s with heap:=h'}) e c d (rfl) ⟨x,H,G,C,⟨rfl,λys J=>by rw[I.tuple_inj J g];exact q⟩,st',λb Y=>(f b Y).1⟩⟩
 done:=by
  intro X j l m hc i Q s Z H E I f O n;subst j l m;obtain⟨xs,g,q⟩:=n;obtain⟨T,r,p,B⟩:=I.tuple g;obtain⟨t,v,D,y,z,A⟩:=f U (by simp);have N:=r.length;exact wpAny_pyNext_tuple_end (I.ok.hd hc) O (show s.heap.IsTuple a T.toArray from p) (by simp;simp_all) λh' L=>⟨rfl,I.turned (t':=s.toks) (λb o Y e=>L b o Y e) t v y z A⟩
 self:=λ_ _ _ _ _ O h=>wpAny_pyIter_tupleiter O h
def Tc{K:W.Frag}(C:Addr)(L:Int)(n:Nat):Cr P w K N (Ia L n) [C] C (λi h=>IsRangeIter h C (L+(i:Nat)*1) ((n:Int)-(i:Nat)) 1) where
 mem:=by simp
 obj:=λi h A b J=>by simp_all
 keep:=λi h M A k=>k C (by simp) _ A
 item:=by
  intro X m p q hc i B s Z H E I a A c;subst m p q;obtain⟨d,f,r,g,j,l⟩:=a C (by simp);have W:=Walks.range (prog:=X.prog) (w:=X.w) (I.ok.hd hc) C L 1 n;refine W.item i s _ _ c A λv M T u G x=>?_;obtain⟨t,rfl⟩:=u;have y:eD X B Z H {s with heap:=M,toks:=T}:=I.turned (λb o J e=>x b o (by simp_all) e) d f g j l;refine⟨_,rfl,HZ (s:={s with heap:=M,toks:=T}) (n:="range_iterator") G rfl rfl (rfl) ⟨.int (L+i),H,y,⟨t,?_⟩,⟨rfl,rfl⟩,G,λb J=>(a b J).1⟩⟩;simp
 done:=by
  intro X m p q hc i B s Z H E I a A c;obtain⟨d,f,r,g,j,l⟩:=a C (by simp);exact wpAny_pyNext_range_end (I.ok.hd hc) A (by have:n<=i:=c;lia) λM z=>⟨rfl,I.turned (t':=s.toks) (λb o J e=>z b o J e) d f g j l⟩
 self:=λ_ _ _ _ _ A h=>wpAny_pyIter_rangeiter A h
def MM{Z:St}{l hi:Int}(I:eD X p Z H s)(i:-(2 ^ 62)<=l)(c:l < 2 ^ 62)(d:-(2 ^ 62)<=hi)(f:hi < 2 ^ 62)
  (q:R (Ia l (hi-l).toNat) H):wpAny (model X.prog X.w) X.A (pyIter (.ref s.heap.objs.size)) (ML X p Z j R) E {s with heap:=s.heap.push {cls:=.type "range",data:=.fields #[.int l t,.int hi u,.int 1 v]},toks:=T}:=by
 refine wpAny_pyIter_range (IsRange.new ..) (small_one i c d f) ?_;have a:eD X p Z H {s with heap:=s.heap.push {cls:=.type "range",data:=.fields #[.int l t,.int hi u,.int 1 v]},toks:=T}:=I.kept λb o e=>sT _ e;refine⟨(s.heap.push {cls:=.type "range",data:=.fields #[.int l t,.int hi u,.int 1 v]}).objs.size,[(s.heap.push {cls:=.type "range",data:=.fields #[.int l t,.int hi u,.int 1 v]}).objs.size],_,_,H,rfl,
  a.kept (t':=T) λb o e=>sT _ e,Tc _ l (hi-l).toNat,?_,λb k=>?_,q⟩
 ·have g:l+((0:Nat):Int)*1=l:=by simp
  have h:(((hi-l).toNat:Nat):Int)-((0:Nat):Int)=Builtin.Range.rangeSize l hi 1:=by rw[rangeSize_one];grind
  rw[g,h];exact Ak _ rfl
 ·have e:b=(s.heap.push {cls:=.type "range",data:=.fields #[.int l t,.int hi u,.int 1 v]}).objs.size:=by simp_all
  subst e;exact a.fpOk (hF _) (a.hok.fresh (hF _))
def MN(a:TA):TI:=λZ H R=>a Z H λv b=>∃j:Int,v=[.int j] /\ -(2^62)<=j/\j<2^62/\R (Ia 0 j.toNat) b
def MO(a:TA):TI:=λZ H R=>a Z H λv b=>∃i j:Int,v=[.int i,.int j]/\(-(2^62)<=i/\i<2^62 /\ -(2^62)<=j/\j<2^62)/\R (Ia i (j-i).toNat) b
def Td(d:Gl X "range")(o:X.mg "range"=none)(u:PA X [a] c)(n:starEach [a] X.env=[(false,eval a X.env)]:=by rfl):PI X T (.Call (.Name "range" p) [a] [] pos) (MN c):=by
 intro m s Z H R I h;refine Call_ (jY I d o boot_range (FZ (thn (u pos m s Z H _ I h) λU w z=>?_) n rfl));obtain⟨v,l,f,g,b⟩:=z;obtain⟨j,e,b,i,q⟩:=b;subst e;cases g with
 | cons r k=>
   cases k;obtain⟨t,rfl⟩:=r;exact call_range_1 (MM f (by lia) (by lia) b i (by simp_all))
def Te(k:Gl X "range")(A:X.mg "range"=none)(B:PA X [a,b] g)(z:starEach [a,b] X.env=[(false,eval a X.env),(false,eval b X.env)]:=by rfl)(c:starEach [b] X.env=[(false,eval b X.env)]:=by rfl) :
  PI X T (.Call (.Name "range" p) [a,b] [] pos) (MO g):=by
 intro y s Z H R I h;refine Call_ (jY I k A boot_range (FZ (thn (B pos y s Z H _ I h) λU G C=>?_) (by rw[z,c]) (by rw[c];rfl)));obtain⟨E,w,l,m,d⟩:=C;obtain⟨i,j,e,⟨d,n,o,u⟩,q⟩:=d;subst e;cases m with
 | cons r f=>
   cases f with
   | cons v f=>
     cases f;obtain⟨t,rfl⟩:=r;obtain⟨x,rfl⟩:=v;exact call_range_2 (MM l d n o u q)
def Fo(b:TI)(g:TG)(t:TS):TS:=λD Z H=>b Z H λJ c=>∃W:Nat->Nat->St->Hp->Prop,(∃m,W 0 m Z c)/\∀i m Z H,W i m Z H ->
 (J.stop i H/\D.nx Z H)\/(J.go i H/\∃N:St->Hp->Prop,(∀e h,N e h->∃M,M < m/\W (i+1) M e h)/\∀x h,J.yld i H x h->g x Z h λa d=>t {D with nx:=N,ct:=N,bk:=D.nx} a d)
noncomputable def nZ(f:List Addr)(h:Heap):List (Addr×Obj):=f.filterMap λb=>(h.get? b).map λo=>(b,o)
def jM(hb:b∈f)(e:h.get? b=some o):(b,o)∈nZ f h:=Ja.mpr ⟨b,hb,by simp_all⟩
def Tf(a:p∈nZ f h):p.1∈f/\h.get? p.1=some p.2:=by
 obtain⟨b,H,e⟩:=Ja.mp a;cases q:h.get? b with
 |none=>simp_all
 | some o=>
   rw[q]at e;have c:(b,o)=p:=Ap e;subst c
   simp_all
def eD.pinned{Z:St}(I:eD X k Z H s)(a:∀ b∈n,DP X k H b)(c:∀ b∈n,∃ o,s.heap.get? b=some o/\∀ v,o.data≠.cell v):eD X (k++nZ n s.heap) Z H s:=
 I.pins_of λp f=>(Ac.mp f).elim (λz=>I.pin p (AE _ z)) λz=>by
  obtain⟨l,e⟩:=Tf z;obtain⟨g,h,i,_⟩:=a p.1 l;obtain⟨o,j,d⟩:=c p.1 l
  simp_all
def eD.unpinned{Z:St}(I:eD X (b++d) Z H s):eD X b Z H s:=I.pins_of λp a=>I.pin p (AE _ (BY _ a))
def oA(z:PassesOwn (model X.prog X.w) X.A X.env X.xe)(hc:X.calm=true)(hi:PI X tg iter R)(hg:PG X tg g)(hb:BB X p tb)
  (hs:∀x,foldedSetIterable iter X.env x=pure x:=by intro _;rfl):PS X (.For tg iter p [] pos) (Fo R g tb):=by
 intro q s Z H D I h;refine wpAny_For (thn (hi q s Z H _ I h) λv s1 h1=>thn h1 λitv s2 h2=>?_) hs;obtain⟨it,fp,tn,J,H2,e,I2,T,G,S,W,⟨m0,w0⟩,U⟩:=h2;subst e
 have c:∀{A:Hp},(∀b∈fp,A b=none)->∀b∈fp,DP X q A b:=λhn b hb=>⟨hn b hb,(S b hb).2⟩;refine codeAny_forLoop_any (λn s'=>∃i w A,eD X q w A s'/\tn i s'.heap/\(∀b∈fp,A b=none)/\W i n w A) ?_ m0 ⟨0,Z,H2,I2,G,λb hb=>(S b hb).1,w0⟩;rintro n V ⟨i,j,F,Y,B,C,w3⟩;rcases U i n j F w3 with⟨stop,qn⟩|⟨go,N,hN,step⟩
 ·refine FY z (thn (T.done X rfl rfl rfl hc i q V j F X.xe Y (c C) B stop) λr s4 Z0=>?_);obtain⟨L,I4⟩:=Z0;subst L;exact wpAny_execs_nil ⟨j,F,I4,qn⟩
 ·refine FY z (thn (T.item X rfl rfl rfl hc i q V j F X.xe Y (c C) B go) λr s4 Z0=>?_);obtain⟨u,L,h4⟩:=Z0;subst L;refine FY z (thn h4 λ_ σ ⟨x,H5,I5,r5,y5,y,M⟩=>?_);have π:=I5.pinned (c M) (T.obj _ _ y);refine FY z (thn (hg _ σ j H5 x u _ π r5 (step x H5 y5)) λ_ s6 ⟨P,H6,I6,q6⟩=>?_);refine FY z (thn (hb _ s6 P H6 _ I6 q6) λf Q t=>?_);have O:∀ {a:St} {k:Hp},eD X (q++nZ fp σ.heap) a k Q->N a k->∃ m,m < n/\∃ i w A,eD X q w A Q/\tn i Q.heap/\(∀ b∈fp,A b=none)/\W i m w A:=λ{a k} l E=>by
   obtain⟨m',hm,w7⟩:=hN a k E;refine⟨m',hm,i+1,a,k,l.unpinned,T.keep _ _ _ y λb hb o e=>(l.pin (b,o) (AE _ (AE _ (jM hb e)))).1,λb hb=>?_,w7⟩;obtain⟨o,e,d⟩:=T.obj _ _ y b hb;exact(l.pin (b,o) (AE _ (AE _ (jM hb e)))).2.1
  cases f with
  |next|cont=>obtain⟨a,k,l,E⟩:=t;exact O l E
  |brk=>obtain⟨a,k,l,t⟩:=t;exact⟨a,k,l.unpinned,t⟩
  |ret v=>obtain⟨x7,a,k,l,r7,t⟩:=t;exact⟨x7,a,k,l.unpinned,r7,t⟩
abbrev R2:=V->V->Hp->VK->Prop
def Ar(X:Cx)(f:Value->Value->Sem Value)(r:R2):Prop:=
 ∀ (p:List (Addr×Obj)) (s:Shared) (Z:St) (H:Hp) (x y:V) (v u:Value) (Q:VK),eD X p Z H s->cJ x v->cJ y u->r x y H Q ->
   wpAny (model X.prog X.w) X.A (f v u) (EP X p Z Q) X.xe s
def Jg(X:Cx)(f:Value->Sem Value)(r:V->Hp->VK->Prop):Prop:=
 ∀ (p:List (Addr×Obj)) (s:Shared) (Z:St) (H:Hp) (x:V) (v:Value) (Q:VK),eD X p Z H s->cJ x v->r x H Q ->
   wpAny (model X.prog X.w) X.A (f v) (EP X p Z Q) X.xe s
def kD(X:Cx)(f:Value)(r:List V->Hp->VK->Prop):Prop:=
 ∀ (p:List (Addr×Obj)) (s:Shared) (Z:St) (H:Hp) (x:List V) (u:List Value) (Q:VK),eD X p Z H s->bF x u->r x H Q ->
   wpAny (model X.prog X.w) X.A (call f u) (EP X p Z Q) X.xe s
def Tg(X:Cx)(r:V->Hp->(Bool->Hp->Prop)->Prop):Prop:=
 ∀ (p:List (Addr×Obj)) (s:Shared) (Z:St) (H:Hp) (x:V) (v:Value) (Q:Bool->Hp->Prop),eD X p Z H s->cJ x v->r x H Q ->
   wpAny (model X.prog X.w) X.A (truthy v) (TP X p Z Q) X.xe s
def EC(r:R2)(a t:TE):TE:=λZ H Q=>a Z H λx b=>t Z b λy c=>r x y c Q
def MQ(r:V->Hp->VK->Prop)(a:TE):TE:=λZ H Q=>a Z H λx b=>r x b Q
def rI(C:Int->Int->Prop)(g:Int->Int->V):R2:=λx y H Q=>∃i j,x=.int i/\y=.int j/\C i j/\Q (g i j) H
def Du(g:Int->Int->V):R2:=λx y H Q=>∃i j,x=.int i/\y=.int j/\Q (g i j) H
def rU(g:Int->V):V->Hp->VK->Prop:=λx H Q=>∃i,x=.int i/\Q (g i) H
def Kp{Z:St}{R:V->V->Hp->Prop}{f:Value->Value->Sem Value}(w:PE X a T)(hb:PE X b t)(I:eD X p Z H s)
  (h:T Z H λx g=>t Z g λy c=>R x y c)  
  (i:∀v u q x y c,eD X p Z c q->cJ x v->cJ y u->R x y c->wpAny (model X.prog X.w) X.A (f v u) Q X.xe q) :
  wpAny (model X.prog X.w) X.A (eval a X.env) (λv d=>wpAny (model X.prog X.w) X.A (eval b X.env) (λu e=>wpAny (model X.prog X.w) X.A (f v u) Q X.xe e) X.xe d) X.xe s:=by
 refine thn (w p s Z H _ I h) λv r z=>?_;obtain⟨x,g,j,k,l⟩:=z;refine thn (hb p r Z g _ j l) λu q ⟨y,c,m,n,o⟩=>?_;exact i v u q x y c m k n o
def Th(d:Ar X (binaryOp c) r)(k:PE X a T)(hb:PE X b t):PE X (.BinOp a c b pos) (EC r T t):=by
 intro p s Z H Q I h;exact wpAny_BinOp (Kp k hb I h λv u j x y e f g i q=>d p j Z e x y v u Q f g i q)
def Ti(c:Jg X (unaryOp b) r)(j:PE X a t):PE X (.UnaryOp b a pos) (MQ r t):=by
 intro p s Z H Q I h;exact UnaryOp_ (thn (j p s Z H _ I h) λv i ⟨x,d,e,f,g⟩=>c p i Z d x v Q e f g)
def Ib{g:Int->Int->Int}
  (r:∀(i j:Int) (t u:Tok) (s:Shared) (Q:Value->Shared->Prop) (E:Value->Shared->Prop),C i j->Q (.int (g i j) s.toks) {s with toks:=s.toks+1}->wpAny (model X.prog X.w) X.A (f (.int i t) (.int j u)) Q E s) :
  Ar X f (rI C λi j=>.int (g i j)):=by
 intro p s Z H x y v u Q I a b h;obtain⟨i,j,rfl,rfl,hc,q⟩:=h;obtain⟨t,rfl⟩:=a;obtain⟨c,rfl⟩:=b;exact r i j t c s _ _ hc ⟨.int (g i j),H,I.tok _,⟨_,rfl⟩,q⟩
def MR{g:Int->Int->Int}
  (r:∀(i j:Int) (t u:Tok) (s:Shared) (Q:Value->Shared->Prop) (E:Value->Shared->Prop),Q (.int (g i j) s.toks) {s with toks:=s.toks+1}->wpAny (model X.prog X.w) X.A (f (.int i t) (.int j u)) Q E s) :
  Ar X f (Du λi j=>.int (g i j)):=by
 intro p s Z H x y v u Q I a b h;obtain⟨i,j,rfl,rfl,q⟩:=h;obtain⟨t,rfl⟩:=a;obtain⟨c,rfl⟩:=b;exact r i j t c s _ _ ⟨.int (g i j),H,I.tok _,⟨_,rfl⟩,q⟩
def Kq{g:Int->Int->Bool}
  (r:∀(i j:Int) (t u:Tok) (s:Shared) (Q:Value->Shared->Prop) (E:Value->Shared->Prop),Q (.bool (g i j)) s->wpAny (model X.prog X.w) X.A (f (.int i t) (.int j u)) Q E s) :
  Ar X f (Du λi j=>.bl (g i j)):=by
 intro p s Z H x y v u Q I a b h;obtain⟨i,j,rfl,rfl,q⟩:=h;obtain⟨t,rfl⟩:=a;obtain⟨c,rfl⟩:=b;exact r i j t c s _ _ ⟨.bl (g i j),H,I,rfl,q⟩
def GV(i j:Int):Prop:=0<=j/\j<=1000000/\i.natAbs<2^64
def Ic(i j:Int):Prop:=(-(2^64)<i/\i<2^64)\/(-(2^64)<j/\j<2^64)
theorem Ic.ok(h:Ic i j):IntMulOk i j:=by
 rcases h with⟨a,b⟩|⟨a,b⟩;exact .of_left (intBits_le_64 a b);exact .of_right (intBits_le_64 a b)
def Tj:Ar X (binaryOp .Add) (Du λi j=>.int (i+j)):=MR λ_ _ _ _ _ _ _ q=>add_int q
def Tn:Ar X (binaryOp .Sub) (Du λi j=>.int (i-j)):=MR λ_ _ _ _ _ _ _ q=>sub_int q
def To:Ar X (binaryOp .Mult) (rI Ic λi j=>.int (i*j)):=Ib λ_ _ _ _ _ _ _ hc q=>mul_int q hc.ok
def Tp:Ar X (binaryOp .Mod) (rI (λ_ j=>0<j) λi j=>.int (i % j)):=Ib λi j _ _ _ _ _ hc q=>by
 exact mod_int' (by lia) (by rw[Int.fmod_eq_emod_of_nonneg i (by lia)];exact q)
def Ts:Ar X (binaryOp .Pow) (rI GV λi j=>.int (i^j.toNat)):=Ib λ_ _ _ _ _ _ _ hc q=>pow_int_small hc.1 hc.2.1 hc.2.2 q
def Tt{g:Int->Int}
  (r:∀(i:Int) (t:Tok) (s:Shared) (Q:Value->Shared->Prop) (E:Value->Shared->Prop),Q (.int (g i) s.toks) {s with toks:=s.toks+1}->wpAny (model X.prog X.w) X.A (f (.int i t)) Q E s) :
  Jg X f (rU λi=>.int (g i)):=by
 intro p s Z H x v Q I a h;obtain⟨i,rfl,q⟩:=h;obtain⟨t,rfl⟩:=a;exact r i t s _ _ ⟨.int (g i),H,I.tok _,⟨_,rfl⟩,q⟩
def Tu:Jg X (unaryOp .USub) (rU λi=>.int (-i)):=Tt λ_ _ _ _ _ q=>neg_int q
def MT{Z:St}(I:eD X p Z H s)(q:Q (.bl k) H)(e:k=a):EP X p Z Q (.bool a) s:=by
 subst e;exact⟨.bl k,H,I,rfl,q⟩
def MU:Ar X (compareOp .Lt) (Du λi j=>.bl (decide (i<j))):=Kq λ_ _ _ _ _ _ _ q=>lt_int q
def MV:Ar X (compareOp .Gt) (Du λi j=>.bl (decide (j<i))):=Kq λ_ _ _ _ _ _ _ q=>gt_int q
def Tv:Ar X (compareOp .GtE) (Du λi j=>.bl (decide (j<=i))):=Kq λ_ _ _ _ _ _ _ q=>ge_int q
def Tz:Ar X (compareOp .In) (λx y H Q=>∃i j,x=.str i/\y=.str j/\Q (.bl (!(occurrences j i 0 j.length 1).isEmpty)) H):=by
 intro p s Z H x y v u Q I a b h;obtain⟨i,j,rfl,rfl,q⟩:=h;obtain⟨t,rfl⟩:=a;obtain⟨c,rfl⟩:=b;exact in_str (MT I q rfl)
def uF:Ar X (compareOp .NotIn) (λx y H Q=>∃i j,x=.str i/\y=.str j/\Q (.bl (!(!(occurrences j i 0 j.length 1).isEmpty))) H):=by
 intro p s Z H x y v u Q I a b h;obtain⟨i,j,rfl,rfl,q⟩:=h;obtain⟨t,rfl⟩:=a;obtain⟨c,rfl⟩:=b;exact notIn_str (MT I q rfl)
def Ar.or(h:Ar X f r)(h':Ar X f a):Ar X f (λx y H Q=>r x y H Q\/a x y H Q):=by
 intro p s Z H x y v u Q I b c q;rcases q with q|q;exact h p s Z H x y v u Q I b c q;exact h' p s Z H x y v u Q I b c q
def mM(b:Expr)(h:a≠.In:=by decide)(e:a≠.NotIn:=by decide):behindInMarks a b=false:=by
 have c:(a==CmpOp.In)=false:=by lia
 have d:(a==CmpOp.NotIn)=false:=by lia
 cases b<;>first|rfl|(show(_&&(_||_)&&_)=false;rw[c,d];simp)
def TB(d:Ar X (compareOp c) r)(l:PE X a T)(hb:PE X b t)(k:behindInMarks c b=false):PE X (.Compare a [c] [b] pos) (EC r T t):=by
 intro p s Z H Q I h;exact wpAny_Compare1 (Kp l hb I h λv u j x y e f g i q=>d p j Z e x y v u Q f g i q) k
def TC(t:TE):TT:=λZ H Q=>t Z H λx h=>∃k,x=.bl k/\Q k h
def TF(f:Ar X (compareOp d) r)(M:PE X a E)(hb:PE X b T)(L:behindInMarks d b=false):PT X (.Compare a [d] [b] pos) (TC (EC r E T)):=by
 intro C s Z H Q I h;refine wpAny_isTrue_Compare1 (thn (M C s Z H _ I h) λv J ⟨x,g,i,j,l⟩=>thn (hb C J Z g _ i l) λu G ⟨y,m,n,o,p⟩=>
  thn (f C G Z m x y v u _ n j o p) λc B ⟨z,q,t,w,k,e,A⟩=>?_) L
 subst e;cases w;exact IU ⟨q,t,A⟩
def MW(K:W.Frag)(x:V)(H:Hp)(k:Bool):Prop:=
 match x with
 |.non=>k=false
 |.bl b=>k=b
 |.int i=>k=(i != 0)
 |.str y=>y.length<=sizeLine/\k=((y.length:Int) != 0)
 |.byt y=>y.size<=sizeLine/\k=((y.size:Int) != 0)
 |.ref p=>(∃a,Bd K H p a/\k = !a.isEmpty)\/(∃a,BV K H p a/\k = !a.isEmpty)\/∃c,H p=some (.dK c)/\k = !c.isEmpty
 |_=>False
def TJ{v:List (κ×Value)}(r:KV k v):(!v.isEmpty) = !k.isEmpty:=by
 cases r<;>rfl
def qM(r:bF xs i):(!i.toArray.isEmpty) = !xs.isEmpty:=by
 cases r<;>simp
def oB:(sizeLine:Nat)<2^63:=by decide
def TL:Tg X (λx H Q=>∃k,MW X.K x H k/\Q k H):=by
 intro A s Z H x v Q I d h;obtain⟨k,e,q⟩:=h;have l:=oB;have C:sizeLine=16777216:=DK;cases x with
 | non=>
   cases d;have a:k=false:=e;subst a;exact truthy_none ⟨H,I,q⟩
 | bl b=>
   cases d;have a:k=b:=e;subst a;exact IU ⟨H,I,q⟩
 | int i=>
   obtain⟨t,rfl⟩:=d;have a:k=(i != 0):=e;subst a;exact PySem.P.truthy_int ⟨H,I,q⟩
 | str y=>
   obtain⟨t,rfl⟩:=d;obtain⟨j,a⟩:y.length<=sizeLine/\k=((y.length:Int) != 0):=e;subst a;exact PySem.P.truthy_str (by lia) ⟨H,I.tok _,q⟩
 | byt y=>
   obtain⟨t,rfl⟩:=d;obtain⟨j,a⟩:y.size<=sizeLine/\k=((y.size:Int) != 0):=e;subst a;exact W.truthy_bytes (by lia) ⟨H,I.tok _,q⟩
 | ref p=>
   cases d;have a:(∃o,Bd X.K H p o/\k = !o.isEmpty)\/(∃o,BV X.K H p o/\k = !o.isEmpty)\/∃n,H p=some (.dK n)/\k = !n.isEmpty:=e;rcases a with⟨o,f,a⟩|⟨o,f,a⟩|⟨n,f,a⟩;subst a;obtain⟨z,r,w,g⟩:=I.list f;have c:=r.length;exact wpAny_truthy_list w.isList (by simp only[size_toArray];lia) ⟨H,I.tok _,by rw[qM r];exact q⟩;subst a;obtain⟨z,r,w,g⟩:=I.tuple f;have c:=r.length;exact truthy_tuple w (by simp only[size_toArray];lia) ⟨H,I.tok _,by rw[qM r];exact q⟩;subst a;obtain⟨g,B,u,r,m⟩:n.length<=sizeLine/\(p==sysModules)=false/\∃u,KV n u/\s.heap.DictOf (bH X.prog X.w) p u:=I.hok p _ f;have c:n.length=u.length:=Paired.length r;exact wpAny_truthy_dict B m (by lia) ⟨H,I.tok _,by rw[TJ r];exact q⟩
 |_=>exact(show False from e).elim
def TM(l:PE X a t)(c:∀ b,isTrue a X.env b=(do let v ← b;standAt a.pos;holding [v] (truthy v))) :
  PT X a (λZ H Q=>t Z H λx i=>∃k,MW X.K x i k/\Q k i):=by
 intro p s Z H Q I h;exact isTrue_plain (thn (l p s Z H _ I h) λv j ⟨x,d,e,f,g⟩=>TL p j Z d x v Q e f g) (c _)
def TN:Ar X (binaryOp .Add) (λx y H Q=>∃i j,x=.str i/\y=.str j/\i.length+j.length<=sizeLine/\Q (.str (i++j)) H):=by
 intro p s Z H x y v u Q I a b h;obtain⟨i,j,rfl,rfl,c,q⟩:=h;obtain⟨t,rfl⟩:=a;obtain⟨d,rfl⟩:=b;exact add_str (λd T=>⟨.str (i++j),H,I.tok _,⟨_,rfl⟩,q⟩) c
def xG(r:bF [x] U):∃u,U=[u]/\cJ x u:=by
 cases r with
 |cons b a=>cases a;simp_all
def Kr(r:bF [x,y] U):∃u a,U=[u,a]/\cJ x u/\cJ y a:=by
 cases r with
 | cons b c=>
   cases c with
   |cons d e=>cases e;exact⟨_,_,rfl,b,d⟩
def TQ(hc:X.calm=true):kD X (.builtin "max") (λxs H Q=>∃i j,xs=[.int i,.int j]/\Q (.int (if j > i then j else i)) H):=by
 intro p s Z H xs U Q I r h;obtain⟨i,j,rfl,q⟩:=h;obtain⟨u,a,rfl,⟨t,rfl⟩,⟨b,rfl⟩⟩:=Kr r;refine max_two_ints (I.ok.hd hc) λd T k=>⟨_,H,I.kept k,?_,q⟩;by_cases c:j > i;rw[gV c,gV c];exact⟨_,rfl⟩;rw[a0m c,a0m c];exact⟨_,rfl⟩
def TR(hc:X.calm=true):kD X (.builtin "min") (λxs H Q=>∃i j,xs=[.int i,.int j]/\Q (.int (if j<i then j else i)) H):=by
 intro p s Z H xs U Q I r h;obtain⟨i,j,rfl,q⟩:=h;obtain⟨u,a,rfl,⟨t,rfl⟩,⟨b,rfl⟩⟩:=Kr r;refine min_two_ints (I.ok.hd hc) λd T k=>⟨_,H,I.kept k,?_,q⟩;by_cases c:j<i;rw[gV c,gV c];exact⟨_,rfl⟩;rw[a0m c,a0m c];exact⟨_,rfl⟩
def TU:kD X (.type "int") (λxs H Q=>(∃i,xs=[.int i]/\Q (.int i) H)\/∃k,xs=[.bl k]/\Q (.int (if k then 1 else 0)) H):=by
 intro p s Z H xs U Q I r h;rcases h with⟨i,rfl,q⟩|⟨k,rfl,q⟩;obtain⟨u,rfl,t,rfl⟩:=xG r;exact call_int_int ⟨.int i,H,I,⟨_,rfl⟩,q⟩;obtain⟨u,rfl,a⟩:=xG r;cases a;exact call_int_bool ⟨.int (if k then 1 else 0),H,I.tok _,⟨_,rfl⟩,q⟩
structure Gd(h:Heap)(x dx C:Addr)(mA:Str->Option Value):Prop where
 obj:h.get? x=some (W.instObj C dx)
 ns:h.Ns1 dx mA
 ne:dx≠x
def TV{h:Heap}(n:h.Ns1 i m):∃ O,h.get? i=some O/\∀ N,W.lookIn N O=some (m N):=by
 obtain⟨o,E,j,c,g,d,_,H⟩:=n;refine⟨o,c,λN=>?_⟩;have e:=H N;unfold nsFind findBy at e;rw[← Array.find?_toList]at e;unfold W.lookIn;rw[g];dsimp only;split
 ·simp_all
 ·rename_i q;rw[q]at e;have a:E.toList.any (·.refKey)=false:=by
   rw[List.any_eq_false];intro y f;obtain⟨z,t,b⟩:=d y (Array.mem_toList_iff.mp f);simp[DictEntry.refKey,b]
  grind
def Gd.look(I:Gd h x d C m):∃o,W.InstAt h x (W.instObj C d) C (some o)/\∀n,W.lookIn n o=some (m n):=
 let ⟨o,a,H⟩:=TV I.ns
 ⟨o,⟨I.obj,rfl,rfl,a⟩,H⟩
def hZ(hok:AA P w H h)(e:H a=some (.ins C c b)):∃m,Gd h a c C m/\(∀f,GQ (b.lookup f) (m f))/\Within m (b.map (·.1))/\b.length<=1000/\H c=some (.own a):=by
 obtain⟨d,z,N,o,m,n,r,q⟩:=(show cC P w H h a (.ins C c b)from hok a _ e);exact⟨m,⟨o,n,N⟩,r,q,z,d⟩
structure Ks(K:W.Frag)(C:Addr):Prop where
 pg:W.plainGet K C Str.empty=true
 hd:W.hasDictIn K C=true
 po:W.plainOver K C=true
 sa:W.findIn K (.ref C) "__setattr__"=some (some (.builtin "object.__setattr__"))
def Ks.get{K:W.Frag}(c:Ks K C)(f:Str):W.plainGet K C f=true:=c.pg
inductive AR(K:W.Frag)(H:Hp):V->Value->Prop where
 |non:AR K H .non (.type "NoneType")
 |bl (x:Bool):AR K H (.bl x) (.type "bool")
 |int (i:Int):AR K H (.int i) (.type "int")
 |str (x:Str):AR K H (.str x) (.type "str")
 |flt (x:UInt64):AR K H (.flt x) (.type "float")
 |lst {a:Addr} {xs:List V} (e:H a=some (.lst xs)):AR K H (.ref a) (.type "list")
 |frz {a:Addr} {o:Obj} {xs:List V} (e:H a=some (.frz o (.lst xs))):AR K H (.ref a) (.type "list")
 |tup {a:Addr} {xs:List V} (e:H a=some (.tup xs)):AR K H (.ref a) (.type "tuple")
 |dK {a:Addr} {kvs:List (Key×V)} (e:H a=some (.dK kvs)):AR K H (.ref a) (.type "dict")
 |dT {a:Addr} {kvs:List (List Key×V)} (e:H a=some (.dT kvs)):AR K H (.ref a) (.type "dict")
 | ins {a C dx:Addr} {fs:List (Str×V)} (e:H a=some (.ins C dx fs)) (cl:Ks K C) (ha:W.findIn K (.ref C) "__class__"=some (some (.builtin "object.__class__")))
   (hn:W.specialIn K (.builtin "object.__class__") "__get__"=some (some (.builtin "getset_descriptor.__get__"))) (htk:W.takesIn K (.builtin "object.__class__")=some true)
   (hm:W.mroIn K C (.type "object")=some true):AR K H (.ref a) (.ref C)
def TX{Z:St}(I:eD X r Z H s)(d:cJ x u)(ty:AR X.K H x t)(e:W.kitOne X.K t c=some b)(h:∀ T,Q (.bool b) {s with toks:=T}) :
  wpAny (model X.prog X.w) A (call (.builtin "isinstance") [u,c]) Q E s:=by
 cases ty with
 |non=>cases (show u=Value.none from d);exact DM W.kitx_none I.kIn True.intro e (λz=>nomatch z) h
 |bl y=>cases (show u=Value.bool y from d);exact DM W.kitx_bool I.kIn True.intro e (λz=>nomatch z) h
 |int i=>obtain⟨t,q⟩:=(show ∃t,u=Value.int i t from d);cases q;exact DM W.kitx_int I.kIn True.intro e (λz=>nomatch z) h
 |str y=>obtain⟨t,q⟩:=(show ∃t,u=Value.str y t from d);cases q;exact DM W.kitx_str I.kIn True.intro e (λz=>nomatch z) h
 |flt y=>obtain⟨t,q⟩:=(show ∃t,u=float y t from d);cases q;exact DM W.kitx_float I.kIn True.intro e (λz=>nomatch z) h
 | @lst a l f=>
   cases (show u=Value.ref a from d);obtain⟨_,_,n,_,g⟩:=(show cC X.prog X.w H s.heap a (.lst l)from I.hok a _ f);exact DM W.kitx_list I.kIn ⟨_,g,rfl⟩ e (λz=>nomatch z) h
 | @frz a O l f=>
   cases (show u=Value.ref a from d);obtain⟨_,_,_,n,_,g⟩:=(show cC X.prog X.w H s.heap a (.frz O (.lst l))from I.hok a _ f);exact DM W.kitx_list I.kIn ⟨_,g,rfl⟩ e (λz=>nomatch z) h
 | @tup a l f=>
   cases (show u=Value.ref a from d);obtain⟨_,_,_,p,_⟩:=(show cC X.prog X.w H s.heap a (.tup l)from I.hok a _ f);obtain⟨o,g,j,_⟩:=p;exact DM W.kitx_tuple I.kIn ⟨o,g,j⟩ e (λz=>nomatch z) h
 | @dK a k f=>
   cases (show u=Value.ref a from d);obtain⟨_,_,N,_,p⟩:=(show cC X.prog X.w H s.heap a (.dK k)from I.hok a _ f);obtain⟨o,L,M,g,j,_⟩:=p;exact DM W.kitx_dict I.kIn ⟨o,g,j.1⟩ e (λz=>nomatch z) h
 | @dT a k f=>
   cases (show u=Value.ref a from d);obtain⟨_,_,l,_,o,L,M,g,j,_⟩:=(show cC X.prog X.w H s.heap a (.dT k)from I.hok a _ f);exact DM W.kitx_dict I.kIn ⟨o,g,j.1⟩ e (λz=>nomatch z) h
 | @ins a C dx fs f v G w m B=>
   cases (show u=Value.ref a from d);obtain⟨Y,π,_⟩:=hZ I.hok f;obtain⟨U,J,_⟩:=π.look;exact DM (W.kitx_own (v.get _) v.hd G w m B) I.kIn J e (λz=>nomatch z) h
structure Ae(k:Nat)(A:Around):Prop where
 hd:A.handled=none
 dp:A.depth+3*k+5<recursionLimit
 un:A.units+16*k+200<cLine
 gd:A.guards=some []
def Ae.mono(r:Ae k A)(h:j<=k):Ae j A:=⟨r.hd,by have:=r.dp;lia,by have:=r.un;lia,r.gd⟩
theorem Ae.deeper(r:Ae (k+1) A)(env:Env):Ae k (A.deeper env):=
 ⟨r.hd,by have:=r.dp;show A.depth+1+3*k+5 < _;lia,by have:=r.un;show A.units+3+16*k+200 < _;lia,r.gd⟩
theorem Ae.depth(r:Ae k A):A.depth<recursionLimit:=by have:=r.dp;lia
theorem Ae.units(r:Ae k A):A.units+64<cLine:=by have:=r.un;lia
def Ge:TA:=λ_ H Q=>Q [] H
def GX(a:TE)(tr:TA):TA:=λZ H Q=>a Z H λx b=>tr Z b λd c=>Q (x::d) c
def Jh:PA X [] Ge:=λ_ _ _ _ H Q I h=>Calls.spliced_nil ⟨[],H,I,.nil,h⟩
def rM(q:PE X e T)(a:PA X E t)(o:starEach (e::E) X.env=(false,eval e X.env)::starEach E X.env:=by rfl):PA X (e::E) (GX T t):=by
 intro l p s Z H Q I h;rw[o];refine Calls.spliced_cons (thn (q p s Z H _ I h) λu n z=>?_);obtain⟨x,b,c,d,f⟩:=z;exact thn (a l p n Z b _ c f) λU r ⟨m,g,i,j,k⟩=>⟨x::m,g,i,.cons d j,k⟩
def TY(t:TA):TE:=λZ H Q=>t Z H λx a=>x.length<=sizeLine/\∀p,a p=none->Q (.ref p) (fI a p (.tup x))
def Kt(t:TA):TE:=λZ H Q=>t Z H λx a=>x.length<=sizeLine/\∀p,a p=none->Q (.ref p) (fI a p (.lst x))
def TZ(h:PA X E t):PE X (.Tuple E d pos) (TY t):=by
 intro p s Z H Q I f;refine wpAny_Tuple_spliced (thn (h pos p s Z H _ I f) λU i ⟨x,a,c,r,z,q⟩=>⟨by rw[← r.length];exact z,?_⟩);have g:a i.heap.objs.size=none:=c.hok.fresh (hF _);refine⟨.ref i.heap.objs.size,fI a i.heap.objs.size (.tup x),c.laid (t':=i.toks) (λb u e=>sT _ e) (hF _) ?_,rfl,q _ g⟩;exact⟨z,U,r,⟨_,Ak _ rfl,rfl,_,rfl⟩,⟨_,Ak _ rfl,rfl⟩⟩
def MX(h:PA X E t):PE X (.List E pos) (Kt t):=by
 intro p s Z H Q I d;refine wpAny_List_spliced (thn (h pos p s Z H _ I d) λU g ⟨x,a,c,r,z,q⟩=>⟨by rw[← r.length];exact z,?_⟩);have f:a g.heap.objs.size=none:=c.hok.fresh (hF _);refine⟨.ref g.heap.objs.size,fI a g.heap.objs.size (.lst x),c.laid (t':=g.toks) (λb u e=>sT _ e) (hF _) ?_,rfl,q _ f⟩;exact⟨z,U,0,r,Ak _ rfl⟩
abbrev Sp:=List V->Hp->VK->XK->Prop
abbrev GY:=List Env->Hp->Shared->XK->Value->Shared->Prop
structure ED(P:Program)(w:World)(K:W.Frag)(mg:Str->Option Value)(base:Heap)(A:Around)(outer:List Env)(s:Shared)(H:Hp):Prop where
 frames:A.frames=some outer
 mod:Mod K mg base
 bs:∀b o,base.get? b=some o->s.heap.get? b=some o/\H b=none
 bsz:base.objs.size<=s.heap.objs.size
 funs:s.heap.FunFrames base outer
 frf:∀b∈frs outer,H b=none
 hok:AA P w H s.heap
 bare:AllBare s.gens
def CE(outer:List Env)(P:Program)(w:World)(H:Hp)(s:Shared)(Q:VK)(u:Value)(a:Shared):Prop:=
 ∃v h,a.os=s.os/\AllBare a.gens/\Un (frs outer) [] H h s.heap a.heap/\AA P w h a.heap/\cJ v u/\Q v h
def CR(C:GY)(outer:List Env)(P:Program)(w:World)(H:Hp)(s:Shared)(Q:VK)(E:XK)(r:Result)(a:Shared):Prop:=
 match r with
 |.ok (.ret u)=>CE outer P w H s Q u a
 |.ok _=>False
 |.error e=>C outer H s E e a
structure Au(P:Program)(w:World)(K:W.Frag)(mg:Str->Option Value)(base:Heap)(CX:GY)(k:Nat)(f:Addr)(fd:FuncData)(ps:List Str)(sp:Sp):Prop where
 len:∀vs H Q E,sp vs H Q E->vs.length=ps.length
 run:∀(A:Around) (outer:List Env) (s:Shared) (H:Hp) (args:Args) (us:List Value) (vs:List V) (Q:VK) (E:XK),Ae k A->ED P w K mg base A outer s H->BindsTo s fd args (ps.zip us)->bF vs us->sp vs H Q E ->
  codeAny (model P w) A (.call (.ref f) args) (CR CX outer P w H s Q E) s
theorem Au.mono{K:W.Frag}(F:Au P w K mg base C j f d p c)(h:j<=k) :
  Au P w K mg base C k f d p c:=⟨F.len,λA o s H b u v Q E a=>F.run A o s H b u v Q E (a.mono h)⟩
def Au.imp{K:W.Frag}(F:Au P w K mg base C k f l p g)
  (h:∀v H Q E,e v H Q E->g v H Q E):Au P w K mg base C k f l p e:=
 ⟨λv H Q E q=>F.len v H Q E (h _ _ _ _ q),λA o s H d u v Q E a b j c i=>F.run A o s H d u v Q E a b j c (h _ _ _ _ i)⟩
def eD.env0{Z:St}(I:eD X a Z H s):ED X.prog X.w X.K X.mg X.base X.A X.stack s H:=
 ⟨I.ok.frames,I.ok.mod,I.bs,gY I.ok.bsz I.sz,I.stack,I.stkFree,I.hok,I.bare⟩
def eD.after{Z:St}(I:eD X e Z H s)(h:CE X.stack X.prog X.w H s Q u j):EP X e Z Q u j:=by
 obtain⟨v,k,o,B,U,f,r,q⟩:=h;obtain⟨c,g,d,t,a⟩:=j;obtain rfl:a=s.os:=o;exact⟨v,k,I.call (h':=c) (g':=g) (d':=d) (t':=t) (ch:=[]) U f B (λb z=>absurd z (by simp)),r,q⟩
def Ji(s:Sp)(a:List V)(E:XK)(t:TA):TE:=λZ H Q=>t Z H λv b=>s (v++a) b Q E
def GZ(K:W.Frag)(f:FuncData)(p:List Str)(d:List Value):Prop:=
 ∀(s:Shared) (u:List Value),K.In s.heap->(u++d).length=p.length->BindsTo s f ⟨u,[]⟩ (p.zip (u++d))
def GZ.all{K:W.Frag}(h:∀u:List Value,u.length=p.length->bindArgs f ⟨u,[]⟩=pure (p.zip u)):GZ K f p []:=λs u _ a=>by
 rw[Dp]at a ⊢;exact .of_eq (h u a)
def Ku(C:GY)(X:Cx)(E:XK):Prop:=∀(p:List (Addr×Obj)) (Z:St) (H:Hp) (s:Shared) (e:Value) (a:Shared),eD X p Z H s->C X.stack H s E e a->X.xe e a
def Ua{Z:St}(F:Au X.prog X.w X.K X.mg X.base C k f t m n)(c:Ae k X.A)(hb:GZ X.K t m l)(q:bF j l)(d:Ku C X E)
  (I:eD X p Z H s) (r:bF v U) (h:n (v++j) H Q E):wpAny (model X.prog X.w) X.A (call (.ref f) U) (EP X p Z Q) X.xe s:=by
 have b:bF (v++j) (U++l):=r.append q;have g:(U++l).length=m.length:=by rw[← b.length];exact F.len _ _ _ _ h
 refine wpAny_call (GF (F.run X.A X.stack s H ⟨U,[]⟩ (U++l) (v++j) Q E c I.env0 (hb s U I.kIn g) b h) λr o a=>?_);cases r with
 |error e=>exact d p Z H s e o I a
 | ok i=>
   cases i with
   |ret u=>exact I.after a
   |next|brk|cont=>exact elim a
def xH(F:Au X.prog X.w X.K X.mg X.base G k f B w v)(d:Ae k X.A)(g:Gl X x)(y:X.mg x=some (.ref f))(i:W.keepIn X.K (.ref f)=true)(hb:GZ X.K B w C)(z:bF u C)(j:Ku G X E)
  (A:PA X (e::o) t) (a:(x==("__debug__":Str))=false:=by decide) (l:starEach (e::o) X.env=(false,eval e X.env)::starEach o X.env:=by rfl) (b:(backTo pos (starEach o X.env)).any (·.1)=false:=by rfl) :
  PE X (.Call (.Name x p) (e::o) [] pos) (Ji v u E t):=by
 intro n s Z H Q I h;refine FW (Sv I g y ?_ a);refine W.callWith_K (h₀:=X.base) I.ok.mod.kin i (thn (A pos n s Z H _ I h) λU L ⟨J,m,c,r,q⟩=>⟨c.kIn,?_⟩) l b;exact Ua F d hb z j c r q
structure AB(N P:List Str)(sc:Scope):Prop where
 kind:sc.kind=.function
 co:sc.isCoroutine=false
 gen:sc.isGenerator=false
 nd:N.Nodup
 pre:N.take P.length=P
 par:∀x∈P,sc.names.lookup x=some .local\/sc.names.lookup x=some .cell
 nofree:∀y∈sc.names,y.2≠.free
theorem uG{k:Str->Option NameKind}:∀ {b:List (Str×Value)} {m:Str->Option Value},(∀ v,(x,v)∉b)->bindL k b m x=m x
 |[],_,_=>rfl
 | (n,v)::r,m,h=>by
   unfold bindL;rw[uG λw a=>h w (Am _ a)];split
   ·grind
   rfl
theorem uH{k:Str->Option NameKind}:∀ {b:List (Str×Value)} {m:Str->Option Value},(∀ v,(x,v)∉b)->bindC k b m x=m x
 |[],_,_=>rfl
 | (n,v)::r,m,h=>by
   unfold bindC;rw[uH λw a=>h w (Am _ a)];split;rfl
   grind
theorem uI{k:Str->Option NameKind}:∀ {P:List Str} {e:List Value} {i:Nat} {m:Str->Option Value},P.Nodup->P[i]? = some x->e[i]? = some v->k x=some .local ->
  bindL k (P.zip e) m x=some v
 |[],_,_,_,_,h,_,_|_::_,[],_,_,_,_,h,_=>by simp at h
 | p::P,w::e,0,m,n,a,b,c=>by
   simp at a b;subst a;subst b;show bindL k ((p,w)::P.zip e) m p=_;unfold bindL;rw[uG λv d=>(Dq.mp n).1 (of_mem_zip d).1,gV c];simp
 | p::P,w::e,i+1,m,n,a,b,c=>by
   unfold bindL;exact uI (i:=i) (Dq.mp n).2 (by simpa using a) (by simp_all) c
theorem uJ{k:Str->Option NameKind}:∀ {P:List Str} {e:List Value} {i:Nat} {m:Str->Option Value},P.Nodup->P[i]? = some x->e[i]? = some v->k x≠some .local ->
  bindC k (P.zip e) m x=some v
 |[],_,_,_,_,h,_,_|_::_,[],_,_,_,_,h,_=>by simp at h
 | p::P,w::e,0,m,n,a,b,c=>by
   simp at a b;subst a;subst b;show bindC k ((p,w)::P.zip e) m p=_;unfold bindC;rw[uH λv d=>(Dq.mp n).1 (of_mem_zip d).1,a0m c];simp
 | p::P,w::e,i+1,m,n,a,b,c=>by
   unfold bindC;exact uJ (i:=i) (Dq.mp n).2 (by simpa using a) (by simp_all) c
noncomputable def iT(N:List Str)(v:List V):St:=v.map some++replicate (N.length-v.length) none
noncomputable def Fp(d:GY)(P:Program)(w:World)(K:W.Frag)(mg:Str->Option Value)(base:Heap)(N:List Str)(q:Str)(c:Scope)(f:Addr)(C:Value)(A:Around)(outer:List Env)(s:Shared)(H:Hp)(E:XK):Cx where
 prog:=P
 w:=w
 K:=K
 mg:=mg
 base:=base
 A:=A.deeper (envOfC q c s.heap.objs.size f C)
 N:=N
 s₀:=s
 H₀:=H
 env:=envOfC q c s.heap.objs.size f C
 outer:=outer
 stack:=envOfC q c s.heap.objs.size f C::outer
 ex:=[]
 calm:=true
 fn:=λ_=>true
 pn:=[]
 xe:=λe g=>wpAny (model P w) (A.deeper (envOfC q c s.heap.objs.size f C)) (leaving (envOfC q c s.heap.objs.size f C) e) (λ_ a=>d outer H s E e a) (λb a=>d outer H s E b a) g
def MY{s:Scope}(h:s.names.lookup x=some .cell):∃c,(cellsFrom n s.names []).lookup x=some c:=by
 have q:=W.cellsFrom_some s.names n [] (.inl h);exact Option.isSome_iff_exists.mp q
def Ub{K:W.Frag}
  (S:AB N J I) (Y:A.handled=none) (a:ED P w K mg base A outer s H) (F:L.length=J.length) (r:bF L U)
  (x:InCallC s s.heap.objs.size (bindL (envOfC Q I s.heap.objs.size f O).kindOf (J.zip U) λ_=>none) (cellsFrom (s.heap.objs.size+1) I.names []) (bindC (envOfC Q I s.heap.objs.size f O).kindOf (J.zip U) λ_=>none) T) :
  eD (Fp CX P w K mg base N Q I f O A outer s H E) [] (iT N L) H T:=by
 have C:J.length<=N.length:=by have:=Cn List.length S.pre;rw[BA]at this;lia
 obtain⟨o,tk,rfl,t⟩:=x.done;have g:∀b:Addr,b∉(Fp CX P w K mg base N Q I f O A outer s H E).ex:=λb z=>absurd (show b∈([]:List Addr)from z) (by simp);refine⟨⟨a.mod,S.kind,rfl,rfl,hF _,λy z c o d=>?_,λy j=>?_,λy c _ h=>?_,λ_=>Y,Around.frames_deeper a.frames,.inr ⟨rfl,rfl⟩,λb z=>absurd z (g b),a.bs,a.bsz,λb _ _=>g b,λb z=>absurd z (g b),a.funs,a.frf⟩,
  rfl,a.bare,Un.kept t,⟨_,x.toInCall.ns,λi y v o d G=>?_⟩,λy c h=>⟨_,x.cell y c h⟩,a.hok.fresh (hF _),λy c h=>?_,λp l=>absurd (show p∈([]:List (Addr×Obj))from l) (by simp),a.hok.kept t,?_⟩
 ·exact name_of_addr x.apart (HU o) (HU d)
 ·rcases j with j|j;exact MY j;exact absurd rfl (S.nofree _ (HU j))
 ·exact AO (x.above y c (HU h))
 ·have M:i < L.length:=by
   unfold iT at d;by_cases M:i<L.length;exact M;rw[Di (by simpa using M)]at d;rw[List.getElem?_replicate]at d;split at d<;>cases d
  have ha:L[i]?=some v:=by
   unfold iT at d;rw[BG (by simpa using M),Ab]at d
   simp_all
  obtain⟨u,B,D⟩:=r.get ha;have l:J[i]?=some y:=by
   rw[← S.pre,List.getElem?_take_of_lt (by simp_all)];exact o
  have m:J.Nodup:=by rw[← S.pre];exact S.nd.sublist (take_sublist _ _)
  refine⟨u,D,?_⟩;rcases S.par y (An l)with k|k;exact .inl ⟨k,uI m l B k⟩;obtain⟨c,e⟩:=MY (n:=s.heap.objs.size+1) k;refine .inr ⟨.inl k,c,e,?_⟩;have q:=x.cell y c e;rw[uJ m l B (by show I.names.lookup y≠_;rw[k];decide)]at q;exact q
 ·exact a.hok.fresh (AO (x.above y c (HU h)))
 ·unfold iT;show _=N.length
  grind
def Uc{K:W.Frag}{z kV doc pm U ct oc:Value}
     (lk:K.lookup f=some ⟨oc,od,.func (W.fnOf name T a c O z kV doc pm an1 U ct),osl⟩) (j:W.codeIn K U T=true) (S:AB N ps O)
  (len:∀vs H Q E,sp vs H Q E->vs.length=ps.length)
  (d:∀(A:Around) (outer:List Env) (s:Shared) (H:Hp) (vs:List V) (Q:VK) (E:XK),Ae k (A.deeper (envOfC T O s.heap.objs.size f U))->sp vs H Q E ->
   ∃t,BB (Fp CX P w K mg base N T O f U A outer s H E) c t/\t {nx:=λ_ H'=>Q .non H',rt:=Q} (iT N vs) H) :
  Au P w K mg base CX (k+1) f (W.fnOf name T a c O z kV doc pm an1 U ct) ps sp:=by
 refine⟨len,λA outer s H args us vs Q E l h hb r i=>?_⟩;have C:=len _ _ _ _ i;have B:K.In s.heap:=h.mod.kin.keeps λb o e=>(h.bs b o e).1;have m:s.heap.NoLimit:=h.mod.nolimit.keeps λb o e=>(h.bs b o e).1;have g:∀y∈ps.zip us,O.names.lookup y.1=some .local\/(O.names.lookup y.1=some .cell/\((cellsFrom (s.heap.objs.size+1) O.names []).lookup y.1).isSome=true):=λ⟨n,v⟩ D=>by
  rcases S.par n (of_mem_zip D).1 with q|q;exact .inl q;exact .inr ⟨q,W.cellsFrom_some _ _ _ (.inl q)⟩
 refine codeAny_call_function l.depth (B _ _ lk) rfl S.co S.gen rfl (W.codeRec_of B j) (hb _ _ _ _ ?_);refine wpAny_newFunctionEnv_cells S.kind g λenv F s1 x=>?_;subst F;refine⟨m.keeps x.toInCall.keep,codeAny_func ?_⟩;obtain⟨t,G,L⟩:=d A outer s H vs Q E (l.deeper _) i;have I:eD (Fp CX P w K mg base N T O f U A outer s H E) [] (iT N vs) H s1:=Ub S l.hd h C r x;refine Ck (G [] s1 (iT N vs) H _ I L) (λM s' hs=>?_) λe s' hs=>hs;have fin:∀{Y:St} {H':Hp} {v:V} {u:Value},eD (Fp CX P w K mg base N T O f U A outer s H E) [] Y H' s'->cJ v u->Q v H'->CE outer P w H s Q u s':=
  λ{Y H' v u} J p q=>⟨v,H',J.os,J.bare,J.base,J.hok,p,q⟩
 cases M with
 | ret u=>
   obtain⟨v,Y,H',J,p,q⟩:=hs;exact fin J p q
 | next=>
   obtain⟨Y,H',J,q⟩:=hs;exact fin (v:=V.non) (u:=Value.none) J rfl q
 | brk=>
   obtain⟨_,_,_,q⟩:=hs
   simp_all
 | cont=>
   obtain⟨_,_,_,q⟩:=hs
   simp_all
def Gf(r:List V->Hp->VK->Prop)(t:TA):TE:=λZ H Q=>t Z H λv a=>r v a Q
def kS{id:String}(hc:kD X (.builtin id) r)(c:Gl X x)(o:X.mg x=none)(d:bootBuiltins x=some (.builtin id))(q:PA X (e::E) t)(n:x≠"__name__":=by decide)(a:(x==("__debug__":Str))=false:=by decide)
  (f:starEach (e::E) X.env=(false,eval e X.env)::starEach E X.env:=by rfl) (b:(backTo pos (starEach E X.env)).any (·.1)=false:=by rfl):PE X (.Call (.Name x p) (e::E) [] pos) (Gf r t):=by
 intro l s Z H Q I h;refine FW (jY I c o d ?_ n a);exact PyProof.Rows.callWith_builtin1 (thn (q pos l s Z H _ I h) λu m ⟨v,g,i,j,k⟩=>hc l m Z g v u Q i j k) f b
def oC(hc:kD X (.type T) r)(c:Gl X x)(o:X.mg x=none)(d:bootBuiltins x=some (.type T))(q:PA X (e::E) t)(n:x≠"__name__":=by decide)(a:(x==("__debug__":Str))=false:=by decide)
  (f:starEach (e::E) X.env=(false,eval e X.env)::starEach E X.env:=by rfl) (b:(backTo pos (starEach E X.env)).any (·.1)=false:=by rfl):PE X (.Call (.Name x p) (e::E) [] pos) (Gf r t):=by
 intro l s Z H Q I h;refine FW (jY I c o d ?_ n a);exact FZ (thn (q pos l s Z H _ I h) λu m ⟨v,g,i,j,k⟩=>hc l m Z g v u Q i j k) f b
end
section
open PyProof.Rows
def cat_tup(j:IsTup s.heap t v.toArray)(hb:IsTup s.heap b m.toArray)(l:v≠[])
  (x:m=[]->Q (.ref t) s) (k:m≠[]->Q (.ref s.heap.objs.size) {s with heap:=s.heap.push {cls:=.type "tuple",data:=.seq (v++m).toArray}})
  (r:v.length+m.length<=sizeLine):wpAny (model prog w) A (binaryOp .Add (.ref t) (.ref b)) Q E s:=by
 obtain⟨⟨cls,h,data,q⟩,d,hc,n,u⟩:=id j;obtain⟨⟨i,c,p,o⟩,a,f,N,H⟩:=id hb;subst hc u f H;have e:v.toArray++m.toArray=(v++m).toArray:=by simp
 by_cases g:m=[]
 ·exact concat_meets ⟨_,d,rfl⟩ ⟨_,a,rfl⟩ noFill_tuple_add seq_tuple_add F.slot_tuple_add F.entry_tuple_add (F.args_tuple_add_2 _ _)
   (tuple_addW1 t b v.toArray m.toArray n N h c q o (by simp_all) (by simp[g])) ⟨d,a,x g⟩
 ·refine concat_meets ⟨_,d,rfl⟩ ⟨_,a,rfl⟩ noFill_tuple_add seq_tuple_add F.slot_tuple_add F.entry_tuple_add (F.args_tuple_add_2 _ _)
   (tuple_addW2 t b v.toArray m.toArray n N h c q o (by simp_all) (by simp_all) (by simp_all)) ⟨d,a,?_⟩
  rw[e];exact k g
noncomputable def sIx(n d:Nat):Option Int->Nat
 |none=>d
 |some v=>if v<0 then(v+(n:Int)).toNat else min v.toNat n
def sIx_none(n d:Nat):sIx n d none=d:=rfl
def sIx_nat(n d k:Nat):sIx n d (some (k:Int))=min k n:=rfl
def MZ(v:Int)(n d:Nat):(if v<0 then max (v+(n:Int)) 0 else min v (n:Int))=((sIx n d (some v):Nat):Int):=by
 show(if v<0 then max (v+(n:Int)) 0 else min v (n:Int))=(((if v<0 then(v+(n:Int)).toNat else min v.toNat n):Nat):Int)
 grind
def Ud(l hi:Option Int)(n:Nat):sliceAdjust l hi 1 (n:Int)=(((sIx n 0 l:Nat):Int),((sIx n n hi:Nat):Int)):=by
 have a:¬((1:Int)<0):=by lia
 refine Prod.ext ?_ ?_
 ·cases l with
  |none=>rfl
  |some v=>exact MZ v n 0
 ·cases hi with
  |none=>rfl
  |some v=>exact MZ v n n
def Ue(i j:Nat):slicePlaces (i:Int) (j:Int) 1=j-i:=by
 unfold slicePlaces
 lia
def qN(p:IsPart v o)(h:Q o s):wpAny (model prog w) A (Builtin.Slice.slicePartIndex v) Q E s:=by
 cases p with
 |none=>exact slicePart_none h
 |int i t=>exact slicePart_int h
def iR{l hi:Option Int}{Q:Int×Int×Nat->Shared->Prop}(H:s.heap.IsSliceOf g c d .none)(p:IsPart c l)(e:IsPart d hi)
  (h:Q (((sIx n 0 l:Nat):Int),1,sIx n n hi-sIx n 0 l) s):wpAny (model prog w) A (Builtin.Slice.sliceApplied (.ref g) (pure (n:Int))) Q E s:=by
 obtain⟨o,a,f,b⟩:=id H;refine dV (dV (Bf a b (x:=c) rfl (dV (Bf a b (x:=d) rfl (dV (Bf a b (x:=.none) rfl (eH ?_)))))));refine dV (slicePart_none ?_);refine dV (qN p (dV (qN e (dV (eH ?_)))));show wpAny _ _ (match sliceAdjust l hi 1 (n:Int)with|(l,hi)=>pure (l,(1:Int),slicePlaces l hi 1)) _ _ s;rw[Ud l hi n];show wpAny _ _ (pure (((sIx n 0 l:Nat):Int),(1:Int),slicePlaces ((sIx n 0 l:Nat):Int) ((sIx n n hi:Nat):Int) 1)) _ _ s;rw[Ue];exact eH h
def Ug(xs:Array Value)(i k:Nat):((range k).filterMap λ(m:Nat)=>xs[((i:Int)+(m:Int)*1).toNat]?).toArray=((xs.toList.drop i).take k).toArray:=by
 have e:(λ(m:Nat)=>xs[((i:Int)+(m:Int)*1).toNat]?)=λm=>xs[i+m]?:=by grind
 have:=pick_run xs i k;rw[List.filterMap_map]at this;have a:((λx=>xs[x]?) ∘ λx=>i+x)=λm=>xs[i+m]?:=rfl
 simp_all
def getItem_tuple_cut{L hi:Option Int}(b:IsTup s.heap t I)(H:s.heap.IsSliceOf n g i .none)(p:IsPart g L)(j:IsPart i hi)
  (l:¬(sIx I.size 0 L=0/\sIx I.size I.size hi=I.size))
  (h:Q (.ref s.heap.objs.size) {s with heap:=s.heap.push {cls:=.type "tuple",data:=.seq ((I.toList.drop (sIx I.size 0 L)).take (sIx I.size I.size hi-sIx I.size 0 L)).toArray}})
  (q:I.size<=sizeLine):wpAny (model prog w) A (getItem (.ref t) (.ref n)) Q E s:=by
 have a:sizeOk (.seq ((I.toList.drop (sIx I.size 0 L)).take (sIx I.size I.size hi-sIx I.size 0 L)).toArray):=by
  show((I.toList.drop (sIx I.size 0 L)).take (sIx I.size I.size hi-sIx I.size 0 L)).toArray.size<=sizeLine;rw[CC,BA,Fd,Bz];omega
 obtain⟨o,c,d,k⟩:=id H;have e:s.TypeIs (.ref n) "slice":=⟨o,c,d⟩;unfold getItem
 try with_reducible refine Ax ?_
 refine dV (wpAny_sequenceKey b.typeIs (rfl) ?_);refine dV (wpAny_callSpecial?_slot (name:=ofString "__getitem__") b.typeIs GH
  (BX GH b.typeIs entry_tuple_getitem ?_ (args_tuple_getitem _ _)))
 show wpAny _ _ (tupleItemsOf (.ref t) >>= _) _ _ s;refine dV (tupleItemsOf_ b ?_);refine dV (EW e ?_);refine dV (iR H p j ?_);have f:¬((((sIx I.size 0 L:Nat):Int)==0&&(1:Int)==1&&(sIx I.size I.size hi-sIx I.size 0 L)==I.size)=true):=by simp_all
 show wpAny _ _ (if(((sIx I.size 0 L:Nat):Int)==0&&(1:Int)==1&&(sIx I.size I.size hi-sIx I.size 0 L)==I.size)=true then _ else _) _ _ s;rw[a0m f,Ug]
 first
  |exact dV (m:=tupleExact _) (EU (eH ⟨_,rfl,eH h⟩) a)
  |lia
  |rfl
  |lia
end
section
open PyProof.Rows Spec
abbrev TO:=St->Hp->(Option Int->Hp->Prop)->Prop
def PO(X:Cx)(e:Option Expr)(t:TO):Prop:=
 ∀ (p:List (Addr×Obj)) (s:Shared) (Z:St) (H:Hp) (Q:Option Int->Hp->Prop),eD X p Z H s->t Z H Q ->
   wpAny (model X.prog X.w) X.A (evalPart e X.env) (λu a=>∃o h,eD X p Z h a/\IsPart u o/\Q o h) X.xe s
def Uh:TO:=λ_ H Q=>Q none H
def Ui(t:TE):TO:=λZ H Q=>t Z H λx a=>∃i,x=.int i/\Q (some i) a
def Uj:PO X none Uh:=by
 intro p s Z H Q I h;exact eH ⟨none,H,I,.none,h⟩
def Uk(h:PE X e T):PO X (some e) (Ui T):=by
 intro p s Z H Q I a;refine thn (h p s Z H _ I a) λu g z=>?_;obtain⟨x,b,c,d,f⟩:=z;obtain⟨i,rfl,q⟩:=f;obtain⟨t,rfl⟩:=d;exact⟨some i,b,c,.int i t,q⟩
def Ha(X:Cx)(r:V->Option Int->Option Int->Hp->VK->Prop):Prop:=
 ∀ (p:List (Addr×Obj)) (s:Shared) (Z:St) (H:Hp) (x:V) (v a b:Value) (l h:Option Int) (c:Addr) (Q:VK),eD X p Z H s->cJ x v->s.heap.IsSliceOf c a b .none->IsPart a l->IsPart b h->r x l h H Q ->
   ∃T i,typeLookup (.type T) "__getitem__"=pure (some (.builtin i))/\s.TypeIs v T/\wpAny (model X.prog X.w) X.A (getItem v (.ref c)) (EP X p Z Q) X.xe s
def Ul(r:V->Option Int->Option Int->Hp->VK->Prop)(d:TE)(t T:TO):TE:=λZ H Q=>d Z H λx a=>t Z a λl b=>T Z b λu c=>r x l u c Q
def Um{L:Option Expr}(g:Ha X r)(i:PE X e N)(j:PO X L J)(k:PO X hi M):PE X (.Subscript e (.Slice L hi none p2) pos) (Ul r N J M):=by
 intro G s Z H Q I h;refine Subscript_ (thn (i G s Z H _ I h) λv U Z0=>?_);obtain⟨x,m,n,o,p⟩:=Z0;refine wpAny_Slice (thn (j G U Z m _ n p) λc O ⟨l,t,w,Y,y⟩=>thn (k G O Z t _ w y) λd a ⟨u,f,z,A,B⟩=>?_);refine eH ?_;have C:eD X G Z f {a with heap:=a.heap.push {cls:=.type "slice",data:=.fields #[c,d,.none]}}:=z.kept (t':=a.toks) λb ob q=>sT _ q;obtain⟨T,id,hT,D,E⟩:=g G {a with heap:=a.heap.push {cls:=.type "slice",data:=.fields #[c,d,.none]}} Z f x v c d l u a.heap.objs.size Q C o (Heap.IsSliceOf.new ..) Y A B;exact tail_any (ops:=[.ref a.heap.objs.size,v]) D hT E (rfl)
def xI(xs:List V)(l hi:Option Int):List V:=(xs.drop (PySem.sIx xs.length 0 l)).take (PySem.sIx xs.length xs.length hi-PySem.sIx xs.length 0 l)
def oE(xs:List V)(l hi:Option Int):(xI xs l hi).length<=xs.length:=by
 unfold xI;rw[BA,Fd];lia
def Uo(K:W.Frag):V->Option Int->Option Int->Hp->VK->Prop:=λx l h H Q=>∃a b,x=.ref a/\BV K H a b /\
 ¬(PySem.sIx b.length 0 l=0/\PySem.sIx b.length b.length h=b.length)/\∀p,H p=none->Q (.ref p) (fI H p (.tup (xI b l h)))
def Uq:Ha X (Uo X.K):=by
 intro t s Z H x v k l L p y Q I e w u f h;obtain⟨a,m,rfl,g,i,q⟩:=h;cases e;obtain⟨n,r,d,j⟩:=I.tuple g;have c:n.toArray.size=m.length:=by exact r.length.symm
 refine⟨"tuple",_,GH.lookup,d.typeIs,?_⟩;refine PySem.getItem_tuple_cut d w u f (by rw[c];exact i) ?_ (by simp_all);rw[c];refine⟨.ref s.heap.objs.size,_,I.laid (t':=s.toks) (o:=.tup (xI m L p)) (λb O q=>sT _ q) (hF _) ?_,rfl,q _ (I.hok.fresh (hF _))⟩;exact⟨gY (oE m L p) j,_,(r.drop (PySem.sIx m.length 0 L)).take (PySem.sIx m.length m.length p-PySem.sIx m.length 0 L),IsTup.new _ _,⟨_,Ak _ rfl,rfl⟩⟩
def Ur(K:W.Frag):R2:=λx y H Q=>∃a b c Y,x=.ref a/\y=.ref b/\BV K H a c/\BV K H b Y/\c≠[]/\c.length+Y.length<=sizeLine /\
 (Y=[]->Q (.ref a) H)/\(Y≠[]->∀p,H p=none->Q (.ref p) (fI H p (.tup (c++Y))))
def bF.nil_iff(r:bF xs u):u=[]↔xs=[]:=by
 cases r with
 |nil|cons _ _=>simp
def Us:Ar X (binaryOp .Add) (Ur X.K):=by
 intro p s Z H x y v u Q I f g h;obtain⟨a,b,n,Y,rfl,rfl,B,A,i,j,k,l⟩:=h;cases f;cases g;obtain⟨t,d,m,_⟩:=I.tuple B;obtain⟨e,c,r,_⟩:=I.tuple A;refine PySem.cat_tup m r (λz=>i (d.nil_iff.mp z)) (λz=>⟨.ref a,H,I,rfl,k (c.nil_iff.mp z)⟩) (λz=>?_) (by rw[← d.length,← c.length];exact j);refine⟨.ref s.heap.objs.size,_,I.laid (t':=s.toks) (o:=.tup (n++Y)) (λb O q=>sT _ q) (hF _) ?_,rfl,l (λw=>z (c.nil_iff.mpr w)) _ (I.hok.fresh (hF _))⟩;exact⟨by simp_all,_,d.append c,IsTup.new _ _,⟨_,Ak _ rfl,rfl⟩⟩
noncomputable def AM(n:Nat)(i:Int):Option Nat:=if 0<=i then(if i<n then some i.toNat else none)else if -(n:Int)<=i then some (i+n).toNat else none
def atI{a:Type}(xs:List a)(i:Int):Option a:=(AM xs.length i).bind λj=>xs[j]?
def xJ(h:AM n i=some j):seqIndex? i n=some j/\j < n /\ -(n:Int)<=i/\i < n:=by
 unfold AM at h;by_cases H:0<=i
 ·rw[gV H]at h;by_cases a:i<n;rw[gV a]at h;have e:i.toNat=j:=Ap h;exact⟨by rw[seqIndex_of H a,e],by lia,by lia,a⟩
  simp_all
 ·rw[a0m H]at h;by_cases a:-(n:Int)<=i;rw[gV a]at h;have e:(i+n).toNat=j:=Ap h;exact⟨by rw[seqIndex_neg (by simp_all) a,e],by lia,a,by lia⟩
  simp_all
def xK{v:a}(h:atI xs i=some v):∃j,seqIndex? i xs.length=some j/\xs[j]?=some v/\j<xs.length /\ -(xs.length:Int)<=i/\i<xs.length:=by
 unfold atI at h;cases e:AM xs.length i with
 |none=>simp_all
 | some j=>
   rw[e]at h;obtain⟨b,c,d,f⟩:=xJ e;exact⟨j,b,h,c,d,f⟩
def lW{j:Nat}{v:a}(h:xs[j]? = some v):atI xs (j:Int)=some v:=by
 have H:j<xs.length:=(sL.mp h).1;have e:AM xs.length (j:Int)=some j:=by
  unfold AM
  simp_all
 unfold atI;rw[e];exact h
def Na(b:Expr):Prop:=∀o i,subscripted b false o i=operate [o,i] (getItem o i)
def Ie(X:Cx)(r:R2):Prop:=
 ∀ (b a:Expr) (p:List (Addr×Obj)) (s:Shared) (Z:St) (H:Hp) (x y:V) (v u:Value) (Q:VK),eD X p Z H s->cJ x v->cJ y u->r x y H Q ->
   subscripted a false v u=operate [v,u] (getItem v u)->wpAny (model X.prog X.w) X.A (subscriptTail b a v u) (EP X p Z Q) X.xe s
def EE(X:Cx)(id:String)(r:V->List V->Hp->VK->Prop):Prop:=
 ∀ (p:List (Addr×Obj)) (s:Shared) (Z:St) (H:Hp) (x:V) (a:List V) (v:Value) (u:List Value) (Q:VK),eD X p Z H s->cJ x v->bF a u->r x a H Q ->
   wpAny (model X.prog X.w) X.A (call (.builtin id) (v::u)) (EP X p Z Q) X.xe s
def Nb(c:Ie X r)(k:PE X a T)(hb:PE X b t)(j:Na b):PE X (.Subscript a b pos) (EC r T t):=by
 intro p s Z H Q I h;exact Subscript_ (Kp k hb I h λv u i x y d e f g q=>c a b p i Z d x y v u Q e f g q (j _ _))
def Ut(K:W.Frag):R2:=λx y H Q=>∃p a i v,x=.ref p/\y=.int i/\Bd K H p a/\atI a i=some v/\Q v H
def Uu(K:W.Frag):R2:=λx y H Q=>∃p a i v,x=.ref p/\y=.int i/\BV K H p a/\atI a i=some v/\Q v H
def Uv:R2:=λx y H Q=>∃z i c,x=.str z/\y=.int i/\z.length<=sizeLine/\atI z.cps.toList i=some c/\Q (.str ⟨#[c]⟩) H
def Uw:Ie X (Ut X.K):=by
 intro a b E s Z H x y v u Q I f g h N;obtain⟨p,U,i,z,rfl,rfl,k,l,q⟩:=h;cases f;obtain⟨t,rfl⟩:=g;obtain⟨L,r,J,A⟩:=I.list k;obtain⟨j,d,m,B,n,o⟩:=xK l;obtain⟨w,e,c⟩:=r.get m;have C:=r.length;have Y:=oB;have G:EP X E Z Q w s:=⟨z,H,I,c,q⟩;by_cases O:0<=i
 ·have M:i.toNat=j:=by
   rw[seqIndex_of O o]at d
   simp_all
  exact item_listR J.isList O (by lia) (by rw[M];simpa using e) G N
 ·have M:(i+(L.toArray.size:Int)).toNat=j:=by
   rw[seqIndex_neg (by simp_all) n]at d
   simp_all
  exact subscriptTail_builtinR (x:=w) J.isList.typeIs slot_list_getitem.lookup
   (wpAny_getItem_list_neg (Q:=λr T=>r=w/\EP X E Z Q r T) J.isList (by simp_all) (by simp_all) (by lia) (by rw[M];simpa using e) ⟨rfl,G⟩) N
def Ux:Ie X (Uu X.K):=by
 intro a b E s Z H x y v u Q I d e h N;obtain⟨p,O,i,z,rfl,rfl,f,g,q⟩:=h;cases d;obtain⟨t,rfl⟩:=e;obtain⟨M,r,J,m⟩:=I.tuple f;obtain⟨j,n,k,o,A,B⟩:=xK g;obtain⟨w,l,c⟩:=r.get k;have C:=r.length;have T:=oB;have G:EP X E Z Q w s:=⟨z,H,I,c,q⟩;exact subscriptTail_builtinR (x:=w) J.typeIs slot_tuple_getitem.lookup
  (getItem_tuple (j:=j) (Q:=λr L=>r=w/\EP X E Z Q r L) J (by lia) (by lia) (by simp_all) (by simpa using l) ⟨rfl,G⟩) N
def Uy:Ie X Uv:=by
 intro a b w s Z H x y v u Q I e f h A;obtain⟨z,i,c,rfl,rfl,o,g,q⟩:=h;obtain⟨t,rfl⟩:=e;obtain⟨p,rfl⟩:=f;obtain⟨j,d,k,r,l,m⟩:=xK g;have n:z.cps.toList.length=z.length:=rfl;rw[n]at d l m;have B:=oB;exact tail_any (typeIs_str s z t) slot_str_getitem.lookup (getItem_str (c:=c) (by lia) (by rw[d];simpa using k) ⟨.str ⟨#[c]⟩,H,I.tok _,⟨_,rfl⟩,q⟩) A
def Uz(i:List Value)(n j:Nat)(u:Value):mapSeq (·.setIfInBounds j u) {cls:=.type "list",data:=.seq i.toArray n}={cls:=.type "list",data:=.seq (i.set j u).toArray n}:=by
 simp[mapSeq]
theorem eD.lst{X:Cx}{b:List (Addr×Obj)}{Z:St}{H:Hp}{s:Shared}{p:Addr}{xs:List V}(I:eD X b Z H s)(h:H p=some (.lst xs)) :
  ∃(a:List Value) (n:Nat),bF xs a/\s.heap.get? p=some {cls:=.type "list",data:=.seq a.toArray n}/\xs.length<=sizeLine:=by
 obtain⟨z,a,n,r,e⟩:=I.hok p _ h;exact⟨a,n,r,e,z⟩
def eD.lstUpd{Z:St}{k g:List Value}(I:eD X j Z H s)(h:H p=some (.lst xs))
  (d:s.heap.get? p=some {cls:=.type "list",data:=.seq k.toArray n}) (c:f {cls:=.type "list",data:=.seq k.toArray n}={cls:=.type "list",data:=.seq g.toArray a}) (r:bF y g) (l:y.length<=sizeLine) (t:Nat) :
  eD X j Z (fI H p (.lst y)) {s with heap:=s.heap.update p f,toks:=t}:=by
 have e:(s.heap.update p f).get? p=some {cls:=.type "list",data:=.seq g.toArray a}:=by
  rw[Dl f d (by rw[c]<;>rfl),c]
 refine I.write (x:=p) (e:=p) (by rw[h];trivial) (.inl rfl) (λb u o q=>(Dk _ _ (hR o)).trans q) ⟨_,e⟩ ?_;exact⟨l,g,a,r,e⟩
def Nc:V->V->V->Hp->(Hp->Prop)->Prop:=λo i v H Q=>∃p x k j,o=.ref p/\i=.int k/\H p=some (.lst x)/\AM x.length k=some j/\Q (fI H p (.lst (x.set j v)))
def UA:Kk X Nc:=by
 intro A s Z H o i v O w u Q I f G g h;obtain⟨p,E,k,j,rfl,rfl,c,J,q⟩:=h;cases f;obtain⟨t,rfl⟩:=G;obtain⟨B,n,r,a,x⟩:=I.lst c;obtain⟨d,y,l,m⟩:=xJ J;have z:=r.length;have L:=oB;have e:eD X A Z (fI H p (.lst (E.set j v))) {s with heap:=s.heap.update p (mapSeq (·.setIfInBounds j u))}:=
  I.lstUpd c a (Uz B n j u) (r.set g j) (by simp_all) s.toks
 by_cases C:0<=k
 ·have b:k.toNat=j:=by
   rw[seqIndex_of C m]at d
   simp_all
  exact W.ki_setAt a C (by lia) (by simp_all) (by rw[b];exact⟨_,e,q⟩)
 ·have b:(k+(B.toArray.size:Int)).toNat=j:=by
   rw[seqIndex_neg (by simp_all) l]at d
   simp_all
  exact W.ki_setBack a (by simp_all) (by simp_all) (by lia) (by rw[b];exact⟨_,e,q⟩)
def uK(l hi:Option Int)(n:Nat):(sliceBounds l hi none n).1=((PySem.sIx n 0 l:Nat):Int)/\(sliceBounds l hi none n).2.1=((PySem.sIx n n hi:Nat):Int)/\(sliceBounds l hi none n).2.2=1:=by
 refine⟨?_,?_,rfl⟩
 ·cases l with
  |none=>rfl
  | some i=>
    simp only[sliceBounds,PySem.sIx,getD_none,show(1:Int) > 0 by decide,if_true];by_cases h:i<0;simp only[h,if_true]<;>grind;simp only[h,if_false]<;>grind
 ·cases hi with
  |none=>rfl
  | some i=>
    simp only[sliceBounds,PySem.sIx,getD_none,show(1:Int) > 0 by decide,if_true];by_cases h:i<0;simp only[h,if_true]<;>lia;simp only[h,if_false]<;>lia
def rO(i:List Value)(l hi:Option Int):slicePick i.toArray l hi none=((i.drop (PySem.sIx i.length 0 l)).take (PySem.sIx i.length i.length hi-PySem.sIx i.length 0 l)).toArray:=by
 obtain⟨a,b,c⟩:=uK l hi i.toArray.size;unfold slicePick;rw[a,b,c];simp only[sliceRange_one,pick_run,size_toArray]<;>rfl
def UB(K:W.Frag):V->Option Int->Option Int->Hp->VK->Prop:=λx l h H Q=>∃a b,x=.ref a/\Bd K H a b/\∀p,H p=none->Q (.ref p) (fI H p (.lst (xI b l h)))
def UC:Ha X (UB X.K):=by
 intro p s Z H x v j k L m w Q I e u n f h;obtain⟨a,l,rfl,g,q⟩:=h;cases e;obtain⟨t,r,d,i⟩:=I.list g;have c:=r.length;refine⟨"list",_,slot_list_getitem.lookup,d.isList.typeIs,?_⟩;refine wpAny_getItem_list_slice d.isList u n f .none (by simp) ?_ (by grind);rw[rO,← c];refine⟨.ref s.heap.objs.size,_,I.laid (t':=s.toks) (o:=.lst (xI l L m)) (λb O q=>sT _ q) (hF _) ?_,rfl,q _ (I.hok.fresh (hF _))⟩;exact⟨gY (oE l L m) i,_,0,(r.drop (PySem.sIx l.length 0 L)).take (PySem.sIx l.length l.length m-PySem.sIx l.length 0 L),Ak _ rfl⟩
def mO:kD X (.builtin "len") (λxs H Q=>∃p y,xs=[.ref p]/\(Bd X.K H p y\/BV X.K H p y)/\Q (.int y.length) H):=by
 intro g s Z H xs U Q I r h;obtain⟨p,y,rfl,a,q⟩:=h;obtain⟨u,rfl,d⟩:=xG r;cases d;have j:=oB;rcases a with a|a;obtain⟨i,c,f,e⟩:=I.list a;have b:=c.length;exact Calls.call_len_list f.isList (by simp only[size_toArray]<;>lia) ⟨.int y.length,H,I.tok _,⟨s.toks+1,by simp_all⟩,q⟩;obtain⟨i,c,f,e⟩:=I.tuple a;have b:=c.length;exact len_tuple f (by simp only[size_toArray]<;>lia) ⟨.int y.length,H,I.tok _,⟨s.toks+1,by simp_all⟩,q⟩
def uL:kD X (.builtin "len") (λxs H Q=>∃z,xs=[.str z]/\z.length<=sizeLine/\Q (.int z.length) H):=by
 intro p s Z H xs U Q I r h;obtain⟨z,rfl,a,q⟩:=h;obtain⟨u,rfl,t,rfl⟩:=xG r;have b:=oB;exact len_str (by lia) ⟨.int z.length,H,I.tok _,⟨_,rfl⟩,q⟩
def mP:kD X (.type "list") (λxs H Q=>∃ p y,xs=[.ref p]/\(Bd X.K H p y\/BV X.K H p y)/\∀ l,H l=none->Q (.ref l) (fI H l (.lst y))):=by
 intro t s Z H xs U Q I r h;obtain⟨p,y,rfl,d,q⟩:=h;obtain⟨u,rfl,j⟩:=xG r;cases j;have w:∀ (k:List Value),bF y k->y.length<=sizeLine->∀ (m:Heap) (a:Nat),(∀ b O,s.heap.get? b=some O->m.get? b=some O) ->
   m.get? s.heap.objs.size=some {cls:=.type "list",dict:=none,data:=.seq k.toArray a,slots:=#[]}->EP X t Z Q (.ref s.heap.objs.size) {s with heap:=m}:=λk c f m a v e=>
  ⟨.ref s.heap.objs.size,_,I.laid (t':=s.toks) v (hF _) (show cC X.prog X.w _ m _ (.lst y)from⟨f,k,a,c,e⟩),rfl,q _ (I.hok.fresh (hF _))⟩
 rcases d with d|d;obtain⟨k,c,x,f⟩:=I.list d;have g:=c.length;obtain⟨o,i,hc,n,z⟩:=x.isList;exact call_list_seq p (.inl rfl) i hc z (λm a v e=>w k c f m a v e) (by grind);obtain⟨k,c,x,f⟩:=I.tuple d;have g:=c.length;obtain⟨o,i,hc,n,z⟩:=x;exact call_list_seq p (.inr rfl) i hc z (λm a v e=>w k c f m a v e) (by grind)
def kU:kD X (.type "tuple") (λxs H Q=>∃ p y,xs=[.ref p]/\((Bd X.K H p y/\∀ l,H l=none->Q (.ref l) (fI H l (.tup y)))\/(BV X.K H p y/\Q (.ref p) H))):=by
 intro k s Z H xs U Q I r h;obtain⟨p,y,rfl,h⟩:=h;obtain⟨u,rfl,i⟩:=xG r;cases i;rcases h with⟨a,q⟩|⟨a,q⟩
 ·obtain⟨m,c,t,d⟩:=I.list a;have f:=c.length;refine call_tuple_list t.isList (λn v=>?_) (by grind);have g:eD X k Z H {s with heap:=n}:=I.kept (t':=s.toks) v;have j:eD X k Z (fI H n.objs.size (.tup y)) {s with heap:=n.push {cls:=.type "tuple",data:=.seq m.toArray}}:=
   g.laid (t':=s.toks) (λb o e=>sT _ e) (hF _) (show cC X.prog X.w _ _ _ (.tup y)from⟨d,m,c,IsTup.new _ _,⟨_,Ak _ rfl,rfl⟩⟩)
  exact⟨.ref n.objs.size,_,j,rfl,q _ (g.hok.fresh (hF _))⟩
 ·obtain⟨m,c,t,d⟩:=I.tuple a;exact call_tuple_same t ⟨.ref p,H,I,rfl,q⟩
def Ig(K:W.Frag)(T:String)(x:V)(H:Hp):Prop:=match x with
 |.str _=>T="str"
 |.int _=>T="int"
 | .ref p=>(T="list"/\∃ a,Bd K H p a)\/(T="tuple"/\∃ o,K.lookup p=some o/\o.cls=.type "tuple"/\o.dict=none) \/
   (T="dict"/\((∃k,H p=some (.dK k))\/∃k,H p=some (.dT k)))\/(T="set"/\∃S n,H p=some (.set S n))
 |_=>False
def Nd{Z:St}(I:eD X j Z H s)(r:cJ x v)(ty:Ig X.K T x H) :
  s.TypeIs v T/\∀a,v=.ref a->∃ob,s.heap.get? a=some ob/\ob.dict=none:=by
 cases x with
 | str z=>
   obtain⟨t,rfl⟩:=r;cases (show T="str" from ty);exact⟨typeIs_str s z t,λ_ e=>nomatch e⟩
 | int i=>
   obtain⟨t,rfl⟩:=r;cases (show T="int" from ty);exact⟨typeIs_int s i t,λ_ e=>nomatch e⟩
 | ref p=>
   cases r;rcases ty with⟨rfl,m,f⟩|⟨rfl,o,b,hc,h⟩|⟨rfl,b⟩|⟨rfl,S,n,b⟩;obtain⟨l,_,g,_⟩:=I.list f;refine⟨g.isList.typeIs,λa e=>?_⟩;cases e;obtain⟨o,n,e,c,h,_⟩:=g;exact⟨o,e,h⟩;refine⟨⟨o,I.kIn p o b,hc⟩,λa e=>?_⟩;cases e;exact⟨o,I.kIn _ o b,h⟩
   ·have z:∃ o,s.heap.get? p=some o/\o.ExactDict:=by
     rcases b with⟨k,b⟩|⟨k,b⟩;obtain⟨_,_,_,_,o,_,_,e,E,_⟩:=I.hok p _ b;exact⟨o,e,E⟩;obtain⟨_,_,_,_,o,_,_,e,E,_⟩:=I.hok p _ b;exact⟨o,e,E⟩
    obtain⟨o,e,E⟩:=z;refine⟨⟨o,e,E.1⟩,λa d=>?_⟩;cases d;exact⟨o,e,E.2.1⟩
   ·obtain⟨o,_,_,_,e,E,_⟩:=I.hok p _ b;refine⟨⟨o,e,E.1⟩,λa d=>?_⟩;cases d;exact⟨o,e,E.2.1⟩
 |_=>exact elim ty
def Kv(K:W.Frag)(T:String)(r:V->List V->Hp->VK->Prop)(to:TE):TE:=λZ H Q=>to Z H λx a=>Ig K T x a/\r x [] a Q
def Ef(K:W.Frag)(T:String)(r:V->List V->Hp->VK->Prop)(to:TE)(t:TA):TE:=λZ H Q=>to Z H λx a=>Ig K T x a/\t Z a λc b=>r x c b Q
def UD{id:String}(m:PlainAttrs T)(slot:Slot T n id)(c:typeOf (.builtin id)=pure (.type "method_descriptor"))(q:EE X id r)(f:PE X o to)
  (a:attributeBase o n X.env (eval o X.env)=eval o X.env:=by rfl) (b:(A.endLine==C.line)=true:=by rfl):PE X (.Call (.Attribute o n A) [] [] C) (Kv X.K T r to):=by
 intro p s Z H Q I h;refine wpAny_Call_method0_late a b (thn (f p s Z H _ I h) λv l z=>?_);obtain⟨x,g,d,e,t,i⟩:=z;obtain⟨j,k⟩:=Nd d e t;exact⟨T,id,m,slot,c,j,k,Calls.callWith_builtin rfl (PySem.evalArgs_none (q p l Z g x [] v [] Q d e .nil i))⟩
def UE{id:String}(M:PlainAttrs T)(slot:Slot T N id)(f:typeOf (.builtin id)=pure (.type "method_descriptor"))(Y:EE X id r)(k:PE X o to)(ha:PA X (e::E) t)
  (b:attributeBase o N X.env (eval o X.env)=eval o X.env:=by rfl)
  (d:((backTo C (starEach (e::E) X.env)).all (λx=>!x.1)&&(backToKw C (keywordEach [] X.env)).all (λx=>x.1.isSome)
   && decide ((e::E).length+([]:List Keyword).length+(if([]:List Keyword).isEmpty then 0 else 1)<30))=true:=by rfl)
  (c:(A.endLine==C.line)=true:=by rfl) (O:starEach (e::E) X.env=(false,eval e X.env)::starEach E X.env:=by rfl) (a:(backTo C (starEach E X.env)).any (·.1)=false:=by rfl) :
  PE X (.Call (.Attribute o N A) (e::E) [] C) (Ef X.K T r to t):=by
 intro z s Z H Q I h;refine wpAny_Call_method_late b d c rfl (thn (k z s Z H _ I h) λv L Z0=>?_);obtain⟨x,l,g,i,G,m⟩:=Z0;obtain⟨n,p⟩:=Nd g i G;refine⟨T,id,M,slot,f,n,p,?_⟩;have j:=ha C z L Z l _ g m;rw[O]at j ⊢;refine Calls.callWith_builtin (by show(false||(backTo C (starEach E X.env)).any (·.1))=false;rw[a]<;>rfl) (Calls.evalArgs_plain ?_);exact thn j λU J ⟨B,q,u,w,y⟩=>Y z J Z q x B v U Q u i w y
def Gg(X:Cx)(id:String)(r:V->List V->Hp->VK->Prop):Prop:=
 ∀ (p:List (Addr×Obj)) (s:Shared) (Z:St) (H:Hp) (x:V) (a:List V) (v:Value) (u:List Value) (Q:VK),eD X p Z H s->cJ x v->bF a u->r x a H Q ->
   wpAny (model X.prog X.w) X.A (call (.builtin id) (v::u)) (EP X p Z Q) X.xe s
def bF.one(r:bF [x] U):∃u,U=[u]/\cJ x u:=by
 cases r with|cons r t=>cases t;exact⟨_,rfl,r⟩
def bF.two(r:bF [x,y] U):∃u v,U=[u,v]/\cJ x u/\cJ y v:=by
 cases r with|cons r t=>
 obtain⟨v,rfl,q⟩:=bF.one t;exact⟨_,v,rfl,r,q⟩
def bF.zero:∀{u:List Value},bF [] u->u=[]
 |_,.nil=>rfl
theorem bF.dropLast(h:bF xs u):bF xs.dropLast u.dropLast:=by
 induction h with
 |nil=>exact .nil
 | cons r t a=>
   cases t with
   |nil=>exact .nil
   |cons q b=>exact .cons r a
theorem bF.eraseIdx:∀{xs:List V} {u:List Value} (i:Nat),bF xs u->bF (xs.eraseIdx i) (u.eraseIdx i)
 |_,_,_,.nil=>.nil
 |_,_,0,.cons _ t=>t
 |_,_,i+1,.cons r t=>.cons r (bF.eraseIdx i t)
theorem bF.reverse(h:bF xs u):bF xs.reverse u.reverse:=by
 induction h with
 |nil=>exact .nil
 |cons r t a=>rw[reverse_cons,reverse_cons];exact bF.append a (.cons r .nil)
theorem oF{a:Type}:∀(l:List a) (i:Nat),(l.eraseIdx i).length<=l.length
 |[],_=>hF _
 |_::_,0=>Gb _
 |_::r,i+1=>Nat.succ_le_succ (oF r i)
def eD.lset{Z:St}{j its':List Value}(I:eD X h Z H s)(a:H l=some (.lst xs))
  (e:s.heap.get? l=some {cls:=.type "list",data:=.seq j.toArray n}) (b:f j.toArray=its'.toArray) (c:bF y its') (k:y.length<=sizeLine) :
  eD X h Z (fI H l (.lst y)) {s with heap:=s.heap.update l (mapSeq f),toks:=t}:=by
 have q:=PySem.IsL.update e f;rw[b]at q;refine I.write (x:=l) (e:=l) (by rw[a];exact trivial) (.inl rfl) (λg u o d=>(Dk s.heap (mapSeq f) (hR o)).trans d) ⟨_,q⟩ ?_;exact⟨k,its',_,c,q⟩
def eD.lnew{Z:St}(I:eD X b Z H s)(a:bF y d)(h:y.length<=sizeLine) :
  eD X b Z (fI H s.heap.objs.size (.lst y)) {s with heap:=s.heap.push {cls:=.type "list",data:=.seq d.toArray},toks:=t'}:=
 I.laid (λ_ _ q=>sT _ q) (hF _) ⟨h,d,0,a,Ak _ rfl⟩
theorem eD.fresh{Z:St}(I:eD X a Z H s):H s.heap.objs.size=none:=I.hok.fresh (hF _)
def eD.lstM{Z:St}(I:eD X d Z H s)(a:H l=some (.lst xs)):xs.length<=sizeLine/\∃(b:List Value) (n:Nat),bF xs b/\xs.length=b.length/\s.heap.get? l=some {cls:=.type "list",data:=.seq b.toArray n}:=by
 obtain⟨z,b,n,r,e⟩:=I.hok l _ a;exact⟨z,b,n,r,r.length,e⟩
def Nf(h:n<=sizeLine):listTooLong n=false:=by
 exact FX (by simp_all)
def oG:V->List V->Hp->VK->Prop:=λx v H Q=>∃l a y,x=.ref l/\v=[y]/\H l=some (.lst a)/\a.length<sizeLine/\Q .non (fI H l (.lst (a++[y])))
def oH:Gg X "list.append" oG:=by
 intro p s Z H x k v U Q I b c h;obtain⟨l,j,y,rfl,rfl,a,f,q⟩:=h;cases b;obtain⟨u,rfl,d⟩:=c.one;obtain⟨z,i,n,r,g,e⟩:=I.lstM a;refine Et F.slot_list_append ⟨_,e,rfl⟩ F.entry_list_append (F.args_list_append_2 _ _) (PySem.list_append l i.toArray n u (by grind)) ⟨e,?_⟩;refine⟨.non,_,I.lset (its':=i++[u]) a e (by simp) (r.append (.cons d .nil)) ?_,rfl,q⟩
 grind
def UG:V->List V->Hp->VK->Prop:=λx v H Q=>∃l b a z,x=.ref l/\v=[.ref b]/\H l=some (.lst a)/\H b=some (.lst z)/\a.length+z.length<=sizeLine/\Q .non (fI H l (.lst (a++z)))
def Y4:Gg X "list.extend" UG:=by
 intro B s Z H x G v U Q I g i h;obtain⟨l,b,E,C,rfl,rfl,f,j,t,q⟩:=h;cases g;obtain⟨u,rfl,k⟩:=i.one;cases k;obtain⟨z,A,n,r,w,e⟩:=I.lstM f;obtain⟨y,a,N,m,o,p⟩:=I.lstM j;have d:A.toArray.size+a.toArray.size<=sizeLine:=by grind
 have c:¬(!A.toArray.isEmpty&&listTooLong (A.toArray.size+a.toArray.size))=true:=by
  rw[Nf d,Bool.and_false];simp
 refine Et F.slot_list_extend ⟨_,e,rfl⟩ F.entry_list_extend (F.args_list_extend_2 _ _)
  (AutoSeq1.list_extend_list_list_0 l A.toArray n b a.toArray N c (by simp_all) (by lia)) ⟨e,p,?_⟩
 refine⟨.non,_,I.lset (its':=A++a) f e (by simp) (r.append m) ?_,rfl,q⟩
 simp_all
def Ng:V->List V->Hp->VK->Prop:=λx v H Q=>∃l a y,x=.ref l/\v=[]/\H l=some (.lst a)/\a[a.length-1]?=some y/\Q y (fI H l (.lst a.dropLast))
def UH:Gg X "list.pop" Ng:=by
 intro p s Z H x t v U Q I d f h;obtain⟨l,o,y,rfl,rfl,c,g,q⟩:=h;cases d;have a:=f.zero;subst a;obtain⟨z,m,n,r,j,e⟩:=I.lstM c;obtain⟨u,k,i⟩:=r.get g;have b:m.toArray[m.toArray.size-1]?=some u:=by simp_all
 refine Et F.slot_list_pop ⟨_,e,rfl⟩ F.entry_list_pop (F.args_list_pop_1 _) (MeetsSeq.list_pop_last l m.toArray n u b (by simp_all)) ⟨e,?_⟩;refine⟨y,_,I.lset (its':=m.dropLast) c e ?_ r.dropLast ?_,i,q⟩;simp;rw[List.length_dropLast];grind
def Nh:V->List V->Hp->VK->Prop:=λx v H Q=>∃l a i k y,x=.ref l/\v=[.int i]/\H l=some (.lst a) /\ -(2^63)<=i/\i<2^63/\seqIndex? i a.length=some k/\a[k]?=some y/\Q y (fI H l (.lst (a.eraseIdx k)))
def UI:Gg X "list.pop" Nh:=by
 intro C s Z H x G v U Q I c d h;obtain⟨l,E,i,k,y,rfl,rfl,b,f,g,o,j,q⟩:=h;cases c;obtain⟨u,rfl,m⟩:=d.one;obtain⟨t,rfl⟩:=m;obtain⟨z,B,n,r,p,e⟩:=I.lstM b;obtain⟨w,A,a⟩:=r.get j;refine Et F.slot_list_pop ⟨_,e,rfl⟩ F.entry_list_pop (F.args_list_pop_2 _ _)
  (MeetsSeq.list_pop_at l B.toArray n i t k w (fitsIndex_both f g) (by simp_all) (by simp_all) (by simp_all)) ⟨e,?_⟩
 refine⟨y,_,I.lset (its':=B.eraseIdx k) b e ?_ (r.eraseIdx k) ?_,a,q⟩;simp;have:=oF E k;lia
def UJ:R2:=λx y H Q=>∃l b a z,x=.ref l/\y=.ref b/\H l=some (.lst a)/\H b=some (.lst z)/\a.length+z.length<=sizeLine/\∀p,H p=none->Q (.ref p) (fI H p (.lst (a++z)))
def UL:Ar X (binaryOp .Add) UJ:=by
 intro A s Z H x y v u Q I c d h;obtain⟨l,b,C,B,rfl,rfl,f,g,o,q⟩:=h;cases c;cases d;obtain⟨z,w,n,r,p,e⟩:=I.lstM f;obtain⟨t,a,N,i,j,k⟩:=I.lstM g;refine PySem.P.add_list e k ?_ (by grind);have m:w.toArray++a.toArray=(w++a).toArray:=by simp
 rw[m];exact⟨.ref _,_,I.lnew (t':=s.toks) (r.append i) (by simp_all),rfl,q _ I.fresh⟩
end
section
open Calls PyProof.Rows W
def oJ:∀ (N:List Int) (v:List Value),WellAll P h v (N.map WData.int)->IntsAre v N:=by
 intro N
 induction N with
 | nil=>
   intro v w;cases w;exact .nil
 | cons n N c=>
   intro v w;cases w with
   | cons a b=>
     cases a;exact .cons _ _ (c _ b)
def UM{l:OpenLaw}(H:l.most=some n)
  (b:l.row.toRowW.claim.pre args=true) (f:WellAll P h v args) :
  ∃a t N,v=[Value.ref a]/\args=[WData.list (N.map WData.int)]/\h.get? a=some {cls:=.type "list",data:=.seq t.toArray}/\IntsAre t N/\N.length<=n:=by
 have g:WShape.hasAll [] args [.list .int]=true:=(pre_splitW b).1;have hc:l.pre.holds [] {args:=args}=true:=(pre_splitW b).2;obtain⟨d,r,rfl,j,k⟩:=hasAllW_cons g;obtain rfl:=hasAllW_nil k;obtain⟨x,rfl,m⟩:=hasW_list j;obtain⟨N,rfl⟩:=items_int m;have c:N.length<=n:=by
  have i:(WTm.not (.lt (.lit (.int (n:Int))) (.len (.arg 0)))).holds [] {args:=[.list (N.map .int)]}=true:=by
   have i:=(holds_andW hc).1
   simp_all
  have s:=condW_of i (w_not (w_lt w_lit (w_len_list (w_arg rfl))))
  grind
 cases f with
 | cons o p=>
   cases p;cases o with
   |list q e=>exact⟨_,_,N,rfl,rfl,q,oJ N _ e,c⟩
def UN(l:OpenLaw)(args:List WData):l.row.toRowW.claim.post args (.bool true) args=true:=
 postW_of (r:=l.row.toRowW) (X:=(true==true))
  (show WShape.has [] (.bool true) .bool=true by rfl)
  (show(WTm.eq .res (.lit (.bool true))).value [] {args:=args,res:=some (.bool true),after:=args}=some (.bool (true==true))from w_eq_bool (w_res rfl) w_lit) rfl
def attach_call{l:OpenLaw}
  (hn:l.most=some n) (k:d.params.defaults=[])
  (J:∀(w:World) (s₀ b:Shared) (mg Q:Str->Option Value) (g:Addr) (o:Obj) (O M H:Value) (a:Addr) (I:List Value) (N:List Int),
   Ground q c [] t w s₀ mg Q b.heap->u w b.heap ->
   b.heap.get? g=some o->o.data=.func (docDef d.name d.params d.body d.scope O M H)->b.heap.CodeRec M d.name->mg d.name=some (.ref g) ->
   b.heap.get? a=some {cls:=.type "list",data:=.seq I.toArray}->IntsAre I N->N.length<=n->b.gens=#[] ->
   codeAny (model l.prog w) callerA (.call (.ref g) ⟨[.ref a],[]⟩) (λr L=>r=.ok (.ret (.bool true))/\OldK b.heap L.heap/\L.os=b.os/\AllBare L.gens) b) :
  WalkO q c t u l.row.toRowW d [] (λf I=>PySem.call f I):=by
 intro w s₀ b mg Q G Y g o O M H x T y hd m hD p z args U as h v A s B;obtain rfl:x=.none:=Dflts.none hD k;obtain rfl:T=.none:=Dflts.noKw hD;obtain⟨a,I,N,rfl,rfl,i,e,j⟩:=UM hn h s;refine enter_call (GF (J w s₀ b mg Q g o O M H a I N G Y y (fd_plain hd) m p i e j z) λr L C=>?_);obtain⟨rfl,D,E,F⟩:=C;exact⟨.inl ⟨.bool true,.bool true,[],rfl,λ_=>rfl,.bool true,UN l _,λ_=>⟨List.Pairwise.nil,λ_ hm=>(nomatch hm)⟩⟩,D,E,F⟩
end
section
open PyProof.Rows Spec
theorem uM:∀{v:List Value} {N:List Int},IntsAre v N->bF (N.map V.int) v
 |_,_,.nil=>.nil
 |_,_,.cons n t h=>.cons ⟨t,rfl⟩ (uM h)
def Ih(H:Hp):Prop:=∀b,H b=none\/∃o x,H b=some (.frz o (.lst x))
def UO{K:W.Frag}
  (Q:K.In c.heap) (t:c.heap.Ns mainGlobals mg) (hb:c.heap.Ns builtinsNs mb) (I:∀x:Str,x≠"__name__"->mb x=bootBuiltins x) (y:c.heap.NoLimit) (X:c.gens=#[])
  (ha:c.heap.get? a=some {cls:=.type "list",data:=.seq p.toArray}) (hi:IntsAre p O) (R:O.length<=sizeLine) (Y:Ae k callerA)
  (F:∀base:Heap,K.In base->base.Ns mainGlobals mg->Au P w K mg base CX k G fd [x] sp) (l:∀(s:Shared) (u:Value),BindsTo s fd ⟨[u],[]⟩ [(x,u)])
  (J:∀H:Hp,Ih H->Bd K H a (O.map V.int)->sp [.ref a] H (λv _=>v=.bl true) λ_ _ _=>False)
  (L:∀H e g,CX [] H c (λ_ _ _=>False) e g->False) :
  codeAny (model P w) callerA (.call (.ref G) ⟨[.ref a],[]⟩) (λr g=>r=.ok (.ret (.bool true))/\OldK c.heap g.heap/\g.os=c.os/\AllBare g.gens) c:=by
 have S:=uM hi;have A:=hi.length
 have j:∀ H:Hp,Ih H->Bd K H a (O.map V.int)->AA P w H c.heap->(∀ b,H b≠none->b=a)->(H a≠none->K.lookup a=none) ->
   codeAny (model P w) callerA (.call (.ref G) ⟨[.ref a],[]⟩) (λr g=>r=.ok (.ret (.bool true))/\OldK c.heap g.heap/\g.os=c.os/\AllBare g.gens) c:=by
  intro H T hS B hA hK;have f:∀{b:Addr} {o:Obj},c.heap.get? b=some o->H b=none->(EA c.heap H).get? b=some o:=λe n=>Sk e n;have N:∀{b:Addr} {o:Obj} {es:Array DictEntry} {ep:Nat},c.heap.get? b=some o->o.data=.dict es ep->H b=none:=λ{b o es ep} e d=>by grind
  have i:∀{b:Addr} {m:Str->Option Value},c.heap.Ns b m->(EA c.heap H).Ns b m:=λ{b m} ⟨o,es,ep,e,d,r⟩=>⟨o,es,ep,f e (N e d),d,r⟩;have C:K.In (EA c.heap H):=λb o e=>f (Q b o e) (by grind);have σ:Mod K mg (EA c.heap H):=⟨C,i t,⟨mb,i hb,I⟩,let ⟨mc,h1,h2⟩:=y;⟨mc,i h1,h2⟩⟩;have e0:ED P w K mg (EA c.heap H) callerA [] c H:=⟨rfl,σ,λb o e=>Sm e,le_of_eq (Sj _ _),trivial,λb hb=>absurd (show b∈([]:List Addr)from hb) (by simp),B,.of_eq X⟩;refine GF ((F _ C (i t)).run callerA [] c H ⟨[.ref a],[]⟩ [.ref a] [.ref a] _ _ Y e0 (l c (.ref a)) (.cons rfl .nil) (J H T hS)) λr g h=>?_;cases r with
  |error e=>exact(L H e g h).elim
  | ok fl=>
    cases fl with
    |next|brk|cont=>exact elim h
    | ret u=>
      obtain⟨v,H',os,M,un,D,r',q⟩:=h;have q':v=.bl true:=q;subst q';obtain rfl:u=Value.bool true:=r';refine⟨rfl,OldK.of_keep λb o e=>?_,os,M⟩;cases q:H b with
      |none=>exact un.keep b o e q (by intro z;exact absurd (show b∈([]:List Addr)from z) (by simp)) (by simp)
      | some u=>
        rcases T b with z|⟨ob,xs,z⟩;rw[q]at z;cases z;have z2:=un.frzs b ob _ z;obtain⟨U,_⟩:=B b _ z;obtain⟨e2,_⟩:=D b _ z2;rw[e]at U;cases U;exact e2
 cases π:K.lookup a with
 | some o=>
   have e:=Q a o π;rw[ha]at e;cases e;refine j (λ_=>none) (λ_=>.inl rfl) (.inr ⟨_,p.toArray,_,π,rfl,rfl,rfl,by rw[CC,A];exact R,by simpa using S⟩) (λb u z=>by have E:(none:Option HO)=some u:=z;cases E) (λb z=>absurd rfl z) λz=>absurd rfl z
 | none=>
   refine j (λb=>if b=a then some (.frz {cls:=.type "list",data:=.seq p.toArray} (.lst (O.map V.int)))else none) (λb=>?_) (.inl (.inr ⟨{cls:=.type "list",data:=.seq p.toArray},gV rfl⟩)) (λb u z=>?_) (λb z=>?_) λ_=>π;by_cases hb:b=a;exact .inr ⟨_,_,gV hb⟩;exact .inl (a0m hb);by_cases hb:b=a;have E:=(gV hb).symm.trans z;cases E;subst hb;exact⟨ha,by rw[eI];exact R,p,_,S,ha⟩;have E:=(a0m hb).symm.trans z;cases E;by_cases hb:b=a;exact hb;exact absurd (a0m hb) z
def cL7{l:W.OpenLaw}{K:Params->W.Frag}{CX:World->GY}{sp:World->Sp}
  (U:l.most=some n) (t:n<=sizeLine) (y:d.params.defaults=[]) (I:Ae k callerA)
  (J:∀(w:World) (h:Heap),C w h->(K w.params).In h)
  (F:∀ (w:World) (mg:Str->Option Value) (r:Addr) (h:Heap),(K w.params).In h->h.Ns mainGlobals mg->mg d.name=some (.ref r) ->
   ∃ O:FuncData,(∀ (s:Shared) (u:Value),BindsTo s O ⟨[u],[]⟩ [(x,u)]) /\
     ∀base:Heap,(K w.params).In base->base.Ns mainGlobals mg->Au l.prog w (K w.params) mg base (CX w) k r O [x] (sp w))
  (z:∀(w:World) (H:Hp) (a:Addr) (b:List Int),b.length<=n->Ih H->Bd (K w.params) H a (b.map V.int)->sp w [.ref a] H (λv _=>v=.bl true) λ_ _ _=>False)
  (A:∀(w:World) (H:Hp) (s:Shared) (e:Value) (g:Shared),CX w [] H s (λ_ _ _=>False) e g->False) :
  W.WalkO q i E C l.row.toRowW d [] (λf Q=>PySem.call f Q):=by
 refine PySem.attach_call U y λw T m mg mb r o pm cd doc a Q b G Y P hd L B p j c M=>?_;have D:=J w _ Y;obtain⟨O,hb,N⟩:=F w mg r _ D G.T.g B;exact UO D G.T.g G.T.b G.T.builtins G.T.nolimit M p j (gY c t) I N hb (λH π hS=>z w H a b c π hS) λH e g=>A w H m e g
noncomputable def rP(s:Stmt):Arguments:=match s with
 |.FunctionDef _ a _ _ _ _ _ _ _ _=>a
 |_=>{posonlyargs:=[],args:=[],vararg:=none,kwonlyargs:=[],kw_defaults:=[],kwarg:=none,defaults:=[]}
noncomputable def kH(s:Stmt):List Stmt:=match s with
 |.FunctionDef _ _ b _ _ _ _ _ _ _=>b
 |_=>[]
noncomputable def cK(s:Stmt):Scope:=match s with
 |.FunctionDef _ _ _ _ _ _ a _ _ _=>a
 |_=>{kind:=.function,names:=[],isGenerator:=false,isCoroutine:=false}
abbrev Dw:GY:=λ_ _ _ _ _ _=>False
abbrev E0:XK:=λ_ _ _=>False
def Kw:Ku Dw X E0:=λ_ _ _ _ _ _ _ h=>h.elim
structure Eg(K:W.Frag)(x qual:Str)(st:Stmt)(f:Addr)(fd:FuncData):Prop where
 ex:∃(oc:Value) (od:Option Addr) (kV doc pm:Value) (an1:Option Addr) (cdv ct:Value) (osl:Array (Option Value)),
  fd=W.fnOf x qual (rP st) (kH st) (cK st) .none kV doc pm an1 cdv ct/\K.lookup f=some ⟨oc,od,.func fd,osl⟩/\W.codeIn K cdv qual=true
 kp:W.keepIn K (.ref f)=true
theorem Eg.ok{K:W.Frag}{g:Stmt}(F:Eg K x e g f j)(S:AB N p (cK g))(len:∀ v H Q E,i v H Q E->v.length=p.length)
  (a:∀(C:Value) (A:Around) (outer:List Env) (s:Shared) (H:Hp) (v:List V) (Q:VK) (E:XK),Ae k (A.deeper (envOfC e (cK g) s.heap.objs.size f C))->i v H Q E ->
   ∃t,BB (Fp Dw P w K mg base N e (cK g) f C A outer s H E).nox (kH g) t/\t {nx:=λ_ r=>Q .non r,rt:=Q} (iT N v) H):Au P w K mg base Dw (k+1) f j p i:=by
 obtain⟨y,O,z,m,u,n,C,B,o,rfl,l,b⟩:=F.ex;refine Uc l b S len λA outer s H v Q E d c=>?_;obtain⟨t,h,q⟩:=a C A outer s H v Q E d c;exact⟨t,h.nox,q⟩
def Eg.binds{K:W.Frag}{s:Stmt}(F:Eg K x q s f e)
  (h:∀(k d p:Value) (A:Option Addr) (c ct:Value) (u:List Value),u.length=b.length->bindArgs (W.fnOf x q (rP s) (kH s) (cK s) .none k d p A c ct) ⟨u,[]⟩=pure (b.zip u)):GZ K e b []:=by
 obtain⟨g,O,k,d,p,A,c,ct,o,rfl,l,a⟩:=F.ex;exact .all (h k d p A c ct)
def Kx(a:Ae k A):A.units+1<cLine:=CS (add_le_add_left (by decide:1<=64) _) a.units
def pv(i:Nat)(b:X.N[i]? = some x:=by rfl)(c:Kf X.env.scope x:=by first | exact Or.inl rfl | exact Or.inr (Or.inl rfl) | exact Or.inr (Or.inr rfl))(h:(x==("__debug__":Str))=false:=by decide)
  (a:(x==("__classdict__":Str))=false:=by decide):PE X (.Name x pos) (pY i):=Sr b c h a
def lX(H h:Hp):Prop:=∀b o,H b=some o->h b=some o
def lX.refl(H:Hp):lX H H:=λ_ _ h=>h
def lX.trans(a:lX H d)(b:lX d e):lX H e:=λc o h=>b c o (a c o h)
def UP(h:∀ y∈scope.names,y.2=.free->∃ c,env.cells.lookup y.1=some c) :
  ∃C:List (Str×Addr),closureFor scope env=pure C/\(∀x c,C.lookup x=some c->env.cells.lookup x=some c)/\∀y∈scope.names,y.2=.free->∃c,C.lookup y.1=some c:=by
 have o:∀ (l:List (Str×NameKind)) (A:List (Str×Addr)),(∀ y∈l,y.2=.free->∃ c,env.cells.lookup y.1=some c)->(∀ x c,A.lookup x=some c->env.cells.lookup x=some c) ->
   ∃ C:List (Str×Addr),((forIn l A λ(x:Str×NameKind) (r:List (Str×Addr))=>if(x.2==NameKind.free)=true then do let a ← cellOf env x.1;pure (ForInStep.yield ((x.1,a)::r))else pure (ForInStep.yield r)):Sem (List (Str×Addr)))=pure C /\
     (∀x c,C.lookup x=some c->env.cells.lookup x=some c)/\(∀x c,A.lookup x=some c->∃d,C.lookup x=some d)/\∀y∈l,y.2=.free->∃c,C.lookup y.1=some c:=by
  intro l
  induction l with
  |nil=>intro A _ v;exact⟨A,rfl,v,λx c e=>⟨c,e⟩,λ_ b=>nomatch b⟩
  | cons y r s=>
    intro A p v;obtain⟨n,k⟩:=y;rw[forIn_cons];by_cases i:(k==NameKind.free)=true
    ·have q:k=.free:=by simpa using i
     obtain⟨c,hc⟩:=p (n,k) Aa q;have u:cellOf env n=pure c:=by unfold cellOf;rw[hc]
     obtain⟨C,e,f,j,g⟩:=s ((n,c)::A) (λy b=>p y (Am _ b)) (λx d e=>by
      rw[lookup_cons]at e;split at e
      ·lia
      ·exact v x d e)
     have H:∃d,C.lookup n=some d:=j n c (by rw[lookup_cons];simp);refine⟨C,?_,f,λx d e=>?_,λy b m=>?_⟩;simp only[i,if_true,u];exact e
     ·by_cases t:x=n;subst t;exact H;exact j x d (by rw[lookup_cons];have:(x==n)=false:=by simpa using t
                                                     rw[this];exact e)
     ·rcases Az.mp b with rfl|b;exact H;exact g y b m
    ·obtain⟨C,e,f,j,g⟩:=s A (λy b=>p y (Am _ b)) v;refine⟨C,?_,f,j,λy b m=>?_⟩;simp only[i];exact e;rcases Az.mp b with rfl|b;exact absurd (by simpa using m) i;exact g y b m
 obtain⟨C,e,f,_,g⟩:=o scope.names [] h (λx c e=>nomatch e);refine⟨C,?_,f,g⟩;unfold closureFor;simp only[bind_pure];exact e
def kW(h:(relabel s env).names.lookup x=some .cell\/(relabel s env).names.lookup x=some .free) :
  (x,NameKind.free)∈s.names\/s.names.lookup x=some .cell:=by
 unfold relabel at h;dsimp only at h;revert h;generalize s.names=l;intro h
 induction l with
 |nil=>rcases h with h|h<;>cases h
 | cons y r a=>
   grind
theorem cU:∀ (names:List (Str×NameKind)) (n:Nat) (a:List (Str×Addr)),cellsFrom n names a=cellsFrom n names []++a
 |[],n,a=>rfl
 | (x,k)::r,n,a=>by
   unfold cellsFrom;split;rw[cU r (n+1) ((x,n)::a),cU r (n+1) [(x,n)],append_assoc];rfl;exact cU r n a
theorem iM:∀ (names:List (Str×NameKind)) (n:Nat) (x:Str) (c:Addr),(x,c)∈cellsFrom n names []->(x,NameKind.cell)∈names
 |[],n,x,c,h=>nomatch h
 | (y,k)::r,n,x,c,h=>by
   unfold cellsFrom at h;split at h
   ·rw[cU]at h;rcases Ac.mp h with z|z;exact Am _ (iM r _ x c z)
    grind
   ·exact Am _ (iM r _ x c h)
theorem eA:∀ (names:List (Str×NameKind)) (n:Nat) (x:Str),(x,NameKind.cell)∈names->∃ c,(cellsFrom n names []).lookup x=some c
 |[],n,x,h=>nomatch h
 | (y,k)::r,n,x,h=>by
   have a:∀m,(x,NameKind.cell)∈r->∃c,(cellsFrom m r []).lookup x=some c:=λm H=>eA r m x H;unfold cellsFrom;split
   ·rw[cU,List.lookup_append];rcases Az.mp h with z | z
    ·simp_all
    ·obtain⟨c,hc⟩:=a (n+1) z
     simp_all
   ·rcases Az.mp h with z|z
    ·lia
    ·exact a n z
def UQ 
  (b:Q (newEnv c s.heap.objs.size g (cellsFrom (s.heap.objs.size+1) c.names d) q none .none (some env) builtinsNs) {s with heap:=pushCells (s.heap.push {cls:=.type "dict",data:=.dict #[]}) c.names}) :
  wpAny M A (newFunctionEnv c g d [] q none .none (some env)) Q E s:=by
 simp only[newFunctionEnv,Option.isSome_some,if_true];refine dV (wpAny_alloc ?_);refine dV (wpAny_layCells _ (λa k C=>rfl) _ _ _ _ ?_);rw[show({s with heap:=s.heap.push {cls:=.type "dict",data:=.dict #[]}}:Shared).heap.objs.size=s.heap.objs.size+1 from Ez ..];refine dV ?_;exact eH (eH b)
def rQ(h:(relabel s env).names.lookup x=some .local):s.names.lookup x=some .local:=by
 unfold relabel at h;dsimp only at h;revert h;generalize s.names=l;intro h
 induction l with
 |nil=>cases h
 | cons y r a=>
   grind
def eD.adopt{Z:St}(I:eD X k Z H s)(A:H a=none)(B:X.s₀.heap.objs.size<=a)(f:a≠X.env.locals)
  (g:∀x c,X.env.cells.lookup x=some c->c≠a) (h:∀p∈X.pn++k,p.1≠a) (i:cC X.prog X.w (fI H a o) s.heap a o):eD X k Z (fI H a o) s:=by
 have l:∀b u,H b=some u->b≠a:=λb u e=>bP e A;refine⟨I.ok,I.os,I.bare,⟨I.base.keep,I.base.slot,λb O q n j=>?_,I.base.there,λb t q=>?_,λb O u q=>?_,λb z q=>?_⟩,I.loc,I.cell,?_,λx c e=>?_,λp d=>?_,λb u e=>?_,I.len⟩;rw[aG (AF (Ao (rN q) B))];exact I.base.free b O q n j;have:=I.base.tups b t q;rw[aG (l b _ this)];exact this;have:=I.base.frzs b O u q;rw[aG (l b _ this)];exact this;obtain⟨m,this⟩:=I.base.tbls b z q;exact⟨m,by rw[aG (l b _ this)];exact this⟩;rw[aG (hR f)];exact I.free;rw[aG (g x c e)];exact I.freeC x c e;obtain⟨e,n,r⟩:=I.pin p d;exact⟨e,by rw[aG (h p d)];exact n,r⟩;by_cases y:b=a;subst y;rw[aJ]at e;lia;rw[aG y]at e;exact(I.hok b u e).stay (λc v _ q=>q) (λc q=>by rw[aG (l c _ q)];exact q) λc t q=>by rw[aG (l c _ q)];exact q
def xL(I:Nat->Shared->Prop)
  (turn:∀ n s,I n s->wpAny (model prog w) A (pyNext z) (λr d=>match r with
   |none=>R (.ok .next) d
   | some v=>wpAny (model prog w) A (letOwnedTupleGo a z v) (λ_ e=>wpAny (model prog w) A (assign a env v) (λ_ g=>
     wpAny (model prog w) A (forIn l true λc r=>if r=true then do let ok ← isTrue c env (eval c env);pure (ForInStep.yield ok)else pure (ForInStep.yield r)) (λok f=>
      if ok=true then wpAny (model prog w) A (eval E env) (λx i=>
       wpAny (model prog w) A (call (.builtin "list.append") [y,x]) (λ_ j=>∃m,m<n/\I m j) (λ_ _=>False) i) (λ_ _=>False) f
      else ∃m,m<n/\I m f) (λ_ _=>False) g) (λ_ _=>False) e) (λ_ _=>False) d) (λ_ _=>False) s)
  (n:Nat) (h:I n s) :
  codeAny (model prog w) A (.compLoop (.ListComp E [⟨a,iter,l,0⟩] u pos) 0 z y env) R s:=by
 refine codeAny_loop rfl I (λn s t=>?_) n h;refine wpAny_noted ?_;rw[compTurn_list];refine dV (HS (dV (Ck (turn n s t) (λr d b=>?_) λ_ _ H=>H.elim)));cases r with
 |none=>exact eH b
 | some v=>
   refine dV (Ck b (λ_ e b=>?_) λ_ _ H=>H.elim);refine dV (Ck b (λ_ g o=>dV (Ck o (λok f k=>?_) λ_ _ H=>H.elim)) λ_ _ H=>H.elim);cases ok with
   | true=>
     refine dV (dV (Ck k (λx i p=>dV (Ck p (λ_ j q=>eH (eH ⟨rfl,q⟩)) λ_ _ H=>H.elim)) λ_ _ H=>H.elim))
   | false=>
     first
      |rfl
      |exact eH ⟨rfl,k⟩
noncomputable abbrev Ba(X:Cx)(a:Scope)(c:List (Str×Addr))(ex:List Addr)(s:Shared)(H:Hp):Cx:=
 {X with s₀:=s,H₀:=H,env:=compEnvC a c s.heap.objs.size X.env,outer:=X.stack,ex:=ex,fn:=λx=>a.names.lookup x==some .cell,xe:=λ_ _=>False}
noncomputable def blank(own:List Nat)(Z:St):St:=own.foldl (λZ i=>Z.set i none) Z
theorem mQ:∀(own:List Nat) (Z:St),(blank own Z).length=Z.length
 |[],_=>rfl
 |i::r,Z=>(mQ r (Z.set i none)).trans (by simp)
theorem lY:∀ (own:List Nat) (Z:St) (i:Nat) (v:V),(blank own Z)[i]? = some (some v)->i∉own/\Z[i]? = some (some v)
 |[],_,_,_,h=>⟨by simp,h⟩
 | j::r,Z,i,v,h=>by
   obtain⟨b,a⟩:=lY r (Z.set j none) i v h;by_cases e:i=j;subst e;rw[List.getElem?_set]at a;simp at a
   ·rw[sU (hR e)]at a
    simp_all
def Gh(own:List Nat)(g:TG):Prop:=∀x Z H Q,g x Z H Q->g x Z H λa h=>Q a h/\a.length=Z.length/\∀i,i∉own->a[i]?=Z[i]?
def Jj(own:List Nat)(g:Fm):Prop:=∀x Z H Q,g x Z H Q->g x Z H λa h=>Q a h/\a.length=Z.length/\∀i,i∉own->a[i]?=Z[i]?
def eB(h:i∈own):Gh own (gM i):=λx Z H Q q=>
 ⟨q,by simp,λj a=>sU (λe:i=j=>a (by simp_all))⟩
def kX:Jj own Fn:=λx Z H Q q=>⟨q.1,q.2,rfl,λ_ _=>rfl⟩
def dO(f:Gh own t)(g:Jj own u)(m:∀x Z H Q d,(∀a b,Q a b->d a b)->t x Z H Q->t x Z H d):Jj own (nY t u):=by
 intro x Z H Q q;obtain⟨v,r,e,q⟩:=q;refine⟨v,r,e,m _ _ _ _ _ (λh i c=>?_) (f _ _ _ _ q)⟩;obtain⟨c,l,j⟩:=c;have:=g _ _ _ _ c
 grind
def cV:∀x Z H (Q c:St->Hp->Prop),(∀a b,Q a b->c a b)->gM i x Z H Q->gM i x Z H c:=λ_ _ _ _ _ f q=>f _ _ q
def Eh(X:Cx)(a:List Expr)(t:TT):Prop:=
 ∀ (p:List (Addr×Obj)) (s:Shared) (Z:St) (H:Hp) (Q:Bool->Hp->Prop),eD X p Z H s->t Z H Q ->
   wpAny (model X.prog X.w) X.A (forIn a true λc r=>if r=true then do let o ← isTrue c X.env (eval c X.env);pure (ForInStep.yield o)else pure (ForInStep.yield r)) (TP X p Z Q) X.xe s
def UR:TT:=λ_ H Q=>Q true H
def US:Eh X [] UR:=λ_ _ _ H _ I h=>wpAny_tests_nil ⟨H,I,h⟩
def UT(h:PT X c t):Eh X [c] t:=λp s Z H Q I q=>wpAny_tests_one (h p s Z H Q I q)
structure Ai(X:Cx)(scope:Scope)(own:List Nat):Prop where
 kind:scope.kind=.function
 cells:∀y∈scope.names,y.2=.cell->scope.names.lookup y.1=some .cell
 names:∀y∈scope.names,y.2=.local->scope.names.lookup y.1=some .local
 free:∀y∈scope.names,y.2=.free->X.env.kindOf y.1=some .cell\/X.env.kindOf y.1=some .free
 own:∀i x,X.N[i]?=some x->(scope.names.lookup x=some .local\/scope.names.lookup x=some .cell)->i∈own
 calm:X.calm=true
def Ni(own:List Nat)(d:TI)(g:TG)(e:TT)(f:TE)(Z:St)(H:Hp)(F:List V->Hp->Prop):Prop:=
 d Z H λJ h=>∃W:Nat->Nat->List V->Hp->Prop,(∃m,W 0 m [] h)/\∀i m y H,W i m y H->y.length<=sizeLine /\
  ((J.stop i H/\F y H)\/(J.go i H/\∀ x l,J.yld i H x l->g x (blank own Z) l λa j=>e a j λb c=>
    if b=true then f a c λv k=>∃M,M < m/\W (i+1) M (y++[v]) k else ∃M,M < m/\W (i+1) M y c))
def Ii(own:List Nat)(a:TI)(g:TG)(b:TT)(c:TE):TE:=λZ H Q=>Ni own a g b c Z H λy h=>∀p,h p=none->Q (.ref p) (fI h p (.lst y))
structure BC(X:Cx)(pins:List (Addr×Obj))(H:Hp)(b:Addr):Prop where
 un:H b=none
 loc:b≠X.env.locals
 young:X.s₀.heap.objs.size<=b
 cell:∀x c,X.env.cells.lookup x=some c->c≠b
 pin:∀p∈X.pn++pins,p.1≠b
def eD.stray{Z:St}{b:Addr}(I:eD X h Z H s)(hb:s.heap.objs.size<=b)(j:k b=none):BC X h k b:=by
 obtain⟨a,c,f,g,d,e⟩:=I.fpOk hb j;exact⟨a,c,gY I.sz hb,d,e⟩
set_option maxHeartbeats 8000000 in
def UU{Z:St}{F:List V->Hp->Prop}{W:Nat->Nat->List V->Hp->Prop}
  (S:Ai X w own) (hg:∀cl ex s H,PG (Ba X w cl ex s H) tg g) (hG:Gh own g)
  (ht:∀cl ex s H,Eh (Ba X w cl ex s H) ifs tt) (he:∀cl ex s H,PE (Ba X w cl ex s H) elt te)
  (l:eD X A Z h a) (T:Cr X.prog X.w X.K tg J fp it tn) (M:∀x c,cl.lookup x=some c->(X.env.cells.lookup x=some c/\w.names.lookup x≠some .cell)\/(a.heap.objs.size<c/\w.names.lookup x=some .cell/\h₁.IsCell c none)) (cl2:∀y∈w.names,y.2=.free\/y.2=.cell->∃c,cl.lookup y.1=some c)
  (cl3:∀x y c,cl.lookup x=some c->cl.lookup y=some c->x=y)
  (P:∀b∈fp,DP X A h b) (L:∀b∈fp,b<D) (B:D<a.heap.objs.size) (E:∀b,b∈frs X.stack->b<D) (hbase:∀b o,X.base.get? b=some o->b<D) (f:BC X A h D)
  (hD3:a.heap.get? D=some {cls:=.type "list",data:=.seq ([]:List Value).toArray}) (st3:tn 0 a.heap) (Q:h₁.Ns a.heap.objs.size mC) (t:∀b o,a.heap.get? b=some o->h₁.get? b=some o)
  (w0:W 0 m0 [] h) (turn:∀i m ys H,W i m ys H->ys.length<=sizeLine /\
  ((J.stop i H/\F ys H)\/(J.go i H/\∀ x H',J.yld i H x H'->g x (blank own Z) H' λσ2 h=>tt σ2 h λb H3=>
    if b=true then te σ2 H3 λv π=>∃m',m' < m/\W (i+1) m' (ys++[v]) π else ∃m',m' < m/\W (i+1) m' ys H3)))
  (fin:∀D C ys H' s' m,eD X A Z (fI H' D (.lst ys)) s'->H' D=none->s'.heap.Ns C m->BC X A (fI H' D (.lst ys)) C->F ys H' ->
   compPost (model X.prog X.w) X.A X.xe use Qf (.ref D) C (.ok .next) s') :
  codeAny (model X.prog X.w) X.A (.compLoop (.ListComp elt [⟨tg,iter,ifs,0⟩] w pos) 0 (.ref it) (.ref D) (compEnvC w cl a.heap.objs.size X.env))
   (compPost (model X.prog X.w) X.A X.xe use Qf (.ref D) a.heap.objs.size) {a with heap:=h₁,toks:=tk}:=by
 have cneD:∀x c,cl.lookup x=some c->c≠D:=λx c q=>by
  rcases M x c q with z|z;exact f.cell x c z.1;exact(AF (CT B z.1)).symm
 have cneF:∀b∈fp,∀x c,cl.lookup x=some c->c≠b:=λb O x c q=>by
  rcases M x c q with z|z;exact(P b O).2.2.2.2.1 x c z.1;exact(AF (CT (CT (L b O) B) z.1)).symm
 have okY:(Ba X w cl (D::fp) a h).Ok:=by
  refine⟨l.ok.mod,S.kind,l.ok.glob,l.ok.blt,hF _,cl3,λx hk=>?_,λx c hf q=>?_,l.ok.hd,l.ok.frames,.inl rfl,λb O=>?_,λb o q=>?_,?_,λb o q O=>?_,λb O R=>?_,l.stack,l.stkFree⟩;rcases kW hk with z|z;exact cl2 _ z (.inl rfl);exact cl2 _ (mem_of_lookup z) (.inr rfl)
  ·rcases M x c q with z | z
   ·have hf':w.names.lookup x=some .cell:=by simpa using hf
    exact absurd hf' z.2
   ·exact AO z.1
  ·constructor;show b≠a.heap.objs.size;rcases Az.mp O with z|z;rw[z];exact AF B;exact AF (CT (L b z) B);intro x c q;rcases Az.mp O with z|z;rw[z];exact cneD x c q;exact cneF b z x c q
  ·exact l.bs b o q
  ·exact gY l.ok.bsz l.sz
  ·rcases Az.mp O with z|z;have:=hbase b o q;rw[z]at this;exact BI _ this;rcases(P b z).2.2.2.1 with y|y;exact l.ok.noex b o q y;exact BI _ (Ao (rN q) (gY l.ok.bsz y))
  ·rcases Az.mp O with z|z;have:=E b R;rw[z]at this;exact BI _ this;rcases Az.mp (l.stkSub b R)with y|y;exact(P b z).2.1 y;exact(P b z).2.2.1 y
 have IY:eD (Ba X w cl (D::fp) a h) A (blank own Z) h {a with heap:=h₁,toks:=tk}:=by
  refine⟨okY,rfl,l.bare,Un.kept t,⟨_,Q,λi x v e1 e2 e3=>?_⟩,λx c q=>?_,l.hok.fresh (hF _),λx c q=>by
   rcases M x c q with z|z;exact l.freeC x c z.1;exact l.hok.fresh (AO z.1),λp hp=>?_,l.hok.kept t,(mQ own Z).trans l.len⟩
  ·obtain⟨hno,e2'⟩:=lY own Z i v e2;have hnl:¬ (relabel w X.env).names.lookup x=some .local:=λz=>hno (S.own i x e1 (.inl (rQ z)));have hnc:¬ w.names.lookup x=some .cell:=λz=>hno (S.own i x e1 (.inr z));have hcf:(relabel w X.env).names.lookup x=some .cell\/(relabel w X.env).names.lookup x=some .free:=by
    rcases e3 with z|z|z;exact absurd z hnl;exact .inl z;exact .inr z
   have hmem:=(kW hcf).resolve_right hnc;have U:=S.free _ hmem rfl;obtain⟨m,hm,hl⟩:=l.loc;obtain⟨u,r,lk⟩:=hl i x v e1 e2' (by rcases U with z|z;exact .inr (.inl z);exact .inr (.inr z));obtain⟨c,hc⟩:=cl2 _ hmem (.inl rfl);refine⟨u,r,.inr ⟨hcf,c,hc,?_⟩⟩;rcases lk with⟨z,_⟩|⟨_,c',hc',ic⟩;dsimp only at U;rw[z]at U;rcases U with y|y<;>cases y;have:=((M _ c hc).resolve_right λz=>hnc z.2.1).1;dsimp only at this;rw[hc']at this;cases this;obtain⟨o,ho,hd⟩:=ic;exact⟨o,t _ _ ho,hd⟩
  ·rcases M x c q with z|z;obtain⟨v,o,ho,hd⟩:=l.cell x c z.1;exact⟨v,o,t _ _ ho,hd⟩;exact⟨_,z.2.2⟩
  ·obtain⟨q,n,ne,nf,d⟩:=l.pin p hp;refine⟨t _ _ q,n,AF (rN q),λO=>?_,d⟩;rcases Az.mp (l.stkSub _ O)with y|y;exact ne y;exact nf y
 have DY:D≠a.heap.objs.size:=AF B;have statY:∀{H':Hp},(∀b∈fp,H' b=none)->∀b∈fp,DP (Ba X w cl (D::fp) a h) A H' b:=λhn b O=>by
  refine⟨hn b O,?_,?_,.inl (Am _ O),cneF b O,(P b O).2.2.2.2.2⟩;show b≠a.heap.objs.size;exact AF (CT (L b O) B);intro R;rcases Az.mp (l.stkSub b R)with y|y;exact(P b O).2.1 y;exact(P b O).2.2.1 y
 have hDfp:D∉fp:=λz=>BI _ (L D z);have hDstk:D∉frs X.stack:=λz=>BI _ (E D z);have G:∀{H':Hp} {o:Obj},(∀b∈fp,H' b=none)->∀b∈fp,DP (Ba X w cl (D::fp) a h) (A++[(D,o)]) H' b:=λ{H' o} fr b O=>by
  obtain⟨a1,a2,a3,a4,a5,a6⟩:=statY fr b O;refine⟨a1,a2,a3,a4,a5,λp hp z=>?_⟩;rcases Ac.mp hp with y|y;exact a6 p (BY _ y) z;rcases Ac.mp y with y|y;exact a6 p (AE _ y) z;have e:p=(D,o):=Ah.mp y;rw[e]at z;have z':D=b:=z;exact hDfp (by rw[z'];exact O)
 have pin2:∀ {H':Hp} {s':Shared} {its:Array Value} {k:Nat},eD (Ba X w cl (D::fp) a h) A (blank own Z) H' s'->H' D=none->s'.heap.get? D=some {cls:=.type "list",data:=.seq its k} ->
   eD (Ba X w cl (D::fp) a h) (A++[(D,{cls:=.type "list",data:=.seq its k})]) (blank own Z) H' s':=λ{H' s' its k} I4 D4 o4=>I4.pins_of λp hp=>by
  rcases Ac.mp hp with z|z;exact I4.pin p (AE _ z);have e:p=(D,{cls:=.type "list",data:=.seq its k}):=Ah.mp z;subst e;exact⟨o4,D4,DY,hDstk,λv z=>by cases z⟩
 refine xL (λn s'=>∃i ys H' its k,eD (Ba X w cl (D::fp) a h) A (blank own Z) H' s'/\tn i s'.heap/\(∀b∈fp,H' b=none)/\H' D=none /\
  s'.heap.get? D=some {cls:=.type "list",data:=.seq its k}/\bF ys its.toList/\W i n ys H') ?_ m0
  ⟨0,[],h,#[],_,IY,T.keep _ _ _ st3 λb O o q=>t b o q,λb O=>(P b O).1,f.un,t _ _ hD3,.nil,w0⟩
 rintro n s4 ⟨i,ys,π,its,k,I4,st4,fr4,D4,o4,v4,w4⟩;obtain⟨hz,step⟩:=turn i n ys π w4;rcases step with⟨stop,qn⟩|⟨go,step⟩
 ·refine thn (T.done (Ba X w cl (D::fp) a h) rfl rfl rfl S.calm i _ s4 (blank own Z) π (λ_ _=>False) (pin2 I4 D4 o4) (G fr4) st4 stop) λr s5 Z0=>?_;obtain⟨hr,I5⟩:=Z0;subst hr;have oD:s5.heap.get? D=some {cls:=.type "list",data:=.seq its k}:=(I5.pin (D,_) (AE _ (AE _ Aa))).1;have N:eD (Ba X w cl (D::fp) a h) A (blank own Z) π s5:=I5.unpinned;have IX:eD X A Z π s5:=by
   refine l.call' (ch:=D::fp) N.os N.base N.hok N.bare λb O=>?_;rcases Az.mp O with z|z;rw[z];exact⟨.inr f.young,f.loc,f.cell,f.pin⟩;obtain⟨a1,a2,a3,a4,a5,a6⟩:=P b z;exact⟨a4,a2,a5,a6⟩
  obtain⟨m5,hm5,_⟩:=N.loc;have nC:π a.heap.objs.size=none:=N.free;have IX':eD X A Z (fI π D (.lst ys)) s5:=by
   refine IX.adopt D4 f.young f.loc f.cell f.pin ⟨hz,its.toList,k,v4,?_⟩;rw[oD]
  have strC:BC X A (fI π D (.lst ys)) a.heap.objs.size:=l.stray (hF _) (by rw[aG (hR DY)];exact nC);exact fin D _ ys π s5 m5 IX' D4 hm5 strC qn
 ·refine thn (T.item (Ba X w cl (D::fp) a h) rfl rfl rfl S.calm i _ s4 (blank own Z) π (λ_ _=>False) (pin2 I4 D4 o4) (G fr4) st4 go) λr s5 Z0=>?_;obtain⟨u,hr,h5⟩:=Z0;subst hr;refine thn h5 λ_ s6 ⟨x,H6,I6,r6,y6,st6,fr6⟩=>?_;have I6':=I6.pinned (G fr6) (T.obj _ _ st6);refine thn (hg cl (D::fp) a h _ s6 (blank own Z) H6 x u _ I6' r6 (hG _ _ _ _ (step x H6 y6))) λ_ s7 ⟨σ7,H7,I7,⟨q7,l7,p7⟩⟩=>?_;refine thn (ht cl (D::fp) a h _ s7 σ7 H7 _ I7 q7) λb s8 ⟨H8,I8,q8⟩=>?_;have weak:∀ {Y:Hp} {σ:Shared},eD (Ba X w cl (D::fp) a h) ((A++[(D,{cls:=.type "list",data:=.seq its k})])++nZ fp s6.heap) σ7 Y σ ->
    eD (Ba X w cl (D::fp) a h) ((A++[(D,{cls:=.type "list",data:=.seq its k})])++nZ fp s6.heap) (blank own Z) Y σ:=λI9=>
   I9.weak l7.symm λj v e=>by rw[p7 j (lY own Z j v e).1];exact e
  have tn9:∀ {Y:Hp} {σ:Shared},eD (Ba X w cl (D::fp) a h) ((A++[(D,{cls:=.type "list",data:=.seq its k})])++nZ fp s6.heap) (blank own Z) Y σ->tn (i+1) σ.heap/\∀ b∈fp,Y b=none:=λI9=>
   ⟨T.keep _ _ _ st6 λb O o q=>(I9.pin (b,o) (AE _ (AE _ (jM O q)))).1,λb O=>by
    obtain⟨o,q,d⟩:=T.obj _ _ st6 b O;exact(I9.pin (b,o) (AE _ (AE _ (jM O q)))).2.1⟩
  cases b with
  | true=>
    rw[gV rfl]at q8 ⊢;refine thn (he cl (D::fp) a h _ s8 σ7 H8 _ I8 q8) λy σ Z0=>?_;obtain⟨v9,Y,I9,r9,m',hm',w9⟩:=Z0;have I:=weak I9;obtain⟨t9,f9⟩:=tn9 I;have p9:=I.pin (D,_) (AE _ (BY _ (AE _ Aa)));have hlen:=v4.length;have hz':its.size<=sizeLine:=by rw[← Bz];simp_all
    refine append_at (hsz:=hz') p9.1 λh' hs' hD'=>?_;have I9u:eD (Ba X w cl (D::fp) a h) A (blank own Z) Y σ:=I.unpinned.unpinned;have I10:eD (Ba X w cl (D::fp) a h) A (blank own Z) Y {σ with heap:=h'}:=
     I9u.turned (it:=D) (t':=σ.toks) (λb o O q=>(hs'.2 b O).trans q) p9.2.1 DY (.inl Aa) cneD f.pin
    refine⟨m',hm',i+1,ys++[v9],Y,its.push y,k+1,I10,T.keep _ _ _ t9 λb O o q=>(hs'.2 b λz=>hDfp (by rw[← z];exact O)).trans q,f9,p9.2.1,hD',?_,w9⟩;rw[Fb];exact v4.append (.cons r9 .nil)
  | false=>
    rw[a0m Ga]at q8 ⊢;obtain⟨m',hm',w9⟩:=q8;have I:=weak I8;obtain⟨t9,f9⟩:=tn9 I;have p9:=I.pin (D,_) (AE _ (BY _ (AE _ Aa)));exact⟨m',hm',i+1,ys,H8,its,k,I.unpinned.unpinned,t9,f9,p9.2.1,p9.1,v4,w9⟩
set_option maxHeartbeats 8000000 in
def uN{Z:St}
  (S:Ai X scope own) (hi:PI X tg iter wi) (hg:∀O ex s H,PG (Ba X scope O ex s H) tg g) (hG:Gh own g)
  (ht:∀O ex s H,Eh (Ba X scope O ex s H) B tt) (he:∀O ex s H,PE (Ba X scope O ex s H) elt te)
       (I:eD X w Z H s) (hw:Ni own wi g tt te Z H F)
  (hs:∀x,foldedSetIterable iter X.env x=pure x)
  (fin:∀D C ys H' s' m,eD X w Z (fI H' D (.lst ys)) s'->H' D=none->s'.heap.Ns C m->BC X w (fI H' D (.lst ys)) C->F ys H' ->
   compPost (model X.prog X.w) X.A X.xe use Qf (.ref D) C (.ok .next) s') :
  wpAny (model X.prog X.w) X.A (comprehension (.ListComp elt [⟨tg,iter,B,0⟩] scope pos) scope X.env E (newList []) false (eval iter X.env) use) Qf X.xe s:=by
 obtain⟨O,Q,R,U⟩:=UP (scope:=scope) (env:=X.env) λy π hf=>I.ok.has y.1 (S.free y π hf);refine wpAny_comprehension_free (use:=use) rfl hs Q S.kind S.names (thn (hi w s Z H _ I hw) λv s₁ h₁=>thn h₁ λitv a G=>?_);obtain⟨it,fp,tn,J,H2,e,r,T,t,f2,W,⟨m0,w0⟩,turn⟩:=G;subst e;refine EU (UQ ?_);dsimp only;have Y:(a.heap.push {cls:=.type "list",dict:=none,data:=.seq ([]:List Value).toArray}).objs.size=a.heap.objs.size+1:=Ez ..;have h:∀b o,a.heap.get? b=some o->(a.heap.push {cls:=.type "list",dict:=none,data:=.seq ([]:List Value).toArray}).get? b=some o:=λb o q=>sT _ q;have K:(a.heap.push {cls:=.type "list",dict:=none,data:=.seq ([]:List Value).toArray}).get? a.heap.objs.size=some {cls:=.type "list",dict:=none,data:=.seq ([]:List Value).toArray}:=Ak _ rfl;generalize hG3:a.heap.push {cls:=.type "list",dict:=none,data:=.seq ([]:List Value).toArray}=d at Y h K ⊢;have n:(d.push {cls:=.type "dict",data:=.dict #[]}).objs.size=d.objs.size+1:=Ez ..;have i:(pushCells (d.push {cls:=.type "dict",data:=.dict #[]}) scope.names).Ns d.objs.size (λ_=>none):=(Heap.Ns.new d (.type "dict")).keeps (pushCells_keeps _ _);have k:∀b o,d.get? b=some o->(pushCells (d.push {cls:=.type "dict",data:=.dict #[]}) scope.names).get? b=some o:=λb o q=>pushCells_keeps _ _ b o (sT _ q);have ok:=cellsFrom_ok scope.names (d.push {cls:=.type "dict",data:=.dict #[]}) (d.objs.size+1) [] ⟨λ_ _ hm=>(nomatch hm),List.Pairwise.nil⟩ (by rw[n];exact hF _);rw[n]at ok;generalize pushCells (d.push {cls:=.type "dict",data:=.dict #[]}) scope.names=h₁ at i k ok ⊢;have σ:eD X w Z H2 {a with heap:=d}:=r.kept (t':=a.toks) h;have A:∀x,(cellsFrom (d.objs.size+1) scope.names O).lookup x=((cellsFrom (d.objs.size+1) scope.names []).lookup x).or (O.lookup x):=λx=>by rw[cU,List.lookup_append]
 have L:∀x c,(cellsFrom (d.objs.size+1) scope.names []).lookup x=some c->d.objs.size<c/\scope.names.lookup x=some .cell/\h₁.IsCell c none:=λx c q=>
  ⟨(ok.empty x c (mem_of_lookup q)).2,S.cells _ (iM _ _ x c (mem_of_lookup q)) rfl,(ok.empty x c (mem_of_lookup q)).1⟩
 have j:∀ x c,(cellsFrom (d.objs.size+1) scope.names O).lookup x=some c->(X.env.cells.lookup x=some c/\scope.names.lookup x≠some .cell)\/(d.objs.size < c/\scope.names.lookup x=some .cell/\h₁.IsCell c none):=λx c q=>by
  rw[A]at q;cases e:(cellsFrom (d.objs.size+1) scope.names []).lookup x with
  |some M=>rw[e]at q;cases q;exact .inr (L x _ e)
  | none=>
    rw[e]at q;refine .inl ⟨R x c q,λz=>?_⟩;obtain⟨M,f⟩:=eA scope.names (d.objs.size+1) x (mem_of_lookup z);rw[e]at f;cases f
 have l:∀x c,X.env.cells.lookup x=some c->c<d.objs.size:=λx c q=>by
  obtain⟨v,o,ho,hd⟩:=σ.cell x c q;exact rN ho
 have p:=UU (iter:=iter) (elt:=elt) (pos:=pos) (use:=use) (Qf:=Qf) (tk:=a.toks) (h₁:=h₁) S hg hG ht he σ T j (λy π hk=>by
   rw[A];rcases hk with z|z
   ·obtain⟨c,hc⟩:=U y π z;cases e:(cellsFrom (d.objs.size+1) scope.names []).lookup y.1 with
    |some M=>exact⟨M,rfl⟩
    |none=>exact⟨c,hc⟩
   ·obtain⟨c,hc⟩:=eA scope.names (d.objs.size+1) y.1 (by rw[← z];exact π);exact⟨c,by rw[hc];rfl⟩) (λx y c q1 P=>by
   rcases j x c q1 with N|N;rcases j y c P with u|u;exact σ.ok.inj x y c N.1 u.1;exact absurd u.1 (Fj.mpr (AO (l x c N.1)));rcases j y c P with u|u;exact absurd N.1 (Fj.mpr (AO (l y c u.1)));have m1:(cellsFrom (d.objs.size+1) scope.names []).lookup x=some c:=by
    obtain⟨M,f⟩:=eA scope.names (d.objs.size+1) x (mem_of_lookup N.2.1);rw[A,f]at q1;cases q1;exact f
   have m2:(cellsFrom (d.objs.size+1) scope.names []).lookup y=some c:=by
    obtain⟨M,f⟩:=eA scope.names (d.objs.size+1) y (mem_of_lookup u.2.1);rw[A,f]at P;cases P;exact f
   exact name_of_addr ok.apart (mem_of_lookup m1) (mem_of_lookup m2)) f2 (λb hb=>by obtain⟨o,q,_⟩:=T.obj _ _ t b hb;exact rN q)
  (by show a.heap.objs.size<d.objs.size;simp_all) (λb hb=>by
   rcases Az.mp (r.stkSub b hb)with z|z;rw[z];exact r.lt;exact lt_of_not_le λhle=>r.nofs hle z)
  (λb o q=>rN (r.bs b o q).1) (r.stray (hF _) (r.hok.fresh (hF _))) K (T.keep _ _ _ t λb hb o q=>h b o q) i k w0 turn fin
 exact codeAny_compStart_list p (T.self _ 0 _ _ _ (T.keep _ _ _ t λb hb o q=>k b o (h b o q)) p)
def xM 
  (S:Ai X r own) (hi:PI X T iter d) (i:∀u ex s H,PG (Ba X r u ex s H) T g) (j:Gh own g)
  (k:∀u ex s H,Eh (Ba X r u ex s H) a f) (l:∀u ex s H,PE (Ba X r u ex s H) E h)
  (z:∀x,foldedSetIterable iter X.env x=pure x:=by intro _;rfl):PE X (.ListComp E [⟨T,iter,a,0⟩] r pos) (Ii own d g f h):=by
 intro v s Z H Q I n;refine uN (use:=none) S hi i j k l I n z λD C y J w m p G A t q=>?_;refine⟨m,A,λL c=>⟨.ref D,fI J D (.lst y),?_,rfl,q D G⟩⟩;exact p.turned (it:=C) (t':=w.toks) (λb o B e=>(c.2 b B).trans e) t.un t.loc (.inr t.young) t.cell t.pin
def qO 
  (B:X.N.Nodup) (j:X.N[i]?=some x) (A:X.env.scope.names.lookup x=some .local)
  (S:Ai X N own) (hi:PI X Y iter u) (E:∀U ex s H,PG (Ba X N U ex s H) Y g) (F:Gh own g)
  (G:∀U ex s H,Eh (Ba X N U ex s H) f w) (J:∀U ex s H,PE (Ba X N U ex s H) T y)
  (k:swapsWith (.ListComp T [⟨Y,iter,f,0⟩] N pos) (some (.Name x c)) d.line X.env=pure true)
  (hs:∀x,foldedSetIterable iter X.env x=pure x:=by intro _;rfl) :
  PS X (.Assign [.Name x c] (.ListComp T [⟨Y,iter,f,0⟩] N pos) d) (λD Z H=>Ii own u g w y Z H λv K=>D.nx (Z.set i (some v)) K):=by
 intro Q s Z H L I M;rw[exec_Assign_Name_used _ _ _ _ k];refine dV (HS (dV ?_));refine dV (thn (uN (use:=some (assign (.Name x c) X.env)) (Qf:=λ_ s'=>SP X Q L .next s') S hi E F G J I M hs λD C ys H' s' m π hD hm O q=>?_) λ_ s' P=>eH (eH P));refine wpAny_assign_Name (uE (v:=.ref D) π B j (.inl A) (show cJ (.ref D) (Value.ref D)from rfl) (λl n p=>?_) (.inr A));obtain⟨a,h,ha⟩:=p;have r:C≠a:=by
  rcases ha with z|z;rw[z];exact O.loc;exact hR (O.cell x a z)
 refine⟨m,hm.sameBut h r,λh' t=>⟨_,_,?_,q D hD⟩⟩;exact n.turned (it:=C) (t':=l.toks) (λb o hb e=>(t.2 b hb).trans e) O.un O.loc (.inr O.young) O.cell O.pin
noncomputable def Ky(x:Str):It:=⟨λi _=>∃c,x.cps[i]?=some c,λi H v h=>h=H/\∃c,x.cps[i]?=some c/\v=.str ⟨#[c]⟩,λi _=>x.cps[i]?=none⟩
def Nj{K:W.Frag}(x:Str)(t:Tok)(O:Addr)(ty:String)(a:ty="str_ascii_iterator"\/ty="str_iterator"):Cr P w K T (Ky x) [O] O (λi h=>h.IsStrIter O ty x t i) where
 mem:=by simp
 obj:=λi h J b G=>by
  have e:b=O:=by simpa using G
  subst e;obtain⟨o,e,c,d⟩:=J;exact⟨o,e,λv z=>by rw[d]at z;cases z⟩
 keep:=λi h N J k=>by
  obtain⟨o,e,c,d⟩:=J;exact⟨o,k O (by simp) o e,c,d⟩
 item:=by
  intro X q r u hc i M s Z H E I g J y;subst q r u;obtain⟨c,f⟩:=y;obtain⟨j,l,F,m,n,p⟩:=g O (by simp);rcases a with rfl|rfl;refine wpAny_pyNext_ascii_item J f λN L A=>?_;have B:eD X M Z H {s with heap:=N,toks:=s.toks+1}:=I.turned (t':=s.toks+1) (λb o G e=>(A.2 b G).trans e) j l m n p;obtain⟨o,e,C,d⟩:=id L;exact⟨_,rfl,HZ (s:={s with heap:=N,toks:=s.toks+1}) e C d (by decide) ⟨.str ⟨#[c]⟩,H,B,⟨_,rfl⟩,⟨rfl,c,f,rfl⟩,L,λb G=>(g b G).1⟩⟩;refine wpAny_pyNext_wide_item J f λN L A=>?_;have B:eD X M Z H {s with heap:=N,toks:=s.toks+1}:=I.turned (t':=s.toks+1) (λb o G e=>(A.2 b G).trans e) j l m n p;obtain⟨o,e,C,d⟩:=id L;exact⟨_,rfl,HZ (s:={s with heap:=N,toks:=s.toks+1}) e C d (by decide) ⟨.str ⟨#[c]⟩,H,B,⟨_,rfl⟩,⟨rfl,c,f,rfl⟩,L,λb G=>(g b G).1⟩⟩
 done:=by
  intro X q r u hc i M s Z H E I g J y;subst q r u;have f:x.cps[i]?=none:=y;obtain⟨j,l,F,m,n,p⟩:=g O (by simp);rcases a with rfl|rfl;exact wpAny_pyNext_ascii_end (I.ok.hd hc) J f λN D=>⟨rfl,I.turned (t':=s.toks) (λb o G e=>D b o G e) j l m n p⟩;exact wpAny_pyNext_wide_end (I.ok.hd hc) J f λN D=>⟨rfl,I.turned (t':=s.toks) (λb o G e=>D b o G e) j l m n p⟩
 self:=λ_ _ _ _ _ J h=>by
  rcases a with rfl|rfl;exact wpAny_pyIter_striter_ascii J h;exact wpAny_pyIter_striter_wide J h
def UW:V->Option Int->Option Int->Hp->VK->Prop:=λx l h H Q=>∃z,x=.str z/\z.length<=sizeLine/\Q (.str (slice z l h)) H
def UX:Ha X UW:=by
 intro p s Z H x v g m L r y Q I e o w d h;obtain⟨z,rfl,f,q⟩:=h;obtain⟨t,rfl⟩:=e;refine⟨"str",_,F.slot_str_getitem.lookup,typeIs_str _ _ _,?_⟩;have n:∀b k,EP X p Z Q (.str (slice z L r) b) {s with toks:=k}:=λb k=>⟨.str _,H,I.tok k,⟨b,rfl⟩,q⟩;have a:(slice z L r).length<=sizeLine:=gY (Txt.slice_le z L r) f;cases w with
 | none=>
   cases d with
   |none=>exact IS (l:=none) (u:=none) (st:=none) o rfl (post_val_or_str ⟨a,n⟩)
   |int j c=>exact IS (l:=none) (u:=some (j,c)) (st:=none) o rfl (post_val_or_str ⟨a,n⟩)
 | int i T=>
   cases d with
   |none=>exact IS (l:=some (i,T)) (u:=none) (st:=none) o rfl (post_val_or_str ⟨a,n⟩)
   |int j c=>exact IS (l:=some (i,T)) (u:=some (j,c)) (st:=none) o rfl (post_val_or_str ⟨a,n⟩)
def UY{Y:List Str}:∀ {u:List Value},bF (Y.map V.str) u->StrsAre u Y:=by
 induction Y with
 |nil=>intro u r;cases r;exact .nil
 | cons y r a=>
   intro u h;cases h with
   | cons b c=>
     obtain⟨t,rfl⟩:=b;exact .cons y t (a c)
def Jk(K:W.Frag):V->List V->Hp->VK->Prop:=λx v H Q=>∃b a y,x=.str b/\v=[.ref a]/\Bd K H a (y.map V.str)/\(y.map (·.length)).sum+y.length*b.length<=16777216/\Q (.str (Txt.join b y)) H
def UZ:EE X "str.join" (Jk X.K):=by
 intro i s Z H x m v U Q I b c h;obtain⟨d,a,y,rfl,rfl,l,e,q⟩:=h;obtain⟨t,rfl⟩:=b;obtain⟨u,rfl,f⟩:=c.one;cases f;obtain⟨j,r,p,_⟩:=I.list l;exact join_list p.isList (by simpa using UY r) e λg k=>⟨.str _,H,I.tok k,⟨g,rfl⟩,q⟩
def xN:kD X (.builtin "isinstance") (λxs H Q=>∃x c t b,xs=[x,.ty c]/\AR X.K H x t/\W.kitOne X.K t (.type c)=some b/\Q (.bl b) H):=by
 intro p s Z H xs U Q I r h;obtain⟨x,c,t,b,rfl,T,e,q⟩:=h;obtain⟨u,d,rfl,f,a⟩:=Kr r;cases (show d=type c from a);exact TX I f T e λg=>⟨.bl b,H,I.tok g,rfl,q⟩
noncomputable def cY(H:Hp)(p:Addr):Option (Bool×List V):=match H p with
 |some (.lst x)=>some (true,x)
 |some (.tup x)=>some (false,x)
 |some (.frz _ (.lst x))=>some (true,x)
 |_=>none
def Nk(h:H p=some (.lst xs)):cY H p=some (true,xs):=by unfold cY;rw[h]
def bO(h:H p=some (.tup xs)):cY H p=some (false,xs):=by unfold cY;rw[h]
def nH(h:H p=some (.frz o (.lst xs))):cY H p=some (true,xs):=by unfold cY;rw[h]
def aK{P:Prop}{a:Type}{x:a}(h:none=some x):P:=nomatch h
set_option tactic.hygienic true in
def rR(h:cY H p=some (b,xs)):(b=true/\H p=some (.lst xs))\/(b=false/\H p=some (.tup xs))\/(b=true/\∃ o,H p=some (.frz o (.lst xs))):=by
 unfold cY at h;cases e:H p with
 |none=>rw[e]at h;exact aK h
 | some o=>
   rw[e]at h;cases o<;>try exact aK h
   ·cases h;exact .inl ⟨rfl,rfl⟩
   ·cases h;exact .inr (.inl ⟨rfl,rfl⟩)
   ·rename_i o;cases o<;>try exact aK h
    cases h;exact .inr (.inr ⟨rfl,_,rfl⟩)
def gU{K:W.Frag}(h:cY H p=some (true,xs)):Bd K H p xs:=by
 rcases rR h with⟨_,e⟩|⟨z,_⟩|⟨_,o,e⟩;exact .inl (.inl e);cases z;exact .inl (.inr ⟨o,e⟩)
def eO{K:W.Frag}(h:cY H p=some (false,xs)):BV K H p xs:=by
 rcases rR h with⟨z,_⟩|⟨_,e⟩|⟨z,_⟩;cases z;exact .inl (.inl e);cases z
def Jl(H:Hp)(x y:V):Option V:=match x,y with
 |.ref p,.int i=>(cY H p).bind λq=>atI q.2 i
 |.str z,.int i=>if z.length<=sizeLine then(atI z.cps.toList i).map λc=>.str ⟨#[c]⟩else none
 |_,_=>none
def Jm(H:Hp)(x:V):Option Nat:=match x with
 |.ref p=>(cY H p).map (·.2.length)
 |.str z=>if z.length<=sizeLine then some z.length else none
 |_=>none
def Ij:R2:=λx y H Q=>∃v,Jl H x y=some v/\Q v H
set_option tactic.hygienic true in
def Nl:Ie X Ij:=by
 intro a d l s Z H x y v u Q I f g h m;obtain⟨z,e,q⟩:=h;unfold Jl at e;cases x<;>try exact aK e
 ·cases y<;>try exact aK e
  rename_i t i;dsimp only at e;split at e
  ·rename_i k;cases hc:atI t.cps.toList i with
   |none=>simp_all
   | some c=>
     rw[hc]at e;cases e;exact Uy a d l s Z H _ _ v u Q I f g ⟨t,i,c,rfl,rfl,k,hc,q⟩ m
  ·cases e
 ·cases y<;>try exact aK e
  rename_i p i;dsimp only at e;cases j:cY H p with
  |none=>simp_all
  | some w=>
    obtain⟨b,n⟩:=w;rw[j]at e;cases b with
    |true=>exact Uw a d l s Z H _ _ v u Q I f g ⟨p,n,i,z,rfl,rfl,gU j,e,q⟩ m
    |false=>exact Ux a d l s Z H _ _ v u Q I f g ⟨p,n,i,z,rfl,rfl,eO j,e,q⟩ m
def Nm:List V->Hp->VK->Prop:=λa H Q=>∃x n,a=[x]/\Jm H x=some n/\Q (.int n) H
set_option tactic.hygienic true in
def Va:kD X (.builtin "len") Nm:=by
 intro d s Z H f u Q I r h;obtain⟨x,n,rfl,e,q⟩:=h;unfold Jm at e;split at e
 ·rename_i p;cases a:cY H p with
  |none=>simp_all
  | some w=>
    obtain⟨b,f⟩:=w;rw[a]at e;cases e;cases b with
    |true=>exact mO d s Z H _ u Q I r ⟨p,f,rfl,.inl (gU a),q⟩
    |false=>exact mO d s Z H _ u Q I r ⟨p,f,rfl,.inr (eO a),q⟩
 ·rename_i z;split at e;rename_i c;cases e;exact uL d s Z H _ u Q I r ⟨z,rfl,c,q⟩;cases e
 ·cases e
def Nn:V->Option Int->Option Int->Hp->VK->Prop:=λx l h H Q=>match x with
 |.str z=>z.length<=sizeLine/\Q (.str (slice z l h)) H
 | .ref p=>(∃ a,cY H p=some (true,a)/\∀ r,H r=none->Q (.ref r) (fI H r (.lst (xI a l h)))) \/
   ∃a,cY H p=some (false,a)/\¬(PySem.sIx a.length 0 l=0/\PySem.sIx a.length a.length h=a.length)/\∀r,H r=none->Q (.ref r) (fI H r (.tup (xI a l h)))
 |_=>False
set_option tactic.hygienic true in
def Kz:Ha X Nn:=by
 intro f s Z H x v a b l m i Q I c k j d h;unfold Nn at h;split at h;rename_i z;exact UX f s Z H _ v a b l m i Q I c k j d ⟨z,rfl,h.1,h.2⟩;rename_i p;rcases h with⟨g,e,q⟩|⟨g,e,n,q⟩;exact UC f s Z H _ v a b l m i Q I c k j d ⟨p,g,rfl,gU e,q⟩;exact Uq f s Z H _ v a b l m i Q I c k j d ⟨p,g,rfl,eO e,n,q⟩
 simp_all
def Ik(K:W.Frag)(b:TE):TI:=λZ H R=>b Z H λx a=>match x with
 |.str z=>R (Ky z) a
 |.ref p=>(∃c,cY a p=some (true,c)/\R (Kn K p) a)\/∃c,cY a p=some (false,c)/\R (Ko K p) a
 |_=>False
set_option tactic.hygienic true in
def Vc(k:PE X l i):PI X T l (Ik X.K i):=by
 intro w s Z H R I h;refine thn (k w s Z H _ I h) λv r B=>?_;obtain⟨x,f,c,j,d⟩:=B;split at d
 ·rename_i x;obtain⟨t,rfl⟩:=j;cases z:x.cps.all (· < 128)with
  | true=>
    refine wpAny_pyIter_ascii z ?_;refine⟨r.heap.objs.size,[r.heap.objs.size],_,_,f,rfl,c.kept (t':=r.toks) λb o e=>sT _ e,Nj x t _ _ (.inl rfl),⟨_,Ak _ rfl,rfl,rfl⟩,λb u=>?_,d⟩;have e:b=r.heap.objs.size:=by simpa using u
    subst e;exact c.fpOk (hF _) (c.hok.fresh (hF _))
  | false=>
    refine wpAny_pyIter_wide z ?_;refine⟨r.heap.objs.size,[r.heap.objs.size],_,_,f,rfl,c.kept (t':=r.toks) λb o e=>sT _ e,Nj x t _ _ (.inr rfl),⟨_,Ak _ rfl,rfl,rfl⟩,λb u=>?_,d⟩;have e:b=r.heap.objs.size:=by simpa using u
    subst e;exact c.fpOk (hF _) (c.hok.fresh (hF _))
 ·rename_i a;cases j;rcases d with⟨A,g,q⟩ | ⟨A,g,q⟩
  ·obtain⟨y,m,p,n⟩:=c.list (gU g);refine wpAny_pyIter_list p.isList ?_;refine⟨r.heap.objs.size,[r.heap.objs.size],_,_,f,rfl,c.kept (t':=r.toks) λb o e=>sT _ e,SY a _,⟨_,Ak _ rfl,rfl,rfl⟩,λb u=>?_,q⟩;have e:b=r.heap.objs.size:=by simpa using u
   subst e;exact c.fpOk (hF _) (c.hok.fresh (hF _))
  ·obtain⟨y,m,p,n⟩:=c.tuple (eO g);refine IT (show r.heap.IsTuple a y.toArray from p) ?_;refine⟨r.heap.objs.size,[r.heap.objs.size],_,_,f,rfl,c.kept (t':=r.toks) λb o e=>sT _ e,Ta a _,⟨_,Ak _ rfl,rfl,rfl⟩,λb u=>?_,q⟩;have e:b=r.heap.objs.size:=by simpa using u
   subst e;exact c.fpOk (hF _) (c.hok.fresh (hF _))
 ·exact d.elim
noncomputable def Np(N:List Str)(a s:Scope)(own:List Nat):Bool:=
 (match s.kind with|.function=>true|_=>false) &&
 s.names.all (λy=>match y.2 with
  |.cell=>(match s.names.lookup y.1 with|some .cell=>true|_=>false)
  |.local=>(match s.names.lookup y.1 with|some .local=>true|_=>false)
  |.free=>(match a.names.lookup y.1 with|some .cell=>true|some .free=>true|_=>false)
  |_=>true) &&
 (range N.length).all λi=>match N[i]? with
  |some x=>(match s.names.lookup x with|some .local=>own.contains i|some .cell=>own.contains i|_=>true)
  |none=>true
def Il(own:List Nat)(h:Np X.N X.env.scope s own=true)(hc:X.calm=true:=by rfl):Ai X s own:=by
 unfold Np at h;rw[BZ,BZ]at h;obtain⟨⟨g,b⟩,d⟩:=h;rw[HX]at b d;refine⟨?_,λy a e=>?_,λy a e=>?_,λy a e=>?_,λi x f c=>?_,hc⟩;revert g;cases s.kind<;>simp;have:=b y a;rw[e]at this;dsimp only at this;split at this;assumption;cases this;have:=b y a;rw[e]at this;dsimp only at this;split at this;assumption;cases this;have:=b y a;rw[e]at this;dsimp only at this;split at this;rename_i q;exact .inl q;rename_i q;exact .inr q;cases this;have H:i<X.N.length:=(sL.mp f).1;have:=d i (Cq.mpr H);rw[f]at this;dsimp only at this;rcases c with c|c<;>rw[c]at this<;>simpa using this
structure DQ(J:It)(xs:List V)(P:Hp->Prop):Prop where
 go:∀H i x,P H->xs[i]?=some x->J.go i H
 yld:∀H i x y H',P H->xs[i]?=some x->J.yld i H y H'->H'=H/\y=x
 stop:∀H i,P H->xs[i]?=none->J.stop i H
def Vd{K:W.Frag}:DQ (Kn K a) xs (λH=>Bd K H a xs) where
 go:=λH i x h e=>⟨xs,x,h,e⟩
 yld:=λH i x y d h e ⟨b,c⟩=>⟨b,by simp_all⟩
 stop:=λH i h e=>⟨xs,h,Eb.mp e⟩
def Ve{K:W.Frag}:DQ (Ko K a) xs (λH=>BV K H a xs) where
 go:=λH i x h e=>⟨xs,x,h,e⟩
 yld:=λH i x y d h e ⟨b,c⟩=>⟨b,by simp_all⟩
 stop:=λH i h e=>⟨xs,h,Eb.mp e⟩
noncomputable def Gi(l:Int)(n:Nat):List V:=(range n).map λ(i:Nat)=>V.int (l+(i:Int))
def Nq{l:Int}(h:(Gi l n)[i]?=some x):i<n/\x=.int (l+i):=by
 unfold Gi at h;rw[Ab]at h;cases e:(range n)[i]? with
 |none=>simp_all
 | some k=>
   obtain⟨H,a⟩:=sL.mp e;rw[Ey]at H
   simp_all
def xO(l:Int)(n:Nat):(Gi l n).length=n:=by simp[Gi]
def Nr{l:Int}:DQ (Ia l n) (Gi l n) P where
 go:=λH i x _ e=>(Nq e).1
 yld:=λH i x y h _ e ⟨a,b⟩=>⟨a,by rw[(Nq e).2];exact b⟩
 stop:=λH i _ e=>by
  have:=Eb.mp e;rw[xO]at this;exact this
noncomputable def fA(x:Str):List V:=x.cps.toList.map λc=>.str ⟨#[c]⟩
def fS(x:Str):(fA x).length=x.length:=by simp[fA,Str.length]
def Vf:DQ (Ky x) (fA x) P where
 go:=λH i v _ e=>by
  unfold fA at e;rw[Ab]at e;cases q:x.cps.toList[i]? with
  |none=>simp_all
  |some c=>exact⟨c,by simp_all⟩
 yld:=λH i v y h _ e ⟨b,c,d,f⟩=>⟨b,by
  unfold fA at e
  simp_all⟩
 stop:=λH i _ e=>by
  have a:=Eb.mp e;rw[fS]at a;show x.cps[i]?=none;rw[Array.getElem?_eq_none_iff];exact a
def Vg(h:z.length<=sizeLine):Jm H (.str z)=some z.length:=by show(if z.length<=sizeLine then some z.length else none)=_;rw[gV h]
def Nt(h:cY H p=some (b,xs)):Jm H (.ref p)=some xs.length:=by show(cY H p).map (·.2.length)=_;simp_all
def Nu(h:cY H p=some (b,xs))(e:atI xs i=some v):Jl H (.ref p) (.int i)=some v:=by show(cY H p).bind (λq=>atI q.2 i)=_;simp_all
def Vh(h:z.length<=sizeLine)(e:atI z.cps.toList i=some c):Jl H (.str z) (.int i)=some (.str ⟨#[c]⟩):=by
 show(if z.length<=sizeLine then(atI z.cps.toList i).map λc=>V.str ⟨#[c]⟩else none)=_;simp_all
def Jn{ys:List a}{i:Int}(H:0<=i)(b:i<ys.length):∃c,atI ys i=some c:=by
 obtain⟨n,rfl⟩:=Int.eq_ofNat_of_zero_le H;have h:n<ys.length:=by simp_all
 exact⟨ys[n],lW (oI h)⟩
end
def xP{f:a->b}:atI (ys.map f) i=(atI ys i).map f:=by
 unfold atI;rw[eI];cases AM ys.length i with
 |none=>rfl
 |some j=>simp
def aP(h:H p=none):lX H (fI H p o):=λb u e=>by rw[aG (bP e h)];exact e
def Vi(sep:Str)(y:List Str):(Txt.join sep y).length<=(y.map (·.length)).sum+y.length*sep.length:=by
 show(glued sep y).length<=_;rw[StrLaws.glued_eq_join];exact StrLaws.join_length_le sep y
def Vj:PySem.W.kitOne K (.type t) (.type t)=some true:=by
 unfold PySem.W.kitOne;simp
section
open PyProof.Rows Spec
theorem oK(e:ty="str_ascii_iterator"\/ty="str_iterator"):∀ (n i:Nat) (s:Shared) (Q:List Value->Shared->Prop),s.heap.IsStrIter it ty x t i->i+n<=x.length ->
  (∀h' T u,h'.IsStrIter it ty x t (i+n)->SameBut it s.heap h'->bF (((fA x).drop i).take n) u->Q u {s with heap:=h',toks:=T})->wpAny (model prog w) A (draw (.ref it) n) Q E s
 | 0,i,s,Q,H,_,h=>by
   exact eH (by simpa using h s.heap s.toks [] H (Heap.SameBut.refl ..) (by simpa using(.nil:bF [] [])))
 | n+1,i,s,Q,H,m,h=>by
   have j:i<x.cps.size:=by have:x.length=x.cps.size:=rfl;lia
   have k:x.cps[i]?=some x.cps[i]:=by simp
   have o:(fA x).drop i=V.str ⟨#[x.cps[i]]⟩::(fA x).drop (i+1):=by
    rw[drop_eq_getElem_cons (by rw[fS];exact j)];simp[fA]
   have G:∀ b,b.IsStrIter it ty x t (i+1)->SameBut it s.heap b ->
     wpAny (model prog w) A (match (some (Value.str ⟨#[x.cps[i]]⟩ s.toks))with|none=>pure []|some v=>do return v::(← holding [v] (draw (.ref it) n))) Q E {s with heap:=b,toks:=s.toks+1}:=λb a c=>by
    refine dV (Ax (oK e n (i+1) _ _ a (by simp_all +arith) λf T u g d l=>eH ?_));refine h f T _ (by lia) (c.trans d) ?_;rw[o,List.take_succ_cons];exact .cons ⟨_,rfl⟩ l
   rcases e with rfl|rfl;exact dV (wpAny_pyNext_ascii_item H k λb a c=>G b a c);exact dV (wpAny_pyNext_wide_item H k λb a c=>G b a c)
def rS(r:A.handled=none)
  (z:T.length=x.length) (g:T.findIdx? (·.1)=none)
  (h:∀h' n u,ExtBut s.heap.objs.size s.heap h'->bF (fA x) u->wpAny (model prog w) A (assignInOrder (T.map (·.2)) u) Q E {s with heap:=h',toks:=n}) :
  wpAny (model prog w) A (unpack (.str x t) T) Q E s:=by
 unfold unpack;rw[z,g];refine dV (Ax ?_);unfold unpackItems;refine dV ?_;unfold notIterableAtAll;refine dV (Er (typeIs_str _ _ _) F.slot_str_iter.lookup ?_);refine eH ?_;have G:∀ m,(m="str_ascii_iterator"\/m="str_iterator")->wpAny (model prog w) A (do
   let items ← holding [Value.ref s.heap.objs.size] (draw (.ref s.heap.objs.size) x.length)
   if items.length<x.length then
    rule "unpack.too-few";raiseError "ValueError" s!"not enough values to unpack (expected {x.length}, got {items.length})"
   if(← holding items (pyNext (.ref s.heap.objs.size))).isSome then
    rule "unpack.too-many";raiseError "ValueError" s!"too many values to unpack (expected {x.length})"
   return items:Sem (List Value)) (λu p=>wpAny (model prog w) A (assignInOrder (T.map (·.2)) u) Q E p) E {s with heap:=s.heap.push {cls:=.type m,data:=.fields #[.str x t,.int 0 0]}}:=by
  intro m k;refine dV (Ax (oK (it:=s.heap.objs.size) (x:=x) (t:=t) k x.length 0 _ _ ⟨_,Ak _ rfl,rfl,rfl⟩ (by simp) λi n u c f q=>?_));have j:bF (fA x) u:=by
   have e:((fA x).drop 0).take x.length=fA x:=by
    rw[drop_zero];exact Co (by rw[fS];exact hF _)
   rw[e]at q;exact q
  have B:u.length=x.length:=by rw[← j.length,fS]
  rw[a0m (by simp[*])];have d:x.cps[x.length]?=none:=by simp[Str.length]
  rw[BL]at c;have l:∀ H,ExtBut s.heap.objs.size i H->wpAny (model prog w) A (do
    if(none:Option Value).isSome then
     rule "unpack.too-many";raiseError "ValueError" s!"too many values to unpack (expected {x.length})"
    return u:Sem (List Value)) (λu p=>wpAny (model prog w) A (assignInOrder (T.map (·.2)) u) Q E p) E {s with heap:=H,toks:=n}:=by
   intro H a;exact eH (h H n u (λb o v e=>a b o v (f.extBut b o v (sT _ e))) j)
  rcases k with rfl|rfl;exact dV (Ax (wpAny_pyNext_ascii_end r c d λH a=>l H a));exact dV (Ax (wpAny_pyNext_wide_end r c d λH a=>l H a))
 cases y:x.cps.all (· < 128)with
 |true=>exact dV (Ax (wpAny_pyIter_ascii y (G _ (.inl rfl))))
 |false=>exact dV (Ax (wpAny_pyIter_wide y (G _ (.inr rfl))))
def oM(K:W.Frag)(n:Nat)(t:Fm):TG:=λv Z H Q=>match v with
 |.str z=>z.length=n/\t (fA z) Z H Q
 |.ref a=>∃x,cY H a=some (false,x)/\x.length=n/\t x Z H Q
 |_=>False
set_option tactic.hygienic true in
def Vk(hc:X.calm=true)(h:GU X E t)
  (m:(assignEach E X.env).length=n:=by rfl) (d:(assignEach E X.env).findIdx? (·.1)=none:=by rfl):PG X (.Tuple E k pos) (oM X.K n t):=by
 intro p s Z H v u Q I r c;unfold oM at c;split at c;obtain⟨f,c⟩:=c;obtain⟨T,rfl⟩:=r;refine dV (HS (rS (I.ok.hd hc) (m.trans f.symm) d λq T U g i=>?_));have j:eD X p Z H {s with heap:=q,toks:=T}:=I.kept λb o e=>g b o (AF (rN e)) e;exact h p _ Z H _ _ Q j i c;rename_i a;obtain⟨x,l,f,c⟩:=c;exact SV (k:=k) (pos:=pos) hc h m d p s Z H _ u Q I r ⟨a,x,rfl,eO l,f,c⟩
 simp_all
def Nv:List V->Hp->VK->Prop:=λx H Q=>∃p b y,x=[.ref p]/\cY H p=some (b,y)/\∀l,H l=none->Q (.ref l) (fI H l (.lst y))
def Vl:kD X (.type "list") Nv:=by
 intro c s Z H x u Q I r h;obtain⟨p,b,y,rfl,a,q⟩:=h;cases b with
 |true=>exact mP c s Z H _ u Q I r ⟨p,y,rfl,.inl (gU a),q⟩
 |false=>exact mP c s Z H _ u Q I r ⟨p,y,rfl,.inr (eO a),q⟩
def Nw:List V->Hp->VK->Prop:=λx H Q=>∃p b y,x=[.ref p]/\cY H p=some (b,y)/\if b=true then ∀l,H l=none->Q (.ref l) (fI H l (.tup y))else Q (.ref p) H
def Vm:kD X (.type "tuple") Nw:=by
 intro c s Z H x u Q I r h;obtain⟨p,b,y,rfl,a,q⟩:=h;cases b with
 |true=>exact kU c s Z H _ u Q I r ⟨p,y,rfl,.inl ⟨gU a,by simpa using q⟩⟩
 |false=>exact kU c s Z H _ u Q I r ⟨p,y,rfl,.inr ⟨eO a,by simp_all⟩⟩
def KA:R2:=λx y H Q=>match x,y with
 |.int i,.int j=>Ic i j/\Q (.int (i*j)) H
 |.str z,.int i=>z.length<=1000/\0<=i/\i<=1000/\∀y:Str,y.length<=z.length*i.toNat->y=Txt.mul z i->Q (.str y) H
 |_,_=>False
def Vn(z:Str)(i:Int)(h:0<=i):(Txt.mul z i).length<=z.length*i.toNat:=by
 unfold Txt.mul;by_cases b:i<1;rw[gV b];exact Ad _;rw[a0m b];by_cases c:(i==1||z.length==0)=true
 ·rw[gV c]
  lia
 ·rw[a0m c];have a:∀ (k:Nat) (A:Array Nat),((replicate k z.cps).foldl (· ++ ·) A).size=A.size+k*z.cps.size:=by
   intro k
   induction k with
   |zero=>simp
   | succ k d=>
     grind
  show((replicate i.toNat z.cps).foldl (· ++ ·) #[]).size<=_;rw[a];show 0+_<=_;rw[BL,Fg];exact hF _
set_option tactic.hygienic true in
def Vo:Ar X (binaryOp .Mult) KA:=by
 intro p s Z H x y v u Q I a b h;unfold KA at h;cases x<;>(try exact h.elim)<;>cases y<;>try exact h.elim
 ·exact To p s Z H _ _ v u Q I a b ⟨_,_,rfl,rfl,h.1,h.2⟩
 ·rename_i z i;obtain⟨d,e,g,q⟩:=h;obtain⟨t,rfl⟩:=a;obtain⟨c,rfl⟩:=b;have f:z.length*i.toNat<=1000*1000:=mul_le_mul d (by simp[*]);refine SB.mul ⟨?_,λm l=>?_,λm l=>?_⟩ λc k=>⟨.str _,H,I.tok k,⟨c,rfl⟩,q _ (Vn z i e) rfl⟩
  ·lia
  ·have j:(1000:Int)<=(2 ^ 63-1) / i:=by
    rw[Int.le_ediv_iff_mul_le (by grind)];lia
   lia
  ·exact FX (by rw[DK];lia)
end
def Nx(H:0<=j)(h:j<=x.length):(slice x none (some j)).cps.toList=x.cps.toList.take j.toNat:=by
 have e:=PySem.StrLaws.sliceText_to (x:=x) (j:=j) ⟨H,by simpa[Str.length]using h⟩;have a:slice x none (some j)=_:=e
 simp_all
def qQ(H:0<=i)(h:i<=x.length):(slice x (some i) none).cps.toList=x.cps.toList.drop i.toNat:=by
 have a:i<=x.cps.toList.length:=by simpa[Str.length]using h
 have e:=PySem.StrLaws.sliceText_from (x:=x) (i:=i) ⟨H,a⟩;have b:slice x (some i) none=_:=e;rw[b];exact Co (by grind)
def iN(x:Str):x.length=x.cps.toList.length:=rfl
section
open PyProof.Rows Spec
noncomputable instance:DecidableEq d:=λ_ _=>Classical.propDecidable _
def Vp{k:List Value}(g:IsTup s.heap t ([]:List Value).toArray)(hb:IsTup s.heap b k.toArray)
  (p:Q (.ref b) s):wpAny (model prog w) A (binaryOp .Add (.ref t) (.ref b)) Q E s:=by
 obtain⟨⟨C,h,l,m⟩,e,hc,n,o⟩:=id g;obtain⟨⟨f,c,j,i⟩,a,d,N,H⟩:=id hb;subst hc o d H;exact concat_meets ⟨_,e,rfl⟩ ⟨_,a,rfl⟩ noFill_tuple_add seq_tuple_add F.slot_tuple_add F.entry_tuple_add (F.args_tuple_add_2 _ _)
   (tuple_addW0 t b ([]:List Value).toArray k.toArray n N h c m i (by simp)) ⟨e,a,p⟩
def KC:R2:=λx y H Q=>match x,y with
 |.int i,.int j=>Q (.int (i+j)) H
 |.str a,.str b=>a.length+b.length<=sizeLine/\Q (.str (a++b)) H
 | .ref p,.ref q=>(∃ c Y,H p=some (.lst c)/\H q=some (.lst Y)/\c.length+Y.length<=sizeLine/\∀ r,H r=none->Q (.ref r) (fI H r (.lst (c++Y)))) \/
   ∃c Y,cY H p=some (false,c)/\cY H q=some (false,Y)/\c.length+Y.length<=sizeLine/\(c=[]->Q (.ref q) H)/\(c≠[]->Y=[]->Q (.ref p) H)/\(c≠[]->Y≠[]->∀r,H r=none->Q (.ref r) (fI H r (.tup (c++Y))))
 |_,_=>False
set_option tactic.hygienic true in
def Vq:Ar X (binaryOp .Add) KC:=by
 intro t s Z H x y v u Q I a b h;unfold KC at h;cases x<;>(try exact h.elim)<;>cases y<;>try exact h.elim
 ·exact Tj t s Z H _ _ v u Q I a b ⟨_,_,rfl,rfl,h⟩
 ·exact TN t s Z H _ _ v u Q I a b ⟨_,_,rfl,rfl,h.1,h.2⟩
 ·rename_i p q;rcases h with⟨w,Y,d,f,g,q⟩|⟨w,Y,d,f,g,j,k,l⟩;exact UL t s Z H _ _ v u Q I a b ⟨_,_,w,Y,rfl,rfl,d,f,g,q⟩;by_cases c:w=[];cases a;cases b;obtain⟨z,m,n,_⟩:=I.tuple (eO d);obtain⟨i,r,o,_⟩:=I.tuple (eO f);have e:z=[]:=m.nil_iff.mpr c;subst e;exact Vp n o ⟨.ref q,H,I,rfl,j c⟩;exact Us t s Z H _ _ v u Q I a b ⟨p,q,w,Y,rfl,rfl,eO d,eO f,c,g,k c,l c⟩
def Ny:V->List V->Hp->VK->Prop:=λx v H Q=>∃(l:Addr) (a:List Str) (z:Str),x=.ref l/\v=[.str z]/\H l=some (.lst (a.map V.str))/\z∈a/\∀j,a[j]?=some z->Q .non (fI H l (.lst ((a.eraseIdx j).map V.str)))
theorem rT:∀ {d:List Str} {U:List Value},bF (d.map V.str) U->∀ u∈U,∃ z t,u=.str z t
 |[],_,.nil=>λu a=>nomatch a
 | z::r,_,.cons b c=>λu a=>by
   rcases Az.mp a with e|e;obtain⟨t,q⟩:=b;exact⟨z,t,e.trans q⟩;exact rT c u e
noncomputable def Jo(z:Str):Value->Bool
 |.str y _=>y==z
 |_=>false
theorem uO{a b:Type}(f:a->b):∀(l:List a) (i:Nat),(l.map f).eraseIdx i=(l.eraseIdx i).map f
 |[],i|x::r,0=>by simp
 |x::r,i+1=>by simp[uO f r i]
def Vr:Gg X "list.remove" Ny:=by
 intro O s Z H x Y v us Q I A B h;obtain⟨l,M,z,rfl,rfl,k,C,q⟩:=h;cases A;obtain⟨u,rfl,D⟩:=B.one;obtain⟨t,rfl⟩:=D;obtain⟨E,N,n,r,K,e⟩:=I.lstM k;have b:M.idxOf z<M.length:=List.idxOf_lt_length_of_mem C;have o:N.length=M.length:=by simp_all
 have c:∀(i:Nat) (U:i<N.toArray.size) (d:i<M.length),Jo z N.toArray[i]=(M[i]==z):=λi U d=>by
  obtain⟨w,L,f⟩:=r.get (i:=i) (x:=V.str M[i]) (by simp);obtain⟨g,rfl⟩:=f;have:N.toArray[i]=Value.str M[i] g:=by simp_all
  rw[this];rfl
 refine Et F.slot_list_remove ⟨_,e,rfl⟩ F.entry_list_remove (F.args_list_remove_2 _ _)
  (MeetsSeq.list_remove l N.toArray n (.str z t) (Jo z) (λy G=>?_) (M.idxOf z) (by grind) ?_ (λm T a=>?_) (by simp_all)) ⟨e,?_⟩
 ·obtain⟨J,g,rfl⟩:=rT r y (by simpa using G);exact eqGives_str J z g t
 ·rw[c _ _ b];simp
 ·have j:m<M.length:=CT a b;rw[c m T j];have:=List.not_of_lt_findIdx (p:=(· == z)) (xs:=M) (i:=m) a;exact this
 ·refine⟨.non,_,I.lset (its':=N.eraseIdx (M.idxOf z)) k e ?_ ?_ ?_,rfl,q (M.idxOf z) ?_⟩;simp;have:=r.eraseIdx (M.idxOf z);rwa[uO]at this
  ·have:=oF M (M.idxOf z)
   grind
  simp_all
def Vs(b:s.heap.get? a=some o)(h:Q (some o) s):wpAny (model prog w) A (loadIfAlive a) Q E s:=λc p _=>by
 unfold loadIfAlive
 simp_all
def rV(h:Heap)(z a t T:Addr)(b:Bool):Prop:=h.get? z=some {cls:=.type "zip",dict:=none,data:=.fields #[rawInt T,.bool b,.bool false,.ref a,.ref t],slots:=#[]}
def rV.heap{z a t T:Addr}(H:rV h z a t T b):h.get? z=some {cls:=.type "zip",dict:=none,data:=.fields #[rawInt T,.bool b,.bool false,.ref a,.ref t],slots:=#[]}:=H
def kY{z e t T:Addr}(H:rV s.heap z e t T b)(f:s.heap.get? T=some o)
  (h:∀h',rV h' z e t T true->SameBut z s.heap h'->Q false {s with heap:=h'}):wpAny (model prog w) A (ownedTupleIsFree (.ref z)) Q E s:=by
 refine dV (Bf H.heap rfl (x:=rawInt T) rfl ?_);refine dV (Vs (a:=(T:Int).toNat) (by exact f) ?_);refine dV (Bf H.heap rfl (x:=.bool b) rfl ?_);cases b with
 | true=>
   exact eH (h s.heap H (Heap.SameBut.refl _ _))
 | false=>
   refine dV (wpAny_setField_rec H.heap (by simp) λh' c d=>?_);exact eH (h h' c d)
def Vt{z N TO M L Y O T:Addr}{Q:Value->Shared->Prop}(D:ZipApart z N TO M L Y O)
  (hz:rV s.heap z N TO T u) (hT:s.heap.get? T=some o) (m:IsPair s.heap N (.ref M) (.ref L))
  (h1:s.heap.IsListIter M Y k) (B:s.heap.IsListIter L O l) (n:s.heap.IsList Y xs) (p:s.heap.IsList O ys) (C:xs[k]?=some x) (F:ys[l]?=some y)
  (G:∀h',rV h' z N TO T true->h'.IsListIter M Y (k+1)->h'.IsListIter L O (l+1)->IsPair h' s.heap.objs.size x y->h'.objs.size=s.heap.objs.size+1 ->
   (∀c o,c≠z->c≠M->c≠L->s.heap.get? c=some o->h'.get? c=some o)->Q (.ref s.heap.objs.size) {s with heap:=h'}) :
  wpAny (model prog w) A (Builtin.«zip.__next__» ⟨[.ref z],[]⟩) (λfin s'=>∃v,fin=.done (.ret v)/\Q v s') E s:=by
 (show wpAny _ _ (field (.ref z) 2 >>= _) _ _ _;refine dV (Bf hz.heap rfl (x:=.bool false) rfl ?_))
 (refine dV (Bf hz.heap rfl (x:=.ref N) rfl ?_))
 refine dV (Cj m rfl ?_)
 (refine dV (kY hz hT λq g a=>?_))
 rw[a0m (by decide)]
 try (refine dV (eH ?_))
 refine dV ?_;refine dV (dV (Ax ?_))
 (show wpAny _ _ (nextOf (.ref M) >>= _) _ _ _;refine dV (wpAny_nextOf_list_item (h1.extBut a.extBut D.i1z) (n.extBut a.extBut D.l1z) C λr h b=>eH (eH ?_)))
 refine dV (dV (Ax ?_))
 (show wpAny _ _ (nextOf (.ref L) >>= _) _ _ _;refine dV (wpAny_nextOf_list_item ((B.extBut a.extBut D.i2z).extBut b.extBut D.i12.symm) ((p.extBut a.extBut D.l2z).extBut b.extBut D.l2i1) F λd i f=>eH (eH (eH ?_))))
 refine dV (wpAny_newTuple (hsz:=by show 2<=sizeLine;decide) ?_);have hsz:d.objs.size=s.heap.objs.size:=by rw[f.1,b.1,a.1]
 have j:rV d z N TO T true:=f.extBut _ _ D.i2z.symm (b.extBut _ _ D.i1z.symm g);have U:∀c o,d.get? c=some o->(d.push {cls:=.type "tuple",data:=.seq #[x,y]}).get? c=some o:=λc o e=>sT _ e;refine eH ⟨_,rfl,?_⟩;show Q (.ref d.objs.size) _;have t:IsPair (d.push {cls:=.type "tuple",data:=.seq #[x,y]}) d.objs.size x y:=Ak _ rfl;rw[hsz]at t ⊢;exact G _ (U _ _ j) ((h.extBut f.extBut D.i12).at λo e=>U _ o e) (i.at λo e=>U _ o e) t (by rw[Ez,hsz]) λc o H I J e=>U c o (f.extBut _ _ J (b.extBut _ _ I (a.extBut _ _ H e)))
def Vu{z M TO L J O N T:Addr}(u:A.handled=none)(D:ZipApart z M TO L J O N)
  (U:rV s.heap z M TO T F) (hT:s.heap.get? T=some o) (k:IsPair s.heap M (.ref L) (.ref J))
  (h1:s.heap.IsListIter L O i) (G:s.heap.IsListIter J N j) (g:s.heap.IsList O xs) (l:s.heap.IsList N Y) (v:xs[i]?=none\/Y[j]?=none)
  (y:∀h' e,(∀c o,c≠z->c≠L->c≠J->s.heap.get? c=some o->h'.get? c=some o)->(∃o,h'.get? e=some o/\o.cls=.type "StopIteration")->E (.ref e) {s with heap:=h'}) :
  wpAny (model prog w) A (Builtin.«zip.__next__» ⟨[.ref z],[]⟩) Q E s:=by
 (show wpAny _ _ (field (.ref z) 2 >>= _) _ _ _;refine dV (Bf U.heap rfl (x:=.bool false) rfl ?_))
 (refine dV (Bf U.heap rfl (x:=.ref M) rfl ?_))
 refine dV (Cj k rfl ?_)
 (refine dV (kY U hT λB m a=>?_))
 refine dV ?_;refine dV (dV (Ax ?_));cases C:xs[i]? with
 | none=>
   refine dV (wpAny_nextOf_list_end u (h1.extBut a.extBut D.i1z) (g.extBut a.extBut D.l1z) C λd e b n=>y d e (λc o p r _ q=>b _ _ r (a.extBut _ _ p q)) n)
 | some x=>
   have H:Y[j]?=none:=by lia
   refine dV (wpAny_nextOf_list_item (h1.extBut a.extBut D.i1z) (g.extBut a.extBut D.l1z) C λd t b=>eH (eH ?_));refine dV (dV (Ax ?_));refine dV (wpAny_nextOf_list_end u ((G.extBut a.extBut D.i2z).extBut b.extBut D.i12.symm) ((l.extBut a.extBut D.l2z).extBut b.extBut D.l2i1) H λh e f n=>?_);exact y h e (λc o p r I q=>f _ _ I (b.extBut _ _ r (a.extBut _ _ p q))) n
def Vv{z t p m I n L T:Addr}(D:ZipApart z t p m I n L)
  (H:rV s.heap z t p T h) (q:s.heap.get? T=some o) (e:IsPair s.heap t (.ref m) (.ref I))
  (r:s.heap.IsListIter m n b) (i:s.heap.IsListIter I L d) (f:s.heap.IsList n xs) (g:s.heap.IsList L Y) (j:xs[b]?=some x) (k:Y[d]?=some y)
  (l:∀h',rV h' z t p T true->h'.IsListIter m n (b+1)->h'.IsListIter I L (d+1)->IsPair h' s.heap.objs.size x y->h'.objs.size=s.heap.objs.size+1 ->
   (∀c o,c≠z->c≠m->c≠I->s.heap.get? c=some o->h'.get? c=some o)->Q (some (.ref s.heap.objs.size)) {s with heap:=h'}) :
  wpAny (model prog w) A (pyNext (.ref z)) Q E s:=by
 have a:s.TypeIs (.ref z) "zip":=⟨_,H,rfl⟩
 (refine dV (Es (wpAny_callSpecial?_slot (name:=ofString "__next__") a F.slot_zip_next ?_)))
 exact BX F.slot_zip_next a F.entry_zip_next (Vt D H q e r i f g j k λh' J G C B v u=>eH (l h' J G C B v u)) (F.args_zip_next_1 _)
def Vx{z v x t I u L T:Addr}(l:A.handled=none)(D:ZipApart z v x t I u L)
  (H:rV s.heap z v x T k) (B:s.heap.get? T=some o) (f:IsPair s.heap v (.ref t) (.ref I))
  (C:s.heap.IsListIter t u i) (m:s.heap.IsListIter I L j) (g:s.heap.IsList u xs) (h:s.heap.IsList L y) (a:xs[i]?=none\/y[j]?=none)
  (n:∀h',(∀c o,c≠z->c≠t->c≠I->s.heap.get? c=some o->h'.get? c=some o)->Q none {s with heap:=h'}):wpAny (model prog w) A (pyNext (.ref z)) Q E s:=by
 have d:s.TypeIs (.ref z) "zip":=⟨_,H,rfl⟩
 (refine dV (Es (wpAny_callSpecial?_slot (name:=ofString "__next__") d F.slot_zip_next ?_)))
 refine BX F.slot_zip_next d F.entry_zip_next (Vu l D H B f C m g h a λh' e p q=>?_) (F.args_zip_next_1 _);obtain⟨o,r,hc⟩:=q;exact dV (wpAny_isInstance (T:="StopIteration") (b:=true) ⟨o,r,hc⟩ isSubtype_stop (eH (n _ p)))
noncomputable abbrev jN(a:Array Value)(c:Nat):Obj:={cls:=.type "list",dict:=none,data:=.seq a c,slots:=#[]}
structure BD(prog:Program)(w:World)(A:Around)(I S:Addr)(n:Nat)(J:Nat->Array Value->Heap->Prop)(K:Array Value->Heap->Prop):Prop where
 item:∀i acc (s:Shared) (c:Nat) (Q:Option Value->Shared->Prop) (E:Value->Shared->Prop),i<n->J i acc s.heap->s.heap.get? S=some (jN acc c) ->
  (∀v h' tk,J (i+1) (acc.push v) h'->h'.get? S=some (jN acc c)->Q (some v) {s with heap:=h',toks:=tk})->wpAny (model prog w) A (pyNext (.ref I)) Q E s
 done:∀acc (s:Shared) (c:Nat) (Q:Option Value->Shared->Prop) (E:Value->Shared->Prop),J n acc s.heap->s.heap.get? S=some (jN acc c) ->
  (∀h' tk,K acc h'->h'.get? S=some (jN acc c)->Q none {s with heap:=h',toks:=tk})->wpAny (model prog w) A (pyNext (.ref I)) Q E s
 frame:∀i acc h h',J i acc h->h'.objs.size=h.objs.size->(∀b o,b≠S->h.get? b=some o->h'.get? b=some o)->J i acc h'
def Nz{K:Array Value->Heap->Prop}(L:BD prog w A.in1 I S n J K)(E:n<=sizeLine)(res:Value):∀ (k i:Nat) (s:Shared) (y:Array Value) (c:Nat),n-i=k->i<=n->J i y s.heap->y.size=i->s.heap.get? S=some (jN y c) ->
  (∀h' T a j,K a h'->a.size=n->h'.get? S=some (jN a j)->R (.ok (.ret res)) {s with heap:=h',toks:=T})->codeAny (model prog w) A (.builtin "list.extend.loop" ⟨[.ref S,.ref I,res],[]⟩) R s:=by
 intro k
 induction k with
 | zero=>
   intro i s y c u B l H z m;obtain rfl:i=n:=by grind
   (refine DW F.entry_extend_loop ?_;rw[EZ HV _])
   (refine dV (L.done y s c _ _ l z λh' T p d=>?_))
   exact eH (m h' T y c p H d)
 | succ k x=>
   intro i s y c u B l H z m;have f:i<n:=by lia
   (refine DW F.entry_extend_loop ?_;rw[EZ HV _])
   (refine dV (L.item i y s c _ _ f l z λv h' T q d=>?_))
   (show wpAny _ A.in1 (updateSeq S (·.push v) >>= _) _ _ _;refine dV ?_)
   refine IV d rfl (eH ⟨EV HV _,x (i+1) _ (y.push v) (c+1) (by grind) f ?_ (by rw[size_push,H]) ?_ ?_⟩) (by rw[H];lia) (by grind);exact L.frame _ _ _ _ q (Heap.size_update ..) λb o C e=>(Dk _ _ (hR C)).trans e;rw[Dl _ d rfl];simp[mapSeq];intro r g a j p t h;exact m r g a j p t h
def NA{K:Array Value->Heap->Prop}(L:BD prog w A.in1 I S n J K)(u:n<=sizeLine)(res:Value)(y:s.TypeIs (.ref r) T)(i:S≠r)(l:(type T==type "list")=false)(m:(type T==type "tuple")=false)
  (self:∀Q:Value->Shared->Prop,Q (.ref I) {s with heap:=h1}->wpAny (model prog w) A.in1 (pyIter (.ref r)) Q (λe q=>R (.error e) q) s)
  (H:∀Q:Bool->Shared->Prop,(∀b,Q b {s with heap:=h1})->wpAny (model prog w) A.in1 (listLengthHint (.ref r)) Q (λe q=>R (.error e) q) {s with heap:=h1})
  (j:J 0 #[] h1) (t:h1.get? S=some (jN #[] c)) (k:∀h' x a h,K a h'->a.size=n->h'.get? S=some (jN a h)->R (.ok (.ret res)) {s with heap:=h',toks:=x}) :
  wpAny (model prog w) A.in1 (listExtendWith (.ref S) (.ref r) res) (λfin q=>match fin with|.done f=>R (.ok f) q | .again h=>h.quiet=true/\codeAny (model prog w) A h R q) (λe q=>R (.error e) q) s:=by
 refine dV (EW y ?_);have p:listSameRef (.ref S) (.ref r)=false:=by simp[listSameRef,i]
 rw[a0m (by rw[p,l,m];decide)];refine dV (self _ (dV (Ax (H _ λb=>?_))));refine wpAny_ite_split (λ_=>?_) (λ_=>eH ⟨EV HV _,Nz L u res n 0 {s with heap:=h1} #[] c rfl (Ad _) j rfl t k⟩)
 (refine dV (Bx ?_);refine dV ?_)
 (refine dV (IV t rfl ?_))
 have d:(h1.update S (mapSeq (·.push Value.none))).get? S=some (jN #[.none] (c+1)):=by
  rw[Dl _ t rfl];rfl
 refine IV (hz:=by seq_fits) d rfl ?_;have g:((h1.update S (mapSeq (·.push Value.none))).update S (mapSeq (·.pop))).get? S=some (jN #[] (c+2)):=by
  rw[Dl _ d rfl];rfl
 refine eH ⟨EV HV _,Nz L u res n 0 _ #[] (c+2) rfl (Ad _) (L.frame _ _ _ _ j ?_ λb o v e=>?_) rfl g k⟩;simp;exact(Dk _ _ (hR v)).trans ((Dk _ _ (hR v)).trans e)
def NB{K:Array Value->Heap->Prop}(L:BD prog w A.in1 I s.heap.objs.size n J K)(u:n<=sizeLine)(v:s.TypeIs (.ref r) T)(i:(type T==type "list")=false)(j:(type T==type "tuple")=false)
  (self:∀(E:Value->Shared->Prop) (Q:Value->Shared->Prop),Q (.ref I) {s with heap:=h1}->wpAny (model prog w) A.in1 (pyIter (.ref r)) Q E {s with heap:=s.heap.push (jN #[] 0)})
  (H:∀(E:Value->Shared->Prop) (Q:Bool->Shared->Prop),(∀b,Q b {s with heap:=h1})->wpAny (model prog w) A.in1 (listLengthHint (.ref r)) Q E {s with heap:=h1})
  (k:J 0 #[] h1) (x:h1.get? s.heap.objs.size=some (jN #[] 0))  (l:∀h' t q,K q h'->q.size=n->s.heap.objs.size<h'.objs.size->Q q.toList {s with heap:=h',toks:=t}):wpAny (model prog w) A (collect (.ref r)) Q E s:=by
 have f:∀ R:Result->Shared->Prop,(∀ h' t q c,K q h'->q.size=n->h'.get? s.heap.objs.size=some (jN q c)->R (.ok (.ret (.ref s.heap.objs.size))) {s with heap:=h',toks:=t}) ->
   codeAny (model prog w) A (.builtin "proto.collect" ⟨[.ref r],[]⟩) R s:=by
  intro R m
  (refine DW F.entry_proto_collect ?_)
  (refine dV (EU ?_))
  (refine eH ⟨EV F.plain_list_iadd _,DW F.entry_list_iadd ?_⟩;rw[EZ F.plain_list_iadd _])
  obtain⟨o,h,hc⟩:=v;exact NA (R:=R) L u (.ref s.heap.objs.size) (s:={s with heap:=s.heap.push (jN #[] 0)}) (h1:=h1) (c:=0) ⟨o,sT _ h,hc⟩ (DN (rN h)) i j (self _) (H _) k x
   λh' t e p g a d=>m h' t e p g a d
 (refine dV (wpAny_runValue (f _ λh' t q c g a d=>?_)))
 (refine dV (wpAny_load d ?_))
 exact eH (l h' t q g a (rN d))
def Vy:typeLookup (.type "list_reverseiterator") "__len__"=pure none:=by(rw[typeLookup_type,FV];kernel_rfl)
def Vz:typeLookup (.type "list_reverseiterator") "__length_hint__"=pure (some (.builtin "list_reverseiterator.__length_hint__")):=by(rw[typeLookup_type,FV];kernel_rfl)
def VA:typeLookup (.type "zip") "__len__"=pure none:=by(rw[typeLookup_type,FV];rfl)
def VB:typeLookup (.type "zip") "__length_hint__"=pure none:=by(rw[typeLookup_type,FV];rfl)
def VC(H:s.TypeIs (.ref I) "zip")(h:∀b,Q b s):wpAny (model prog w) A (listLengthHint (.ref I)) Q E s:=by
 refine dV (Er H VA ?_)
 (refine dV (Er H VB ?_))
 exact eH (h _)
def VD(c:s.TypeIs (.ref I) "list_reverseiterator")(h:∀b,Q b s):wpAny (model prog w) A (listLengthHint (.ref I)) Q E s:=by
 unfold listLengthHint;refine dV (Er c Vy ?_)
 (show wpAny _ A (specialOf (Value.ref I) (ofString "__length_hint__") >>= _) _ _ _;refine dV (Er c Vz ?_))
 (generalize H:("list_reverseiterator.__length_hint__":String)=a;(fail_if_success (clear H a));wp_delta;rw[show splitId a=some ("list_reverseiterator","__length_hint__")from by subst H;decide +kernel];subst H)
 refine dV (wpAny_isInstance (b:=true) c (by rw[isSubtype_type];kernel_rfl) ?_);exact eH (h _)
def rW 
  (hc:∀w s Z H A C Q,eD X w Z H s->bF A C->r A H Q->wpAny (model X.prog X.w) X.A (call (.type U) C) (λu G=>wpAny (model X.prog X.w) X.A (call (.type T) [u]) (EP X w Z Q) X.xe G) X.xe s)
  (l:Gl X x) (M:X.mg x=none) (m:bootBuiltins x=some (.type T)) (d:Gl X y) (f:X.mg y=none) (g:bootBuiltins y=some (.type U)) (N:PA X (e::E) t)
  (L:x≠"__name__":=by decide) (i:(x==("__debug__":Str))=false:=by decide) (j:y≠"__name__":=by decide) (b:(y==("__debug__":Str))=false:=by decide)
  (n:starEach (e::E) X.env=(false,eval e X.env)::starEach E X.env:=by rfl) (k:(backTo a (starEach E X.env)).any (·.1)=false:=by rfl)
  (J:starEach [.Call (.Name y c) (e::E) [] a] X.env=(false,eval (.Call (.Name y c) (e::E) [] a) X.env)::starEach [] X.env:=by rfl) :
  PE X (.Call (.Name x p) [.Call (.Name y c) (e::E) [] a] [] pos) (Gf r t):=by
 intro w s Z H Q I h;refine FW (jY I l M m ?_ L i);refine FZ ?_ J (by rfl)
 (refine Calls.spliced_cons ?_)
 refine FW (jY I d f g ?_ j b);refine FZ ?_ n k;exact thn (N a w s Z H _ I h) λC G ⟨A,o,q,v,z⟩=>thn (hc w G Z o A C Q q v z) λu O B=>Calls.spliced_nil B
def eD.adoptAll{Z:St}(B:List (Addr×List V))(I:eD X y Z H s)(J:∀ p∈B,BC X y H p.1)(e:(B.map (·.1)).Nodup)
  (k:∀p∈B,p.2.length<=sizeLine/\∃A:List Value,bF p.2 A/\IsTup s.heap p.1 A.toArray/\MD s.heap p.1) :
  ∃E,eD X y Z E s/\lX H E/\(∀p∈B,E p.1=some (.tup p.2))/\∀b,(∀p∈B,p.1≠b)->E b=H b:=by
 induction B generalizing H with
 |nil=>exact⟨H,I,lX.refl H,(λp l=>absurd l (by simp)),λb _=>rfl⟩
 | cons p B j=>
   obtain⟨a,G⟩:=p;have C:=J (a,G) Aa;obtain⟨m,A,n,o⟩:=k (a,G) Aa;have r:eD X y Z (fI H a (.tup G)) s:=I.adopt C.un C.young C.loc C.cell C.pin ⟨m,A,n,o⟩;rw[BJ,Dq]at e;have h:∀q∈B,q.1≠a:=λq c z=>e.1 (sY.mpr ⟨q,c,z⟩);obtain⟨E,t,d,i,f⟩  :=j r (λq c=>by
    have g:=J q (Am _ c);exact⟨by rw[aG (h q c)];exact g.un,g.loc,g.young,g.cell,g.pin⟩) e.2 (λq c=>k q (Am _ c))
   refine⟨E,t,(aP C.un).trans d,λq c=>?_,λb L=>?_⟩;rcases Az.mp c with rfl|c;exact d a _ aJ;exact i q c;rw[f b λq c=>L q (Am _ c),aG λz=>L (a,G) Aa z.symm]
def uP(S:A.handled=none)(t:s.heap.IsRevIter I l ((items.size:Int)-1))(π:s.heap.IsList l items)(D:l≠I)(hsz:items.size<=sizeLine)
  (U:∀h' tk O c,(∀b o,b≠I->s.heap.get? b=some o->h'.get? b=some o)->h'.get? s.heap.objs.size=some (jN O c)->O.size=items.size->(∀j v,O[j]?=some v->items[items.size-1-j]?=some v)->Q (.ref s.heap.objs.size) {s with heap:=h',toks:=tk}) :
  wpAny (model prog w) A (call (.type "list") [.ref I]) Q E s:=by
 have W:=Walks.listRev (prog:=prog) (w:=w) (A:=A.in1.in1) S I l D items;have q:I<s.heap.objs.size:=by obtain⟨_,e,_⟩:=t;exact rN e
 have G:l<s.heap.objs.size:=by obtain⟨_,e,_⟩:=π;exact rN e
 have H:s.heap.objs.size∉[I,l]:=λhm=>by
  simp at hm;rcases hm with z|z;exact BI _ (z▸q);exact BI _ (z▸G)
 refine callType_codes (Q₁:=λobj s₁=>obj=.ref s.heap.objs.size/\s₁={s with heap:=s.heap.push (jN #[] 0)}) F.called_list (F.typeCall_list_1 _) F.entry_list_init (code_list_new _ ⟨rfl,rfl⟩) λobj s₁ x=>?_;obtain⟨rfl,rfl⟩:=x;have hS:(s.heap.push (jN #[] 0)).get? s.heap.objs.size=some (jN #[] 0):=Ak _ rfl;refine⟨⟨_,hS,rfl⟩,F.args_list_init_2 _ _,?_⟩
 (show wpAny _ _ (do let m ← listItems (.ref s.heap.objs.size);Builtin.List.listUpdate (.ref s.heap.objs.size) (λ_=>#[]);letGo m.toList.reverse;listExtendWith (.ref s.heap.objs.size) (.ref I) .none) _ _ _;refine dV ?_)
 (unfold listItems;refine dV (Cj hS rfl (eH ?_)))
 (show wpAny _ _ (updateSeq s.heap.objs.size (λ_=>#[]) >>= λ_=>letGo (#[]:Array Value).toList.reverse >>= λ_=>listExtendWith (.ref s.heap.objs.size) (.ref I) .none) _ _ _;refine dV (IV hS rfl ?_))
 refine dV (wpAny_letGo ?_);have d:∃c,((s.heap.push (jN #[] 0)).update s.heap.objs.size (mapSeq (λ_=>(#[]:Array Value)))).get? s.heap.objs.size=some (jN #[] c):=⟨_,by
  rw[Dl _ hS rfl];rfl⟩
 obtain⟨c,d⟩:=d;have m:∀b o,s.heap.get? b=some o->((s.heap.push (jN #[] 0)).update s.heap.objs.size (mapSeq (λ_=>(#[]:Array Value)))).get? b=some o:=λb o e=>
  (Dk _ _ (DN (rN e))).trans (sT _ e)
 generalize (s.heap.push (jN #[] 0)).update s.heap.objs.size (mapSeq (λ_=>(#[]:Array Value)))=J at d m ⊢;have L:BD prog w A.in1.in1 I s.heap.objs.size items.size (λi O h=>(i<=items.size/\h.IsRevIter I l ((items.size:Int)-1-(i:Int))/\h.IsList l items)/\(O.size=i/\∀ j v,O[j]? = some v->items[items.size-1-j]? = some v)/\∀ b o,b≠I->s.heap.get? b=some o->h.get? b=some o)
   (λO h=>(∀j v,O[j]?=some v->items[items.size-1-j]?=some v)/\∀b o,b≠I->s.heap.get? b=some o->h.get? b=some o):=by
  refine⟨λi O s' K y M hi B n r=>?_,λO s' K y M B n r=>?_,λi O h h' B _ P=>?_⟩;obtain⟨st,⟨f,g⟩,a⟩:=B;refine W.item i s' y M hi st λv h' tk V st' p=>r v h' tk ⟨st',⟨by rw[size_push,f],λj u hj=>?_⟩,λb o Y e=>p b o (by simpa using Y) (a b o Y e)⟩ (p _ _ (by simpa using DN q) n);rw[getElem?_push]at hj;split at hj;rename_i z;cases hj;rw[z,f];exact V;exact g j u hj;obtain⟨st,⟨f,g⟩,a⟩:=B;exact W.done s' y M st λh' tk p=>r h' tk ⟨g,λb o Y e=>p b o (by simpa using Y) (a b o Y e)⟩ (p _ _ (by simpa using DN q) n);obtain⟨st,g,a⟩:=B;refine⟨W.frame _ _ _ st λb Y o e=>P b o (λz=>H (z▸Y)) e,g,λb o Y e=>P b o (λz=>?_) (a b o Y e)⟩;exact BI _ (z▸rN e)
 have k:J.IsRevIter I l ((items.size:Int)-1):=t.at λo e=>m _ o e;refine NA (A:=A.in1) L hsz .none (T:="list_reverseiterator") ⟨_,(Classical.choose_spec k).1,(Classical.choose_spec k).2.1⟩ (DN q) (by decide) (by decide) (λy N=>wpAny_pyIter_revIter (s:={s with heap:=J}) k N)
  (λy N=>VD (k.typeIs (s:={s with heap:=J})) N) ⟨⟨Ad _,by simpa using k,π.at λo e=>m _ o e⟩,⟨rfl,λj v hj=>by simp at hj⟩,λb o _ e=>m b o e⟩ d λh' tk C K R f n=>?_
 exact⟨rfl,U h' tk C K R.2 n f R.1⟩
def NC:List V->Hp->VK->Prop:=λv H Q=>∃l x,v=[.ref l]/\H l=some (.lst x)/\∀r,H r=none->Q (.ref r) (fI H r (.lst x.reverse))
def VE(hc:X.calm=true):∀ A s Z H L U Q,eD X A Z H s->bF L U->NC L H Q ->
  wpAny (model X.prog X.w) X.A (call (.type "reversed") U) (λu O=>wpAny (model X.prog X.w) X.A (call (.type "list") [u]) (EP X A Z Q) X.xe O) X.xe s:=by
 intro A s Z H L U Q I y h;obtain⟨l,N,rfl,z,q⟩:=h;obtain⟨u,rfl,B⟩:=y.one;cases B;obtain⟨C,w,n,r,p,e⟩:=I.lstM z;have t:s.heap.IsList l w.toArray:=⟨_,e,rfl,_,rfl⟩;have i:l<s.heap.objs.size:=rN e;refine call_reversed_list t ?_;have k:w.toArray.size<=sizeLine:=by rw[CC];simp_all
 refine uP (s:={s with heap:=s.heap.push (revObj l ((w.toArray.size:Int)-1))}) (I.ok.hd hc) (I:=s.heap.objs.size) (l:=l) (items:=w.toArray) ⟨_,Ak _ rfl,rfl,rfl⟩ (t.at λo g=>sT _ g) (AF i) k λY T J c D m a d=>?_;have f:(s.heap.push (revObj l ((w.toArray.size:Int)-1))).objs.size=s.heap.objs.size+1:=Ez ..;have E:J.toList=w.reverse:=by
  apply Fc;intro j;have F:J.size=w.length:=by simpa using a
  by_cases M:j<w.length;have v:J[j]?=some J[j]:=By (by simp_all);have x:=d j _ v;rw[Bc,v,List.getElem?_reverse M];rw[Cp,CC]at x;exact x.symm;rw[Eb.mpr (by rw[Bz];simp_all),Eb.mpr (by rw[length_reverse];exact Ed M)]
 refine⟨.ref (s.heap.objs.size+1),fI H (s.heap.objs.size+1) (.lst N.reverse),?_,by show Value.ref _=_;rw[f],q _ (I.hok.fresh (Gb _))⟩;refine I.laid (t':=T) (λb o g=>D b o (AF (rN g)) (sT _ g)) (Gb _) ⟨by rw[length_reverse];exact C,w.reverse,c,r.reverse,?_⟩;have G:Y.get? (s.heap.objs.size+1)=some (jN J c):=by rw[← f];exact m
 rw[G,← E,toArray_toList]
structure ZJ(h0:Heap)(l1 l2:Addr)(xs ys:Array Value)(i:Nat)(acc:Array Value)(h:Heap):Prop where
 keep:∀b o,h0.get? b=some o->h.get? b=some o
 st:(i=0/\IsZip h (h0.objs.size+4) (h0.objs.size+2) (h0.objs.size+3) .none)\/∃T b o,rV h (h0.objs.size+4) (h0.objs.size+2) (h0.objs.size+3) T b/\h.get? T=some o/\h0.objs.size+6<=T
 ti:IsPair h (h0.objs.size+2) (.ref h0.objs.size) (.ref (h0.objs.size+1))
 to:∃a b,IsPair h (h0.objs.size+3) a b
 i1:h.IsListIter h0.objs.size l1 i
 i2:h.IsListIter (h0.objs.size+1) l2 i
 sz:h0.objs.size+6<=h.objs.size
 len:acc.size=i
 got:∀j,j<i->∃T x y,acc[j]?=some (.ref T)/\xs[j]?=some x/\ys[j]?=some y/\IsPair h T x y/\h0.objs.size+6<=T
 nd:acc.toList.Nodup
structure ZK(h0:Heap)(xs ys:Array Value)(acc:Array Value)(h:Heap):Prop where
 keep:∀b o,h0.get? b=some o->h.get? b=some o
 got:∀j,j<min xs.size ys.size->∃T x y,acc[j]?=some (.ref T)/\xs[j]?=some x/\ys[j]?=some y/\IsPair h T x y/\h0.objs.size+6<=T
 nd:acc.toList.Nodup
def VF(h:L<N)(a:l<N):ZipApart (N+4) (N+2) (N+3) N (N+1) L l:=by
 constructor<;>(lia)
def VG{A:Array Value}(h:A.toList.Nodup)(H:∀j:Nat,A[j]? ≠ some v):(A.push v).toList.Nodup:=by
 rw[Fb,List.nodup_append];refine⟨h,by simp,λa g b f e=>?_⟩;have c:=Ah.mp f;subst c e;obtain⟨j,d,e⟩:=Dm g;exact H j (by rw[← Bc,oI d,e])
def VH{O:Heap}(X:A.handled=none)(p:O.IsList l1 xs)(q:O.IsList l2 ys) :
  BD prog w A (O.objs.size+4) (O.objs.size+5) (min xs.size ys.size) (ZJ O l1 l2 xs ys) (ZK O xs ys):=by
 have N:l1<O.objs.size:=by obtain⟨_,e,_⟩:=p;exact rN e
 have π:l2<O.objs.size:=by obtain⟨_,e,_⟩:=q;exact rN e
 have D:=VF N π;have big:∀{b:Addr} {o:Obj},O.get? b=some o->b≠O.objs.size+4/\b≠O.objs.size+3/\b≠O.objs.size/\b≠O.objs.size+1/\b≠O.objs.size+5:=λe=>by
  have:=rN e;unfold Addr at *;lia
 refine⟨λi acc s' c Q' E' hi J hS f=>?_,λacc s' c Q' E' J hS f=>?_,λi acc h Y J g u=>?_⟩
 ·have P:xs[i]? = some xs[i]:=By (by grind);have Q:ys[i]? = some ys[i]:=By (by grind);have B:s'.heap.IsList l1 xs:=p.at λo e=>J.keep _ o e;have L2:s'.heap.IsList l2 ys:=q.at λo e=>J.keep _ o e;have sz:=J.sz
  have C:∀ Y:Heap,((∃ T b o,rV Y (O.objs.size+4) (O.objs.size+2) (O.objs.size+3) T b/\Y.get? T=some o/\O.objs.size+6<=T))->(∃ a b,IsPair Y (O.objs.size+3) a b)->Y.IsListIter O.objs.size l1 (i+1)->Y.IsListIter (O.objs.size+1) l2 (i+1)->IsPair Y s'.heap.objs.size xs[i] ys[i] ->
    Y.objs.size=s'.heap.objs.size+1->(∀c o,c≠O.objs.size+4->c≠O.objs.size+3->c≠O.objs.size->c≠O.objs.size+1->s'.heap.get? c=some o->Y.get? c=some o) ->
    ZJ O l1 l2 xs ys (i+1) (acc.push (.ref s'.heap.objs.size)) Y:=by
   intro Y z1 z2 z3 z4 z5 z6 k;have R:∀T,O.objs.size+6<=T->T≠O.objs.size+4/\T≠O.objs.size+3/\T≠O.objs.size/\T≠O.objs.size+1:=λT hT=>by unfold Addr at *;lia
   refine⟨λb o e=>?_,.inr z1,?_,z2,z3,z4,by unfold Addr at *;lia,by rw[size_push,J.len],λj hj=>?_,VG J.nd λj e=>?_⟩;obtain⟨E,F,G,H,_⟩:=big e;exact k b o E F G H (J.keep b o e);exact k _ _ (by unfold Addr at *;simp) (by unfold Addr at *;simp) (by unfold Addr at *;simp) (by unfold Addr at *;simp) J.ti;by_cases I:j=i;subst I;exact⟨s'.heap.objs.size,_,_,by rw[getElem?_push,J.len,gV rfl],P,Q,z5,sz⟩;obtain⟨T,x,y,r,K,L,s,v⟩:=J.got j (by lia);obtain⟨E,F,G,H⟩:=R T v;exact⟨T,x,y,by rw[getElem?_push,J.len,a0m I];exact r,K,L,k _ _ E F G H s,v⟩;by_cases hj:j<i
   ·obtain⟨T,x,y,r,_,_,s,_⟩:=J.got j hj;rw[r]at e;have eT:T=s'.heap.objs.size:=by cases e;rfl
    have:=rN s;rw[eT]at this;exact BI _ this
   ·rw[IZ (by rw[J.len];simp_all)]at e;cases e
  have σ:∀Y:Heap,(∀c o,c≠O.objs.size+4->c≠O.objs.size+3->c≠O.objs.size->c≠O.objs.size+1->s'.heap.get? c=some o->Y.get? c=some o)->Y.get? (O.objs.size+5)=some (jN acc c):=λY k=>
   k _ _ (by unfold Addr at *;simp) (by unfold Addr at *;simp) (by unfold Addr at *;simp) (by unfold Addr at *;simp) hS
  rcases J.st with⟨rfl,g⟩|⟨T,b,o,g,hT,l⟩;obtain⟨a,b,d⟩:=J.to;refine wpAny_pyNext_zip_item D g J.ti d J.i1 J.i2 B L2 P Q λY a1 a2 a3 a4 a5 a6 a7=>?_;exact f _ Y s'.toks (C Y ⟨_,false,_,a1,a5,sz⟩ ⟨_,_,a2⟩ a3 a4 a5 a6 a7) (σ Y a7);obtain⟨a,b',d⟩:=J.to;refine Vv D g hT J.ti J.i1 J.i2 B L2 P Q λY a1 a3 a4 a5 a6 a7=>?_;have M:∀c o,c≠O.objs.size+4->c≠O.objs.size+3->c≠O.objs.size->c≠O.objs.size+1->s'.heap.get? c=some o->Y.get? c=some o:=λc o S _ U V e=>a7 c o S U V e;have W:Y.get? T=some o:=a7 T o (by unfold Addr at *;lia) (by unfold Addr at *;lia) (by unfold Addr at *;lia) hT;exact f _ Y s'.toks (C Y ⟨T,true,o,a1,W,l⟩ ⟨a,b',a7 _ _ (by unfold Addr at *;simp) (by unfold Addr at *;simp) (by unfold Addr at *;simp) d⟩ a3 a4 a5 a6 M) (σ Y M)
 ·have B:s'.heap.IsList l1 xs:=p.at λo e=>J.keep _ o e;have L2:s'.heap.IsList l2 ys:=q.at λo e=>J.keep _ o e;have n:xs[min xs.size ys.size]? = none\/ys[min xs.size ys.size]? = none:=by
   by_cases h:xs.size<=ys.size;exact .inl (IZ (by simp[*]));exact .inr (IZ (by grind))
  have fin:∀Y:Heap,(∀c o,c≠O.objs.size+4->c≠O.objs.size+3->c≠O.objs.size->c≠O.objs.size+1->s'.heap.get? c=some o->Y.get? c=some o)->ZK O xs ys acc Y/\Y.get? (O.objs.size+5)=some (jN acc c):=λY k=>by
   refine⟨⟨λb o e=>?_,λj hj=>?_,J.nd⟩,k _ _ (by unfold Addr at *;lia) (by unfold Addr at *;lia) (by unfold Addr at *;lia) (by unfold Addr at *;lia) hS⟩;obtain⟨E,F,G,H,_⟩:=big e;exact k b o E F G H (J.keep b o e);obtain⟨T,x,y,r,K,L,s,v⟩:=J.got j hj;exact⟨T,x,y,r,K,L,k _ _ (by unfold Addr at *;lia) (by unfold Addr at *;lia) (by unfold Addr at *;lia) (by unfold Addr at *;lia) s,v⟩
  rcases J.st with⟨_,g⟩|⟨T,b,o,g,hT,l⟩;obtain⟨a,b,d⟩:=J.to;exact wpAny_pyNext_zip_end X D g J.ti d J.i1 J.i2 B L2 n λY u=>f Y s'.toks (fin Y u).1 (fin Y u).2;refine Vx X D g hT J.ti J.i1 J.i2 B L2 n λY u=>?_;have:=fin Y λc o S _ U V e=>u c o S U V e;exact f Y s'.toks this.1 this.2
 ·have m:∀{b:Addr} {o:Obj},b≠O.objs.size+5->h.get? b=some o->Y.get? b=some o:=λhb e=>u _ _ hb e;refine⟨λb o e=>m (big e).2.2.2.2 (J.keep b o e),?_,m (by unfold Addr at *;simp) J.ti,?_,J.i1.at λo e=>m (by unfold Addr at *;simp) e,J.i2.at λo e=>m (by unfold Addr at *;simp) e,by rw[g];exact J.sz,J.len,λj hj=>?_,J.nd⟩;rcases J.st with⟨z,t⟩|⟨T,b,o,t,hT,l⟩;exact .inl ⟨z,m (by unfold Addr at *;simp) t⟩;exact .inr ⟨T,b,o,m (by unfold Addr at *;lia) t,m (by unfold Addr at *;lia) hT,l⟩;obtain⟨a,b,d⟩:=J.to;exact⟨a,b,m (by unfold Addr at *;simp) d⟩;obtain⟨T,x,y,r,K,L,s,v⟩:=J.got j hj;exact⟨T,x,y,r,K,L,m (by unfold Addr at *;lia) s,v⟩
def xQ{H:Heap}(h:A.handled=none)(d:H.IsList z xs)(f:H.IsList x y)(C:min xs.size y.size<=sizeLine)
  (r:IsZip s.heap (H.objs.size+4) (H.objs.size+2) (H.objs.size+3) .none) (v:IsPair s.heap (H.objs.size+2) (.ref H.objs.size) (.ref (H.objs.size+1))) (to:IsPair s.heap (H.objs.size+3) .none .none)
  (B:s.heap.IsListIter H.objs.size z 0) (I:s.heap.IsListIter (H.objs.size+1) x 0) (q:s.heap.objs.size=H.objs.size+5) (i:∀b o,H.get? b=some o->s.heap.get? b=some o)
  (k:∀h' t p,ZK H xs y p h'->p.size=min xs.size y.size->Q p.toList {s with heap:=h',toks:=t}):wpAny (model prog w) A (collect (.ref (H.objs.size+4))) Q E s:=by
 have a:IsZip (s.heap.push (jN #[] 0)) (H.objs.size+4) (H.objs.size+2) (H.objs.size+3) .none:=sT _ r;have u:∀b o,s.heap.get? b=some o->(s.heap.push (jN #[] 0)).get? b=some o:=λb o e=>sT _ e;have L:=VH (prog:=prog) (w:=w) (A:=A.in1) h d f;rw[← q]at L;exact NB (T:="zip") L C ⟨_,r,rfl⟩ rfl rfl (λl m g=>wpAny_pyIter_zip a g) (λl m g=>VC ⟨_,a,rfl⟩ g)
  ⟨λb o e=>u b o (i b o e),.inl ⟨rfl,a⟩,u _ _ v,⟨_,_,u _ _ to⟩,B.at λo e=>u _ o e,I.at λo e=>u _ o e,by simp_all,rfl,λj G=>absurd G (Dr _),by simp⟩ (Ak _ rfl)
  λh' t p n c _=>k h' t p n c
def xR{h0:Heap}(j:A.handled=none)(f:h0.IsList r xs)(g:h0.IsList L y)(z:min xs.size y.size<=sizeLine)
  (x:IsZip s.heap (h0.objs.size+4) (h0.objs.size+2) (h0.objs.size+3) .none) (T:IsPair s.heap (h0.objs.size+2) (.ref h0.objs.size) (.ref (h0.objs.size+1))) (to:IsPair s.heap (h0.objs.size+3) .none .none)
  (u:s.heap.IsListIter h0.objs.size r 0) (I:s.heap.IsListIter (h0.objs.size+1) L 0) (H:s.heap.objs.size=h0.objs.size+5) (k:∀b o,h0.get? b=some o->s.heap.get? b=some o)
  (l:∀h' t q,ZK h0 xs y q h'->q.size=min xs.size y.size->Q (.ref h'.objs.size) {s with heap:=h'.push {cls:=.type "tuple",data:=.seq q},toks:=t}) :
  wpAny (model prog w) A (call (.type "tuple") [.ref (h0.objs.size+4)]) Q E s:=by
 refine callType_codes (Q₁:=λO a=>a.TypeIs O "tuple"/\Q O a) F.called_tuple (F.typeCall_tuple_1 _) F.entry_object_init ?_ λO a c=>
  ⟨c.1,F.args_object_init_2 O _,object_init_meets F.called_tuple.init.lookup F.called_tuple.made (rfl) prog w A.in1 _ a ⟨c.1,rfl,c.2⟩⟩
 refine codeAny_of_tree ?_
 (refine dV (wpAny_of_eq (F.newCall_tuple_1 _) (eH ⟨EV F.plain_tuple_new _,DW F.entry_tuple_new ?_⟩));rw[EZ F.plain_tuple_new _])
 have i:=sub_tuple_self;have h:=init_tuple_lookup;have m:=madeHere_tuple
 wp_walk using EW n,xQ (A:=A.in1.in1) j f g z x T to u I H k
 intro h' t q p d
 (show wpAny _ _ (tupleExact q.toList.toArray >>= λv=>ret v) _ _ _)
 refine dV (EU ?_ (by show q.toList.toArray.size<=sizeLine;simp_all));have e:q.toList.toArray=q:=by simp
 exact eH ⟨⟨_,Ak _ rfl,rfl⟩,l h' t q p d⟩
def kZ{K:W.Frag}(a:Jj own t):Gh own (oM K n t):=λx Z H Q q=>by
 unfold oM at q ⊢;split at q;exact⟨q.1,a _ _ _ _ q.2⟩;obtain⟨e,b,c,d⟩:=q;exact⟨e,b,c,a _ _ _ _ d⟩;exact q.elim
noncomputable def xS(t c:String):Bool:=t==c||(t=="bool"&&c=="int")
def VI{K:W.Frag}(a:t="NoneType"\/t="int"\/t="bool"\/t="str"\/t="list"\/t="tuple")(hc:c="int"\/c="bool"\/c="str"\/c="list"\/c="tuple"):W.kitOne K (.type t) (.type c)=some (xS t c):=by
 rcases a with rfl|rfl|rfl|rfl|rfl|rfl<;>rcases hc with rfl|rfl|rfl|rfl|rfl<;>first|exact Vj|rfl|(unfold W.kitOne;decide +kernel)|(unfold W.kitOne;rfl)
end
section
open PyProof.Rows
inductive Tr where
 |leaf (z:Str)|node (l r:Tr)
end
def ND(K:W.Frag)(b:X.K=K)(c:PE X l a):PI X t l (Ik K a):=by rw[← b];exact Vc c
def dF(K:W.Frag)(b:X.K=K)(hc:X.calm=true)(h:GU X e t)
  (H:(assignEach e X.env).length=n:=by rfl) (a:(assignEach e X.env).findIdx? (·.1)=none:=by rfl):PG X (.Tuple e k pos) (oM K n t):=by exact Vk hc h H a
def VJ{id:String}(K:W.Frag)(d:X.K=K)(p:PlainAttrs T)(slot:Slot T n id)(c:typeOf (.builtin id)=pure (.type "method_descriptor"))(h:EE X id r)(e:PE X o to)
  (a:attributeBase o n X.env (eval o X.env)=eval o X.env:=by rfl) (b:(A.endLine==C.line)=true:=by rfl):PE X (.Call (.Attribute o n A) [] [] C) (Kv K T r to):=by rw[← d];exact UD p slot c h e a b
def mR{id:String}(K:W.Frag)(g:X.K=K)(p:PlainAttrs T)(slot:Slot T n id)(f:typeOf (.builtin id)=pure (.type "method_descriptor"))(i:EE X id r)(h:PE X o to)(j:PA X (e::E) t)
  (b:attributeBase o n X.env (eval o X.env)=eval o X.env:=by rfl)
  (d:((backTo C (starEach (e::E) X.env)).all (λx=>!x.1)&&(backToKw C (keywordEach [] X.env)).all (λx=>x.1.isSome)&&decide ((e::E).length+([]:List Keyword).length+(if([]:List Keyword).isEmpty then 0 else 1)<30))=true:=by rfl)
  (c:(A.endLine==C.line)=true:=by rfl) (H:starEach (e::E) X.env=(false,eval e X.env)::starEach E X.env:=by rfl) (a:(backTo C (starEach E X.env)).any (·.1)=false:=by rfl) :
  PE X (.Call (.Attribute o n A) (e::E) [] C) (Ef K T r to t):=by rw[← g];exact UE p slot f i h j b d c H a
section
open PyProof.Rows Spec
abbrev TH:=Addr->Addr->Option Addr->Addr->TS
section
variable {κ:Type}[DecidableEq κ]
noncomputable def nJ(b:List (κ×V))(k:κ):Option V:=(b.find? λa=>decide (a.1=k)).map (·.2)
noncomputable def Gj(b:List (κ×V))(k:κ)(v:V):List (κ×V):=
 if(b.any λa=>decide (a.1=k))=true then b.map (λa=>if a.1=k then(a.1,v)else a)else b++[(k,v)]
def jO{k:κ}(e:p.1=k):nJ (p::r) k=some p.2:=by simp[nJ,find?_cons,e]
def jP{k:κ}(e:¬p.1=k):nJ (p::r) k=nJ r k:=by simp[nJ,find?_cons,e]
theorem GQ.getD(r:GQ o u)(a:cJ d b):cJ (o.getD d) (u.getD b):=by
 cases o with
 | none=>cases u with
   |none=>exact a
   |some _=>exact(show False from r).elim
 | some _=>cases u with
   |none=>exact(show False from r).elim
   |some _=>exact r
theorem KV.any(r:KV c v)(k:κ):(c.any λa=>decide (a.1=k))=v.any λa=>decide (a.1=k):=by
 induction r with
 |nil=>rfl
 |cons h t b=>simp_all
def KV.repl(r:KV d v)(k:κ)(c:cJ y u) :
  KV (d.map λa=>if a.1=k then(a.1,y)else a) (v.map λa=>if a.1=k then(a.1,u)else a):=by
 induction r with
 |nil=>exact .nil
 | @cons p q e Q h t b=>
   refine .cons ?_ b
   lia
def KV.put(r:KV c v)(k:κ)(a:cJ y u):KV (Gj c k y) (stored v k u):=by
 unfold Gj stored;rw[r.any k];by_cases e:(v.any λb=>decide (b.1=k))=true;rw[gV e,gV e];exact r.repl k a;rw[a0m e,a0m e];exact Paired.snoc r ⟨rfl,a⟩
end
def NF(r:cJ (kV k) u):(bH P w).is k u=true:=by
 cases k with
 |inl i=>obtain⟨t,e⟩:=(show ∃t,u=Value.int i t from r);subst e;exact xB P w i t
 |inr x=>obtain⟨t,e⟩:=(show ∃t,u=Value.str x t from r);subst e;exact xC P w x t
theorem uQ{P:Program}{w:World}:∀ {ks:List Key} {u:List Value},bF (ks.map kV) u->ItemsAre (bH P w) ks u
 |[],_,r=>by cases r;exact .nil
 | k::ks,_,r=>by
   cases r with
   |cons h t=>exact .cons (NF h) (uQ t)
abbrev KT(H:Hp):List (List Key×V)->List (List Key×Addr×Value)->Prop:=Paired λp q=>p.1=q.1/\H q.2.1=some (.tup (p.1.map kV))/\cJ p.2 q.2.2
def KT.val(r:KT H g xs)(k:List Key):GQ (nJ g k) ((atKey xs k).map (·.2)):=by
 induction r with
 |nil=>exact True.intro
 | @cons p q i Q h t d=>
   obtain⟨c,_,f⟩:=h;by_cases e:p.1=k
   ·have a:q.1=k:=c.symm.trans e;have b:atKey (q::Q) k=some q.2:=by simp[atKey,find?_cons,a]
    rw[jO e,b];exact f
   ·have a:¬q.1=k:=λz=>e (c.trans z);have b:atKey (q::Q) k=atKey Q k:=by simp[atKey,find?_cons,a]
    rw[jP e,b];exact d
def KT.keeps(r:KT H k xs)(a:∀b y,H b=some (.tup y)->h b=some (.tup y)):KT h k xs:=
 Paired.mapP r λ_ _ z=>⟨z.1,a _ _ z.2.1,z.2.2⟩
def Im(ok:AA P w H h)(e:Rd H a u):cC P w H h a u:=e.ok ok
def KD(ok:AA P w H h)(e:Rd H a (.dK k)):k.length<=sizeLine/\(a==sysModules)=false/\∃v,KV k v/\h.DictOf (bH P w) a v:=
 show cC P w H h a (.dK k)from Im ok e
def VL(ok:AA P w H h)(e:H a=some (.dK k)):k.length<=sizeLine/\(a==sysModules)=false/\∃v,KV k v/\h.DictOf (bH P w) a v:=KD ok (.inl e)
def KG(ok:AA P w H h)(e:H a=some (.tup (ks.map kV))):(tupleKind (bH P w)).is h ks a:=by
 obtain⟨_,i,r,⟨o,b,c,n,d⟩,_⟩:=(show cC P w H h a (.tup (ks.map kV))from ok a _ e);exact⟨o,i.toArray,n,b,c,d,by simpa using uQ r⟩
def KH(ok:AA P w H h)(e:Rd H a (.dT n)):n.length<=sizeLine/\(a==sysModules)=false /\
  ∃xs,KT H n xs/\h.DictOfH (tupleKind (bH P w)) a xs:=by
 obtain⟨z,y,xs,r,o,E,s,c,d,f,g,i⟩:=(show cC P w H h a (.dT n)from Im ok e);refine⟨z,y,xs,r,o,E,s,c,d,f,g,λx b=>?_,i⟩;have A:∀ {l:List (List Key×V)} {m:List (List Key×Addr×Value)},KT H l m->∀ x∈m,(tupleKind (bH P w)).is h x.1 x.2.1:=by
  intro l m q
  induction q with
  |nil=>simp
  | @cons p q u Q k t j=>
    intro x b;rcases Az.mp b with e|b;exact KG ok (by simp_all);exact j x b
 exact A r x b
def VM(ok:AA P w H h)(e:H a=some (.dT k)):k.length<=sizeLine/\(a==sysModules)=false /\
  ∃xs,KT H k xs/\h.DictOfH (tupleKind (bH P w)) a xs:=KH ok (.inl e)
def eD.big{Z:St}(I:eD X a Z H s):sysModules<s.heap.objs.size:=by
 have h:mainGlobals<s.heap.objs.size:=(I.mod.glob.keeps I.bk).lt;exact CT (by decide) h
def NG{Z:St}(I:eD X p Z H s)(mu:GR (H a))(h:SameBut a s.heap h')(d:∃ q,h'.get? a=some q)(c:cC X.prog X.w (fI H a ob) h' a ob) :
  eD X p Z (fI H a ob) {s with heap:=h',toks:=t}:=
 I.write (x:=a) (e:=a) mu (.inl rfl) (λb q f z=>(h.2 b f).trans z) d c
def VN(z:k.length<=sizeLine)(h:(a==sysModules)=false)(rel:KV k v)(b:h'.DictOf (bH P w) a v) :
  cC P w H h' a (.dK k):=⟨z,h,v,rel,b⟩
def KI(i:Expr):Prop:=∀o a,subscripted i false o a=operate [o,a] (getItem o a)
def VO{T id:String}
  (k:typeLookup (.type T) "__getitem__"=pure (some (.builtin id))) (H:KI a)
  (h:wpAny (model prog w) A (eval b env) (λo e=>wpAny (model prog w) A (eval a env) (λi c=>c.TypeIs o T/\wpAny (model prog w) A (getItem o i) Q E c) E e) E s) :
  wpAny (model prog w) A (eval (.Subscript b a pos) env) Q E s:=by
 refine Subscript_ (Ck h (λo e g=>Ck g (λi c d=>?_) λ_ _ x=>x) λ_ _ x=>x);obtain⟨m,d⟩:=d;refine dV ?_;refine dV (Er m k ?_);have l:wpAny (model prog w) A (subscripted a false o i) (λr f=>wpAny (model prog w) A (letTemporaryGo b o r >>= λ_=>pure r) Q E f) E c:=by
  rw[H o i];exact wpAny_operating (Ck d (λr f j=>dV (wpAny_letTemporaryGo (eH j))) λ_ _ x=>x)
 first
  |exact eH (dV l)
  |lia
  |rfl
def VP(h:Heap)(hb:sysModules<h.objs.size):cC P w H (h.push {cls:=.type "dict",data:=.dict #[]}) h.objs.size (.dT []):=
 ⟨Ad _,beq_eq_false_iff_ne.mpr (hR (AF hb)),[],.nil,_,#[],0,Ak _ rfl,⟨rfl,rfl,rfl⟩,rfl,rfl,List.nodup_nil⟩
def KJ:TE:=λ_ H Q=>∀p,H p=none->Q (.ref p) (fI H p (.dT []))
def VQ:PE X (.Dict [] [] pos) KJ:=λp s Z H Q I h=>
 wpAny_Dict_empty ⟨.ref s.heap.objs.size,_,I.laid (a:=s.heap.objs.size) (o:=.dT []) (t':=s.toks) (λ_ _ q=>sT _ q) (hF _) (VP s.heap I.big),rfl,h _ (I.hok.fresh (hF _))⟩
def qR(k more:List (Key×V)):List (Key×V):=more.foldl (λA a=>Gj A a.1 a.2) k
def KV.merge:∀ {more:List (Key×V)} {c:List (Key×Value)} {k:List (Key×V)} {v:List (Key×Value)},KV more c->KV k v->KV (qR k more) (merged v c):=by
 intro more c k v r;unfold KV at r
 induction r generalizing k v with
 |nil=>intro q;exact q
 | @cons p q d Q h t a=>
   intro b;have e:KV (Gj k p.1 p.2) (stored v q.1 q.2):=by
    have:=b.put p.1 h.2;rw[← h.1];exact this
   exact a e
structure M2(X:Cx)(o:Expr)(m:Str)(apos:Pos)(e f:Expr)(cpos:Pos):Prop where
 base:attributeBase o m X.env (eval o X.env)=eval o X.env
 few:((backTo cpos (starEach [e,f] X.env)).all (λx=>!x.1)&&(backToKw cpos (keywordEach [] X.env)).all (λx=>x.1.isSome)
  && decide (([e,f]:List Expr).length+([]:List Keyword).length+(if([]:List Keyword).isEmpty then 0 else 1)<30))=true
 line:(apos.endLine==cpos.line)=true
 trees:backTo cpos (starEach [e,f] X.env)=[(false,eval e X.env),(false,eval f X.env)]
def Hb(H:Hp)(a:Addr):Prop:=(∃k,Rd H a (.dK k))\/(∃k,Rd H a (.dT k))\/∃k,Rd H a (.dM k)
def NH{Z:St}(I:eD X p Z H s)(d:Hb H a) :
  s.TypeIs (.ref a) "dict"/\(∀b,Value.ref a=.ref b->∃ob,s.heap.get? b=some ob/\ob.dict=none)/\(a==sysModules)=false:=by
 rcases d with⟨k,e⟩|⟨k,e⟩|⟨k,e⟩;obtain⟨_,h,v,_,g⟩:=KD I.hok e;refine⟨g.typeIs,λb q=>?_,h⟩;cases q;obtain⟨ob,_,_,c,f,_⟩:=g;exact⟨ob,c,f.2.1⟩;obtain⟨_,h,x,_,g⟩:=KH I.hok e;refine⟨g.typeIs,λb q=>?_,h⟩;cases q;obtain⟨ob,_,_,c,f,_⟩:=g;exact⟨ob,c,f.2.1⟩;obtain⟨_,h,_,_,ob,_,_,c,f,_⟩:=Im I.hok e;exact⟨⟨ob,c,f.1⟩,λb q=>by cases q;exact⟨ob,c,f.2.1⟩,h⟩
theorem NI:∀{xs:List V} {U:List Value},xs.length=U.length->(∀(j:Nat) (x:V) (y:Value),xs[j]?=some x->U[j]?=some y->cJ x y)->bF xs U
 |[],[],_,_=>.nil
 |[],_::_,h,_|_::_,[],h,_=>by simp at h
 |x::xs,u::U,h,k=>.cons (k 0 x u rfl rfl) (NI (by simpa using h) λj a b c H=>k (j+1) a b (by simpa using c) (by simpa using H))
def NJ:List V->Hp->VK->Prop:=λv H Q=>∃n:Int,v=[.int n]/\0<=n/\n<=1000/\∀r,H r=none->Q (.ref r) (fI H r (.lst ((range n.toNat).map λ(i:Nat)=>V.int (i:Int))))
def VR(hc:X.calm=true):∀ w s Z H E U Q,eD X w Z H s->bF E U->NJ E H Q ->
  wpAny (model X.prog X.w) X.A (call (.type "range") U) (λu G=>wpAny (model X.prog X.w) X.A (call (.type "list") [u]) (EP X w Z Q) X.xe G) X.xe s:=by
 intro w s Z H E U Q I m h;obtain⟨n,rfl,N,D,q⟩:=h;obtain⟨u,rfl,p⟩:=m.one;obtain⟨t,rfl⟩:=p;refine call_range_1 ?_;have f:Builtin.Range.rangeSize 0 n 1=((n.toNat:Nat):Int):=by rw[rangeSize_one];split<;>lia
 refine call_list_range (s:={s with heap:=s.heap.push {cls:=.type "range",data:=.fields #[.int 0 s.toks,.int n t,.int 1 (s.toks+1)]},toks:=s.toks+1+1}) (I.ok.hd hc) (IsRange.new ..) (small_one (by lia) (by lia) (by lia) (by lia)) f (by lia) λM T A c r L a=>?_;have d:(s.heap.push {cls:=.type "range",data:=.fields #[.int 0 s.toks,.int n t,.int 1 (s.toks+1)]}).objs.size=s.heap.objs.size+1:=Ez ..;have v:bF ((range n.toNat).map λ(i:Nat)=>V.int (i:Int)) A.toList:=by
  obtain⟨z,g⟩:=a;refine NI (by rw[eI,Ey,Bz,z]) λj x y k l=>?_;rw[Bc]at l;obtain⟨t',rfl⟩:=g j y l;rw[Ab]at k;obtain⟨i,J,rfl⟩:=Bg.mp k;obtain⟨_,e⟩:=sL.mp J;rw[List.getElem_range]at e;subst e;refine⟨t',?_⟩;simp
 refine⟨.ref (s.heap.objs.size+1),fI H (s.heap.objs.size+1) _,?_,by show Value.ref _=_;rw[d],q _ (I.hok.fresh (Gb _))⟩;refine I.laid (t':=T) (λb o B=>r b o (sT _ B)) (Gb _) ⟨by rw[eI,Ey];exact gY (by simp[*]:n.toNat<=1000) (by decide),A.toList,c,v,?_⟩;have C:M.get? (s.heap.objs.size+1)=some (jN A c):=by rw[← d];exact L
 rw[C,toArray_toList]
end
section
open PyProof.Rows
theorem qS(H:∀ c∈sep.cps.toList,c < m):∀ d:List Str,(∀ z∈d,∀ c∈z.cps.toList,c < m)->∀ c∈(Str.join sep d).cps.toList,c < m
 |[],_=>λc hc=>by simp[Str.join,Str.empty]at hc
 |[x],h=>λc hc=>h x Aa c hc
 | x::y::r,h=>λc hc=>by
   have a:=qS H (y::r) λz b=>h z (Am _ b);have e:(Str.join sep (x::y::r)).cps.toList=x.cps.toList++sep.cps.toList++(Str.join sep (y::r)).cps.toList:=by
    show(x++sep++Str.join sep (y::r)).cps.toList=_;rw[Str.cps_append,Str.cps_append,toList_append,toList_append]
   rw[e]at hc;rcases Ac.mp hc with hc|hc;rcases Ac.mp hc with hc|hc;exact h x Aa c hc;exact H c hc;exact a c hc
def xT(H:∀c∈sep.cps.toList,c<m)(a:List Str)(h:∀z∈a,∀c∈z.cps.toList,c<m):∀c∈(Txt.join sep a).cps.toList,c<m:=by
 show ∀c∈(glued sep a).cps.toList,c<m;rw[StrLaws.glued_eq_join];exact qS H a h
def VS:∀c∈(ofString "abcdefghijklmnopqrstuvwxyz").cps.toList,c<128:=by decide
end
inductive D where
 |non|bl (b:Bool)|int (i:Int)|str (x:Str)|tup (l:List D)|lst (l:List D)|dic (ks vs:List D)
noncomputable instance:DecidableEq D:=λ_ _=>Classical.propDecidable _
noncomputable instance:Inhabited D:=⟨.non⟩
noncomputable def oN:Key->D
 |.inl i=>.int i
 |.inr x=>.str x
noncomputable def nL:Tk->D
 |.s x=>.str x
 |.p a b=>.tup [nL a,nL b]
def Jp:HO->List D->List V->Prop
 |.dK k,b,w=>b=k.map (λa=>oN a.1)/\w=k.map (·.2)
 |.dT k,b,w=>b=k.map (λa=>D.tup (a.1.map oN))/\w=k.map (·.2)
 |.dM k,b,w=>b=.non::k.map (λa=>nL a.1)/\w=k.map (·.2)
 |_,_,_=>False
mutual
inductive Rp(H:Hp):D->V->Prop
 |non:Rp H .non .non
 |bl (b:Bool):Rp H (.bl b) (.bl b)
 |int (i:Int):Rp H (.int i) (.int i)
 |str (x:Str):Rp H (.str x) (.str x)
 |tup {l:List D} {p:Addr} {xs:List V}:H p=some (.tup xs)->Rps H l xs->Rp H (.tup l) (.ref p)
 |lst {l:List D} {p:Addr} {xs:List V} {o:Obj}:H p=some (.frz o (.lst xs))->Rps H l xs->Rp H (.lst l) (.ref p)
 |dic {ks vs:List D} {p:Addr} {o:Obj} {u:HO} {ws:List V}:H p=some (.frz o u)->Jp u ks ws->Rps H vs ws->Rp H (.dic ks vs) (.ref p)
inductive Rps(H:Hp):List D->List V->Prop
 |nil:Rps H [] []
 |cons {d:D} {r:List D} {x:V} {xs:List V}:Rp H d x->Rps H r xs->Rps H (d::r) (x::xs)
end
structure Be(H H':Hp):Prop where
 tup:∀p xs,H p=some (.tup xs)->H' p=some (.tup xs)
 frz:∀p o u,H p=some (.frz o u)->H' p=some (.frz o u)
def Be.same(h:lX H a):Be H a:=⟨λp x e=>h p _ e,λp o u e=>h p _ e⟩
def Rp.mono(b:Be H c)(h:Rp H d x):Rp c d x:=
 Rp.rec (motive_1:=λd x _=>Rp c d x) (motive_2:=λl e _=>Rps c l e) .non .bl .int .str (λh _ i=>.tup (b.tup _ _ h) i) (λh _ i=>.lst (b.frz _ _ _ h) i) (λh k _ i=>.dic (b.frz _ _ _ h) k i) .nil (λ_ _ a i=>.cons a i) h
def Rps.ind{H:Hp}{P:∀l xs,Rps H l xs->Prop}(n:P [] [] .nil)(c:∀{d:D} {x:V} {l:List D} {xs:List V} (a:Rp H d x) (r:Rps H l xs),P l xs r->P (d::l) (x::xs) (.cons a r)):∀{l:List D} {xs:List V} (h:Rps H l xs),P l xs h:=by
 intro l xs h
 induction l generalizing xs with
 |nil=>cases h;exact n
 |cons d l i=>cases h with|cons a r=>exact c a r (i r)
theorem Rps.mono(b:Be H e)(h:Rps H l xs):Rps e l xs:=by
 induction h using Rps.ind with
 |n=>exact .nil
 |c a _ i=>exact .cons (a.mono b) i
theorem Rps.length{H:Hp}{l:List D}{xs:List V}(h:Rps H l xs):l.length=xs.length:=by
 induction h using Rps.ind with
 |n=>rfl
 |c _ _ i=>exact Cn (· + 1) i
def Rps.get{i:Nat}(h:Rps H l xs)(e:l[i]?=some d):∃x,xs[i]?=some x/\Rp H d x:=by
 induction h using Rps.ind generalizing i with
 |n=>cases e
 | c a _ j=>
   cases i with
   |zero=>obtain rfl:=Ap e;exact⟨_,rfl,a⟩
   |succ i=>exact j e
def Rps.append(h:Rps H l xs)(k:Rps H m y):Rps H (l++m) (xs++y):=by
 induction h using Rps.ind with
 |n=>exact k
 |c a _ i=>exact .cons a i
theorem Rps.take(n:Nat)(h:Rps H l xs):Rps H (l.take n) (xs.take n):=by
 induction h using Rps.ind generalizing n with
 |n=>cases n<;>exact .nil
 | c a _ i=>
   cases n with
   |zero=>exact .nil
   |succ n=>exact .cons a (i n)
theorem Rps.drop(n:Nat)(h:Rps H l xs):Rps H (l.drop n) (xs.drop n):=by
 induction h using Rps.ind generalizing n with
 |n=>cases n<;>exact .nil
 | c a r i=>
   cases n with
   |zero=>exact .cons a r
   |succ n=>exact i n
theorem Rps.set(i:Nat)(h:Rps H l xs)(q:Rp H d x):Rps H (l.set i d) (xs.set i x):=by
 induction h using Rps.ind generalizing i with
 |n=>exact .nil
 | c a r j=>
   cases i with
   |zero=>exact .cons q r
   |succ i=>exact .cons a (j i)
theorem Rps.eraseIdx(i:Nat)(h:Rps H l xs):Rps H (l.eraseIdx i) (xs.eraseIdx i):=by
 induction h using Rps.ind generalizing i with
 |n=>exact .nil
 | c a r j=>
   cases i with
   |zero=>exact r
   |succ i=>exact .cons a (j i)
theorem Rps.reverse(h:Rps H l xs):Rps H l.reverse xs.reverse:=by
 induction h using Rps.ind with
 |n=>exact .nil
 | c a _ i=>
   rw[reverse_cons,reverse_cons];exact i.append (.cons a .nil)
def NK{b:Type}{f:b->D}{g:b->V}(h:∀a,Rp H (f a) (g a))(l:List b):Rps H (l.map f) (l.map g):=by
 induction l with
 |nil=>exact .nil
 |cons a _ i=>exact .cons (h a) i
def lA(l:List Int):Rps H (l.map D.int) (l.map V.int):=NK .int l
def rX(l:List Str):Rps H (l.map D.str) (l.map V.str):=NK .str l
def xU{c:Type}{f:c->D}{g:c->V}{l:List c}(h:∀a x,Rp H (f a) x->x=g a)(r:Rps H (l.map f) xs):xs=l.map g:=by
 induction l generalizing xs with
 |nil=>cases r;rfl
 |cons a _ i=>cases r with|cons b t=>rw[i t,h a _ b];rfl
def Rps.ints_inv{ns:List Int}:Rps H (ns.map D.int) xs->xs=ns.map V.int:=xU λ_ _ r=>by cases r;rfl
def Rps.strs_inv{n:List Str}:Rps H (n.map D.str) xs->xs=n.map V.str:=xU λ_ _ r=>by cases r;rfl
inductive Md where
 |val|own|par|lent
 deriving DecidableEq
noncomputable def Md.mt:Md->Bool
 |.own|.par=>true
 |_=>false
structure Sl where
 m:Md
 d:D
abbrev Sg:=List (Option Sl)
def cM(H:Hp)(d:D)(p:Addr):Prop:=match d with
 |.lst l=>∃x,H p=some (.lst x)/\Rps H l x
 |.dic k v=>∃u w,H p=some u/\Jp u k w/\Rps H v w
 |_=>False
theorem cM.mono(h:cM H d p)(e:Be H g)(c:∀o,H p=some o->g p=some o):cM g d p:=by
 unfold cM at h ⊢;split at h;obtain⟨x,a,b⟩:=h;exact⟨x,c _ a,b.mono e⟩;obtain⟨u,w,a,b,f⟩:=h;exact⟨u,w,c _ a,b,f.mono e⟩
 lia
def cM.obj(h:cM H d p):∃o,H p=some o/\(∀xs,o≠.tup xs)/\∀ob u,o≠.frz ob u:=by
 unfold cM at h;split at h;obtain⟨xs,a,b⟩:=h;simp_all;obtain⟨u,w,a,b,c⟩:=h;refine⟨_,a,λ_ z=>?_,λ_ _ z=>?_⟩<;>(subst z;exact b)
 simp_all
def EF(H:Hp)(s:Sl)(v:V):Prop:=match s.m with
 |.val=>Rp H s.d v
 |_=>∃p,v=.ref p/\cM H s.d p
def dH(h:s.m≠.val):EF H s v↔∃p,v=.ref p/\cM H s.d p:=by
 obtain⟨m,d⟩:=s;cases m with
 |val=>simp_all
 |own|par|lent=>rfl
def AX(H:Hp)(d:D)(v:V):Prop:=Rp H d v\/∃p,v=.ref p/\cM H d p
def EF.vw(h:EF H s v):AX H s.d v:=by
 by_cases e:s.m=.val;obtain⟨m,d⟩:=s;cases e;exact .inl h;exact .inr ((dH e).mp h)
inductive Fq(H:Hp):List D->List V->Prop
 |nil:Fq H [] []
 |cons {d:D} {r:List D} {x:V} {xs:List V}:AX H d x->Fq H r xs->Fq H (d::r) (x::xs)
def iU(Z:Sg)(b:St)(a:Addr):Prop:=∃(i:Nat) (s:Sl),Z[i]?=some (some s)/\s.m.mt=true/\b[i]?=some (some (.ref a))
def CD(Z:Sg)(b:St)(a:Addr):Prop:=∃(i:Nat) (s:Sl),Z[i]?=some (some s)/\s.m≠.val/\b[i]?=some (some (.ref a))
def iU.nv(h:iU Z e a):CD Z e a:=by
 obtain⟨i,s,c,b,d⟩:=h;exact⟨i,s,c,λz=>(by rw[z]at b;cases b),d⟩
structure Gm where
 H₀:Hp
 pr:Addr->Prop
structure dX(Γ:Gm)(H:Hp)(Z:Sg)(σV:St):Prop where
 rel:∀(i:Nat) s,Z[i]?=some (some s)->∃v,σV[i]?=some (some v)/\EF H s v
 dis:∀(i j:Nat) s t p,i≠j->Z[i]?=some (some s)->Z[j]?=some (some t)->s.m.mt=true->t.m≠.val->σV[i]?=some (some (.ref p))->σV[j]?=some (some (.ref p))->False
 own:∀(i:Nat) s p,Z[i]?=some (some s)->s.m=.own->σV[i]?=some (some (.ref p))->Γ.H₀ p=none
 par:∀(i:Nat) s p,Z[i]?=some (some s)->s.m=.par->σV[i]?=some (some (.ref p))->Γ.pr p
 keep:∀a o,Γ.H₀ a=some o->¬Γ.pr a->H a=some o
 dom:∀a,H a=none->Γ.H₀ a=none
 len:Z.length=σV.length
structure hC(Z:Sg)(σV:St)(H:Hp)(σ':Sg)(σV':St)(H':Hp):Prop where
 fr:∀a o,H a=some o->¬iU Z σV a->H' a=some o
 dom:∀a,H' a=none->H a=none
 mu:∀a,iU σ' σV' a->iU Z σV a\/H a=none
 nv:∀a,CD σ' σV' a->CD Z σV a\/H a=none
 kp:∀(i:Nat) s,Z[i]?=some (some s)->∃s',σ'[i]?=some (some s')
 fix:∀(i:Nat) s,Z[i]?=some (some s)->(s.m=.par\/s.m=.lent)->∃s',σ'[i]?=some (some s')/\s'.m=s.m/\(s.m=.lent->s'.d=s.d)/\σV'[i]?=σV[i]?
 lt:∀(i:Nat) s',σ'[i]?=some (some s')->s'.m=.lent->∃s,Z[i]?=some (some s)/\s.m=.lent
def hC.refl:hC Z b H Z b H:=⟨λ_ _ h _=>h,λ_ h=>h,λ_ h=>.inl h,λ_ h=>.inl h,λi s h=>⟨s,h⟩,λi s h _=>⟨s,h,rfl,λ_=>rfl,rfl⟩,λi s h m=>⟨s,h,m⟩⟩
def hC.trans(a:hC Z v H x t B)(b:hC x t B w r A):hC Z v H w r A where
 fr:=λc o h n=>b.fr c o (a.fr c o h n) λz=>by
  rcases a.mu c z with q|q;exact n q
  lia
 dom:=λc h=>a.dom c (b.dom c h)
 mu:=λc h=>by
  rcases b.mu c h with q|q;exact a.mu c q;exact .inr (a.dom c q)
 nv:=λc h=>by
  rcases b.nv c h with q|q;exact a.nv c q;exact .inr (a.dom c q)
 kp:=λi s h=>by
  obtain⟨u,d⟩:=a.kp i s h;exact b.kp i u d
 fix:=λi s h y=>by
  obtain⟨u,d,e,f,g⟩:=a.fix i s h y;obtain⟨C,j,k,l,p⟩:=b.fix i u d (by simp_all)
  simp_all
 lt:=λi s h m=>by
  obtain⟨u,d,e⟩:=b.lt i s h m;exact a.lt i u d e
def dX.mutObj(ok:dX g H Z f)(h:CD Z f a):∃o,H a=some o/\(∀xs,o≠.tup xs)/\∀ob u,o≠.frz ob u:=by
 obtain⟨i,s,b,c,d⟩:=h;obtain⟨v,e,r⟩:=ok.rel i s b;rw[d]at e;cases e;obtain⟨p,e,q⟩:=(dH c).mp r;cases e;exact q.obj
def hC.ext(f:hC Z b H g c j)(ok:dX Γ H Z b):Be H j:=by
 refine⟨λp x h=>f.fr p _ h λz=>?_,λp o u h=>f.fr p _ h λz=>?_⟩;obtain⟨o,e,n,_⟩:=ok.mutObj z.nv;grind;obtain⟨o,e,_,n⟩:=ok.mutObj z.nv;grind
theorem EF.mono(r:EF H s v)(e:Be H h)(b:∀p o,v=.ref p->s.m≠.val->H p=some o->h p=some o):EF h s v:=by
 by_cases q:s.m=.val;obtain⟨m,d⟩:=s;cases q;exact Rp.mono e r;obtain⟨p,a,c⟩:=(dH q).mp r;exact(dH q).mpr ⟨p,a,c.mono e λo=>b p o a q⟩
theorem dX.same(ok:dX d H Z c)(h:lX H f):dX d f Z c:=
 ⟨λi s e=>by
  obtain⟨v,b,r⟩:=ok.rel i s e;exact⟨v,b,r.mono (.same h) λp o _ _ q=>h p o q⟩,ok.dis,ok.own,ok.par,λa o e n=>h a o (ok.keep a o e n),λa e=>ok.dom a (by
  cases q:H a with
  |none=>rfl
  |some o=>rw[h a o q]at e;lia),ok.len⟩
def VT(h:lX H b)(e:b a=none):H a=none:=by
 cases q:H a with
 |none=>rfl
 |some o=>rw[h a o q]at e;lia
def hC.same(h:lX H c):hC Z b H Z b c:=⟨λa o e _=>h a o e,λa e=>VT h e,λ_ h=>.inl h,λ_ h=>.inl h,λi s h=>⟨s,h⟩,λi s h _=>⟨s,h,rfl,λ_=>rfl,rfl⟩,λi s h m=>⟨s,h,m⟩⟩
inductive hJ where
 |val (d:D)|own (d:D)|slot (i:Nat)
def gN(b:Gm)(H:Hp)(Z:Sg)(a:St)(r:hJ)(v:V):Prop:=match r with
 |.val d=>Rp H d v
 |.own d=>∃p,v=.ref p/\cM H d p/\¬CD Z a p/\b.H₀ p=none
 |.slot i=>a[i]?=some (some v)/\∃s,Z[i]?=some (some s)
noncomputable def rd(Z:Sg):hJ->Option D
 |.val d|.own d=>some d
 | .slot i=>match Z[i]? with
   |some (some s)=>some s.d
   |_=>none
theorem gN.vw(ok:dX k H Z j)(h:gN k H Z j r v)(e:rd Z r=some d):AX H d v:=by
 cases r with
 |val l=>cases e;exact .inl h
 |own l=>cases e;obtain⟨p,a,b,_⟩:=h;exact .inr ⟨p,a,b⟩
 | slot i=>
   obtain⟨f,s,c⟩:=h;have g:some s.d=some d:=by
    have:rd Z (.slot i)=some s.d:=by show(match Z[i]? with|some (some s)=>some s.d|_=>none)=_;rw[c]
    simp_all
   cases g;obtain⟨w,a,b⟩:=ok.rel i s c;rw[f]at a;cases a;exact b.vw
def gN.step(ok:dX n H Z k)(h:gN n H Z k r v)(l:hC Z k H m k t):gN n t m k r v:=by
 cases r with
 |val d=>exact Rp.mono (l.ext ok) h
 | own d=>
   obtain⟨p,c,a,b,e⟩:=h;obtain⟨o,j,_⟩:=a.obj;refine⟨p,c,a.mono (l.ext ok) λo h=>l.fr p o h λz=>b z.nv,λz=>?_,e⟩;rcases l.nv p z with q|q;exact b q
   lia
 | slot i=>
   obtain⟨f,s,g⟩:=h;exact⟨f,l.kp i s g⟩
abbrev DE:=Sg->Option (hJ×Sg)
abbrev DT:=Sg->Option (Bool×Sg)
abbrev DA:=Sg->Option (List hJ×Sg)
inductive sS(Γ:Gm)(H:Hp)(Z:Sg)(σV:St):List hJ->List V->Prop
 |nil:sS Γ H Z σV [] []
 |cons {r:hJ} {rs:List hJ} {v:V} {vs:List V}:gN Γ H Z σV r v->sS Γ H Z σV rs vs->(∀d p,r=.own d->v=.ref p->∀(j:Nat) d',rs[j]?=some (.own d')->vs[j]? ≠ some (.ref p))->sS Γ H Z σV (r::rs) (v::vs)
def Fs(H:Hp)(r:hJ)(v:V):Prop:=∀d p,r=.own d->v=.ref p->H p=none
def fO:Fs H (.val d) v:=λ_ _ e=>nomatch e
def Fs.back(f:Fs c r v)(s:hC Z h H b a c):Fs H r v:=λd p e g=>s.dom p (f d p e g)
def AY(d:Gm)(r:DE):TE:=λa H Q=>∃Z,dX d H Z a/\∃c b,r Z=some (c,b) /\
 ∀v h,dX d h b a->gN d h b a c v->hC Z a H b a h->Fs H c v->Q v h
def Bk(h:PE X e t)(w:∀Z H Q,T Z H Q->t Z H Q):PE X e T:=λp s Z H Q I q=>h p s Z H Q I (w Z H Q q)
def Jq(h:PT X e t)(w:∀Z H Q,T Z H Q->t Z H Q):PT X e T:=λp s Z H Q I q=>h p s Z H Q I (w Z H Q q)
def NL(h:PW X e t)(w:∀Z H Q,T Z H Q->t Z H Q):PW X e T:=λa p s Z H Q I q=>h a p s Z H Q I (w Z H Q q)
def NM(h:PA X e t)(w:∀Z H Q,T Z H Q->t Z H Q):PA X e T:=λa p s Z H Q I q=>h a p s Z H Q I (w Z H Q q)
def CF(h:PS X e t)(w:∀D Z H,T D Z H->t D Z H):PS X e T:=λp s Z H D I q=>h p s Z H D I (w D Z H q)
def Hc(h:BB X e t)(w:∀D Z H,T D Z H->t D Z H):BB X e T:=λp s Z H D I q=>h p s Z H D I (w D Z H q)
structure GE(X:Cx)(e:Expr)(r:DE):Prop where
 to:∀Γ,PE X e (AY Γ r)
def CG(d:Gm)(r:DT):TT:=λa H Q=>∃Z,dX d H Z a/\∃b c,r Z=some (b,c)/\∀h,dX d h c a->hC Z a H c a h->Q b h
structure GT(X:Cx)(e:Expr)(r:DT):Prop where
 to:∀Γ,PT X e (CG Γ r)
structure GW(X:Cx)(e:Expr)(r:DT):Prop where
 to:∀Γ,PW X e (CG Γ r)
def GW.gt(h:GW X e r):GT X e r:=.mk λa=>(h.to a).pt
def VU(H:Hp)(r:List hJ)(v:List V):Prop:=∀(j:Nat) d p,r[j]?=some (.own d)->v[j]?=some (.ref p)->H p=none
def BW(c:Gm)(r:DA):TA:=λa H Q=>∃Z,dX c H Z a/\∃d b,r Z=some (d,b)/\∀v h,dX c h b a->sS c h b a d v->hC Z a H b a h->VU H d v->Q v h
structure GA(X:Cx)(es:List Expr)(r:DA):Prop where
 to:∀Γ,PA X es (BW Γ r)
noncomputable def aC(i:Nat):DE:=λZ=>match Z[i]? with
 |some (some s)=>some (if s.m=.val then .val s.d else .slot i,Z)
 |_=>none
def VW(h:PE X e (pY i)):GE X e (aC i):=.mk λl=>Bk h λf H Q z=>by
 obtain⟨Z,o,j,g,e,k⟩:=z;unfold aC at e;split at e;rename_i s b;cases e;obtain⟨v,a,r⟩:=o.rel i s b;refine⟨v,a,k v H o ?_ .refl (by split<;>exact λ_ _ e=>nomatch e)⟩;by_cases c:s.m=.val;obtain⟨m,d⟩:=s;cases c;exact r;rw[a0m c];exact⟨a,s,b⟩;cases e
noncomputable def dC(d:D):DE:=λZ=>some (.val d,Z)
def KL(h:PE X e (tC v))(a:∀H,Rp H d v):GE X e (dC d):=.mk λf=>Bk h λb H Q z=>by
 obtain⟨Z,o,r,c,e,k⟩:=z;cases e;exact k v H o (a H) .refl fO
def VX:GE X (.Constant (.int i) j pos) (dC (.int i)):=KL Ss λ_=>.int i
def VY:GE X (.Constant (.bool i) j pos) (dC (.bl i)):=KL Su λ_=>.bl i
def VZ:GE X (.Constant (.str i) j pos) (dC (.str i)):=KL MF λ_=>.str i
def uR(H h:Hp)(r:hJ)(v:V):Prop:=match r with
 |.val d=>Rp h d v
 |.own d=>∃p,v=.ref p/\H p=none/\cM h d p
 |.slot _=>False
def uR.frh(h:uR H f r v):Fs H r v:=λd p a b=>by
 subst a b;obtain⟨q,e,c,_⟩:=h
 lia
def uR.res(h:uR H j r v)(ok:dX g H Z f):gN g j Z f r v:=by
 cases r with
 |val d=>exact h
 | own d=>
   obtain⟨p,a,b,c⟩:=h;refine⟨p,a,c,λz=>?_,ok.dom p b⟩;obtain⟨o,e,_⟩:=ok.mutObj z
   lia
 |slot i=>exact h.elim
abbrev F1:=D->Option hJ
abbrev F2:=D->D->Option hJ
abbrev FN:=List D->Option hJ
def He(a:V->Hp->VK->Prop)(f:F1):Prop:=∀H d x Q r,AX H d x->f d=some r->(∀v h,lX H h->uR H h r v->Q v h)->a x H Q
def rY(c:R2)(f:F2):Prop:=∀H a b x y Q r,AX H a x->AX H b y->f a b=some r->(∀v h,lX H h->uR H h r v->Q v h)->c x y H Q
def Dx(a:List V->Hp->VK->Prop)(f:FN):Prop:=∀H d b Q r,Fq H d b->f d=some r->(∀v h,lX H h->uR H h r v->Q v h)->a b H Q
def CV(f:F1)(a:DE):DE:=λZ=>(a Z).bind λx=>(rd x.2 x.1).bind λd=>(f d).bind λr=>some (r,x.2)
def aI(f:F2)(a b:DE):DE:=λZ=>(a Z).bind λx=>(b x.2).bind λy=>(rd y.2 x.1).bind λd=>(rd y.2 y.1).bind λe=>(f d e).bind λr=>some (r,y.2)
def aA{c d:Type}{o:Option c}{f:c->Option d}{b:d}(h:o.bind f=some b):∃a,o=some a/\f a=some b:=by
 cases o with
 |none=>cases h
 |some a=>exact⟨a,rfl,h⟩
def lB(p:rY l f)(h:AY J (aI f m n) I H Q):EC l (AY J m) (AY J n) I H Q:=by
 obtain⟨Z,O,N,M,e,k⟩:=h;obtain⟨⟨x,c⟩,q,e⟩:=aA e;obtain⟨⟨y,i⟩,s,e⟩:=aA e;obtain⟨t,u,e⟩:=aA e;obtain⟨w,z,e⟩:=aA e;obtain⟨r,A,e⟩:=aA e;cases e;refine⟨Z,O,x,c,q,λB G d C g _=>⟨c,d,y,i,s,λD E a F b _=>?_⟩⟩;have j:=C.step d b;refine p E t w B D Q _ (j.vw a u) (F.vw a z) A λv T L o=>?_;exact k v T (a.same L) (o.res a) ((g.trans b).trans (.same L)) (o.frh.back (g.trans b))
def NN(j:He d f)(h:AY y (CV f g) t H Q):MQ d (AY y g) t H Q:=by
 obtain⟨Z,O,z,w,e,k⟩:=h;obtain⟨⟨x,c⟩,l,e⟩:=aA e;obtain⟨m,n,e⟩:=aA e;obtain⟨r,o,e⟩:=aA e;cases e;refine⟨Z,O,x,c,l,λp q a s b _=>?_⟩;refine j q m p Q _ (s.vw a n) o λv A u i=>?_;exact k v A (a.same u) (i.res a) (b.trans (.same u)) (i.frh.back b)
def qT(e:Ar X (binaryOp c) d)(g:rY d f)(H:GE X a i)(hb:GE X b r):GE X (.BinOp a c b pos) (aI f i r):=
 .mk λh=>Bk (Th e (H.to h) (hb.to h)) λ_ _ _=>lB g
def Wa(d:Jg X (unaryOp b) c)(e:He c f)(h:GE X a r):GE X (.UnaryOp b a pos) (CV f r):=
 .mk λg=>Bk (Ti d (h.to g)) λ_ _ _=>NN e
def uT(e:Ar X (compareOp c) d)(g:rY d f)(j:GE X a i)(hb:GE X b r)(H:behindInMarks c b=false):GE X (.Compare a [c] [b] pos) (aI f i r):=
 .mk λh=>Bk (TB e (j.to h) (hb.to h) H) λ_ _ _=>lB g
def cT(r:DE):DT:=λZ=>(r Z).bind λx=>(rd x.2 x.1).bind λd=>match d with
 |.bl b=>some (b,x.2)
 |_=>none
def NO(h:cT r Z=some (b,g)):∃x,r Z=some (x,g)/\rd g x=some (.bl b):=by
 obtain⟨⟨x,a⟩,c,e⟩:=aA h;obtain⟨d,f,e⟩:=aA e;split at e
 ·simp_all
 ·cases e
def Io(h:AX H (.bl b) v):v=.bl b:=by
 rcases h with h|⟨p,_,h⟩;cases h;rfl;exact h.elim
def NP(h:CG l (cT r) g H Q):AY l r g H (λx j=>∃k,x=.bl k/\Q k j):=by
 obtain⟨Z,o,b,i,e,k⟩:=h;obtain⟨x,c,d⟩:=NO e;refine⟨Z,o,x,i,c,λv j a f s _=>⟨b,Io (f.vw a d),k j a s⟩⟩
def oO(e:Ar X (compareOp c) d)(g:rY d f)(l:GE X a j)(hb:GE X b r)(k:behindInMarks c b=false):GT X (.Compare a [c] [b] pos) (cT (aI f j r)):=
 .mk λi=>Jq (TF e (l.to i) (hb.to i) k) λZ H Q h=>lB g (NP h)
def Wb(h:GE X e r)(b:∀a,isTrue e X.env a=(do let v ← a;standAt e.pos;holding [v] (truthy v)):=by intro _;rfl):GT X e (cT r):=
 .mk λc=>Jq (Sy (h.to c) b) λ_ _ _ h=>NP h
noncomputable def Jr:D->Option Bool
 |.non=>some false
 |.bl b=>some b
 |.int i=>some (i != 0)
 |.str x=>if x.length<=sizeLine then some ((x.length:Int) != 0)else none
 |.lst l|.tup l=>some (!l.isEmpty)
 |_=>none
def Hf(r:DE):DT:=λZ=>(r Z).bind λx=>(rd x.2 x.1).bind λd=>(Jr d).bind λb=>some (b,x.2)
def eP(h:AX H (.tup l) v):∃ p xs,v=.ref p/\H p=some (.tup xs)/\Rps H l xs:=by
 rcases h with h|⟨p,_,h⟩
 ·cases h with
  |tup h r=>exact⟨_,_,rfl,h,r⟩
 ·exact h.elim
def fB(h:AX H (.lst l) v):∃ p xs,v=.ref p/\cY H p=some (true,xs)/\Rps H l xs:=by
 rcases h with h|⟨p,e,xs,h,r⟩
 ·cases h with
  |lst h r=>exact⟨_,_,rfl,nH h,r⟩
 ·exact⟨p,xs,e,Nk h,r⟩
def cG(h:AX H (.int i) v):v=.int i:=by
 rcases h with h|⟨p,_,h⟩;cases h;rfl;exact h.elim
def iS(h:AX H (.str i) v):v=.str i:=by
 rcases h with h|⟨p,_,h⟩;cases h;rfl;exact h.elim
def NQ(h:AX H .non v):v=.non:=by
 rcases h with h|⟨p,_,h⟩;cases h;rfl;exact h.elim
noncomputable def Ei:D->Option (Bool×List D)
 |.lst l=>some (true,l)
 |.tup l=>some (false,l)
 |_=>none
def KN(h:AX H d v)(e:Ei d=some (b,l)):∃p xs,v=.ref p/\cY H p=some (b,xs)/\Rps H l xs:=by
 cases d with
 |lst a=>cases e;exact fB h
 |tup a=>cases e;obtain⟨p,xs,c,f,g⟩:=eP h;exact⟨p,xs,c,bO f,g⟩
 |_=>cases e
def Wc(J:GE X a I)(o:∀f,isTrue a X.env f=(do let v ← f;standAt a.pos;holding [v] (truthy v))):GT X a (Hf I):=.mk λE=>Jq (TM (J.to E) o) λB H Q L=>by
 obtain⟨Z,O,b,C,e,k⟩:=L;obtain⟨⟨x,q⟩,r,e⟩:=aA e;obtain⟨d,s,e⟩:=aA e;obtain⟨t,g,e⟩:=aA e;cases e;refine⟨Z,O,x,_,r,λv M h u G _=>⟨b,?_,k M h G⟩⟩;have y:=u.vw h s;cases d with
 |non=>cases g;rw[NQ y];rfl
 |bl c=>cases g;rw[Io y];rfl
 |int i=>cases g;rw[cG y];rfl
 | str z=>
   rw[iS y];have j:(if z.length<=sizeLine then some ((z.length:Int) != 0)else none)=some b:=g;split at j;rename_i w;cases j;exact⟨w,rfl⟩
   simp_all
 | lst l=>
   cases g;obtain⟨p,A,rfl,m,n⟩:=fB y;refine .inl ⟨A,gU m,?_⟩;have:=n.length;cases l<;>cases A<;>simp_all
 | tup l=>
   cases g;obtain⟨p,A,rfl,m,n⟩:=eP y;refine .inr (.inl ⟨A,eO (bO m),?_⟩);have:=n.length;cases l<;>cases A<;>simp_all
 |dic T N=>cases g
noncomputable def DR(t u:DT):DT:=λZ=>(t Z).bind λx=>if x.1=true then u x.2 else some (false,x.2)
noncomputable def Hg(t u:DT):DT:=λZ=>(t Z).bind λx=>if x.1=true then some (true,x.2)else u x.2
noncomputable def Hi(t:DT):DT:=λZ=>(t Z).bind λx=>some (!x.1,x.2)
def Wd(h:GT X a t):GW X (.BoolOp .And [a] pos) t:=.mk λb=>SE (h.to b)
def We(h:GT X a t):GW X (.BoolOp .Or [a] pos) t:=.mk λb=>SF (h.to b)
def Wf{t:DT}{q:List Expr}(s:GT X a T)(hb:GW X (.BoolOp .And (b::q) pos) t):GW X (.BoolOp .And (a::b::q) pos) (DR T t):=.mk λp=>NL (SH (s.to p) (hb.to p)) λr H Q z=>by
 obtain⟨Z,O,c,o,e,k⟩:=z;obtain⟨⟨x,d⟩,j,e⟩:=aA e;refine⟨Z,O,x,d,j,λn f g=>?_⟩;split at e;rename_i l;rw[gV l];exact⟨d,f,c,o,e,λm h i=>k m h (g.trans i)⟩
 simp_all
def Wg{t:DT}{q:List Expr}(s:GT X a T)(hb:GW X (.BoolOp .Or (b::q) pos) t):GW X (.BoolOp .Or (a::b::q) pos) (Hg T t):=.mk λp=>NL (SI (s.to p) (hb.to p)) λr H Q z=>by
 obtain⟨Z,O,c,o,e,k⟩:=z;obtain⟨⟨x,d⟩,j,e⟩:=aA e;refine⟨Z,O,x,d,j,λn f g=>?_⟩;split at e
 ·simp_all
 ·rename_i l;rw[a0m l];exact⟨d,f,c,o,e,λm h i=>k m h (g.trans i)⟩
def Wi(m:GT X a t):GT X (.UnaryOp .Not a pos) (Hi t):=.mk λl=>Jq (SJ (m.to l)) λi H Q z=>by
 obtain⟨Z,o,c,j,e,k⟩:=z;obtain⟨⟨x,f⟩,g,e⟩:=aA e;cases e;exact⟨Z,o,x,_,g,λh b d=>k h b d⟩
def Hj(t u:DE):DE:=λZ=>(cT t Z).bind λx=>if x.1=true then u x.2 else some (.val (.bl false),x.2)
def Wj(h:GE X a r):GE X (.BoolOp o [a] pos) r:=.mk λb=>SN (h.to b)
def Wk{z:List Expr}(E:GE X a C)(hb:GE X (.BoolOp .And (b::z) pos) B):GE X (.BoolOp .And (a::b::z) pos) (Hj C B):=.mk λw=>Bk (SO (E.to w) (hb.to w)) λA H Q G=>by
 obtain⟨Z,O,c,u,e,k⟩:=G;obtain⟨⟨x,g⟩,l,e⟩:=aA e;obtain⟨y,m,n⟩:=NO l;refine⟨Z,O,y,g,m,λv o d p f _=>⟨x,Io (p.vw d n),?_⟩⟩;split at e;rename_i h;rw[gV h];exact⟨g,d,c,u,e,λq r i s j t=>k q r i s (f.trans j) (t.back f)⟩;rename_i h;rw[a0m h];cases e;exact k _ o d (.bl false) f fO
noncomputable def Hk(t:DT)(a r:DE):DE:=λZ=>(t Z).bind λx=>if x.1=true then a x.2 else r x.2
def Wl(hc:GT X c T)(y:GE X a w)(hb:GE X b v):GE X (.IfExp c a b pos) (Hk T w v):=.mk λt=>Bk (SR (hc.to t) (y.to t) (hb.to t)) λu H Q z=>by
 obtain⟨Z,O,r,s,e,k⟩:=z;obtain⟨⟨x,f⟩,p,e⟩:=aA e;refine⟨Z,O,x,f,p,λq i d=>?_⟩;split at e;rename_i j;rw[gV j];exact⟨f,i,r,s,e,λl m g n h o=>k l m g n (d.trans h) (o.back d)⟩;rename_i j;rw[a0m j];exact⟨f,i,r,s,e,λl m g n h o=>k l m g n (d.trans h) (o.back d)⟩
def Fz:HO->Prop
 |.lst _|.dK _|.dT _|.dM _=>True
 |_=>False
def xV{Z:St}(I:eD X A Z H s)(h:H p=some u)(d:Fz u):∃ o,eD X A Z (fI H p (.frz o u)) s:=by
 have E:∀b w,H b=some (.tup w)->b≠p:=λb w e z=>by subst z;rw[h]at e;cases e;exact d
 have i:∀b o x,H b=some (.frz o x)->b≠p:=λb o x e z=>by subst z;rw[h]at e;cases e;exact d
 have L:∀b x,H b=some (.own x)->b≠p:=λb x e z=>by subst z;rw[h]at e;cases e;exact d
 have M:∀b x,H b=some (.tbl x)->b≠p:=λb x e z=>by subst z;rw[h]at e;cases e;exact d
 have N:∀b,H b=none->b≠p:=λb e z=>by lia
 obtain⟨o,j⟩:∃ o,s.heap.get? p=some o:=by
  have:=I.hok p u h;have l:=this.lt;cases q:s.heap.get? p with
  |some o=>exact⟨o,rfl⟩
  | none=>
    cases u with
    |lst w=>obtain⟨_,_,_,_,e⟩:=this;rw[q]at e;cases e
    |dK B|dT B|dM B=>obtain⟨_,_,_,_,O,_,_,e,_⟩:=this;rw[q]at e;cases e
    |_=>exact d.elim
 have C:∀a x,cC X.prog X.w H s.heap a x->cC X.prog X.w (fI H p (.frz o u)) s.heap a x:=λa x k=>
  k.stay (λ_ _ _ e=>e) (λb e=>by rw[aG (L b _ e)];exact e) λb w e=>by rw[aG (E b _ e)];exact e
 refine⟨o,{I with base:=?_,free:=?_,freeC:=?_,pin:=?_,hok:=?_}⟩
 ·exact⟨I.base.keep,I.base.slot,λb O q n r=>by
    have:=I.base.free b O q n r;rw[aG (N b this)];exact this,I.base.there,λb w e=>by
    have:=I.base.tups b w e;rw[aG (E b _ this)];exact this,λb O x e=>by
    have:=I.base.frzs b O x e;rw[aG (i b _ _ this)];exact this,λb J e=>by
    obtain⟨m,f⟩:=I.base.tbls b J e;exact⟨m,by rw[aG (M b _ f)];exact f⟩⟩
 ·rw[aG (N _ I.free)];exact I.free
 ·intro x c e;rw[aG (N _ (I.freeC x c e))];exact I.freeC x c e
 ·intro q t;obtain⟨v,g,y⟩:=I.pin q t;exact⟨v,by rw[aG (N _ g)];exact g,y⟩
 ·intro a x e;by_cases G:a=p;subst G;rw[aJ]at e;cases e;exact⟨j,C a u (I.hok a u h)⟩;rw[aG G]at e;exact C a x (I.hok a x e)
def Wm(t:TE):TE:=λZ H Q=>t Z H λv h=>Q v h\/∃p u,v=.ref p/\h p=some u/\Fz u/\∀o,Q v (fI h p (.frz o u))
def Wn(h:PE X e t):PE X e (Wm t):=λk s Z H Q I q=>
 thn (h k s Z H _ I q) λu l z=>by
  obtain⟨v,d,b,c,a⟩:=z;rcases a with a|⟨p,x,j,f,g,a⟩;exact⟨v,d,b,c,a⟩;obtain⟨o,i⟩:=xV b f g;exact⟨v,_,i,c,a o⟩
def NR(h:cM H d p):∃ u,H p=some u/\Fz u/\∀ o f,Be H f->f p=some (.frz o u)->Rp f d (.ref p):=by
 unfold cM at h;split at h;obtain⟨g,b,a⟩:=h;exact⟨_,b,True.intro,λo f x e=>.lst e (a.mono x)⟩
 ·obtain⟨u,w,b,a,c⟩:=h;refine⟨u,b,?_,λo f x e=>.dic e a (c.mono x)⟩;cases u with
  |dK _|dT _|dM _=>exact True.intro
  |_=>exact a.elim
 simp_all
def NS(h:H p=some u)(a:Fz u):Be H (fI H p (.frz o u)):=
 ⟨λb c e=>by rw[aG (λz=>by subst z;rw[h]at e;cases e;exact a)];exact e,λb O x e=>by rw[aG (λz=>by subst z;rw[h]at e;cases e;exact a)];exact e⟩
noncomputable def NT(Z:Sg):hJ->Option (D×Sg)
 |.val d|.own d=>some (d,Z)
 | .slot i=>match Z[i]? with
   |some (some s)=>if s.m=.own then some (s.d,Z.set i (some ⟨.val,s.d⟩))else if s.m=.val then some (s.d,Z)else none
   |_=>none
def kN(r:DE):DE:=λZ=>(r Z).bind λx=>(NT x.2 x.1).bind λy=>some (.val y.1,y.2)
def aT{a:Type}{l:List a}{x y:a}(h:(l.set i x)[j]?=some y):(j=i/\y=x/\i<l.length)\/(j≠i/\l[j]?=some y):=by
 rw[List.getElem?_set]at h;split at h
 ·simp_all
 ·rename_i e;exact .inr ⟨λz=>e z.symm,h⟩
def Wo(h:GE X e r):GE X e (kN r):=.mk λΓ=>Bk (Wn (h.to Γ)) λσV H Q Z1=>by
 obtain⟨Z,ok,res,σ',e,k⟩:=Z1;obtain⟨⟨x,O⟩,U,e⟩:=aA e;obtain⟨⟨d,L⟩,C,e⟩:=aA e;cases e;refine⟨Z,ok,x,O,U,λv S b A c V=>?_⟩;dsimp only at C;cases x with
 |val d'=>cases C;exact .inl (k v S b A c fO)
 | own d'=>
   cases C;obtain⟨p,rfl,M,W,Y⟩:=A;obtain⟨u,F,G,N⟩:=NR M;have hn:H p=none:=V _ p rfl rfl;refine .inr ⟨p,u,rfl,F,G,λo=>?_⟩;have x:=NS (o:=o) F G;refine k _ _ ⟨λi s e=>?_,b.dis,b.own,b.par,λa ob e n=>?_,λa e=>?_,b.len⟩ (N o _ x aJ) ⟨λa ob e n=>?_,λa e=>?_,c.mu,c.nv,c.kp,c.fix,c.lt⟩ fO;obtain⟨w,D,B⟩:=b.rel i s e;refine⟨w,D,B.mono x λq ob π m C=>?_⟩;rw[aG (λz=>W ⟨i,s,e,m,by rw[D,π,z]⟩)];exact C;rw[aG (λz=>by subst z;rw[Y]at e;cases e)];exact b.keep a ob e n;by_cases z:a=p;subst z;rw[aJ]at e;cases e;rw[aG z]at e;exact b.dom a e;rw[aG (λz=>by subst z;rw[hn]at e;cases e)];exact c.fr a ob e n;by_cases z:a=p;subst z;rw[aJ]at e;cases e;rw[aG z]at e;exact c.dom a e
 | slot i=>
   obtain⟨A,s,hs⟩:=A;have g:(match O[i]? with|some (some s)=>if s.m=.own then some (s.d,O.set i (some ⟨.val,s.d⟩))else if s.m=.val then some (s.d,O)else none|_=>none)=some (d,L):=C;rw[hs]at g;dsimp only at g;obtain⟨w,D,B⟩:=b.rel i s hs;rw[A]at D;cases D;split at g
   ·rename_i hm;cases g;obtain⟨m,d⟩:=s;cases hm;obtain⟨p,rfl,M⟩:=(dH (s:=⟨.own,d⟩) (λz=>nomatch z)).mp B;obtain⟨u,F,G,N⟩:=NR M;refine .inr ⟨p,u,rfl,F,G,λo=>?_⟩;have x:=NS (o:=o) F G;have T:=N o _ x aJ;have σ:i < O.length:=(sL.mp hs).1;have pm:iU O σV p:=⟨i,_,hs,rfl,A⟩;have sub:∀ (j:Nat) t,(O.set i (some ⟨.val,d⟩))[j]? = some (some t)->t.m≠.val->j≠i/\O[j]? = some (some t):=λj t f hm=>by
     rcases aT f with⟨_,z,_⟩|z;cases z;exact absurd rfl hm;exact z
    have I:∀t:Sl,t.m.mt=true->t.m≠.val:=λt h z=>by rw[z]at h;cases h
    refine k _ _ ⟨λj t f=>?_,λj l t E q n f el m m'=>?_,λj t q f m=>?_,λj t q f m=>?_,λa ob e n=>?_,λa e=>?_,?_⟩ T
     ⟨λa ob e n=>?_,λa e=>?_,λa ⟨j,t,f,m,P⟩=>?_,λa ⟨j,t,f,m,P⟩=>?_,λj t f=>?_,λj t f m=>?_,λj t f m=>c.lt j t (sub j t f (by rw[m];exact λz=>nomatch z)).2 m⟩ fO
    ·rcases aT f with⟨z,K,_⟩|⟨z,K⟩;cases K;rw[z];exact⟨_,A,T⟩;obtain⟨w,D,R⟩:=b.rel j t K;refine⟨w,D,R.mono x λq ob π m C=>?_⟩;rw[aG (λy=>b.dis i j _ t p (hR z) hs K rfl m A (by rw[D,π,y]))];exact C
    ·exact b.dis j l t E q n (sub j t f (I t m)).2 (sub l E el m').2 m m'
    ·exact b.own j t q (sub j t f (by rw[m];exact λz=>nomatch z)).2 m
    ·exact b.par j t q (sub j t f (by rw[m];exact λz=>nomatch z)).2 m
    ·have hp:=b.own i _ p hs rfl A;rw[aG (λz=>by subst z;rw[hp]at e;cases e)];exact b.keep a ob e n
    ·by_cases z:a=p;subst z;rw[aJ]at e;cases e;rw[aG z]at e;exact b.dom a e
    ·rw[Ds];exact b.len
    ·by_cases z:a=p;subst z;rcases c.mu a pm with y|y;exact absurd y n;rw[e]at y;cases y;rw[aG z];exact c.fr a ob e n
    ·by_cases z:a=p;subst z;rw[aJ]at e;cases e;rw[aG z]at e;exact c.dom a e
    ·exact c.mu a ⟨j,t,(sub j t f (I t m)).2,m,P⟩
    ·exact c.nv a ⟨j,t,(sub j t f m).2,m,P⟩
    ·obtain⟨E,J⟩:=c.kp j t f;by_cases z:j=i;subst z;exact⟨_,by rw[Bo σ]⟩;exact⟨E,by rw[sU (hR z)];exact J⟩
    ·obtain⟨E,J,h⟩:=c.fix j t f m;refine⟨E,?_,h⟩;rw[sU (λz=>?_)];exact J;subst z;rw[hs]at J;cases J;rcases m with m|m;have:=h.1;rw[m]at this;cases this;have:=h.1;rw[m]at this;cases this
   ·split at g;rename_i hm;cases g;obtain⟨m,d⟩:=s;cases hm;exact .inl (k v S b B c fO);cases g
noncomputable def aF:DA:=λZ=>some ([],Z)
noncomputable def aB(r:DE)(a:DA):DA:=λZ=>(r Z).bind λx=>(a x.2).bind λy=>some (x.1::y.1,y.2)
def Gk(Z:Sg):List hJ->Option (List D)
 |[]=>some []
 |r::a=>(rd Z r).bind λd=>(Gk Z a).bind λb=>some (d::b)
noncomputable def vals:List hJ->Option (List D)
 |[]=>some []
 |.val d::r=>(vals r).bind λa=>some (d::a)
 |_=>none
def rZ(ok:dX g H Z c)(h:sS g H Z c r v)(e:Gk Z r=some f):Fq H f v:=by
 induction h generalizing f with
 |nil=>cases e;exact .nil
 | cons h _ _ i=>
   obtain⟨d,a,e⟩:=aA e;obtain⟨f,b,e⟩:=aA e;cases e;exact .cons (h.vw ok a) (i b)
def lC(h:sS g H Z c f v)(e:vals f=some b):Rps H b v:=by
 induction h generalizing b with
 |nil=>cases e;exact .nil
 | @cons r _ _ _ h _ _ i=>
   cases r with
   | val d=>
     obtain⟨b,a,e⟩:=aA e;cases e;exact .cons h (i a)
   |_=>cases e
def Wq:GA X [] aF:=.mk λc=>NM Jh λa H Q z=>by
 obtain⟨Z,o,r,b,e,k⟩:=z;cases e;exact k [] H o .nil .refl (λj d p e=>by simp)
def Wr(ha:GE X e r)(n:GA X G N)(hs:starEach (e::G) X.env=(false,eval e X.env)::starEach G X.env:=by kernel_rfl):GA X (e::G) (aB r N):=.mk λI=>NM (rM (ha.to I) (n.to I) hs) λJ H Q Z1=>by
 obtain⟨Z,U,O,L,e,k⟩:=Z1;obtain⟨⟨x,a⟩,s,e⟩:=aA e;obtain⟨⟨Y,t⟩,u,e⟩:=aA e;cases e;refine⟨Z,U,x,a,s,λv C b l c w=>⟨a,b,Y,_,u,λM y i z f m=>?_⟩⟩;refine k (v::M) y i (.cons (l.step b f) z λd p g h j d' A B=>?_) (c.trans f) λj d p g h=>?_
 ·subst g h;obtain⟨q,D,T,_⟩:=l;obtain⟨o,E,_⟩:=T.obj;have:=m j d' p A B
  lia
 ·cases j with
  |zero=>simp at g h;subst g h;exact w d p rfl rfl
  |succ j=>exact c.dom p (m j d p (by simp_all) (by simp_all))
def hB(f:FN)(a:DA):DE:=λZ=>(a Z).bind λx=>(Gk x.2 x.1).bind λd=>(f d).bind λr=>some (r,x.2)
def oP(i:Dx c f)(h:∀s,PE X e (Gf c (BW s d))):GE X e (hB f d):=.mk λs=>Bk (h s) λu H Q B=>by
 obtain⟨Z,O,z,w,e,k⟩:=B;obtain⟨⟨x,j⟩,l,e⟩:=aA e;obtain⟨A,m,e⟩:=aA e;obtain⟨r,n,e⟩:=aA e;cases e;refine⟨Z,O,x,_,l,λy o a p b q=>?_⟩;refine i o A y Q _ (rZ a p m) n λv C t g=>?_;exact k v C (a.same t) (g.res a) (b.trans (.same t)) (g.frh.back b)
def xW(a:DA):DE:=λZ=>(a Z).bind λx=>(vals x.1).bind λd=>if d.length<=sizeLine then some (.val (.tup d),x.2)else none
def iB(a:DA):DE:=λZ=>(a Z).bind λx=>(vals x.1).bind λd=>if d.length<=sizeLine then some (.own (.lst d),x.2)else none
def Ws(h:GA X E u):GE X (.Tuple E f pos) (xW u):=.mk λt=>Bk (TZ (h.to t)) λq H Q z=>by
 obtain⟨Z,O,w,r,e,k⟩:=z;obtain⟨⟨x,g⟩,i,e⟩:=aA e;obtain⟨y,j,e⟩:=aA e;split at e;rename_i l;cases e;refine⟨Z,O,x,_,i,λv c a m b o=>?_⟩;have d:=lC m j;refine⟨by rw[← d.length];exact l,λp n=>?_⟩;have s:lX c (fI c p (.tup v)):=aP n;exact k _ _ (a.same s) (.tup aJ (d.mono (.same s))) (b.trans (.same s)) fO;cases e
def Wt(h:GA X E u):GE X (.List E pos) (iB u):=.mk λt=>Bk (MX (h.to t)) λq H Q z=>by
 obtain⟨Z,O,w,r,e,k⟩:=z;obtain⟨⟨x,i⟩,j,e⟩:=aA e;obtain⟨y,l,e⟩:=aA e;split at e;rename_i m;cases e;refine⟨Z,O,x,_,j,λv c a n b o=>?_⟩;have d:=lC n l;refine⟨by rw[← d.length];exact m,λp f=>?_⟩;have s:lX c (fI c p (.lst v)):=aP f;have g:uR c (fI c p (.lst v)) (.own (.lst y)) (.ref p):=⟨p,rfl,f,v,aJ,d.mono (.same s)⟩;exact k _ _ (a.same s) (g.res a) (b.trans (.same s)) (g.frh.back b);cases e
def dX.ownAt{i:Nat}(ok:dX d H Z b)(h:Z[i]?=some (some s))(c:s.m≠.val):∃p,b[i]?=some (some (.ref p))/\cM H s.d p:=by
 obtain⟨v,e,r⟩:=ok.rel i s h;obtain⟨p,rfl,a⟩:=(dH c).mp r;exact⟨p,e,a⟩
def gO{m:Md}(h:m.mt=true):m≠.val:=λz=>by rw[z]at h;cases h
def cM.ext(h:cM H d p):Be H (fI H p o'):=by
 obtain⟨o,e,N,n⟩:=h.obj;exact⟨λb a q=>by rw[aG (λz=>by grind)];exact q,λb O x q=>by rw[aG (λz=>by grind)];exact q⟩
def dX.write(ok:dX U H Z M)(N:Z[i]? = some (some s))(O:s.m.mt=true)(h:M[i]? = some (some (.ref p)))(Y:cM (fI H p o') d' p) :
  dX U (fI H p o') (Z.set i (some ⟨s.m,d'⟩)) M/\hC Z M H (Z.set i (some ⟨s.m,d'⟩)) M (fI H p o'):=by
 obtain⟨J,v,o⟩:=ok.ownAt N (gO O);rw[h]at v;cases v;have x:Be H (fI H p o'):=o.ext;have A:i<Z.length:=(sL.mp N).1;have L:∀(j:Nat) t,(Z.set i (some ⟨s.m,d'⟩))[j]?=some (some t)->∃T,Z[j]?=some (some T)/\T.m=t.m:=λj t b=>by
  rcases aT b with⟨z,g,_⟩|⟨z,g⟩;cases g;subst z;exact⟨s,N,rfl⟩;exact⟨t,g,rfl⟩
 refine⟨⟨λj t b=>?_,λj l t T q n b C m m'=>?_,λj t q b m=>?_,λj t q b m=>?_,λa Q e n=>?_,λa e=>?_,by rw[Ds];exact ok.len⟩,
  ⟨λa Q e n=>?_,λa e=>?_,λa ⟨j,t,b,m,r⟩=>?_,λa ⟨j,t,b,m,r⟩=>?_,λj t b=>?_,λj t b m=>?_,λj t b m=>?_⟩⟩
 ·rcases aT b with⟨z,g,_⟩|⟨z,g⟩;cases g;subst z;exact⟨_,h,(dH (s:=⟨s.m,d'⟩) (gO O)).mpr ⟨p,rfl,Y⟩⟩;obtain⟨w,B,u⟩:=ok.rel j t g;refine⟨w,B,u.mono x λq Q D m E=>?_⟩;rw[aG (λy=>ok.dis i j _ t p (hR z) N g O m h (by rw[B,D,y]))];exact E
 ·obtain⟨c,d,f⟩:=L j t b;obtain⟨F,G,I⟩:=L l T C;exact ok.dis j l c F q n d G (by rw[f];exact m) (by rw[I];exact m')
 ·obtain⟨c,d,f⟩:=L j t b;exact ok.own j c q d (f.trans m)
 ·obtain⟨c,d,f⟩:=L j t b;exact ok.par j c q d (f.trans m)
 ·have:a≠p:=λz=>by
   subst z;cases k:s.m with
   |own=>rw[ok.own i s a N k h]at e;cases e
   |par=>exact n (ok.par i s a N k h)
   |val|lent=>rw[k]at O;cases O
  rw[aG this];exact ok.keep a Q e n
 ·by_cases z:a=p;subst z;rw[aJ]at e;cases e;rw[aG z]at e;exact ok.dom a e
 ·rw[aG (λz=>n ⟨i,s,N,O,by rw[z];exact h⟩)];exact e
 ·by_cases z:a=p;subst z;rw[aJ]at e;cases e;rw[aG z]at e;exact e
 ·obtain⟨c,d,f⟩:=L j t b;exact .inl ⟨j,c,d,by rw[f];exact m,r⟩
 ·obtain⟨c,d,f⟩:=L j t b;exact .inl ⟨j,c,d,by rw[f];exact m,r⟩
 ·by_cases z:j=i;subst z;exact⟨_,by rw[Bo A]⟩;exact⟨t,by rw[sU (hR z)];exact b⟩
 ·by_cases z:j=i;subst z;rw[N]at b;cases b;exact⟨⟨s.m,d'⟩,by rw[Bo A],rfl,λq=>(by rw[q]at O;cases O),rfl⟩;exact⟨t,by rw[sU (hR z)];exact b,rfl,λ_=>rfl,rfl⟩
 ·obtain⟨c,d,f⟩:=L j t b;exact⟨c,d,f.trans m⟩
abbrev FM:=D->List D->Option (D×D)
def Gn(r:V->List V->Hp->VK->Prop)(f:FM):Prop:=∀H d p b a Q c e,cM H d p->Rps H b a->f d b=some (c,e)->(∀o v,cM (fI H p o) c p->Rp (fI H p o) e v->Q v (fI H p o))->r (.ref p) a H Q
def NU(r:V->List V->Hp->VK->Prop)(f:FM):Prop:=∀H d p b a Q c e,cM H d p->Fq H b a->f d b=some (c,e)->(∀o v,cM (fI H p o) c p->Rp (fI H p o) e v->Q v (fI H p o))->r (.ref p) a H Q
def CH(f:FM)(i:Nat)(d:List D)(Z:Sg):Option (hJ×Sg):=match Z[i]? with
 |some (some s)=>if s.m.mt=true then(f s.d d).bind λy=>some (.val y.2,Z.set i (some ⟨s.m,y.1⟩))else none
 |_=>none
noncomputable def EG(T:String):D->Bool
 |.lst _=>T=="list"
 |_=>false
def Ft(T:String)(i:Nat)(Z:Sg):Bool:=match Z[i]? with
 |some (some s)=>decide (s.m≠.val)&&EG T s.d
 |_=>false
def eM(T:String)(i:Nat)(f:FM)(a:DA):DE:=λZ=>if Ft T i Z=true then(a Z).bind λx=>(vals x.1).bind λd=>CH f i d x.2 else none
def pZ(T:String)(i:Nat)(f:FM)(a:DA):DE:=λZ=>if Ft T i Z=true then(a Z).bind λx=>(Gk x.2 x.1).bind λd=>CH f i d x.2 else none
def uU(T:String)(i:Nat)(f:FM):DE:=λZ=>if Ft T i Z=true then CH f i [] Z else none
def KO(h:cM H d p)(e:EG T d=true):Ig K T (.ref p) H:=by
 unfold cM at h;split at h;obtain⟨x,a,_⟩:=h;exact .inl ⟨by simpa[EG]using e,x,Bd.of a⟩;cases e
 simp_all
set_option tactic.hygienic true in
def fT(h:CH f i j Z=some (res,c)):∃s d e,Z[i]?=some (some s)/\s.m.mt=true/\f s.d j=some (d,e)/\res=.val e/\c=Z.set i (some ⟨s.m,d⟩):=by
 unfold CH at h;split at h;rename_i s H;split at h;rename_i g;obtain⟨⟨d,e⟩,a,b⟩:=aA h;cases b;exact⟨s,d,e,H,g,a,rfl,rfl⟩;cases h;cases h
def nK(h:Ft T i Z=true):∃s,Z[i]?=some (some s)/\s.m≠.val/\EG T s.d=true:=by
 unfold Ft at h;split at h
 ·simp_all
 ·cases h
def sA(u:Gn r f)(h:∀d,PE X e (Ef K T r (pY i) (BW d ra))):GE X e (eM T i f ra):=.mk λd=>Bk (h d) λM H Q Z1=>by
 obtain⟨Z,O,Y,N,e,k⟩:=Z1;unfold eM at e;split at e;rename_i hn;obtain⟨⟨x,c⟩,w,e⟩:=aA e;obtain⟨ds,z,e⟩:=aA e;obtain⟨s,d',y,J,L,A,rfl,rfl⟩:=fT e;obtain⟨E,g,j,l⟩:=nK hn;obtain⟨p,I,ow⟩:=O.ownAt g j;refine⟨_,I,KO ow l,Z,O,x,c,w,λU B a C m F=>?_⟩;obtain⟨G,b,n⟩:=a.ownAt J (gO L);rw[I]at b;cases b;refine u B s.d p ds U Q d' y n (lC C z) A λo' v o D=>?_;obtain⟨q,t⟩:=a.write J L I o;exact k v _ q D (m.trans t) fO;cases e
def Wu(u:NU r f)(h:∀d,PE X e (Ef K T r (pY i) (BW d ra))):GE X e (pZ T i f ra):=.mk λd=>Bk (h d) λM H Q Z1=>by
 obtain⟨Z,O,Y,N,e,k⟩:=Z1;unfold pZ at e;split at e;rename_i hn;obtain⟨⟨x,c⟩,w,e⟩:=aA e;obtain⟨ds,z,e⟩:=aA e;obtain⟨s,d',y,J,L,A,rfl,rfl⟩:=fT e;obtain⟨E,g,j,l⟩:=nK hn;obtain⟨p,I,ow⟩:=O.ownAt g j;refine⟨_,I,KO ow l,Z,O,x,c,w,λU B a C m F=>?_⟩;obtain⟨G,b,n⟩:=a.ownAt J (gO L);rw[I]at b;cases b;refine u B s.d p ds U Q d' y n (rZ a C z) A λo' v o D=>?_;obtain⟨q,t⟩:=a.write J L I o;exact k v _ q D (m.trans t) fO;cases e
def Wv(o:Gn r f)(h:PE X e (Kv K T r (pY i))):GE X e (uU T i f):=.mk λL=>Bk h λz H Q J=>by
 obtain⟨Z,O,B,A,e,k⟩:=J;unfold uU at e;split at e;rename_i G;obtain⟨s,I,y,d,x,q,rfl,rfl⟩:=fT e;obtain⟨u,b,c,g⟩:=nK G;obtain⟨p,E,C⟩:=O.ownAt b c;refine⟨_,E,KO C g,?_⟩;obtain⟨w,a,j⟩:=O.ownAt d (gO x);rw[E]at a;cases a;refine o H s.d p [] [] Q I y j .nil q λM v l t=>?_;obtain⟨m,n⟩:=O.write d x E l;exact k v _ m t n fO;cases e
inductive Ct where
 |nx (Z:Sg)|rt (r:hJ) (Z:Sg)|bk (Z:Sg)|ct (Z:Sg)|ex (c:Str) (f:Option (Str×D)) (Z:Sg)
abbrev DS:=Sg->Option Ct
structure Ex where
 ok:Hp->Str->Option (Str×D)->Value->Option Addr->Prop
 to:St->XK
noncomputable def Ex.no:Ex:=⟨λ_ _ _ _ _=>False,λ_ _ _ _=>False⟩
def Hl(g:Gm)(E:Ex)(Z:Sg)(e:St)(H:Hp)(o:Ct)(D:AQ):Prop:=match o with
 |.nx b=>∀a h,dX g h b a->hC Z e H b a h->D.nx a h
 |.rt r b=>∀v a h,dX g h b a->gN g h b a r v->hC Z e H b a h->D.rt v h
 |.bk b=>∀a h,dX g h b a->hC Z e H b a h->D.bk a h
 |.ct b=>∀a h,dX g h b a->hC Z e H b a h->D.ct a h
 |.ex c f b=>∀x d a h,dX g h b a->E.ok h c f x d->hC Z e H b a h->E.to a x d h
def Bb(b:Gm)(E:Ex)(r:DS):TS:=λD a H=>∃Z,dX b H Z a/\∃o,r Z=some o/\Hl b E Z a H o D
structure GS(E:Ex)(X:Cx)(s:Stmt)(r:DS):Prop where
 to:∀Γ,PS X s (Bb Γ E r)
structure CI(E:Ex)(X:Cx)(s:List Stmt)(r:DS):Prop where
 to:∀Γ,BB X s (Bb Γ E r)
def Hl.after{D:AQ}(h:Hl m E Z l H o D)(k:hC Z l H b a e):Hl m E b a e o D:=by
 cases o with
 |nx i=>exact λg j O s=>h g j O (k.trans s)
 |rt r i=>exact λv g j O q s=>h v g j O q (k.trans s)
 |bk i | ct i=>exact λg j O s=>h g j O (k.trans s)
 |ex c f i=>exact λx d g j O q s=>h x d g j O q (k.trans s)
noncomputable def dZ:DS:=λZ=>some (.nx Z)
noncomputable def aW(a b:DS):DS:=λZ=>(a Z).bind λo=>match o with
 |.nx c=>b c
 |o=>some o
noncomputable def fP(r:DE):DS:=λZ=>(r Z).bind λx=>some (.nx x.2)
noncomputable def fQ(r:DE):DS:=λZ=>(r Z).bind λx=>some (.rt x.1 x.2)
noncomputable def jW(c:DT)(a b:DS):DS:=λZ=>(c Z).bind λx=>if x.1=true then a x.2 else b x.2
def Ww:CI E X [] dZ:=.mk λb=>Hc MG λD a H z=>by
 obtain⟨Z,O,o,e,k⟩:=z;cases e;exact k a H O .refl
def NW(h:GS E X s a):CI E X [s] a:=.mk λb=>kB (h.to b)
def Wx{D:AQ}(h:Bb s E (aW a b) D q H):CU (Bb s E a) (Bb s E b) D q H:=by
 obtain⟨Z,O,o,e,k⟩:=h;obtain⟨j,m,e⟩:=aA e;refine⟨Z,O,j,m,?_⟩;cases j with
 |nx d=>exact λl n g i=>⟨d,g,o,e,k.after i⟩
 |rt r p | bk p | ct p | ex c f p=>cases e;exact k
def NX{e:List Stmt}(h:GS E X s a)(c:CI E X e b):CI E X (s::e) (aW a b):=.mk λd=>Hc (eZ (h.to d) (c.to d)) λ_ _ _=>Wx
def Wy(d:GE X e r)(l:swapsWith e none pos.line X.env=pure false:=by rfl):GS E X (.Expr e pos) (fP r):=.mk λj=>CF (xF (d.to j) l) λD i H z=>by
 obtain⟨Z,O,o,e,k⟩:=z;obtain⟨⟨x,a⟩,f,e⟩:=aA e;cases e;exact⟨Z,O,x,a,f,λv g b h c _=>k i g b c⟩
def Wz(d:GE X e r):GS E X (.Return (some e) pos) (fQ r):=.mk λj=>CF (MH (d.to j)) λD i H z=>by
 obtain⟨Z,O,o,e,k⟩:=z;obtain⟨⟨x,a⟩,f,e⟩:=aA e;cases e;exact⟨Z,O,x,a,f,λv g b h c _=>k v i g b h c⟩
def WA(hc:GT X c t)(q:CI E X l a)(hb:CI E X m b):GS E X (.If c l m pos) (jW t a b):=.mk λn=>CF (Kj (hc.to n) (q.to n) (hb.to n)) λD p H z=>by
 obtain⟨Z,O,o,e,k⟩:=z;obtain⟨⟨x,d⟩,i,e⟩:=aA e;refine⟨Z,O,x,d,i,λj f g=>?_⟩;split at e;rename_i h;rw[gV h];exact⟨d,f,o,e,k.after g⟩;rename_i h;rw[a0m h];exact⟨d,f,o,e,k.after g⟩
noncomputable def eR(Z:Sg)(i:Nat):Bool:=match Z[i]? with
 |some none=>true
 |some (some s)=>decide (s.m=.val)||decide (s.m=.own)
 |none=>false
def NY(h:eR Z i=true):i<Z.length:=by
 unfold eR at h;split at h;rename_i e;exact(sL.mp e).1;rename_i e;exact(sL.mp e).1;cases h
def WB(h:eR Z i=true)(H:Z[i]?=some (some s)):s.m=.val\/s.m=.own:=by
 unfold eR at h
 simp_all
def dX.put(ok:dX x H Z u)(p:eR Z i=true)(r:Rp H d v):dX x H (Z.set i (some ⟨.val,d⟩)) (u.set i (some v)) where
 rel:=λj t c=>by
  rcases aT c with⟨z,a,_⟩|⟨z,a⟩;cases a;subst z;exact⟨v,by rw[Bo (by rw[← ok.len];simp_all)],r⟩;obtain⟨w,h,f⟩:=ok.rel j t a;exact⟨w,by rw[sU (hR z)];exact h,f⟩
 dis:=λj l t k q n c o m M b e=>by
  rcases aT c with⟨z,a,_⟩|⟨z,a⟩;cases a;cases m;rcases aT o with⟨y,g,_⟩|⟨y,g⟩
  ·lia
  ·rw[sU (hR z)]at b;rw[sU (hR y)]at e;exact ok.dis j l t k q n a g m M b e
 own:=λj t q c m b=>by
  rcases aT c with⟨z,a,_⟩|⟨z,a⟩
  ·simp_all
  ·rw[sU (hR z)]at b;exact ok.own j t q a m b
 par:=λj t q c m b=>by
  rcases aT c with⟨z,a,_⟩|⟨z,a⟩
  ·simp_all
  ·rw[sU (hR z)]at b;exact ok.par j t q a m b
 keep:=ok.keep
 dom:=ok.dom
 len:=by rw[Ds,Ds];exact ok.len
def hC.put(x:hC B y E Z A H)(n:eR Z i=true)(m:Md)(C:m=.val\/m=.own/\∀ p,v=.ref p->E p=none):hC B y E (Z.set i (some ⟨m,d⟩)) (A.set i (some v)) H:=by
 have b:m≠.lent:=by lia
 have w:=NY n;have o:∀t,Z[i]?=some (some t)->t.m≠.par/\t.m≠.lent:=λt e=>by
  rcases WB n e with z|z<;>(lia)
 refine⟨x.fr,x.dom,λa ⟨j,t,f,M,g⟩=>?_,λa ⟨j,t,f,N,g⟩=>?_,λj t f=>?_,λj t f h=>?_,λj t f h=>?_⟩
 ·rcases aT f with⟨z,c,_⟩ | ⟨z,c⟩
  ·cases c;subst z;rcases C with rfl|⟨_,q⟩;cases M;have:=sL.mp g
   simp_all
  ·rw[sU (hR z)]at g;exact x.mu a ⟨j,t,c,M,g⟩
 ·rcases aT f with⟨z,c,_⟩ | ⟨z,c⟩
  ·cases c;subst z;rcases C with rfl|⟨_,q⟩;exact absurd rfl N;have:=sL.mp g
   simp_all
  ·rw[sU (hR z)]at g;exact x.nv a ⟨j,t,c,N,g⟩
 ·obtain⟨k,l⟩:=x.kp j t f;by_cases z:j=i
  ·simp_all
  ·exact⟨k,by rw[sU (hR z)];exact l⟩
 ·obtain⟨k,l,r,s,u⟩:=x.fix j t f h;have z:j≠i:=λz=>by grind
  exact⟨k,by rw[sU (hR z)];exact l,r,s,by rw[sU (hR z)];exact u⟩
 ·rcases aT f with⟨z,c,_⟩|⟨z,c⟩;cases c;exact absurd h b;exact x.lt j t c h
def dX.putOwn(ok:dX x H Z u)(r:eR Z i=true)(O:cM H d p)(A:¬ CD Z u p)(B:x.H₀ p=none):dX x H (Z.set i (some ⟨.own,d⟩)) (u.set i (some (.ref p))) where
 rel:=λj t e=>by
  rcases aT e with⟨z,a,_⟩|⟨z,a⟩;cases a;subst z;exact⟨.ref p,by rw[Bo (by rw[← ok.len];simp_all)],p,rfl,O⟩;obtain⟨w,s,g⟩:=ok.rel j t a;exact⟨w,by rw[sU (hR z)];exact s,g⟩
 dis:=λj l t h q n e k m M c b=>by
  have o:i<u.length:=by rw[← ok.len];exact NY r
  rcases aT e with⟨z,a,_⟩|⟨z,a⟩
  ·subst z;rw[Bo o]at c;cases c;rcases aT k with⟨y,f,_⟩|⟨y,f⟩
   ·simp_all
   ·rw[sU (hR y)]at b;exact A ⟨l,h,f,M,b⟩
  ·rw[sU (hR z)]at c;rcases aT k with⟨y,f,_⟩|⟨y,f⟩;subst y;rw[Bo o]at b;cases b;exact A ⟨j,t,a,gO m,c⟩;rw[sU (hR y)]at b;exact ok.dis j l t h q n a f m M c b
 own:=λj t q e m c=>by
  rcases aT e with⟨z,a,_⟩|⟨z,a⟩
  ·subst z;rw[Bo (by rw[← ok.len];simp_all)]at c
   lia
  ·rw[sU (hR z)]at c;exact ok.own j t q a m c
 par:=λj t q e m c=>by
  rcases aT e with⟨z,a,_⟩|⟨z,a⟩
  ·lia
  ·rw[sU (hR z)]at c;exact ok.par j t q a m c
 keep:=ok.keep
 dom:=ok.dom
 len:=by rw[Ds,Ds];exact ok.len
def Js(i:Nat)(r:hJ)(Z:Sg):Option Sg:=match r with
 |.val d=>if eR Z i=true then some (Z.set i (some ⟨.val,d⟩))else none
 |.own d=>if eR Z i=true then some (Z.set i (some ⟨.own,d⟩))else none
 |.slot _=>none
def bC(i:Nat)(r:DE):DS:=λZ=>(r Z).bind λx=>(Js i x.1 x.2).bind λa=>some (.nx a)
def NZ{D:AQ}(h:Bb A E (bC i r) D z H):AY A r z H (λx n=>D.nx (z.set i (some x)) n):=by
 obtain⟨Z,O,o,e,k⟩:=h;obtain⟨⟨x,a⟩,s,e⟩:=aA e;obtain⟨c,m,e⟩:=aA e;cases e;refine⟨Z,O,x,a,s,λv n f q g t=>?_⟩;cases x with
 | val d=>
   have b:(if eR a i=true then some (a.set i (some ⟨.val,d⟩))else none)=some c:=m;split at b;rename_i l;cases b;exact k _ _ (f.put l q) (g.put l .val (.inl rfl))
   simp_all
 | own d=>
   have b:(if eR a i=true then some (a.set i (some ⟨.own,d⟩))else none)=some c:=m;split at b;rename_i l;cases b;obtain⟨p,rfl,u,w,y⟩:=q;exact k _ _ (f.putOwn l u w y) (g.put l .own (.inr ⟨rfl,λp e=>t _ p rfl e⟩))
   simp_all
 |slot j=>cases m
def WC(h:∀a,PS X s (EB (AY a r) (gM i))):GS E X s (bC i r):=.mk λa=>CF (h a) λ_ _ _ h=>NZ h
noncomputable def jZ(x:Str):List D:=x.cps.toList.map λc=>.str ⟨#[c]⟩
def uV(x:Str):Rps H (jZ x) (fA x):=by
 unfold jZ fA
 induction x.cps.toList with
 |nil=>exact .nil
 |cons a r b=>exact .cons (.str _) b
abbrev DG:=D->Sg->Option Sg
abbrev Ip:=List D->Sg->Option Sg
def Dy(own:List Nat)(g:TG)(G:DG):Prop:=∀j H b a c Z f d v h Q,dX j H Z f->hC b a c Z f H->Rp H d v->G d Z=some h ->
 (∀e,dX j H h e->hC b a c h e H->e.length=f.length->(∀i,i∉own->e[i]?=f[i]? /\ h[i]?=Z[i]?)->Q e H)->g v f H Q
def Jt(own:List Nat)(g:Fm)(G:Ip):Prop:=∀h H b a c Z e j v f Q,dX h H Z e->hC b a c Z e H->Rps H j v->G j Z=some f ->
 (∀d,dX h H f d->hC b a c f d H->d.length=e.length->(∀i,i∉own->d[i]?=e[i]? /\ f[i]?=Z[i]?)->Q d H)->g v e H Q
def gX(i:Nat):DG:=λd Z=>if eR Z i=true then some (Z.set i (some ⟨.val,d⟩))else none
noncomputable def eN:Ip:=λd Z=>if d.isEmpty then some Z else none
noncomputable def aL(g:DG)(b:Ip):Ip:=λc Z=>match c with
 |d::r=>(g d Z).bind λa=>b r a
 |[]=>none
def dI(n:Nat)(a:Ip):DG:=λd Z=>match d with
 |.tup l=>if l.length=n then a l Z else none
 |.str z=>if z.length=n then a (jZ z) Z else none
 |_=>none
def bI(h:i∈own):Dy own (gM i) (gX i):=by
 intro n H c a f Z g d v l Q o s r e k;unfold gX at e;split at e
 ·rename_i b;cases e;refine k _ (o.put b r) (s.put b .val (.inl rfl)) (by simp) λj m=>?_;have:i≠j:=λz=>m (by simp_all)
  simp_all
 ·cases e
def fZ:Jt own Fn eN:=by
 intro g H b a c Z d h v f Q o s r e k;cases r with
 |nil=>cases e;exact⟨rfl,k _ o s rfl λ_ _=>⟨rfl,rfl⟩⟩
 |cons _ _=>cases e
def aV(E:Dy own g G)(v:Jt own p c):Jt own (nY g p) (aL G c):=by
 intro A H d b q Z y J I z Q O B r e k;cases r with
 |nil=>cases e
 | cons a t=>
   obtain⟨f,w,e⟩:=aA e;refine⟨_,_,rfl,E A H d b q Z y _ _ f _ O B a w λh l m C s=>?_⟩;refine v A H d b q f h _ _ z _ l m t e λj n o L u=>?_;exact k j n o (L.trans C) λi x=>⟨(u i x).1.trans (s i x).1,(u i x).2.trans (s i x).2⟩
def iY(h:Jt own i a):Dy own (oM K n i) (dI n a):=by
 intro t H c b j Z s d v q Q O u r e k;cases d with
 | tup l=>
   have f:(if l.length=n then a l Z else none)=some q:=e;split at f;rename_i g;obtain⟨p,x,rfl,o,m⟩:=eP (.inl r);exact⟨x,bO o,by rw[← m.length];exact g,h t H c b j Z s l x q Q O u m f k⟩
   simp_all
 | str z=>
   have f:(if z.length=n then a (jZ z) Z else none)=some q:=e;split at f;rename_i g;cases r;exact⟨g,h t H c b j Z s _ _ q Q O u (uV z) f k⟩
   simp_all
 |_=>cases e
noncomputable def EH(g:DG)(r:DE):DS:=λZ=>(r Z).bind λx=>match x.1 with
 |.val d=>(g d x.2).bind λa=>some (.nx a)
 |_=>none
def Oa(n:Dy own g G)(h:∀w,PS X y (EB (AY w r) g)):GS E X y (EH G r):=.mk λw=>CF (h w) λD u H z=>by
 obtain⟨Z,O,o,e,k⟩:=z;obtain⟨⟨x,a⟩,p,e⟩:=aA e;refine⟨Z,O,x,a,p,λv m c q f t=>?_⟩;cases x with
 | val d=>
   obtain⟨i,s,e⟩:=aA e;cases e;exact n w m Z u H a u d v i _ c f q s λb j l _ _=>k b m j l
 |own d|slot d=>cases e
def Iq(i j:Nat)(a:DA):DS:=λZ=>(a Z).bind λx=>(vals x.1).bind λb=>match b with
 |[d,e]=>if eR x.2 i=true/\eR x.2 j=true/\i≠j then some (.nx ((x.2.set i (some ⟨.val,d⟩)).set j (some ⟨.val,e⟩)))else none
 |_=>none
set_option tactic.hygienic true in
def WD(h:∀ z,PS X B (MJ i j (BW z p))):GS E X B (Iq i j p):=.mk λz=>CF (h z) λD A H C=>by
 obtain⟨Z,O,o,e,k⟩:=C;obtain⟨⟨x,c⟩,q,e⟩:=aA e;obtain⟨I,r,e⟩:=aA e;refine⟨Z,O,x,c,q,λG v l s m w=>?_⟩;have u:=lC s r;split at e
 ·split at e
  ·rename_i d y g;cases e;cases u with
   | cons a t=>cases t with
     | cons b t=>cases t with
       | nil=>
         refine⟨_,_,rfl,?_⟩;have n:=l.put g.1 a;have f:eR (c.set i (some ⟨.val,d⟩)) j=true:=by
          unfold eR;rw[sU g.2.2];exact g.2.1
         exact k _ _ (n.put f b) ((m.put g.1 .val (.inl rfl)).put f .val (.inl rfl))
  ·cases e
 ·cases e
def lend(i:Nat)(Z:Sg):Sg:=match Z[i]? with
 |some (some s)=>if s.m.mt=true then Z.set i (some ⟨.lent,s.d⟩)else Z
 |_=>Z
def Dz(i:Nat)(a Z:Sg):Sg:=match a[i]?,Z[i]? with
 |some (some b),some (some s)=>if b.m.mt=true then Z.set i (some ⟨b.m,s.d⟩)else Z
 |_,_=>Z
def lendO(l:Option Nat)(Z:Sg):Sg:=match l with
 |some i=>lend i Z
 |none=>Z
def uC(l:Option Nat)(a Z:Sg):Sg:=match l with
 |some i=>Dz i a Z
 |none=>Z
def sC(h:Z[i]?=some (some s))(H:s.m.mt=true):lend i Z=Z.set i (some ⟨.lent,s.d⟩):=by
 unfold lend;simp_all
def xY(h:∀s,Z[i]?=some (some s)->s.m.mt=false):lend i Z=Z:=by
 unfold lend;split
 ·simp_all
 rfl
theorem dX.lend(ok:dX u H Z k):dX u H (lend i Z) k:=by
 by_cases f:∃s,Z[i]?=some (some s)/\s.m.mt=true
 ·obtain⟨s,d,r⟩:=f;rw[sC d r];obtain⟨p,E,O⟩:=ok.ownAt d (gO r);have B:∀ (j:Nat) t,(Z.set i (some ⟨.lent,s.d⟩))[j]? = some (some t)->(j=i/\t=⟨.lent,s.d⟩)\/(j≠i/\Z[j]? = some (some t)):=λj t a=>by
   rcases aT a with⟨z,g,_⟩|z;cases g;exact .inl ⟨z,rfl⟩;exact .inr z
  refine⟨λj t a=>?_,λj l t e q n a h m M b c=>?_,λj t q a m b=>?_,λj t q a m b=>?_,ok.keep,ok.dom,by rw[Ds];exact ok.len⟩;rcases B j t a with⟨rfl,rfl⟩|⟨_,z⟩;exact⟨_,E,p,rfl,O⟩;exact ok.rel j t z;rcases B j t a with⟨rfl,rfl⟩|⟨_,z⟩;cases m;rcases B l e h with⟨rfl,rfl⟩|⟨_,y⟩;exact ok.dis j l t s q n z d m (gO r) b c;exact ok.dis j l t e q n z y m M b c;rcases B j t a with⟨rfl,rfl⟩|⟨_,z⟩;cases m;exact ok.own j t q z m b;rcases B j t a with⟨rfl,rfl⟩|⟨_,z⟩;cases m;exact ok.par j t q z m b
 ·rw[xY λs d=>by grind];exact ok
set_option tactic.hygienic true in
def WE(ok:dX Γ H1 d σV)(c:dX Γ H2 σ2 σV2)(st:hC (lend i d) σV H1 σ2 σV2 H2):dX Γ H2 (Dz i d σ2) σV2/\hC d σV H1 (Dz i d σ2) σV2 H2:=by
 by_cases π:∃s,d[i]?=some (some s)/\s.m.mt=true
 ·obtain⟨s,hs,hm⟩:=π;have U:i < d.length:=(sL.mp hs).1;rw[sC hs hm]at st;have I:(d.set i (some ⟨.lent,s.d⟩))[i]? = some (some ⟨.lent,s.d⟩):=by rw[Bo U]
  obtain⟨s2,H,V,d2,P⟩:=st.fix i _ I (.inr rfl);have A:s2.m=.lent:=V;have B:i<σ2.length:=(sL.mp H).1;have J:Dz i d σ2=σ2.set i (some ⟨s.m,s2.d⟩):=by unfold Dz;rw[hs,H];simp only[hm,if_true]
  rw[J];obtain⟨p,ep,ow⟩:=ok.ownAt hs (gO hm);have f:σV2[i]?=some (some (.ref p)):=P.trans ep;obtain⟨p',Q,K⟩:=c.ownAt H (by rw[A];exact λz=>nomatch z);rw[f]at Q;cases Q;have C:∀(j:Nat) t,j≠i->σ2[j]?=some (some t)->t.m=.lent->σV2[j]? ≠ some (some (.ref p)):=λj t hj b L e=>by
   obtain⟨D,x,E⟩:=st.lt j t b L;rw[sU (hR hj)]at x;have W:(d.set i (some ⟨.lent,s.d⟩))[j]?=some (some D):=by rw[sU (hR hj)];exact x
   obtain⟨_,_,_,_,X⟩:=st.fix j D W (.inr E);rw[X]at e;exact ok.dis i j s D p (hR hj) hs x hm (by rw[E];exact λz=>nomatch z) ep e
  have r:∀ (j:Nat) t,j≠i->σ2[j]? = some (some t)->t.m≠.val->σV2[j]? ≠ some (some (.ref p)):=λj t hj b L e=>by
   by_cases R:t.m=.lent;exact C j t hj b R e;have M:t.m.mt=true:=by
    cases q:t.m with
    |val=>exact absurd q L
    |own|par=>rfl
    |lent=>exact absurd q R
   exact c.dis j i t s2 p hj b H M (by rw[A];exact λz=>nomatch z) e f
  have O:∀(j:Nat) t,(σ2.set i (some ⟨s.m,s2.d⟩))[j]?=some (some t)->(j=i/\t=⟨s.m,s2.d⟩)\/(j≠i/\σ2[j]?=some (some t)):=λj t b=>by
   rcases aT b with⟨z,v,_⟩|z;cases v;exact .inl ⟨z,rfl⟩;exact .inr z
  have sub:∀a,iU (d.set i (some ⟨.lent,s.d⟩)) σV a->iU d σV a:=λa Z1=>by
   obtain⟨j,t,b,m,k⟩:=Z1;rcases aT b with⟨z,v,_⟩|⟨z,v⟩;cases v;cases m;exact⟨j,t,v,m,k⟩
  have F:∀a,CD (d.set i (some ⟨.lent,s.d⟩)) σV a->CD d σV a:=λa Z1=>by
   obtain⟨j,t,b,m,k⟩:=Z1;rcases aT b with⟨z,v,_⟩|⟨z,v⟩;subst z;exact⟨j,s,hs,gO hm,k⟩;exact⟨j,t,v,m,k⟩
  constructor
  ·refine⟨λj t b=>?_,λj l t w q n b S m m' g u=>?_,λj t q b m g=>?_,λj t q b m g=>?_,c.keep,c.dom,by rw[Ds];exact c.len⟩;rcases O j t b with⟨rfl,rfl⟩|⟨_,z⟩;exact⟨_,f,(dH (s:=⟨s.m,s2.d⟩) (gO hm)).mpr ⟨p,rfl,K⟩⟩;exact c.rel j t z
   ·rcases O j t b with⟨rfl,rfl⟩|⟨zn,z⟩;rw[f]at g;have g:=Ap (Ap g);cases g;rcases O l w S with⟨rfl,rfl⟩|⟨T,y⟩;exact n rfl;exact r l w T y m' u;rcases O l w S with⟨rfl,rfl⟩|⟨T,y⟩;rw[f]at u;have u:=Ap (Ap u);cases u;exact r j t zn z (gO m) g;exact c.dis j l t w q n z y m m' g u
   ·rcases O j t b with⟨rfl,rfl⟩|⟨_,z⟩;rw[f]at g;have g:=Ap (Ap g);cases g;exact ok.own j s p hs m ep;exact c.own j t q z m g
   ·rcases O j t b with⟨rfl,rfl⟩|⟨_,z⟩;rw[f]at g;have g:=Ap (Ap g);cases g;exact ok.par j s p hs m ep;exact c.par j t q z m g
  ·refine⟨λa o e n=>st.fr a o e λz=>n (sub a z),st.dom,λa ⟨j,t,b,m,k⟩=>?_,λa ⟨j,t,b,m,k⟩=>?_,λj t b=>?_,λj t b m=>?_,λj t b m=>?_⟩;rcases O j t b with⟨rfl,rfl⟩|⟨_,z⟩;rw[f]at k;have k:=Ap (Ap k);cases k;exact .inl ⟨j,s,hs,hm,ep⟩;rcases st.mu a ⟨j,t,z,m,k⟩with y|y;exact .inl (sub a y);exact .inr y;rcases O j t b with⟨rfl,rfl⟩|⟨_,z⟩;rw[f]at k;have k:=Ap (Ap k);cases k;exact .inl ⟨j,s,hs,gO hm,ep⟩;rcases st.nv a ⟨j,t,z,m,k⟩with y|y;exact .inl (F a y);exact .inr y;by_cases z:j=i;subst z;exact⟨_,by rw[Bo B]⟩;obtain⟨w,N⟩:=st.kp j t (by rw[sU (hR z)];exact b);exact⟨w,by rw[sU (hR z)];exact N⟩;by_cases z:j=i;subst z;rw[hs]at b;cases b;refine⟨⟨s.m,s2.d⟩,by rw[Bo B],rfl,λq=>?_,P⟩;rw[q]at hm;cases hm;obtain⟨w,N,h⟩:=st.fix j t (by rw[sU (hR z)];exact b) m;exact⟨w,by rw[sU (hR z)];exact N,h⟩;rcases O j t b with⟨rfl,rfl⟩|⟨zn,z⟩;have m':s.m=.lent:=m;rw[m']at hm;cases hm;obtain⟨D,x,Y⟩:=st.lt j t z m;rw[sU (hR zn)]at x;exact⟨D,x,Y⟩
 ·have G:∀ s,d[i]? = some (some s)->s.m.mt=false:=λs hs=>by
   cases e:s.m.mt with
   |false=>rfl
   |true=>exact absurd ⟨s,hs,e⟩ π
  rw[xY G]at st;have J:Dz i d σ2=σ2:=by
   unfold Dz;split;rename_i σ s' h0 h';rw[a0m (by rw[G σ h0];exact Ga)];rfl
  rw[J];exact⟨c,st⟩
theorem dX.lendO(ok:dX c H Z b):dX c H (lendO l Z) b:=by
 cases l with
 |none=>exact ok
 |some i=>exact ok.lend
def sD(ok:dX f h c e)(a:dX f H d b)(s:hC (lendO l c) e h d b H):dX f H (uC l c d) b/\hC c e h (uC l c d) b H:=by
 cases l with
 |none=>exact⟨a,s⟩
 |some i=>exact WE ok a s
set_option tactic.hygienic true in
def WG(E:hC (lendO l x) A J w u H)(h:gN B H w u r v):gN B H (uC l x w) u r v:=by
 cases l with
 |none=>exact h
 | some i=>
   show gN B H (Dz i x w) u r v;have y:hC (lend i x) A J w u H:=E;unfold Dz;split
   ·rename_i f L C I;split
    ·rename_i G;cases r with
     |val d=>exact h
     | own d=>
       obtain⟨p,a,b,g,k⟩:=h;refine⟨p,a,b,λ⟨j,t,n,m,c⟩=>g ?_,k⟩;rcases aT n with⟨z,e,_⟩|⟨z,e⟩;subst z;rw[sC C G]at y;obtain⟨o,q,s,_⟩:=y.fix j ⟨.lent,f.d⟩ (by rw[Bo (sL.mp C).1]) (.inr rfl);exact⟨j,o,q,by lia,c⟩
       ·exact⟨j,t,e,m,c⟩
     | slot j=>
       obtain⟨a,t,b⟩:=h;refine⟨a,?_⟩;by_cases z:j=i;subst z;exact⟨_,by rw[Bo (sL.mp I).1]⟩
       ·exact⟨t,by rw[sU (hR z)];exact b⟩
    ·exact h
   ·exact h
structure KP(J:It)(items:List D)(P:Hp->Prop):Prop where
 go:∀H i d,P H->items[i]?=some d->J.go i H
 yld:∀H i d y H',P H->items[i]?=some d->J.yld i H y H'->lX H H'/\Rp H' d y
 stop:∀H,P H->J.stop items.length H
def uW(w:DQ J xs P):KP J I (λH=>P H/\Rps H I xs) where
 go:=λH i d ⟨h,r⟩ e=>by
  obtain⟨x,E,_⟩:=r.get e;exact w.go H i x h E
 yld:=λH i d y b ⟨h,r⟩ e q=>by
  obtain⟨x,E,a⟩:=r.get e;obtain⟨rfl,rfl⟩:=w.yld H i x y b h E q;exact⟨.refl _,a⟩
 stop:=λH z=>by
  obtain⟨h,r⟩:=z;refine w.stop H _ h ?_;have:=r.length
  grind
abbrev DI:=Sg->Option (List D×Option Nat×Sg)
def EI(g:Gm)(r:DI):TI:=λf H R=>∃Z,dX g H Z f/\∃i l a,r Z=some (i,l,a)/\∀J c P,dX g c a f->hC Z f H a f c->KP J i P ->
 (∀d b e,hC (lendO l a) f c d b e->P e)->R J c
structure GI(X:Cx)(tg iter:Expr)(ri:DI):Prop where
 to:∀Γ,PI X tg iter (EI Γ ri)
def Ju(h:PI X T e t)(w:∀Z H Q,a Z H Q->t Z H Q):PI X T e a:=λp s Z H Q I q=>h p s Z H Q I (w Z H Q q)
def oQ:D->Option (List D)
 |.lst l|.tup l=>some l
 |.str x=>some (jZ x)
 |_=>none
def Al(r:DE):DI:=λZ=>(r Z).bind λx=>(rd x.2 x.1).bind λd=>(oQ d).bind λl=>some (l,(match x.1 with|.slot i=>some i|_=>none),x.2)
def fV(h:H p=some o)(b:a p=some o):cY a p=cY H p:=by unfold cY;rw[h,b]
def uX(u:dX Γ g a U)(h:gN Γ g a U x v)(M:rd a x=some d)(C:oQ d=some O)(vw:AX g d v) :
  ∀p b xs,v=.ref p->cY g p=some (b,xs)->Rps g O xs->∀y k A,hC (lendO (match x with|.slot i=>some i|_=>none) a) U g y k A->cY A p=some (b,xs)/\Rps A O xs:=by
 intro p b xs n r R y k A l;have T:Be g A:=l.ext (Γ:=Γ) u.lendO;refine⟨?_,R.mono T⟩;cases x with
 | val d'=>
   cases M;subst n;cases d with
   |tup F=>obtain⟨_,_,e,f,_⟩:=eP vw;cases e;rw[fV f (T.tup _ _ f)];exact r
   | lst F=>
     cases h with
     |lst f _=>rw[fV f (T.frz _ _ _ f)];exact r
   |dic ks vs=>cases C
   |str z=>cases h
   |_=>cases C
 | own d'=>
   obtain⟨q,N,ow,nn,_⟩:=h;rw[n]at N;cases N;obtain⟨o,B,_⟩:=ow.obj;rw[fV B (l.fr p o B (λz=>nn z.nv))];exact r
 | slot i=>
   obtain⟨h,s,Y⟩:=h;have c:dX Γ g a U:=u;by_cases hm:s.m=.val
   ·obtain⟨w,π,G⟩:=c.rel i s Y;rw[h]at π;cases π;subst n;obtain⟨m,P⟩:=s;cases hm;have H:some P=some d:=by
     have:rd a (.slot i)=some P:=by show(match a[i]? with|some (some s)=>some s.d|_=>none)=_;rw[Y]
     rw[← this];exact M
    cases H;have I:Rp g d (.ref p):=G;cases d with
    |tup F=>obtain⟨_,_,e,f,_⟩:=eP (.inl I);cases e;rw[fV f (T.tup _ _ f)];exact r
    | lst F=>
      cases I with
      |lst f _=>rw[fV f (T.frz _ _ _ f)];exact r
    |dic ks vs=>cases C
    |str z=>cases I
    |_=>cases C
   ·obtain⟨q,J,ow⟩:=c.ownAt Y hm;rw[h]at J;rw[n]at J;cases J;obtain⟨o,B,_⟩:=ow.obj;have nm:¬ iU (lend i a) U p:=by
     rintro⟨j,t,E,m,Q⟩;by_cases K:s.m.mt=true;rw[sC Y K]at E;rcases aT E with⟨_,L,_⟩|⟨z,L⟩;cases L;cases m;exact c.dis j i t s p z L Y m hm Q (by rw[h,n]);rw[xY (λs' S=>by lia)]at E;by_cases z:j=i
     ·lia
     ·exact c.dis j i t s p z E Y m hm Q (by rw[h,n])
    rw[fV B (l.fr p o B nm)];exact r
def WH(K:W.Frag)(w:X.K=K)(h:GE X e r):GI X T e (Al r):=.mk λL=>Ju (ND K w (h.to L)) λJ H R N=>by
 obtain⟨Z,O,I,l,y,e,k⟩:=N;obtain⟨⟨x,A⟩,B,e⟩:=aA e;obtain⟨d,t,e⟩:=aA e;obtain⟨M,i,e⟩:=aA e;cases e;refine⟨Z,O,x,_,B,λv n b u g D=>?_⟩;have G:=u.vw b t;have E:=uX b u t i G;cases d with
 | lst C=>
   cases i;obtain⟨p,xs,rfl,j,o⟩:=fB G;refine .inl ⟨xs,j,k _ n _ b g (uW (Vd (xs:=xs))) λc a m f=>?_⟩;obtain⟨q,s⟩:=E p true xs rfl j o c a m f;exact⟨gU q,s⟩
 | tup C=>
   cases i;obtain⟨p,xs,rfl,j,o⟩:=eP G;refine .inr ⟨xs,bO j,k _ n _ b g (uW (Ve (xs:=xs))) λc a m f=>?_⟩;obtain⟨q,s⟩:=E p false xs rfl (bO j) o c a m f;exact⟨eO q,s⟩
 | str z=>
   cases i;obtain rfl:=iS G;exact k _ n (λH=>True/\Rps H (jZ z) (fA z)) b g (uW Vf) λc a m f=>⟨True.intro,uV z⟩
 |_=>cases i
noncomputable def qA(l:Int)(n:Nat):List D:=(range n).map λ(i:Nat)=>D.int (l+(i:Int))
def Ob(l:Int)(n:Nat):Rps H (qA l n) (Gi l n):=by
 unfold qA Gi
 induction range n with
 |nil=>exact .nil
 |cons a r b=>exact .cons (.int _) b
def uY(a:DA):DI:=λZ=>(a Z).bind λx=>(Gk x.2 x.1).bind λd=>match d with
 |[.int j]=>if -(2^62)<=j/\j<2^62 then some (qA 0 j.toNat,none,x.2)else none
 |[.int i,.int j]=>if(-(2^62)<=i/\i<2^62) /\ -(2^62)<=j/\j<2^62 then some (qA i (j-i).toNat,none,x.2)else none
 |_=>none
def WI(h:∀ B,PI X T e (MN (BW B d)))(L:∀ Z E A,d Z=some (E,A)->E.length=1):GI X T e (uY d):=.mk λB=>Ju (h B) λJ H R N=>by
 obtain⟨Z,O,I,l,m,e,k⟩:=N;obtain⟨⟨x,n⟩,g,e⟩:=aA e;obtain⟨M,o,e⟩:=aA e;refine⟨Z,O,x,_,g,λQ p c i f v=>?_⟩;have C:=rZ c i o;have r:=L _ _ _ g;dsimp only at e;rcases M with _|⟨q,_|⟨w,y⟩⟩;exact aK e
 ·cases q<;>try exact aK e
  dsimp only at e;split at e
  ·rename_i G;cases e;cases C with
   | cons a t=>
     cases t;obtain rfl:=cG a;exact⟨_,rfl,G.1,G.2,k _ p (λH=>True/\Rps H _ _) c f (uW Nr) λs j z u=>⟨True.intro,Ob _ _⟩⟩
  ·cases e
 ·exfalso;cases C with
  | cons a t=>cases t with
    | cons b t=>
      cases i with
      | cons _ q _=>cases q with
        |cons _ q _=>simp at r
def WJ(h:∀ A,PI X T e (MO (BW A d)))(G:∀ Z C z,d Z=some (C,z)->C.length=2):GI X T e (uY d):=.mk λA=>Ju (h A) λE H R J=>by
 obtain⟨Z,O,I,l,m,e,k⟩:=J;obtain⟨⟨x,n⟩,g,e⟩:=aA e;obtain⟨M,o,e⟩:=aA e;refine⟨Z,O,x,_,g,λL p c i f v=>?_⟩;have B:=rZ c i o;have r:=G _ _ _ g;dsimp only at e;split at e
 ·exfalso;cases B with
  | cons a t=>
    cases t;cases i with
    |cons _ q _=>cases q;simp at r
 ·split at e
  ·rename_i y;cases e;cases B with
   | cons a t=>cases t with
     | cons b t=>
       cases t;obtain rfl:=cG a;obtain rfl:=cG b;exact⟨_,_,rfl,⟨y.1.1,y.1.2,y.2.1,y.2.2⟩,k _ p (λH=>True/\Rps H _ _) c f (uW Nr) λs j w u=>⟨True.intro,Ob _ _⟩⟩
  ·cases e
 ·cases e
theorem cO8:∀Z b a,aB r aF Z=some (b,a)->b.length=1:=λZ b a e=>by
 obtain⟨x,_,e⟩:=aA e;cases e;rfl
def eD4:∀Z c b,aB r (aB a aF) Z=some (c,b)->c.length=2:=λZ c b e=>by
 obtain⟨x,_,e⟩:=aA e;obtain⟨y,h,e⟩:=aA e;cases e;have:=cO8 _ _ _ h;simp[this]
noncomputable def Fu(g:DG)(b:DS):List D->Sg->Option Ct
 |[],Z=>some (.nx Z)
 | d::r,Z=>(g d Z).bind λe=>(b e).bind λo=>match o with
   |.nx a|.ct a=>Fu g b r a
   |.bk a=>some (.nx a)
   |.rt x a=>some (.rt x a)
   |.ex c f a=>some (.ex c f a)
def uZ(l:Option Nat)(a:Sg):Ct->Ct
 |.nx Z=>.nx (uC l a Z)
 |.rt r Z=>.rt r (uC l a Z)
 |.bk Z=>.bk (uC l a Z)
 |.ct Z=>.ct (uC l a Z)
 |.ex c f Z=>.ex c f (uC l a Z)
def mS(r:DI)(g:DG)(b:DS):DS:=λZ=>(r Z).bind λx=>(Fu g b x.1 (lendO x.2.1 x.2.2)).bind λo=>some (uZ x.2.1 x.2.2 o)
def WK{D:AQ}(hg:Dy own g gd)(h:Bb Γ E (mS ri gd b) D σV H):Fo (EI Γ ri) g (Bb Γ E b) D σV H:=by
 obtain⟨Z,ok,o,e,k⟩:=h;obtain⟨⟨O,l,u⟩,e1,e⟩:=aA e;obtain⟨T,e2,e⟩:=aA e;cases e;refine⟨Z,ok,O,l,u,e1,λJ S P F M N stay=>?_⟩;have K:∀n a w,dX Γ w n a->hC (lendO l u) σV S n a w->∀U,U=T->(∀σ',U=.nx σ'->∀σV' H',dX Γ H' σ' σV'->hC (lendO l u) σV S σ' σV' H'->D.nx σV' H'):=by
  intro n a w G B U ho σ' V σV' H' W st';subst ho V;obtain⟨π,Q⟩:=sD F W st';exact k σV' H' π (M.trans Q)
 refine⟨λi m a w=>m=O.length-i/\i<=O.length/\∃n,Fu gd b (O.drop i) n=some T/\dX Γ w n a/\hC (lendO l u) σV S n a w,⟨O.length,by simp,Ad _,lendO l u,by simpa using e2,F.lendO,.refl⟩,?_⟩;rintro i m a w ⟨rfl,hi,n,A,G,B⟩;have X:=stay n a w B;by_cases I:i<O.length
 ·have ei:O[i]? = some O[i]:=oI I;refine .inr ⟨N.go w i _ X ei,λC R=>∃ m',m' < O.length-i/\m'=O.length-(i+1)/\i+1<=O.length/\∃ z,Fu gd b (O.drop (i+1)) z=some T/\dX Γ R z C/\hC (lendO l u) σV S z C R,λσ' H' q=>q,λy R hy=>?_⟩;obtain⟨sm,ry⟩:=N.yld w i _ y R X ei hy;rw[drop_eq_getElem_cons I]at A;obtain⟨z,eg,A⟩:=aA A;obtain⟨ob,eb,A⟩:=aA A;refine hg Γ R _ _ _ n a _ y z _ (G.same sm) (B.trans (.same sm)) ry eg λC Y t _ _=>?_;refine⟨z,Y,ob,eb,?_⟩;cases ob with
  |nx s|ct s=>exact λj L r p=>⟨_,by grind,rfl,I,s,A,r,t.trans p⟩
  | bk s=>
    cases A;exact λj L r p=>K s j L r (t.trans p) _ rfl s rfl j L r (t.trans p)
  | rt x s=>
    cases A;intro v j L r σ p;obtain⟨π,Q⟩:=sD F r (t.trans p);exact k v j L π (WG (t.trans p) σ) (M.trans Q)
  | ex c f s=>
    cases A;intro v d j L r σ p;obtain⟨π,Q⟩:=sD F r (t.trans p);exact k v d j L π σ (M.trans Q)
 ·have e0:i=O.length:=by lia
  subst e0;rw[drop_length]at A;cases A;exact .inl ⟨N.stop w X,K n a w G B _ rfl n rfl a w G B⟩
def vA(a:Dy own g G)(h:∀c,PS X s (Fo (EI c r) g (Bb c E b))):GS E X s (mS r G b):=.mk λc=>CF (h c) λ_ _ _=>WK a
def Oc:∃n:Nat,1000000<=n:=⟨_,hF _⟩
noncomputable def Hm:Nat:=Classical.choose Oc
def WL:1000000<=Hm:=Classical.choose_spec Oc
noncomputable def mT(c:DT)(b:DS):Nat->Sg->Option Ct
 |0,_=>none
 | n+1,Z=>(c Z).bind λx=>if x.1=true then(b x.2).bind λo=>match o with
   |.nx a|.ct a=>mT c b n a
   |.bk a=>some (.nx a)
   |.rt r a=>some (.rt r a)
   |.ex c f a=>some (.ex c f a)else some (.nx x.2)
def oR(c:DT)(b:DS):DS:=λZ=>mT c b Hm Z
def WM{D:AQ}(h:Bb M E (oR c b) D L H):Km (CG M c) (Bb M E b) D L H:=by
 obtain⟨Z,Q,o,e,k⟩:=h;refine⟨λm l A=>∃u,mT c b m u=some o/\dX M A u l/\hC Z L H u l A,⟨Hm,Z,e,Q,.refl⟩,?_⟩;rintro m l A ⟨u,s,B,p⟩;cases m with
 |zero=>cases s
 | succ n=>
   obtain⟨⟨t,y⟩,G,s⟩:=aA s;refine⟨u,B,t,y,G,λI z r=>?_⟩;split at s
   ·rename_i C;rw[gV C];obtain⟨O,J,s⟩:=aA s;refine⟨λa w=>∃N,N < n+1/\∃g,mT c b N g=some o/\dX M w g a/\hC Z L H g a w,λ_ _ q=>q,y,z,O,J,?_⟩;cases O with
    |nx g|ct g=>exact λa w i j=>⟨n,GL n,g,s,i,(p.trans r).trans j⟩
    |bk g=>cases s;exact λa w i j=>k a w i ((p.trans r).trans j)
    |rt x g=>cases s;exact λv a w i F j=>k v a w i F ((p.trans r).trans j)
    |ex c f g=>cases s;exact λv d a w i F j=>k v d a w i F ((p.trans r).trans j)
   ·rename_i C;rw[a0m C];cases s;exact k l I z (p.trans r)
def WN(h:∀a,PS X s (Km (CG a c) (Bb a E b))):GS E X s (oR c b):=.mk λa=>CF (h a) λ_ _ _=>WM
noncomputable def bG(o:List Nat)(Z:Sg):Sg:=o.foldl (λZ i=>Z.set i none) Z
noncomputable def jX(o:List Nat)(Z a:Sg):Sg:=o.foldl (λa i=>a.set i (Z[i]?.getD none)) a
theorem gB{a:Type}:∀(o:List Nat) (Z:List (Option a)),(o.foldl (λZ i=>Z.set i none) Z).length=Z.length
 |[],_=>rfl
 |i::r,Z=>(gB r (Z.set i none)).trans (by simp)
theorem fC{a:Type}:∀ (o:List Nat) (Z:List (Option a)) (j:Nat),j∉o->(o.foldl (λZ i=>Z.set i none) Z)[j]? = Z[j]?
 |[],_,_,_=>rfl
 | i::r,Z,j,h=>by
   have b:i≠j:=λz=>h (by rw[z];simp);have c:j∉r:=λz=>h (Am _ z);show(r.foldl _ (Z.set i none))[j]?=_;rw[fC r _ j c,sU b]
theorem bK{a:Type}:∀ (o:List Nat) (Z:List (Option a)) (j:Nat) (x:a),(o.foldl (λZ i=>Z.set i none) Z)[j]? = some (some x)->j∉o/\Z[j]? = some (some x)
 |[],_,_,_,h=>⟨by simp,h⟩
 | i::r,Z,j,x,h=>by
   obtain⟨c,b⟩:=bK r (Z.set i none) j x h;rcases aT b with⟨_,z,_⟩|⟨z,d⟩;cases z
   simp_all
theorem mU:∀(o:List Nat) (Z a:Sg),(jX o Z a).length=a.length
 |[],_,_=>rfl
 |i::r,Z,a=>(mU r Z (a.set i (Z[i]?.getD none))).trans (by simp)
theorem iZ:∀ (o:List Nat) (Z a:Sg) (j:Nat),j∉o->(jX o Z a)[j]? = a[j]?
 |[],_,_,_,_=>rfl
 | i::r,Z,a,j,h=>by
   have b:i≠j:=λz=>h (by rw[z];simp);have c:j∉r:=λz=>h (Am _ z);show(jX r Z (a.set i (Z[i]?.getD none)))[j]?=_;rw[iZ r Z _ j c,sU b]
theorem nM:∀ (o:List Nat) (Z a:Sg) (j:Nat),j∈o->Z.length=a.length->(jX o Z a)[j]? = Z[j]?
 |[],_,_,_,h,_=>by simp at h
 | i::r,Z,a,j,h,H=>by
   show(jX r Z (a.set i (Z[i]?.getD none)))[j]?=_;by_cases b:j∈r;exact nM r Z _ j b (by simp[H])
   ·rw[iZ r Z _ j b]
    grind
def dX.blank(ok:dX x H w u)(h:r.length=u.length)(e:∀ j,j∉O->r[j]? = u[j]?):dX x H (bG O w) r where
 rel:=λj t b=>by
  obtain⟨c,d⟩:=bK O w j t b;rw[e j c];exact ok.rel j t d
 dis:=λj l t g q n b i m M a f=>by
  obtain⟨c,d⟩:=bK O w j t b;obtain⟨k,o⟩:=bK O w l g i;rw[e j c]at a;rw[e l k]at f;exact ok.dis j l t g q n d o m M a f
 own:=λj t q b m a=>by
  obtain⟨c,d⟩:=bK O w j t b;rw[e j c]at a;exact ok.own j t q d m a
 par:=λj t q b m a=>by
  obtain⟨c,d⟩:=bK O w j t b;rw[e j c]at a;exact ok.par j t q d m a
 keep:=ok.keep
 dom:=ok.dom
 len:=by rw[bG,gB,h];exact ok.len
def hC.blank(hb:∀ (j:Nat) t,c[j]? = some (some t)->j∉O)(l:hC c r v n q u)(i:∀ j,j∉O->p[j]? = q[j]?):hC c r v (bG O n) p u where
 fr:=l.fr
 dom:=l.dom
 mu:=λa z=>by
  obtain⟨j,t,b,m,f⟩:=z;obtain⟨e,d⟩:=bK O n j t b;rw[i j e]at f;exact l.mu a ⟨j,t,d,m,f⟩
 nv:=λa z=>by
  obtain⟨j,t,b,m,f⟩:=z;obtain⟨e,d⟩:=bK O n j t b;rw[i j e]at f;exact l.nv a ⟨j,t,d,m,f⟩
 kp:=λj t b=>by
  obtain⟨g,h⟩:=l.kp j t b;exact⟨g,by rw[bG,fC O n j (hb j t b)];exact h⟩
 fix:=λj t b m=>by
  obtain⟨g,h,e,d,k⟩:=l.fix j t b m;exact⟨g,by rw[bG,fC O n j (hb j t b)];exact h,e,d,by simp_all⟩
 lt:=λj t b m=>by
  obtain⟨e,d⟩:=bK O n j t b;exact l.lt j t d m
def WO(c:dX Γ H1 O σV)(ok:dX Γ H τ σV2)(x:∀ j,j∉Y->σV2[j]? = σV[j]?)(N:σV2.length=σV.length)(st:hC (bG Y O) σV2 H1 τ σV2 H) :
  dX Γ H (jX Y O τ) σV/\hC O σV H1 (jX Y O τ) σV H:=by
 have A:O.length=τ.length:=by rw[c.len,ok.len,N]
 have π:dX Γ H1 (bG Y O) σV2:=c.blank N x;have ext:Be H1 H:=st.ext π;have get:∀(j:Nat) t,(jX Y O τ)[j]?=some (some t)->(j∈Y/\O[j]?=some (some t))\/(j∉Y/\τ[j]?=some (some t)):=λj t e=>by
  by_cases h:j∈Y;rw[nM Y O τ j h A]at e;exact .inl ⟨h,e⟩;rw[iZ Y O τ j h]at e;exact .inr ⟨h,e⟩
 have B:∀(j:Nat) t,(bG Y O)[j]?=some (some t)->j∉Y/\O[j]?=some (some t):=λj t e=>bK Y O j t e;have G:∀(j:Nat),j∉Y->(bG Y O)[j]?=O[j]?:=λj h=>fC Y O j h;have s:∀a,iU (bG Y O) σV2 a->∃(j:Nat) (t:Sl),j∉Y/\O[j]?=some (some t)/\t.m.mt=true/\σV[j]?=some (some (.ref a)):=λa Z1=>by
  obtain⟨j,t,b,m,u⟩:=Z1;obtain⟨k,f⟩:=B j t b;rw[x j k]at u;exact⟨j,t,k,f,m,u⟩
 have I:∀a,CD (bG Y O) σV2 a->∃(j:Nat) (t:Sl),j∉Y/\O[j]?=some (some t)/\t.m≠.val/\σV[j]?=some (some (.ref a)):=λa Z1=>by
  obtain⟨j,t,b,m,u⟩:=Z1;obtain⟨k,f⟩:=B j t b;rw[x j k]at u;exact⟨j,t,k,f,m,u⟩
 have C:∀(j l:Nat) t g q,j∈Y->O[j]?=some (some t)->l∉Y->τ[l]?=some (some g)->t.m≠.val->g.m≠.val->(t.m.mt=true\/g.m.mt=true)->σV[j]?=some (some (.ref q))->σV[l]?=some (some (.ref q))->False:=by
  intro j l t g q hj b P K m m' L i d;rw[← x l P]at d;obtain⟨p,ep,Q⟩:=c.ownAt b m;rw[i]at ep;have ep:=Ap (Ap ep);cases ep;obtain⟨o,S,_⟩:=Q.obj;rcases L with L|L;rcases st.nv q ⟨l,g,K,m',d⟩with z|z;obtain⟨D,E,k,f,v,F⟩:=I q z;exact c.dis j D t E q (λy=>k (by rw[← y];exact hj)) b f L v i F;rw[S]at z;cases z;rcases st.mu q ⟨l,g,K,L,d⟩with z|z;obtain⟨D,E,k,f,v,F⟩:=s q z;exact c.dis D j E t q (λy=>k (by rw[y];exact hj)) f b v m F i;rw[S]at z;cases z
 constructor
 ·refine⟨λj t b=>?_,λj l t g q n b K m m' i d=>?_,λj t q b m i=>?_,λj t q b m i=>?_,ok.keep,ok.dom,by rw[mU,ok.len,N]⟩;rcases get j t b with⟨h,e⟩|⟨h,e⟩;obtain⟨w,M,r⟩:=c.rel j t e;refine⟨w,M,r.mono ext λp o ep m U=>st.fr p o U λz=>?_⟩;obtain⟨D,E,k,f,v,F⟩:=s p z;exact c.dis D j E t p (λy=>k (by rw[y];exact h)) f e v m F (by rw[M,ep]);obtain⟨w,M,r⟩:=ok.rel j t e;exact⟨w,by rw[← x j h];exact M,r⟩
  ·rcases get j t b with⟨h,e⟩|⟨h,e⟩;rcases get l g K with⟨h',J⟩|⟨h',J⟩;exact c.dis j l t g q n e J m m' i d;exact C j l t g q h e h' J (gO m) m' (.inl m) i d;rcases get l g K with⟨h',J⟩|⟨h',J⟩;exact C l j g t q h' J h e m' (gO m) (.inr m) d i;rw[← x j h]at i;rw[← x l h']at d;exact ok.dis j l t g q n e J m m' i d
  ·rcases get j t b with⟨h,e⟩|⟨h,e⟩;exact c.own j t q e m i;rw[← x j h]at i;exact ok.own j t q e m i
  ·rcases get j t b with⟨h,e⟩|⟨h,e⟩;exact c.par j t q e m i;rw[← x j h]at i;exact ok.par j t q e m i
 ·refine⟨λa o e n=>st.fr a o e λz=>?_,st.dom,λa ⟨j,t,b,m,u⟩=>?_,λa ⟨j,t,b,m,u⟩=>?_,λj t b=>?_,λj t b m=>?_,λj t b m=>?_⟩;obtain⟨D,E,k,f,v,F⟩:=s a z;exact n ⟨D,E,f,v,F⟩;rcases get j t b with⟨h,e⟩|⟨h,e⟩;exact .inl ⟨j,t,e,m,u⟩;rw[← x j h]at u;rcases st.mu a ⟨j,t,e,m,u⟩with z|z;obtain⟨D,E,k,f,v,F⟩:=s a z;exact .inl ⟨D,E,f,v,F⟩;exact .inr z;rcases get j t b with⟨h,e⟩|⟨h,e⟩;exact .inl ⟨j,t,e,m,u⟩;rw[← x j h]at u;rcases st.nv a ⟨j,t,e,m,u⟩with z|z;obtain⟨D,E,k,f,v,F⟩:=I a z;exact .inl ⟨D,E,f,v,F⟩;exact .inr z;by_cases h:j∈Y;exact⟨t,by rw[nM Y O τ j h A];exact b⟩;obtain⟨g,R⟩:=st.kp j t (by rw[G j h];exact b);exact⟨g,by rw[iZ Y O τ j h];exact R⟩;by_cases h:j∈Y;exact⟨t,by rw[nM Y O τ j h A];exact b,rfl,λ_=>rfl,rfl⟩;obtain⟨g,R,k,f,v⟩:=st.fix j t (by rw[G j h];exact b) m;exact⟨g,by rw[iZ Y O τ j h];exact R,k,f,rfl⟩;rcases get j t b with⟨h,e⟩|⟨h,e⟩;exact⟨t,e,m⟩;obtain⟨T,V,W⟩:=st.lt j t e m;exact⟨T,(B j T V).2,W⟩
def xZ(o:List Nat)(g:DG)(t:DT)(e:DE):List D->Sg->Option (List D×Sg)
 |[],a=>some ([],a)
 | d :: r,a=>(g d a).bind λb=>(t b).bind λx=>if x.1=true then(e x.2).bind λy=>match y.1 with
     |.val c=>(xZ o g t e r (bG o y.2)).bind λz=>some (c::z.1,z.2)
     |_=>none else xZ o g t e r (bG o x.2)
noncomputable def eU:DT:=λZ=>some (true,Z)
def bV(o:List Nat)(r:DI)(g:DG)(t:DT)(e:DE):DE:=λZ=>(r Z).bind λx=>if x.1.length<=sizeLine then(xZ o g t e x.1 (bG o (lendO x.2.1 x.2.2))).bind λy=>
 some (.own (.lst y.1),uC x.2.1 x.2.2 (jX o (lendO x.2.1 x.2.2) y.2))else none
set_option tactic.hygienic true in
def vB(hg:Dy ow g gd)(h:AY Γ (bV ow ri gd t e) a H Q) :
  Ii ow (EI Γ ri) g (CG Γ t) (AY Γ e) a H Q:=by
 obtain⟨Z,ok,res,σ',w,k⟩:=h;obtain⟨⟨O,l,c⟩,e1,w⟩:=aA w;dsimp only at w;split at w
 case isFalse=>cases w
 case isTrue hlen=>
 obtain⟨⟨all,Y⟩,e2,w⟩:=aA w;cases w;refine⟨Z,ok,O,l,c,e1,λJ F P G I A stay=>?_⟩;have bl:(blank ow a).length=a.length:=gB ow a;have bo:∀j,j∉ow->(blank ow a)[j]?=a[j]?:=λj hj=>fC ow a j hj;have K:dX Γ F (lendO l c) a:=G.lendO;have σ:dX Γ F (bG ow (lendO l c)) (blank ow a):=K.blank bl bo;have hb:∀(j:Nat) t,(bG ow (lendO l c))[j]?=some (some t)->j∉ow:=λj t ej=>(bK ow _ j t ej).1
 have q:∀o d,dX Γ d o (blank ow a)->hC (bG ow (lendO l c)) (blank ow a) F o (blank ow a) d->dX Γ d (jX ow (lendO l c) o) a/\hC (lendO l c) a F (jX ow (lendO l c) o) a d:=
  λo d r s=>WO K r bo bl s
 refine⟨λi m ys d=>m=O.length-i/\i<=O.length/\∃o don dW,xZ ow gd t e (O.drop i) o=some (dW,Y)/\don++dW=all/\don.length<=i/\Rps d don ys/\dX Γ d o (blank ow a)/\hC (bG ow (lendO l c)) (blank ow a) F o (blank ow a) d,
  ⟨O.length,by simp,zero_le _,bG ow (lendO l c),[],all,by simpa using e2,rfl,Ad _,.nil,σ,.refl⟩,?_⟩
 rintro i m ys d ⟨rfl,hi,o,don,dW,f,n,L,V,r,s⟩;have hyl:=V.length;obtain⟨okw,M⟩:=q o d r s;have hP:=stay _ a d M;refine⟨by lia,?_⟩;by_cases u:i<O.length
 ·have ei:O[i]?=some O[i]:=oI u;refine .inr ⟨A.go d i _ hP ei,λy W hy=>?_⟩;obtain⟨sm,ry⟩:=A.yld d i _ y W hP ei hy;rw[drop_eq_getElem_cons u]at f;obtain⟨N,eg,f⟩:=aA f;obtain⟨⟨b,B⟩,et,f⟩:=aA f;refine hg Γ W _ _ _ o (blank ow a) _ y N _ (r.same sm) (s.trans (.same sm)) ry eg λσV3 π R l3 X=>?_;have x:Be d W:=.same sm;refine⟨N,π,b,B,et,λH4 C D=>?_⟩;have z:Be W H4:=D.ext π;dsimp only at f;split at f;rename_i hbt;dsimp only;rw[gV hbt];obtain⟨⟨r5,S⟩,ee,f⟩:=aA f;refine⟨B,C,r5,S,ee,λv H5 ok5 r5' T f5=>?_⟩;dsimp only at f;split at f;rename_i d';obtain⟨⟨E,τe'⟩,ec',f⟩:=aA f;cases f;refine⟨_,by grind,rfl,u,bG ow S,don++[d'],E,ec',by rw[← n];simp,by simp;exact L,?_,ok5.blank (by rw[l3]) (λj hj=>((X j hj).1).symm),hC.blank hb ((R.trans D).trans T) λj hj=>((X j hj).1).symm⟩;exact((V.mono x).mono z |>.mono (T.ext C)).append (.cons r5' .nil);cases f;rename_i hbf;dsimp only;rw[a0m hbf];refine⟨_,by grind,rfl,u,bG ow B,don,dW,f,n,le_succ_of_le L,(V.mono x).mono z,C.blank (by rw[l3]) (λj hj=>((X j hj).1).symm),hC.blank hb (R.trans D) λj hj=>((X j hj).1).symm⟩
 ·have e0:i=O.length:=by lia
  subst e0;rw[drop_length]at f;cases f;rw[Dp]at n;subst n;refine .inl ⟨A.stop d hP,λp hp=>?_⟩;obtain⟨U,stU⟩:=sD G okw M;have sm:lX d (fI d p (.lst ys)):=aP hp;have nw:uR d (fI d p (.lst ys)) (.own (.lst don)) (.ref p):=⟨p,rfl,hp,ys,aJ,V.mono (.same sm)⟩;exact k _ _ (U.same sm) (nw.res U) ((I.trans stU).trans (.same sm)) (nw.frh.back (I.trans stU))
def yA(a:Dy o g G)(h:∀b,PE X ex (Ii o (EI b r) g (CG b t) (AY b e))):GE X ex (bV o r G t e):=.mk λb=>Bk (h b) λ_ _ _=>vB a
def WQ:Eh X [] (CG d eU):=λp s Z H Q I ⟨a,o,b,c,e,k⟩=>US p s Z H Q I (by cases e;exact k H o .refl)
def WR(h:GT X c t):Eh X [c] (CG a t):=UT (h.to a)
def qU(a:Dy o g G)(h:∀c,PS X s (λD Z H=>Ii o (EI c r) g (CG c t) (AY c e) Z H λv b=>D.nx (Z.set i (some v)) b)):GS E X s (bC i (bV o r G t e)):=.mk λc=>CF (h c) λD d H h=>vB a (NZ h)
abbrev Aa4:=List Sl->Option (hJ×List Sl)
structure BE(H:Hp)(as:List Sl)(vs:List V):Prop where
 len:as.length=vs.length
 rel:∀(i:Nat) s,as[i]?=some s->∃v,vs[i]?=some v/\EF H s v
 dis:∀(i j:Nat) s t p,i≠j->as[i]?=some s->as[j]?=some t->s.m.mt=true->t.m≠.val->vs[i]?=some (.ref p)->vs[j]?=some (.ref p)->False
 own:∀(i:Nat) s,as[i]?=some s->s.m≠.own
def Hn(A:List Sl)(v:List V)(a:Addr):Prop:=∃(i:Nat) (s:Sl),A[i]?=some s/\s.m.mt=true/\v[i]?=some (.ref a)
structure Bm(as:List Sl)(vs:List V)(H:Hp)(as':List Sl)(H':Hp):Prop where
 rel:∀(i:Nat) s,as[i]?=some s->s.m.mt=true->∃s' v,as'[i]?=some s'/\s'.m=s.m/\vs[i]?=some v/\EF H' s' v
 fr:∀a o,H a=some o->¬Hn as vs a->H' a=some o
 dom:∀a,H' a=none->H a=none
def Aj(n:Nat)(b:Aa4):Sp:=λc H Q _=>∃A r a,BE H A c/\A.length=n/\b A=some (r,a)/\∀v h,Bm A c H a h->uR H h r v->Q v h
noncomputable def Jv(Z:Sg):hJ->Option hJ
 |.val d=>some (.val d)
 |.own d=>some (.own d)
 | .slot i=>match Z[i]? with
   |some (some s)=>if s.m=.own then some (.own s.d)else if s.m=.val then some (.val s.d)else none
   |_=>none
noncomputable def sE:List Sl->Sg->List Sl
 |[],_=>[]
 |a::A,some s::Z=>(if a.m=.val then a else s)::sE A Z
 |a::A,_::Z=>a::sE A Z
 |a::A,[]=>a::A
noncomputable def EJ(len:Nat)(a:List Sl):Sg:=a.map some++replicate (len-a.length) none
def iV(len:Nat)(a:DS):Aa4:=λA=>(a (EJ len A)).bind λo=>match o with
 |.nx Z=>some (.val .non,sE A Z)
 |.rt r Z=>(Jv Z r).bind λb=>some (b,sE A Z)
 |_=>none
def kI{i:Nat}:(EJ len a)[i]?=some (some s)↔a[i]?=some s:=by
 unfold EJ;by_cases h:i<a.length;rw[BG (by simp_all),Ab];simp;rw[Di (by simp_all),List.getElem?_replicate,Eb.mpr (Ed h)];simp
def iC{i:Nat}:(PySem.iT N a)[i]?=some (some v)↔a[i]?=some v:=by
 unfold PySem.iT;by_cases h:i<a.length;rw[BG (by simp_all),Ab];simp;rw[Di (by simp_all),List.getElem?_replicate,Eb.mpr (Ed h)];simp
theorem Od:∀ {as:List Sl} {Z:Sg} {i:Nat} {a s:Sl},as[i]? = some a->Z[i]? = some (some s)->(sE as Z)[i]? = some (if a.m=.val then a else s)
 |[],_,_,_,_,h,_|_::_,[],_,_,_,_,h=>by simp at h
 | a::as,o::Z,0,b,s,h,H=>by
   simp at h H;subst h H;rfl
 | a::as,o::Z,i+1,b,s,h,H=>by
   have:=Od (as:=as) (Z:=Z) (i:=i) (a:=b) (s:=s) (by simpa using h) (by simpa using H);cases o<;>(unfold sE;simp_all)
abbrev MS:=Sg->(Ct->Prop)->Prop
abbrev MC:=List Sl->(hJ->List Sl->Prop)->Prop
def CJ(m:MS):Prop:=∀Z (Q a:Ct->Prop),(∀o,Q o->a o)->m Z Q->m Z a
def Jw(b:Gm)(E:Ex)(m:MS):TS:=λD a H=>∃Z,dX b H Z a/\m Z λo=>Hl b E Z a H o D
structure GM(E:Ex)(X:Cx)(ss:List Stmt)(m:MS):Prop where
 to:∀Γ,BB X ss (Jw Γ E m)
 mon:CJ m
def DB(n:Nat)(C:MC):Sp:=λb H Q _=>∃a,BE H a b/\a.length=n/\C a λr A=>∀v h,Bm a b H A h->uR H h r v->Q v h
def Oe(A:List Sl)(K:hJ->List Sl->Prop)(o:Ct):Prop:=match o with
 |.nx Z=>K (.val .non) (sE A Z)
 |.rt r Z=>∃a,Jv Z r=some a/\K a (sE A Z)
 |_=>False
def Hq(len:Nat)(m:MS):MC:=λa K=>m (EJ len a) (Oe a K)
def yB(F:Eg K x qual st f fd)(S:AB N ps (cK st))(R:ps.length<=N.length)(m:MS)(hm:CJ m)
  (hb:∀(cdv:Value) (A:Around) (outer:List Env) (s:Shared) (H:Hp) (E:XK),Ae k (A.deeper (PyProof.Rows.envOfC qual (cK st) s.heap.objs.size f cdv))->∀Γ,BB (Fp Dw P w K mg base N qual (cK st) f cdv A outer s H E).nox (kH st) (Jw Γ Ex.no m)) :
  Au P w K mg base Dw (k+1) f fd ps (DB ps.length (Hq N.length m)):=by
 refine F.ok S (λvs H Q E Z1=>by obtain⟨as,ok,J,_⟩:=Z1;rw[← ok.len];exact J) λcdv A outer s H vs Q E T h=>?_;obtain⟨as,ok,J,h⟩:=h;refine⟨_,hb cdv A outer s H E T ⟨H,Hn as vs⟩,EJ N.length as,?_,hm _ _ _ (λo k=>?_) h⟩;refine⟨λi s e=>?_,λi j s t p n l G m m' e U=>?_,λi s p l m=>?_,λi s p l m e=>?_,λa o e _=>e,λa e=>e,?_⟩;obtain⟨v,y,r⟩:=ok.rel i s (kI.mp e);exact⟨v,iC.mpr y,r⟩;exact ok.dis i j s t p n (kI.mp l) (kI.mp G) m m' (iC.mp e) (iC.mp U);exact absurd m (ok.own i s (kI.mp l));exact⟨i,s,kI.mp l,by rw[m];rfl,iC.mp e⟩;unfold EJ PySem.iT;have:=ok.len;simp;simp_all;have u:∀ Z O H',dX ⟨H,Hn as vs⟩ H' Z O->hC (EJ N.length as) (PySem.iT N vs) H Z O H'->Bm as vs H (sE as Z) H':=λZ O H' b st'=>by
  have V:∀a,iU (EJ N.length as) (PySem.iT N vs) a->Hn as vs a:=λa ⟨j,t,G,m,W⟩=>⟨j,t,kI.mp G,m,iC.mp W⟩;refine⟨λi a l m=>?_,λa o e n=>st'.fr a o e λz=>n (V a z),st'.dom⟩;have L:a.m=.par:=by
   have h0:=ok.own i a l;cases q:a.m with
   |par=>rfl
   |own=>exact absurd q h0
   |val|lent=>rw[q]at m;cases m
  obtain⟨s',es,X,_,C⟩:=st'.fix i a (kI.mpr l) (.inl L);obtain⟨v,y,r⟩:=b.rel i s' es;obtain⟨Y,M,_⟩:=ok.rel i a l;have:some (some v)=some (some Y):=by rw[← y,C];exact iC.mpr M
  cases this;refine⟨s',v,?_,X,M,r⟩;rw[Od l es,a0m (by rw[L];exact λz=>nomatch z)]
 cases o with
 | nx Z=>
   exact λO H' b st'=>k .non H' (u Z O H' b st') .non
 | rt r Z=>
   obtain⟨res,y,k⟩:=k;intro v O H' b I st';refine k v H' (u Z O H' b st') ?_;cases r with
   |val d=>cases y;exact I
   | own d=>
     cases y;obtain⟨p,D,B,q3,σ⟩:=I;exact⟨p,D,σ,B⟩
   | slot i=>
     obtain⟨D,s',B⟩:=I;have g:(match Z[i]? with|some (some s)=>if s.m=.own then some (hJ.own s.d)else if s.m=.val then some (.val s.d)else none|_=>none)=some res:=y;rw[B]at g;dsimp only at g;obtain⟨v',C,π⟩:=b.rel i s' B;rw[D]at C;cases C;split at g
     ·rename_i hm;cases g;obtain⟨p,rfl,ow⟩:=(dH (by rw[hm];exact λz=>nomatch z)).mp π;exact⟨p,rfl,b.own i s' p B hm D,ow⟩
     ·split at g;rename_i hm;cases g;obtain⟨m,d⟩:=s';cases hm;exact π;cases g
 |bk Z|ct Z|ex c f Z=>exact k.elim
def aQ(F:Eg K x n p f z)(S:AB N t (cK p))(d:t.length<=N.length)(b:DS)
  (hb:∀(C:Value) (A:Around) (outer:List Env) (s:Shared) (H:Hp) (E:XK),Ae k (A.deeper (PyProof.Rows.envOfC n (cK p) s.heap.objs.size f C))->CI Ex.no (Fp Dw P w K mg base N n (cK p) f C A outer s H E).nox (kH p) b) :
  Au P w K mg base Dw (k+1) f z t (Aj t.length (iV N.length b)):=
 (yB F S d (λZ Q=>∃ o,b Z=some o/\Q o) (λZ Q l w ⟨o,e,q⟩=>⟨o,e,w o q⟩) λC A outer s H E g v=>Hc ((hb C A outer s H E g).to v) λD u H ⟨Z,O,o,e,q⟩=>⟨Z,O,o,e,q⟩).imp
  λJ H Q E I=>by
   obtain⟨G,y,B,O,h,a,k⟩:=I;obtain⟨o,i,a⟩:=aA a;refine⟨G,O,h,o,i,?_⟩;cases o with
   |nx Z=>cases a;exact k
   | rt r Z=>
     obtain⟨m,j,a⟩:=aA a;cases a;exact⟨_,j,k⟩
   |bk Z|ct Z|ex c f Z=>cases a
def yC(Z:Sg):hJ->Option Sl
 |.val d=>some ⟨.val,d⟩
 |.own d=>some ⟨.par,d⟩
 | .slot i=>match Z[i]? with
   |some (some s)=>some ⟨if s.m.mt=true then .par else s.m,s.d⟩
   |_=>none
def oS(Z:Sg):List hJ->Option (List Sl)
 |[]=>some []
 |r::b=>(yC Z r).bind λa=>(oS Z b).bind λA=>some (a::A)
noncomputable def Fv(i:Nat):List hJ->Bool
 |[]=>false
 |.slot j::r=>decide (i=j)||Fv i r
 |_::r=>Fv i r
def eC:List hJ->Bool
 |[]=>true
 |.slot i::r=>!Fv i r&&eC r
 |_::r=>eC r
noncomputable def jA(j:Nat):List hJ->List Sl->Option Sl
 |.slot i::r,a::A=>if i=j then some a else jA j r A
 |_::r,_::A=>jA j r A
 |_,_=>none
def iW(r:List hJ)(A:List Sl):Nat->Sg->Sg
 |_,[]=>[]
 | k,some s::Z=>(match jA k r A with
   |some a=>some (if s.m.mt=true then⟨s.m,a.d⟩else s)
   |none=>some s)::iW r A (k+1) Z
 |k,none::Z=>none::iW r A (k+1) Z
def aE(n:Nat)(r:Aa4)(a:DA):DE:=λZ=>(a Z).bind λx=>(oS x.2 x.1).bind λA=>if A.length=n/\eC x.1=true then(r A).bind λy=>some (y.1,iW x.1 y.2 0 x.2)else none
theorem qV:∀ {f:List hJ} {A:List Sl},oS Z f=some A->A.length=f.length/\∀ (k:Nat) r,f[k]? = some r->∃ a,A[k]? = some a/\yC Z r=some a
 |[],A,h=>by cases h;exact⟨rfl,λk r e=>by simp at e⟩
 | r::f,A,h=>by
   obtain⟨a,b,h⟩:=aA h;obtain⟨i,c,h⟩:=aA h;cases h;obtain⟨l,g⟩:=qV c;refine⟨by simp[l],λk d e=>?_⟩;cases k with
   |zero=>simp at e;subst e;exact⟨a,rfl,b⟩
   | succ k=>
     simp_all
def sS.get(h:sS f H Z a c b):c.length=b.length/\∀(k:Nat) r,c[k]?=some r->∃v,b[k]?=some v/\gN f H Z a r v:=by
 induction h with
 |nil=>exact⟨rfl,λk r e=>by cases e⟩
 | cons h _ _ i=>
   refine⟨Cn (· + 1) i.1,λk r e=>?_⟩;cases k with
   |zero=>obtain rfl:=Ap e;exact⟨_,rfl,h⟩
   |succ k=>exact i.2 k r e
def sS.dis(h:sS o H Z n m g):∀ (k l:Nat) d f p,k < l->m[k]? = some (.own d)->m[l]? = some (.own f)->g[k]? = some (.ref p)->g[l]? ≠ some (.ref p):=by
 induction h with
 |nil=>intro k l d f p _ e;cases e
 | cons h t q i=>
   intro k l d f p a e b c;cases l with
   |zero=>lia
   | succ l=>
     cases k with
     | zero=>
       simp_all
     | succ k=>
       exact i k l d f p (Ec a) e b c
theorem nN:∀ {rs:List hJ} {k:Nat},rs[k]? = some (.slot i)->Fv i rs=true
 |[],_,h=>by simp at h
 |r::rs,0,h=>by simp at h;subst h;simp[Fv]
 | r::rs,k+1,h=>by
   have:=nN (rs:=rs) (k:=k) (by simpa using h);cases r<;>simp[Fv,this]
theorem lZ:∀ {b:List hJ},eC b=true->∀ (k l i:Nat),b[k]? = some (.slot i)->b[l]? = some (.slot i)->k=l
 |[],_,k,l,i,h,_=>by simp at h
 | r::b,H,k,l,i,h,c=>by
   cases k with
   | zero=>
     cases l with
     |zero=>rfl
     | succ l=>
       simp at h;subst h;unfold eC at H;rw[nN (k:=l) (by simpa using c)]at H;simp at H
   | succ k=>
     cases l with
     | zero=>
       simp at c;subst c;unfold eC at H;rw[nN (k:=k) (by simpa using h)]at H;simp at H
     | succ l=>
       have a:eC b=true:=by
        cases r with
        |slot j=>unfold eC at H;lia
        |val d|own d=>exact H
       exact Cn Nat.succ (lZ a k l i (by simpa using h) (by simpa using c))
theorem fW:∀ {rs:List hJ} {as:List Sl} {a:Sl},jA j rs as=some a->∃ k:Nat,rs[k]? = some (.slot j)/\as[k]? = some a
 |[],_,_,h=>by simp[jA]at h
 |r::rs,[],_,h=>by cases r<;>simp[jA]at h
 | r::rs,a::as,b,h=>by
   cases r with
   | slot i=>
     have H:(if i=j then some a else jA j rs as)=some b:=h;split at H;rename_i e;cases H;subst e;exact⟨0,rfl,rfl⟩
     ·obtain⟨k,c,f⟩:=fW H;exact⟨k+1,by simp_all,by simp_all⟩
   |val d|own d=>obtain⟨k,c,f⟩:=fW (rs:=rs) (as:=as) h;exact⟨k+1,by simp_all,by simp_all⟩
def lD(r:List hJ)(A:List Sl)(k:Nat)(o:Option Sl):Option Sl:=match o with
 | some s=>(match jA k r A with
   |some a=>some (if s.m.mt=true then⟨s.m,a.d⟩else s)
   |none=>some s)
 |none=>none
theorem jB:∀ (k:Nat) (Z:Sg) (j:Nat),(iW rs as k Z)[j]? = (Z[j]?).map (lD rs as (k+j))
 |_,[],_=>rfl
 |k,o::Z,0=>by cases o<;>simp[iW,lD]
 | k,o::Z,j+1=>by
   have:=jB (rs:=rs) (as:=as) (k+1) Z j;have e:k+1+j=k+(j+1):=by lia
   rw[e]at this;cases o<;>simpa[iW]using this
theorem mV:∀(k:Nat) (Z:Sg),(iW r a k Z).length=Z.length
 |_,[]=>rfl
 |k,o::Z=>by cases o<;>simp[iW,mV (k+1) Z]
set_option tactic.hygienic true in
def vC(e2:oS c rs=some as)(hc:eC rs=true)(w:dX Γ σ c σV)(r1:sS Γ σ c σV rs vs)(C:hC Z σV H c σV σ)
  (f1:∀(j:Nat) d p,rs[j]?=some (.own d)->vs[j]?=some (.ref p)->H p=none) :
  BE σ as vs/\∀r as' v H2,Bm as vs σ as' H2->uR σ H2 r v->dX Γ H2 (iW rs as' 0 c) σV/\gN Γ H2 (iW rs as' 0 c) σV r v/\hC Z σV H (iW rs as' 0 c) σV H2/\Fs H r v:=by
 obtain⟨la,ga⟩:=qV e2;obtain⟨lv,gv⟩:=r1.get;have π:∀(i:Nat) a,as[i]?=some a->∃r v,rs[i]?=some r/\yC c r=some a/\vs[i]?=some v/\gN Γ σ c σV r v:=λi a x=>by
  have hi:i<rs.length:=by rw[← la];exact(sL.mp x).1
  have P:rs[i]?=some rs[i]:=oI hi;obtain⟨a',Q,h2⟩:=ga i _ P;rw[x]at Q;cases Q;obtain⟨v,h3,h4⟩:=gv i _ P;exact⟨_,v,P,h2,h3,h4⟩
 have f:∀i a,yC c (.slot i)=some a->∃s,c[i]?=some (some s)/\a=⟨if s.m.mt=true then .par else s.m,s.d⟩:=λi a x=>by
  have X:(match c[i]? with|some (some s)=>some (⟨if s.m.mt=true then .par else s.m,s.d⟩:Sl)|_=>none)=some a:=x;split at X
  ·rename_i s O;cases X;exact⟨s,O,rfl⟩
  ·cases X
 have K:∀ a,Hn as vs a->iU c σV a\/(H a=none/\¬ CD c σV a/\Γ.H₀ a=none):=λa Z1=>by
  obtain⟨i,s,R,m,F⟩:=Z1;obtain⟨r,v,P,x,D,L⟩:=π i s R;rw[F]at D;cases D;cases r with
  |val d=>cases x;cases m
  | own d=>
    obtain⟨p,B,S,Y,q4⟩:=L;cases B;exact .inr ⟨f1 i d a P F,Y,q4⟩
  | slot j=>
    obtain⟨s',O,rfl⟩:=f j s x;obtain⟨B,_⟩:=L;refine .inl ⟨j,s',O,?_,B⟩;by_cases hm:s'.m.mt=true;exact hm;simp only[hm]at m;exact absurd m hm
 have I:BE σ as vs:=by
  refine⟨by rw[la,lv],λi a R=>?_,λi j s t p nij R g m m' F D=>?_,λi a R=>?_⟩
  ·obtain⟨r,v,P,x,F,L⟩:=π i a R;refine⟨v,F,?_⟩;cases r with
   |val d=>cases x;exact L
   |own d=>cases x;obtain⟨p,B,S,_⟩:=L;exact⟨p,B,S⟩
   | slot j=>
     obtain⟨s',O,rfl⟩:=f j a x;obtain⟨B,_⟩:=L;obtain⟨v',e4,r4⟩:=w.rel j s' O;rw[B]at e4;cases e4;by_cases hm:s'.m.mt=true;simp only[hm,if_true];exact(dH (s:=⟨.par,s'.d⟩) (λz=>nomatch z)).mpr ((dH (gO hm)).mp r4);simp only[hm];exact r4
  ·obtain⟨r,v,P,x,T,L⟩:=π i s R;obtain⟨r2,v2,er2,ea2,ev2,rv2⟩:=π j t g;rw[F]at T;cases T;rw[D]at ev2;cases ev2;have E:∀ l a,yC c (.slot l)=some a->a.m≠.val->∃ s,c[l]? = some (some s)/\s.m≠.val/\(a.m.mt=true->s.m.mt=true):=λl a x hm=>by
    obtain⟨s',O,rfl⟩:=f l a x;refine⟨s',O,?_,?_⟩;intro z;simp only[z,Md.mt]at hm;exact hm rfl;intro z;by_cases U:s'.m.mt=true;exact U;simp only[U]at z;exact z
   cases r with
   |val d=>cases x;cases m
   | own d=>
     obtain⟨q,B,S,Y,q4⟩:=L;cases B;cases r2 with
     |val d=>cases ea2;exact m' rfl
     | own d2=>
       rcases Nat.lt_or_gt_of_ne nij with z|z;exact r1.dis i j d d2 p z P er2 F D
       ·exact r1.dis j i d2 d p z er2 P D F
     | slot l=>
       obtain⟨s',O,U,_⟩:=E l t ea2 m';exact Y ⟨l,s',O,U,rv2.1⟩
   | slot l=>
     obtain⟨s',O,U,hmt⟩:=E l s x (gO m);cases r2 with
     |val d=>cases ea2;exact m' rfl
     | own d2=>
       obtain⟨q,B,S,Y,q4⟩:=rv2;cases B;exact Y ⟨l,s',O,U,L.1⟩
     | slot l2=>
       obtain⟨s2,hs2,hm2,_⟩:=E l2 t ea2 m';refine w.dis l l2 s' s2 p (λz=>?_) O hs2 (hmt m) hm2 L.1 rv2.1;subst z;exact nij (lZ hc i j l P er2)
  ·obtain⟨r,v,P,x,T,L⟩:=π i a R;cases r with
   |val d|own d=>cases x;exact λz=>nomatch z
   | slot j=>
     obtain⟨s',O,rfl⟩:=f j a x;intro z;by_cases hm:s'.m.mt=true;simp only[hm,if_true]at z;cases z;simp only[hm]at z;have z':s'.m=.own:=z;rw[z']at hm;exact hm rfl
 refine⟨I,λr as' v H2 po nw=>?_⟩;have extA:Be σ H2:=by
  refine⟨λp xs h=>po.fr p _ h λz=>?_,λp o u h=>po.fr p _ h λz=>?_⟩;obtain⟨i,s,R,m,F⟩:=z;obtain⟨v,e4,r4⟩:=I.rel i s R;rw[F]at e4;cases e4;obtain⟨q,eq,ow⟩:=(dH (gO m)).mp r4;cases eq;obtain⟨o,ho,n1,_⟩:=ow.obj;rw[h]at ho;cases ho;exact n1 _ rfl;obtain⟨i,s,R,m,F⟩:=z;obtain⟨v,e4,r4⟩:=I.rel i s R;rw[F]at e4;cases e4;obtain⟨q,eq,ow⟩:=(dH (gO m)).mp r4;cases eq;obtain⟨o',ho,_,n1⟩:=ow.obj;rw[h]at ho;cases ho;exact n1 _ _ rfl
 have back:∀ (j:Nat) t,(iW rs as' 0 c)[j]? = some (some t)->∃ s,c[j]? = some (some s)/\t.m=s.m/\(t=s\/(s.m.mt=true/\∃ (k:Nat) (a:Sl),rs[k]? = some (.slot j)/\as'[k]? = some a/\t=⟨s.m,a.d⟩)):=λj t g=>by
  rw[jB,BL]at g;cases q:c[j]? with
  |none=>rw[q]at g;cases g
  | some o=>
    rw[q]at g;cases o with
    |none=>cases g
    | some s=>
      have A:lD rs as' j (some s)=some t:=Ap g;unfold lD at A;refine⟨s,rfl,?_⟩;dsimp only at A;split at A;rename_i a ha;obtain⟨W,Q,h2⟩:=fW ha;have M:=Ap A;by_cases hm:s.m.mt=true;rw[gV hm]at M;subst M;exact⟨rfl,.inr ⟨hm,W,a,Q,h2,rfl⟩⟩;rw[a0m hm]at M;subst M;exact⟨rfl,.inl rfl⟩;cases A;exact⟨rfl,.inl rfl⟩
 have fwd:∀(j:Nat) s,c[j]?=some (some s)->∃t,(iW rs as' 0 c)[j]?=some (some t)/\t.m=s.m/\(s.m.mt=false->t=s):=λj s g=>by
  rw[jB,BL,g];show ∃t,some (lD rs as' j (some s))=some (some t)/\_;unfold lD;dsimp only;split;refine⟨_,rfl,?_,λz=>?_⟩;split<;>rfl;rw[a0m (by rw[z];exact Ga)];exact⟨s,rfl,rfl,λ_=>rfl⟩
 have quiet:∀ (j:Nat) s t p,c[j]? = some (some s)->(iW rs as' 0 c)[j]? = some (some t)->t=s->s.m≠.val->σV[j]? = some (some (.ref p))->(∀ k:Nat,s.m.mt=true->rs[k]? ≠ some (.slot j))->¬ Hn as vs p:=by
  intro j s t p O _ _ hm F hno ⟨i,a,R,m,evi⟩;obtain⟨r,v,P,x,T,L⟩:=π i a R;rw[evi]at T;cases T;cases r with
  |val d=>cases x;cases m
  | own d=>
    obtain⟨q,B,S,Y,q4⟩:=L;cases B;exact Y ⟨j,s,O,hm,F⟩
  | slot l=>
    obtain⟨s',G,rfl⟩:=f l a x;have hmt:s'.m.mt=true:=by
     by_cases h':s'.m.mt=true;exact h';simp only[h']at m;exact absurd m h'
    by_cases z:l=j;subst z;rw[O]at G;cases G;exact hno i hmt P;exact w.dis l j s' s p z G O hmt hm L.1 F
 have okB:dX Γ H2 (iW rs as' 0 c) σV:=by
  refine⟨λj t g=>?_,λj l t t' q n g el m m' eq eq'=>?_,λj t q g m eq=>?_,λj t q g m eq=>?_,λa o e n=>?_,λa e=>w.dom a (po.dom a e),by rw[mV];exact w.len⟩
  ·obtain⟨s,O,N,hc'⟩:=back j t g;obtain⟨w',ew,rw'⟩:=w.rel j s O;refine⟨w',ew,?_⟩;by_cases J:s.m.mt=true/\∃ W:Nat,rs[W]? = some (.slot j)
   ·obtain⟨hm,W,hk'⟩:=J;obtain⟨a,ha,hao⟩:=ga W _ hk';obtain⟨v',hv',rv'⟩:=gv W _ hk';have D:σV[j]? = some (some v'):=rv'.1;rw[ew]at D;cases D;obtain⟨s',G,X⟩:=f j a hao;rw[O]at G;cases G;have am:a.m=.par:=by rw[X,gV hm]
    obtain⟨a2,w2,Q,h2,h3,h4⟩:=po.rel W a ha (by rw[am];rfl);rw[hv']at h3;cases h3;have ht:t=⟨s.m,a2.d⟩:=by
     rw[jB,BL,O]at g;have A:lD rs as' j (some s)=some t:=Ap g;unfold lD at A;dsimp only at A;split at A;rename_i b hb;obtain⟨k2,B,S⟩:=fW hb;obtain rfl:=lZ hc k2 W j B hk';rw[Q]at S;cases S;have:=Ap A;rw[gV hm]at this;exact this.symm;rename_i hb
     exfalso;have:∀ {rs:List hJ} {as:List Sl} {kk:Nat} {a:Sl},rs[kk]? = some (.slot j)->as[kk]? = some a->jA j rs as≠none:=by
      intro rs
      induction rs with
      |nil=>intro as kk a h;simp at h
      | cons r rs ih=>
        intro as kk a h h';cases as with
        |nil=>simp at h'
        | cons b as=>
          cases kk with
          |zero=>simp at h;subst h;simp[jA]
          | succ kk=>
            have:=ih (as:=as) (kk:=kk) (a:=a) (by simpa using h) (by simpa using h');cases r with
            |slot i=>simp only[jA];split;exact λz=>nomatch z;exact this
            |val d|own d=>exact this
     exact this hk' Q hb
    subst ht;have h5:=(dH (s:=a2) (by rw[h2,am];exact λz=>nomatch z)).mp h4;exact(dH (s:=⟨s.m,a2.d⟩) (gO hm)).mpr h5
   ·have ht:t=s:=by
     rcases hc' with h|⟨hm,W,a,Q,_⟩;exact h;exact absurd ⟨hm,W,Q⟩ J
    rw[ht];refine rw'.mono extA λp o ep m hp=>po.fr p o hp ?_;exact quiet j s t p O g ht m (by rw[ew,ep]) λW hm hk=>J ⟨hm,W,hk⟩
  ·obtain⟨s,O,N,_⟩:=back j t g;obtain⟨s',G,mm',_⟩:=back l t' el;exact w.dis j l s s' q n O G (by rw[← N];exact m) (by rw[← mm'];exact m') eq eq'
  ·obtain⟨s,O,N,_⟩:=back j t g;exact w.own j s q O (N.symm.trans m) eq
  ·obtain⟨s,O,N,_⟩:=back j t g;exact w.par j s q O (N.symm.trans m) eq
  ·refine po.fr a o (w.keep a o e n) λz=>?_;rcases K a z with⟨j,s,O,m,F⟩ | ⟨_,_,z0⟩
   ·cases hq:s.m with
    |own=>rw[w.own j s a O hq F]at e;cases e
    |par=>exact n (w.par j s a O hq F)
    |val|lent=>rw[hq]at m;cases m
   ·rw[z0]at e;cases e
 have stB:hC Z σV H (iW rs as' 0 c) σV H2:=by
  refine⟨λa o e n=>?_,λa e=>C.dom a (po.dom a e),λa ⟨j,t,g,m,x⟩=>?_,λa ⟨j,t,g,m,x⟩=>?_,λj t g=>?_,λj t g m=>?_,λj t g m=>?_⟩
  ·refine po.fr a o (C.fr a o e n) λz=>?_;rcases K a z with y|⟨y,_⟩;rcases C.mu a y with y|y;exact n y;rw[e]at y;cases y;rw[e]at y;cases y
  ·obtain⟨s,O,N,_⟩:=back j t g;exact C.mu a ⟨j,s,O,by rw[← N];exact m,x⟩
  ·obtain⟨s,O,N,_⟩:=back j t g;exact C.nv a ⟨j,s,O,by rw[← N];exact m,x⟩
  ·obtain⟨s,O⟩:=C.kp j t g;obtain⟨t',Q,_⟩:=fwd j s O;exact⟨t',Q⟩
  ·obtain⟨s,O,B,S,Y⟩:=C.fix j t g m;obtain⟨t',Q,h2,h3⟩:=fwd j s O;refine⟨t',Q,h2.trans B,λz=>?_,Y⟩;rw[h3 (by rw[B,z];rfl)];exact S z
  ·obtain⟨s,O,N,_⟩:=back j t g;exact C.lt j s O (N.symm.trans m)
 refine⟨okB,?_,stB,nw.frh.back C⟩;cases r with
 |val d=>exact nw
 | own d=>
   obtain⟨p,B,S,Y⟩:=nw;refine⟨p,B,Y,λZ0=>?_,w.dom p S⟩;obtain⟨j,t,g,m,x⟩:=Z0;obtain⟨s,O,N,_⟩:=back j t g;obtain⟨o,ho,_⟩:=w.mutObj ⟨j,s,O,by rw[← N];exact m,x⟩;rw[S]at ho;cases ho
 |slot i=>exact nw.elim
def WS{y:Aa4}(h:AY C (aE n y f) z H Q):Ji (Aj n y) [] E (BW C f) z H Q:=by
 obtain⟨Z,O,J,B,e,k⟩:=h;obtain⟨⟨I,a⟩,i,e⟩:=aA e;obtain⟨M,j,e⟩:=aA e;split at e
 case isFalse=>cases e
 case isTrue hc=>
 obtain⟨⟨r,A⟩,l,e⟩:=aA e;cases e;refine⟨Z,O,I,a,i,λG m b o d p=>?_⟩;show Aj n y (G++[]) m Q E;rw[Dp];obtain⟨q,c⟩:=vC j hc.2 b o d p;refine⟨M,r,A,q,hc.1,l,λv g L s=>?_⟩;obtain⟨t,u,w,x⟩:=c r A v g L s;exact k v g t u w x
def WT{r:Aa4}(h:∀b,PE X e (Ji (Aj n r) [] E (BW b a))):GE X e (aE n r a):=.mk λb=>Bk (h b) λ_ _ _=>WS
def qB(i j:Int):Prop:=Ic i j\/(Builtin.Int.intBits i<=2^20/\Builtin.Int.intBits j<=2^20)
theorem qB.ok(h:qB i j):IntMulOk i j:=by
 rcases h with h|h;exact h.ok;exact IntMulOk.of_bits h.1 h.2
def WU:Ar X (binaryOp .Mult) (rI qB λi j=>.int (i*j)):=Ib λ_ _ _ _ _ _ _ hc q=>PyProof.Rows.mul_int q hc.ok
section
open Classical
noncomputable def ii(f:Int->Int->D):F2:=λd e=>match d,e with
 |.int i,.int j=>some (.val (f i j))
 |_,_=>none
noncomputable def Ir(C:Int->Int->Prop)(f:Int->Int->D):F2:=λd e=>match d,e with
 |.int i,.int j=>if C i j then some (.val (f i j))else none
 |_,_=>none
noncomputable def iu(f:Int->D):F1:=λd=>match d with
 |.int i=>some (.val (f i))
 |_=>none
end
def Jx(h:∀H i j,Rp H (f i j) (g i j)):rY (Du g) (ii f):=by
 intro H c d x y Q r a b e k;unfold ii at e;split at e;cases e;obtain rfl:=cG a;obtain rfl:=cG b;exact⟨_,_,rfl,rfl,k _ H (.refl _) (h H _ _)⟩;cases e
def yD(h:∀H i j,Rp H (f i j) (g i j)):rY (rI C g) (Ir C f):=by
 intro H c d x y Q r a b e k;unfold Ir at e;split at e;split at e;rename_i hc;cases e;obtain rfl:=cG a;obtain rfl:=cG b;exact⟨_,_,rfl,rfl,hc,k _ H (.refl _) (h H _ _)⟩;cases e;cases e
def WV(h:∀H i,Rp H (f i) (g i)):He (rU g) (iu f):=by
 intro H d x Q r a e k;unfold iu at e;split at e;cases e;obtain rfl:=cG a;exact⟨_,rfl,k _ H (.refl _) (h H _)⟩;cases e
def Hr:F2:=ii λi j=>.int (i-j)
def CL:F2:=Ir (λ_ j=>0<j) λi j=>.int (i % j)
def Jy:F2:=Ir GV λi j=>.int (i^j.toNat)
def Ej:F2:=ii λi j=>.bl (decide (i<j))
def CM:F2:=ii λi j=>.bl (decide (j<i))
def Jz:F2:=ii λi j=>.bl (decide (j<=i))
def WW:F1:=iu λi=>.int (-i)
def WX:rY (Du λi j=>.int (i-j)) Hr:=Jx λ_ _ _=>.int _
def WY:rY (rI (λ_ j=>0<j) λi j=>.int (i % j)) CL:=yD λ_ _ _=>.int _
def WZ:rY (rI GV λi j=>.int (i^j.toNat)) Jy:=yD λ_ _ _=>.int _
def Of:rY (Du λi j=>.bl (decide (i<j))) Ej:=Jx λ_ _ _=>.bl _
def Og:rY (Du λi j=>.bl (decide (j<i))) CM:=Jx λ_ _ _=>.bl _
def Xa:rY (Du λi j=>.bl (decide (j<=i))) Jz:=Jx λ_ _ _=>.bl _
def Xb:He (rU λi=>.int (-i)) WW:=WV λ_ _=>.int _
def sF{Z:St}(I:eD X p Z H s)(h:cY H l=some (true,xs)):xs.length<=sizeLine/\∃(i:List Value) (n:Nat),bF xs i/\xs.length=i.length/\s.heap.get? l=some {cls:=.type "list",data:=.seq i.toArray n}:=by
 rcases rR h with⟨_,e⟩|⟨z,_⟩|⟨_,o,e⟩;exact I.lstM e;cases z;obtain⟨_,z,i,n,r,e⟩:=I.hok l _ e;exact⟨z,i,n,r,r.length,e⟩
def Oh:R2:=λx y H Q=>∃l b a z,x=.ref l/\y=.ref b/\cY H l=some (true,a)/\cY H b=some (true,z)/\a.length+z.length<=sizeLine/\∀p,H p=none->Q (.ref p) (fI H p (.lst (a++z)))
def Xc:Ar X (binaryOp .Add) Oh:=by
 intro A s Z H x y v u Q I c d h;obtain⟨l,b,C,B,rfl,rfl,f,g,o,q⟩:=h;cases c;cases d;obtain⟨z,w,n,r,p,e⟩:=sF I f;obtain⟨t,a,N,i,j,k⟩:=sF I g;refine PySem.P.add_list e k ?_ (by grind);have m:w.toArray++a.toArray=(w++a).toArray:=by simp
 rw[m];exact⟨.ref _,_,I.lnew (t':=s.toks) (r.append i) (by simp_all),rfl,q _ I.fresh⟩
def Oi:R2:=λx y H Q=>KC x y H Q\/Oh x y H Q
def Xd:Ar X (binaryOp .Add) Oi:=Vq.or Xc
noncomputable def gP:F2:=λd e=>match d,e with
 |.int i,.int j=>some (.val (.int (i+j)))
 |.str a,.str b=>if a.length+b.length<=sizeLine then some (.val (.str (a++b)))else none
 |.lst l,.lst m=>if l.length+m.length<=sizeLine then some (.own (.lst (l++m)))else none
 |.tup l,.tup m=>if l.length+m.length<=sizeLine then some (.val (.tup (l++m)))else none
 |_,_=>none
def sG(a:H p=none)(r:Rps H l xs):uR H (fI H p (.lst xs)) (.own (.lst l)) (.ref p):=⟨p,rfl,a,xs,aJ,r.mono (.same (aP a))⟩
def yE(a:H p=none)(r:Rps H l xs):uR H (fI H p (.tup xs)) (.val (.tup l)) (.ref p):=.tup aJ (r.mono (.same (aP a)))
set_option tactic.hygienic true in
def Xe:rY Oi gP:=by
 intro H o s x y Q w d f e k;unfold gP at e;cases o<;>(try exact aK e)<;>cases s<;>try exact aK e
 ·cases e;obtain rfl:=cG d;obtain rfl:=cG f;exact .inl (k _ H (.refl _) (.int _))
 ·dsimp only at e;split at e;rename_i j;cases e;obtain rfl:=iS d;obtain rfl:=iS f;exact .inl ⟨j,k _ H (.refl _) (.str _)⟩;cases e
 ·dsimp only at e;split at e;rename_i l m j;cases e;obtain⟨p,v,rfl,g,a⟩:=eP d;obtain⟨q,Y,rfl,h,b⟩:=eP f;have t:=a.length;have u:=b.length;refine .inl (.inr ⟨v,Y,bO g,bO h,by simp_all,λi=>?_,λi n=>?_,λi n r c=>k _ _ (aP c) (yE c (a.append b))⟩);subst i;have:l=[]:=DX t;subst this;exact k _ H (.refl _) (.tup h b);subst n;have:m=[]:=DX u;subst this;rw[Dp]at k;exact k _ H (.refl _) (.tup g a);cases e
 ·dsimp only at e;split at e;cases e;obtain⟨p,v,rfl,g,a⟩:=fB d;obtain⟨q,Y,rfl,h,b⟩:=fB f;have:=a.length;have:=b.length;exact .inr ⟨p,q,v,Y,rfl,rfl,g,h,by simp_all,λr c=>k _ _ (aP c) (sG c (a.append b))⟩;cases e
section
open Classical
noncomputable def wX:F2:=λd e=>match d,e with
 |.int i,.int j=>if qB i j then some (.val (.int (i*j)))else none
 |.str z,.int i=>if z.length<=1000/\0<=i/\i<=1000 then some (.val (.str (Txt.mul z i)))else none
 |_,_=>none
end
def Oj:R2:=λx y H Q=>rI qB (λi j=>.int (i*j)) x y H Q\/KA x y H Q
def Xf:Ar X (binaryOp .Mult) Oj:=WU.or Vo
def Xg:rY Oj wX:=by
 intro H c d x y Q r a b e k;unfold wX at e;cases c<;>(try exact aK e)<;>cases d<;>try exact aK e
 ·dsimp only at e;split at e;rename_i hc;cases e;obtain rfl:=cG a;obtain rfl:=cG b;exact .inl ⟨_,_,rfl,rfl,hc,k _ H (.refl _) (.int _)⟩;cases e
 ·dsimp only at e;split at e;rename_i hc;cases e;obtain rfl:=iS a;obtain rfl:=cG b;exact .inr ⟨hc.1,hc.2.1,hc.2.2,λy _ e=>by subst e;exact k _ H (.refl _) (.str _)⟩;cases e
def hQ:F2:=λd e=>match d,e with
 |.lst l,.int i|.tup l,.int i=>(atI l i).map .val
 |.str z,.int i=>if z.length<=sizeLine then(atI z.cps.toList i).map λc=>.val (.str ⟨#[c]⟩)else none
 |_,_=>none
theorem Rps.atI(r:Rps H l xs)(h:PySem.atI l i=some d):∃x,PySem.atI xs i=some x/\Rp H d x:=by
 unfold PySem.atI at h ⊢;obtain⟨j,a,b⟩:=aA h;rw[← r.length,a];exact r.get b
def Xh:rY Ij hQ:=by
 intro H l m x y Q q f g e k;unfold hQ at e;cases l<;>(try exact aK e)<;>cases m<;>try exact aK e
 ·dsimp only at e;split at e;rename_i n;obtain rfl:=cG g;obtain rfl:=iS f;obtain⟨c,a,b⟩:=Bg.mp e;cases b;exact⟨_,Vh n a,k _ H (.refl _) (.str _)⟩
  lia
 ·obtain rfl:=cG g;obtain⟨p,o,rfl,h,i⟩:=eP f;obtain⟨d,a,b⟩:=Bg.mp e;cases b;obtain⟨x,j,r⟩:=i.atI a;exact⟨x,Nu (bO h) j,k _ H (.refl _) r⟩
 ·obtain rfl:=cG g;obtain⟨p,o,rfl,h,i⟩:=fB f;obtain⟨d,a,b⟩:=Bg.mp e;cases b;obtain⟨x,j,r⟩:=i.atI a;exact⟨x,Nu h j,k _ H (.refl _) r⟩
def Xi(H:GE X a c)(hb:GE X b d)(h:Na b):GE X (.Subscript a b pos) (aI hQ c d):=.mk λe=>Bk (Nb Nl (H.to e) (hb.to e) h) λ_ _ _=>lB Xh
noncomputable def jQ:FN:=λd=>match d with
 |[.lst l]|[.tup l]=>some (.val (.int l.length))
 |[.str z]=>if z.length<=sizeLine then some (.val (.int z.length))else none
 |_=>none
def DU(h:Fq H [d] v):∃x,v=[x]/\AX H d x:=by
 cases h with
 |cons a t=>cases t;exact⟨_,rfl,a⟩
def Hs(h:Fq H [d,e] v):∃x y,v=[x,y]/\AX H d x/\AX H e y:=by
 cases h with
 | cons a t=>
   obtain⟨y,rfl,b⟩:=DU t;exact⟨_,_,rfl,a,b⟩
def Xj:Dx Nm jQ:=by
 intro H h i Q r f e k;unfold jQ at e;rcases h with _|⟨c,_|_⟩<;>(try exact aK e)<;>cases c<;>try exact aK e
 ·dsimp only at e;split at e;rename_i d;cases e;obtain⟨x,rfl,v⟩:=DU f;obtain rfl:=iS v;exact⟨_,_,rfl,Vg d,k _ H (.refl _) (.int _)⟩;cases e
 ·cases e;obtain⟨x,rfl,v⟩:=DU f;obtain⟨p,g,rfl,a,b⟩:=eP v;refine⟨_,_,rfl,Nt (bO a),?_⟩;rw[← b.length];exact k _ H (.refl _) (.int _)
 ·cases e;obtain⟨x,rfl,v⟩:=DU f;obtain⟨p,g,rfl,a,b⟩:=fB v;refine⟨_,_,rfl,Nt a,?_⟩;rw[← b.length];exact k _ H (.refl _) (.int _)
def Gp(l:List D)(L hi:Option Int):List D:=(l.drop (PySem.sIx l.length 0 L)).take (PySem.sIx l.length l.length hi-PySem.sIx l.length 0 L)
def Rps.cut(r:Rps H l xs)(L hi:Option Int):Rps H (Gp l L hi) (xI xs L hi):=by
 unfold Gp xI;rw[r.length];exact(r.drop _).take _
def Xk(h:PySem.sIx xs.length 0 l=0/\PySem.sIx xs.length xs.length hi=xs.length):xI xs l hi=xs:=by
 unfold xI
 simp_all
section
open PyProof.Rows Spec
def getItem_tuple_all{l hi:Option Int}(a:IsTup s.heap t I)(H:s.heap.IsSliceOf m f g .none)(p:IsPart f l)(i:IsPart g hi)
  (k:sIx I.size 0 l=0/\sIx I.size I.size hi=I.size) (h:Q (.ref t) s):wpAny (model prog w) A (getItem (.ref t) (.ref m)) Q E s:=by
 obtain⟨o,c,d,j⟩:=id H;have e:s.TypeIs (.ref m) "slice":=⟨o,c,d⟩;unfold getItem
 try with_reducible refine Ax ?_
 refine dV (wpAny_sequenceKey a.typeIs (rfl) ?_);refine dV (wpAny_callSpecial?_slot (name:=ofString "__getitem__") a.typeIs GH
  (BX GH a.typeIs entry_tuple_getitem ?_ (args_tuple_getitem _ _)))
 show wpAny _ _ (tupleItemsOf (.ref t) >>= _) _ _ s;refine dV (tupleItemsOf_ a ?_);refine dV (EW e ?_);refine dV (iR H p i ?_);have b:(((sIx I.size 0 l:Nat):Int)==0&&(1:Int)==1&&(sIx I.size I.size hi-sIx I.size 0 l)==I.size)=true:=by simp_all
 show wpAny _ _ (if(((sIx I.size 0 l:Nat):Int)==0&&(1:Int)==1&&(sIx I.size I.size hi-sIx I.size 0 l)==I.size)=true then _ else _) _ _ s;rw[gV b];refine dV ?_;refine dV (EW a.typeIs (eH ?_));refine dV (Bx ?_);exact eH ⟨_,rfl,eH h⟩
end
def Ol:V->Option Int->Option Int->Hp->VK->Prop:=λx l h H Q=>match x with
 |.str z=>z.length<=sizeLine/\Q (.str (slice z l h)) H
 | .ref p=>(∃ a,cY H p=some (true,a)/\∀ r,H r=none->Q (.ref r) (fI H r (.lst (xI a l h)))) \/
   ∃a,cY H p=some (false,a)/\(xI a l h=a->Q (.ref p) H)/\∀r,H r=none->Q (.ref r) (fI H r (.tup (xI a l h)))
 |_=>False
set_option tactic.hygienic true in
def Xl:Ha X Ol:=by
 intro m s Z H x v d e L t u Q I b q o c h;unfold Ol at h;split at h;exact Kz m s Z H _ v d e L t u Q I b q o c h
 ·rename_i p;rcases h with h | ⟨n,g,j,k⟩;exact Kz m s Z H _ v d e L t u Q I b q o c (.inl h);by_cases f:PySem.sIx n.length 0 L=0/\PySem.sIx n.length n.length t=n.length
  ·cases b;obtain⟨w,r,i,l⟩:=I.tuple (eO g);have a:w.toArray.size=n.length:=by exact r.length.symm
   refine⟨"tuple",_,GH.lookup,i.typeIs,?_⟩;exact PySem.getItem_tuple_all i q o c (by rw[a];exact f) ⟨.ref p,H,I,rfl,j (Xk f)⟩
  ·exact Kz m s Z H _ v d e L t u Q I b q o c (.inr ⟨n,g,f,k⟩)
 simp_all
abbrev DO:=Sg->Option (Option Int×Sg)
def Xm(c:Gm)(r:DO):TO:=λa H Q=>∃Z,dX c H Z a/\∃o b,r Z=some (o,b)/\∀h,dX c h b a->hC Z a H b a h->Q o h
structure GO(X:Cx)(e:Option Expr)(r:DO):Prop where
 to:∀Γ,PO X e (Xm Γ r)
def Om(h:PO X e t)(w:∀Z H Q,T Z H Q->t Z H Q):PO X e T:=λp s Z H Q I q=>h p s Z H Q I (w Z H Q q)
noncomputable def yF:DO:=λZ=>some (none,Z)
def dP(r:DE):DO:=λZ=>(r Z).bind λx=>(rd x.2 x.1).bind λd=>match d with
 |.int i=>some (some i,x.2)
 |_=>none
def Xn:GO X none yF:=.mk λc=>Om Uj λa H Q z=>by obtain⟨Z,O,o,b,e,k⟩:=z;cases e;exact k H O .refl
def Xo(h:GE X e r):GO X (some e) (dP r):=.mk λn=>Om (Uk (h.to n)) λl H Q z=>by
 obtain⟨Z,O,o,m,e,k⟩:=z;obtain⟨⟨x,c⟩,f,e⟩:=aA e;obtain⟨d,g,e⟩:=aA e;split at e;cases e;exact⟨Z,O,x,_,f,λv i a j b _=>⟨_,cG (j.vw a g),k i a b⟩⟩;cases e
def KQ(d:D)(L hi:Option Int):Option hJ:=match d with
 |.str z=>if z.length<=sizeLine then some (.val (.str (slice z L hi)))else none
 |.lst l=>some (.own (.lst (Gp l L hi)))
 |.tup l=>some (.val (.tup (Gp l L hi)))
 |_=>none
def Ci(r:DE)(a b:DO):DE:=λZ=>(r Z).bind λx=>(a x.2).bind λy=>(b y.2).bind λz=>(rd z.2 x.1).bind λd=>(KQ d y.1 z.1).bind λw=>some (w,z.2)
def Xp(B:GE X e r)(ha:GO X N a)(hb:GO X hi b):GE X (.Subscript e (.Slice N hi none A) pos) (Ci r a b):=.mk λT=>Bk (Um Xl (B.to T) (ha.to T) (hb.to T)) λσV H Q Z1=>by
 obtain⟨Z,ok,res,σ',e,k⟩:=Z1;obtain⟨⟨x,i⟩,C,e⟩:=aA e;obtain⟨⟨N,j⟩,D,e⟩:=aA e;obtain⟨⟨hi,y⟩,E,e⟩:=aA e;obtain⟨d,F,e⟩:=aA e;obtain⟨w,h,e⟩:=aA e;cases e;refine⟨Z,ok,x,i,C,λv K l G m _=>⟨i,l,N,j,D,λL n c=>⟨j,n,hi,y,E,λs f g=>?_⟩⟩⟩;have Y:=((G.step l c).step n g).vw f F;have M:∀v O,lX s O->uR s O res v->Q v O:=λv O sm z=>k v O (f.same sm) (z.res f) (((m.trans c).trans g).trans (.same sm)) (z.frh.back ((m.trans c).trans g));unfold KQ at h;split at h
 ·split at h;rename_i I;cases h;obtain rfl:=iS Y;exact⟨I,M _ s (.refl _) (.str _)⟩
  simp_all
 ·cases h;obtain⟨p,U,rfl,t,u⟩:=fB Y;exact .inl ⟨U,t,λq o=>M _ _ (aP o) (sG o (u.cut N hi))⟩
 ·cases h;obtain⟨p,U,rfl,t,u⟩:=eP Y;refine .inr ⟨U,bO t,λJ=>M _ s (.refl _) ?_,λq o=>M _ _ (aP o) (yE o (u.cut N hi))⟩;have:=u.cut N hi;rw[J]at this;exact .tup t this
 simp_all
noncomputable def Ht:FN:=λd=>match d with
 |[.int i,.int j]=>some (.val (.int (if j > i then j else i)))
 |_=>none
noncomputable def oU:FN:=λd=>match d with
 |[.int i,.int j]=>some (.val (.int (if j<i then j else i)))
 |_=>none
def Xq:Dx (λxs H Q=>∃i j,xs=[.int i,.int j]/\Q (.int (if j > i then j else i)) H) Ht:=by
 intro H f g Q r v e k;unfold Ht at e;rcases f with _|⟨c,_|⟨d,_|_⟩⟩<;>(try exact aK e)<;>cases c<;>(try exact aK e)<;>cases d<;>try exact aK e
 ·cases e;obtain⟨x,y,rfl,a,b⟩:=Hs v;obtain rfl:=cG a;obtain rfl:=cG b;exact⟨_,_,rfl,k _ H (.refl _) (.int _)⟩
def Xr:Dx (λxs H Q=>∃i j,xs=[.int i,.int j]/\Q (.int (if j<i then j else i)) H) oU:=by
 intro H f g Q r v e k;unfold oU at e;rcases f with _|⟨c,_|⟨d,_|_⟩⟩<;>(try exact aK e)<;>cases c<;>(try exact aK e)<;>cases d<;>try exact aK e
 ·cases e;obtain⟨x,y,rfl,a,b⟩:=Hs v;obtain rfl:=cG a;obtain rfl:=cG b;exact⟨_,_,rfl,k _ H (.refl _) (.int _)⟩
noncomputable def Gq:FN:=λd=>match d with
 |[.int i]=>some (.val (.int i))
 |[.bl b]=>some (.val (.int (if b then 1 else 0)))
 |_=>none
def Xs:Dx (λxs H Q=>(∃i,xs=[.int i]/\Q (.int i) H)\/∃k,xs=[.bl k]/\Q (.int (if k then 1 else 0)) H) Gq:=by
 intro H d c Q r v e k;unfold Gq at e;rcases d with _|⟨b,_|_⟩<;>(try exact aK e)<;>cases b<;>try exact aK e
 ·cases e;obtain⟨x,rfl,a⟩:=DU v;obtain rfl:=Io a;exact .inr ⟨_,rfl,k _ H (.refl _) (.int _)⟩
 ·cases e;obtain⟨x,rfl,a⟩:=DU v;obtain rfl:=cG a;exact .inl ⟨_,rfl,k _ H (.refl _) (.int _)⟩
noncomputable def oV:FN:=λd=>match d with
 |[.lst l]|[.tup l]=>some (.own (.lst l))
 |_=>none
def Xt:Dx Nv oV:=by
 intro H h i Q r v e k;unfold oV at e;rcases h with _|⟨f,_|_⟩<;>(try exact aK e)<;>cases f<;>try exact aK e
 ·cases e;obtain⟨x,rfl,a⟩:=DU v;obtain⟨p,g,rfl,c,d⟩:=eP a;exact⟨p,false,g,rfl,bO c,λq b=>k _ _ (aP b) (sG b d)⟩
 ·cases e;obtain⟨x,rfl,a⟩:=DU v;obtain⟨p,g,rfl,c,d⟩:=fB a;exact⟨p,true,g,rfl,c,λq b=>k _ _ (aP b) (sG b d)⟩
noncomputable def lE:FN:=λd=>match d with
 |[.lst l]|[.tup l]=>some (.val (.tup l))
 |_=>none
def Xu:Dx Nw lE:=by
 intro H h i Q r v e k;unfold lE at e;rcases h with _|⟨f,_|_⟩<;>(try exact aK e)<;>cases f<;>try exact aK e
 ·cases e;obtain⟨x,rfl,a⟩:=DU v;obtain⟨p,g,rfl,b,c⟩:=eP a;exact⟨p,false,g,rfl,bO b,k _ H (.refl _) (.tup b c)⟩
 ·cases e;obtain⟨x,rfl,a⟩:=DU v;obtain⟨p,g,rfl,b,c⟩:=fB a;exact⟨p,true,g,rfl,b,λq d=>k _ _ (aP d) (yE d c)⟩
noncomputable def Xv:D->String
 |.non=>"NoneType"
 |.bl _=>"bool"
 |.int _=>"int"
 |.str _=>"str"
 |.lst _=>"list"
 |.tup _=>"tuple"
 |.dic _ _=>"dict"
def Fw(c:String):F1:=λd=>match d with
 |.dic _ _=>none
 |d=>some (.val (.bl (xS (Xv d) c)))
noncomputable def vD:FM:=λd a=>match d,a with
 |.lst l,[e]=>if l.length<sizeLine then some (.lst (l++[e]),.non)else none
 |_,_=>none
def iO(h:cM H (.lst l) p):∃xs,H p=some (.lst xs)/\Rps H l xs:=h
set_option tactic.hygienic true in
def Xw:Gn oG vD:=by
 intro H d p i v Q j e o r b k;unfold vD at b;cases d<;>try exact aK b
 rename_i l;rcases i with _|⟨x,_|⟨_,_⟩⟩;exact aK b
 ·dsimp only at b;split at b
  ·rename_i f;cases b;obtain⟨h,g,c⟩:=iO o;cases r with
   | cons a t=>
     cases t;exact⟨p,h,_,rfl,rfl,g,by rw[← c.length];exact f,k _ _ ⟨_,aJ,(c.append (.cons a .nil)).mono (cM.ext o)⟩ .non⟩
  simp_all
 exact aK b
noncomputable def EK:FM:=λd a=>match d,a with
 |.lst l,[.lst m]=>if l.length+m.length<=sizeLine then some (.lst (l++m),.non)else none
 |_,_=>none
def Oo:V->List V->Hp->VK->Prop:=λx v H Q=>∃l b a z,x=.ref l/\v=[.ref b]/\H l=some (.lst a)/\cY H b=some (true,z)/\a.length+z.length<=sizeLine/\Q .non (fI H l (.lst (a++z)))
def Xx:Gg X "list.extend" Oo:=by
 intro B s Z H x G v U Q I g i h;obtain⟨l,b,E,C,rfl,rfl,f,j,t,q⟩:=h;cases g;obtain⟨u,rfl,k⟩:=i.one;cases k;obtain⟨z,A,n,r,w,e⟩:=I.lstM f;obtain⟨y,a,N,m,o,p⟩:=sF I j;have d:A.toArray.size+a.toArray.size<=sizeLine:=by grind
 have c:¬(!A.toArray.isEmpty&&listTooLong (A.toArray.size+a.toArray.size))=true:=by
  rw[Nf d,Bool.and_false];simp
 refine Et F.slot_list_extend ⟨_,e,rfl⟩ F.entry_list_extend (F.args_list_extend_2 _ _)
  (AutoSeq1.list_extend_list_list_0 l A.toArray n b a.toArray N c (by simp_all) (le_succ_of_le d)) ⟨e,p,?_⟩
 refine⟨.non,_,I.lset (its':=A++a) f e (by simp) (r.append m) ?_,rfl,q⟩
 simp_all
def Xy:NU Oo EK:=by
 intro H d p l v Q m e o r b k;unfold EK at b;cases d<;>(try exact aK b)<;>rcases l with _|⟨g,_|_⟩<;>(try exact aK b)<;>cases g<;>try exact aK b
 ·dsimp only at b;split at b;cases b;obtain⟨j,h,c⟩:=iO o;obtain⟨x,rfl,a⟩:=DU r;obtain⟨q,y,rfl,i,f⟩:=fB a;have:=c.length;have:=f.length;exact⟨p,q,j,y,rfl,rfl,h,i,by simp_all,k _ _ ⟨_,aJ,(c.append f).mono (cM.ext o)⟩ .non⟩
  simp_all
noncomputable def Gr:FM:=λd a=>match d,a with
 |.lst l,[]=>(l[l.length-1]?).map λy=>(.lst l.dropLast,y)
 |_,_=>none
theorem Rps.dropLast(r:Rps H l xs):Rps H l.dropLast xs.dropLast:=by
 rw[List.dropLast_eq_take,List.dropLast_eq_take,r.length];exact r.take _
def Xz:Gn Ng Gr:=by
 intro H d p j v Q l e o r a k;unfold Gr at a;split at a;obtain⟨y,c,f⟩:=Bg.mp a;cases f;cases r;obtain⟨i,g,b⟩:=iO o;obtain⟨x,E,h⟩:=b.get c;exact⟨p,i,x,rfl,rfl,g,by rw[← b.length];exact E,k _ _ ⟨_,aJ,b.dropLast.mono (cM.ext o)⟩ (h.mono (cM.ext o))⟩
 simp_all
def oW:FM:=λd a=>match d,a with
 |.lst l,[.int i]=>if -(2^63)<=i/\i<2^63 then(AM l.length i).bind λj=>(l[j]?).map λy=>(.lst (l.eraseIdx j),y)else none
 |_,_=>none
set_option tactic.hygienic true in
def XA:Gn Nh oW:=by
 intro H d p u v Q w e O r b k;unfold oW at b;cases d<;>(try exact aK b)<;>rcases u with _|⟨f,_|_⟩<;>(try exact aK b)<;>cases f<;>try exact aK b
 ·dsimp only at b;split at b
  ·rename_i l i q;obtain⟨j,g,b⟩:=aA b;obtain⟨y,h,m⟩:=Bg.mp b;cases m;obtain⟨s,n,c⟩:=iO O;obtain⟨x,E,o⟩:=c.get h;cases r with
   | cons a t=>
     cases t;cases a;exact⟨p,s,i,j,x,rfl,rfl,n,q.1,q.2,by rw[← c.length];exact(xJ g).1,E,k _ _ ⟨_,aJ,(c.eraseIdx j).mono (cM.ext O)⟩ (o.mono (cM.ext O))⟩
  lia
def JA(i:Int)(e:D):D->Option D
 |.lst l=>(AM l.length i).map λj=>.lst (l.set j e)
 |_=>none
def Gs(k:Nat)(r c:DE):DS:=λZ=>(c Z).bind λx=>match x.1 with
 | .val d=>if Ft "list" k x.2=true then(r x.2).bind λy=>(rd y.2 y.1).bind λe=>match e with
   |.int i=>(CH (λa _=>(JA i d a).map λb=>(b,.non)) k [] y.2).bind λz=>some (.nx z.2)
   |_=>none else none
 |_=>none
set_option tactic.hygienic true in
def XB(h:∀ O,PS X st (EB (AY O G) (Kl (pY k) (AY O ri) Nc))):GS E X st (Gs k ri G):=.mk λO=>CF (h O) λD σV H Z1=>by
 obtain⟨Z,ok,o,e,L⟩:=Z1;obtain⟨⟨x,f⟩,M,e⟩:=aA e;refine⟨Z,ok,x,f,M,λv H1 g N u f1=>?_⟩;cases x with
 |own d|slot d=>cases e
 | val d=>
   have c:(if Ft "list" k f=true then(ri f).bind λy=>(rd y.2 y.1).bind λI=>match I with
    |.int i=>(CH (λa _=>(JA i d a).map λb=>(b,.non)) k [] y.2).bind λz=>some (.nx z.2)
    |_=>none else none)=some o:=e
   split at c
   ·rename_i hn;obtain⟨⟨y,w⟩,π,c⟩:=aA c;obtain⟨I,P,c⟩:=aA c;obtain⟨s0,A,B,Q⟩:=nK hn;obtain⟨p,ep,ow⟩:=g.ownAt A B;dsimp only at c;split at c
    ·rename_i i;obtain⟨⟨z,R⟩,S,c⟩:=aA c;cases c;obtain⟨s,d',y',hs,hm,T,rfl,rfl⟩:=fT S;obtain⟨b,J,U⟩:=Bg.mp T;cases U;refine⟨_,ep,f,g,y,w,π,λvi V n W q f2=>?_⟩;obtain rfl:=cG (W.vw n P);obtain⟨p',r,t⟩:=n.ownAt hs (gO hm);rw[ep]at r;cases r;have Y:Rp V d v:=Rp.mono (q.ext g) N;obtain⟨m,σ⟩:=s;cases σ with
     | lst l=>
       obtain⟨j,e8,e9⟩:=Bg.mp J;cases e9;obtain⟨xs,h1,K⟩:=iO t;refine⟨p,xs,i,j,rfl,rfl,h1,by rw[← K.length];exact e8,?_⟩;obtain⟨C,F⟩:=n.write (d':=.lst (l.set j d)) (o':=.lst (xs.set j v)) hs hm ep ⟨_,aJ,(K.set j Y).mono (cM.ext t)⟩;exact L _ _ C ((u.trans q).trans F)
     |_=>cases J
    simp_all
   simp_all
def Hu(i j:Int):Prop:=0<j/\j<340282366920938463463374607431768211456
def XC:Ar X (binaryOp .FloorDiv) (rI Hu λi j=>.int (i / j)):=Ib λi j _ _ _ _ _ hc q=>by
 have a:(0:Int)<j:=hc.1;have c:j<340282366920938463463374607431768211456:=hc.2;refine PyProof.Rows.floordiv_int (by lia) (by rw[Int.fdiv_eq_ediv_of_nonneg i (Int.le_of_lt a)];exact q) (.inl (PyProof.noPylong_of_log2 ?_));have h:j.natAbs≠0:=by (simp;omega)
 have b:j.natAbs.log2<128:=(Nat.log2_lt h).mpr (by grind);lia
def Hv:F2:=Ir Hu λi j=>.int (i / j)
def XD:rY (rI Hu λi j=>.int (i / j)) Hv:=yD λ_ _ _=>.int _
mutual
noncomputable def iX:D->PyData
 |.non=>.none
 |.bl b=>.bool b
 |.int i=>.int i
 |.str x=>.str x
 |.tup l=>.tuple (toPys l)
 |.lst l=>.list (toPys l)
 |.dic _ _=>.dict []
noncomputable def toPys:List D->List PyData
 |[]=>[]
 |d::r=>iX d::toPys r
end
def vE{Z:St}(I:eD X B Z H s)(h:Rps H l y):bF y U->canLayAll0 (toPys l)=true->∃ A,ReadsAll s.heap U (toPys l) A:=by
 refine Rps.rec (motive_1:=λd v _=>∀u,cJ v u->(iX d).canLay0=true->∃A,Reads s.heap u (iX d) A) (motive_2:=λl y _=>∀U,bF y U->canLayAll0 (toPys l)=true->∃A,ReadsAll s.heap U (toPys l) A) ?_ ?_ ?_ ?_ ?_ ?_ ?_ ?_ ?_ h U;intro u r _;cases r;exact⟨_,.none⟩;intro b u r _;cases r;exact⟨_,.bool b⟩;intro i u r _;obtain⟨t,rfl⟩:=r;exact⟨_,.int i t⟩;intro x u r _;obtain⟨t,rfl⟩:=r;exact⟨_,.str x t⟩;intro _ _ _ h _ i u r hc;cases r;obtain⟨_,z,c,⟨o,k,f,n,C⟩,_⟩:=I.hok _ _ h;obtain⟨A,g⟩:=i _ c hc;exact⟨_,.tuple k f C (by simpa using g)⟩;intro _ _ _ _ h _ i u r hc;cases r;obtain⟨_,_,z,n,c,e⟩:=I.hok _ _ h;obtain⟨A,g⟩:=i _ c hc;exact⟨_,.list e rfl rfl (by simpa using g)⟩
 ·intros;contradiction
 ·intro U r _;cases r;exact⟨_,.nil⟩
 ·intro d l _ _ _ _ i j U r hc;cases r with
  | cons m p=>
    have a:(iX d).canLay0=true/\canLayAll0 (toPys l)=true:=by simpa[toPys,canLayAll0]using hc
    obtain⟨A,q⟩:=i _ m a.1;obtain⟨E,w⟩:=j _ p a.2;exact⟨_,.cons q w⟩
def XE{Z:St}(I:eD X p Z H s)(h:Rp H d v)(r:cJ v u)(hc:(iX d).canLay0=true):∃A,Reads s.heap u (iX d) A:=by
 obtain⟨A,q⟩:=vE I (.cons h .nil) (.cons r .nil) (by simp[toPys,canLayAll0,hc]);cases q with|cons a _=>exact⟨_,a⟩
def gW{Z:St}(I:eD X g Z H s)(h:AX H d v)(r:cJ v u)(hc:(iX d).canLay0=true):∃A,Reads s.heap u (iX d) A:=by
 rcases h with h|⟨p,rfl,h⟩;exact XE I h r hc;cases r;cases d with
 | lst l=>
   obtain⟨x,a,b⟩:=iO h;obtain⟨_,i,n,c,e⟩:=I.hok _ _ a;obtain⟨A,f⟩:=vE I b c hc;exact⟨_,.list e rfl rfl (by simpa using f)⟩
 |dic k j=>exact nomatch hc
 |_=>exact h.elim
noncomputable def CW(d e:D):Bool:=PyData.eqv (iX d) (iX e)
noncomputable def dJ(d:D):Bool:=(iX d).canLay0&&decide ((iX d).depth<=60)
def KS(neg:Bool):R2:=λx y H Q=>∃d e,AX H d x/\AX H e y/\dJ d=true/\dJ e=true/\Q (.bl (if neg then !CW d e else CW d e)) H
def bX(h:dJ d=true):(iX d).canLay0=true/\(iX d).depth<=60:=by
 unfold dJ at h
 simp_all
def Oq(l:X.A.units+64<cLine):Ar X (compareOp .Eq) (KS false):=by
 intro p s Z H x y v u Q I a b h;obtain⟨d,e,c,f,g,i,q⟩:=h;obtain⟨o,m⟩:=bX g;obtain⟨A,n⟩:=bX i;obtain⟨r,j⟩:=gW I c a o;obtain⟨B,k⟩:=gW I f b A;exact SeqAt.rcAt_reads j k o A (by lia) _ _ _ _ ⟨.bl _,H,I,rfl,q⟩
def XF(l:X.A.units+64<cLine):Ar X (compareOp .NotEq) (KS true):=by
 intro p s Z H x y v u Q I a b h;obtain⟨d,e,c,f,g,i,q⟩:=h;obtain⟨o,m⟩:=bX g;obtain⟨A,n⟩:=bX i;obtain⟨r,j⟩:=gW I c a o;obtain⟨B,k⟩:=gW I f b A;exact SeqAt.rcNeAt_reads j k o A (by lia) _ _ _ _ ⟨.bl _,H,I,rfl,q⟩
def Av(neg:Bool):F2:=λd e=>if dJ d=true/\dJ e=true then some (.val (.bl (if neg then !CW d e else CW d e)))else none
def KU:rY (KS neg) (Av neg):=by
 intro H a b x y Q r c d e k;unfold Av at e;split at e;rename_i hc;cases e;exact⟨a,b,c,d,hc.1,hc.2,k _ H (.refl _) (.bl _)⟩;cases e
def KW(neg:Bool):R2:=λx y H Q=>(∃i j,x=.str i/\y=.str j/\Q (.bl (if neg then(occurrences j i 0 j.length 1).isEmpty else !(occurrences j i 0 j.length 1).isEmpty)) H) \/
 ∃d e b l,AX H d x/\AX H e y/\Ei e=some (b,l)/\dJ d=true/\dJ e=true/\Q (.bl (if neg then !(l.any λy=>CW y d)else l.any λy=>CW y d)) H
theorem oX(d:D):∀l:List D,(toPys l).any (λy=>PyData.eqv y (iX d))=l.any λy=>CW y d
 |[]=>rfl
 |e::r=>by show(PyData.eqv (iX e) (iX d)||(toPys r).any _)=_;rw[oX d r];rfl
def vF(h:Ei e=some (b,l)):depthAll (toPys l)<=(iX e).depth/\((iX e).canLay0=true->canLayAll0 (toPys l)=true):=by
 cases e with
 |lst a=>cases h;exact⟨by show _<=depth (.list (toPys l));simp only[depth];lia,λz=>z⟩
 |tup a=>cases h;exact⟨by show _<=depth (.tuple (toPys l));simp only[depth];lia,λz=>z⟩
 |_=>cases h
def Ot(o:X.A.units+64<cLine):Ar X (compareOp .In) (KW false):=by
 intro t s Z H x y v u Q I a c h;rcases h with⟨i,j,rfl,rfl,q⟩|⟨d,e,b,l,G,E,z,k,m,q⟩;exact Tz t s Z H _ _ v u Q I a c ⟨_,_,rfl,rfl,by simp_all⟩;obtain⟨B,p⟩:=bX k;obtain⟨A,r⟩:=bX m;obtain⟨M,f⟩:=gW I G a B;obtain⟨L,g⟩:=gW I E c A;obtain⟨J,C⟩:=vF z;have w:EP X t Z Q (.bool ((toPys l).any λy=>PyData.eqv y (iX d))) s:=⟨.bl _,H,I,by rw[oX];rfl,q⟩;cases e with
 |lst n=>cases z;exact SeqAt.in_list_reads g f (C A) B (by lia) w
 |tup n=>cases z;exact SeqAt.in_tuple_reads g f (C A) B (by lia) w
 |_=>cases z
def XG(o:X.A.units+64<cLine):Ar X (compareOp .NotIn) (KW true):=by
 intro t s Z H x y v u Q I a c h;rcases h with⟨i,j,rfl,rfl,q⟩|⟨d,e,b,l,G,E,z,k,m,q⟩;exact uF t s Z H _ _ v u Q I a c ⟨_,_,rfl,rfl,by simp_all⟩;obtain⟨B,p⟩:=bX k;obtain⟨A,r⟩:=bX m;obtain⟨M,f⟩:=gW I G a B;obtain⟨L,g⟩:=gW I E c A;obtain⟨J,C⟩:=vF z;have w:EP X t Z Q (.bool (!(toPys l).any λy=>PyData.eqv y (iX d))) s:=⟨.bl _,H,I,by rw[oX];rfl,q⟩;cases e with
 |lst n=>cases z;exact SeqAt.notIn_list_reads g f (C A) B (by lia) w
 |tup n=>cases z;exact SeqAt.notIn_tuple_reads g f (C A) B (by lia) w
 |_=>cases z
def Bq(neg:Bool):F2:=λd e=>match d,e with
 |.str i,.str j=>some (.val (.bl (if neg then(occurrences j i 0 j.length 1).isEmpty else !(occurrences j i 0 j.length 1).isEmpty)))
 | d,e=>match Ei e with
   |some (_,l)=>if dJ d=true/\dJ e=true then some (.val (.bl (if neg then !(l.any λy=>CW y d)else l.any λy=>CW y d)))else none
   |none=>none
set_option tactic.hygienic true in
def KX:rY (KW neg) (Bq neg):=by
 intro H d f x y Q r a c e k;unfold Bq at e;split at e;cases e;obtain rfl:=iS a;obtain rfl:=iS c;exact .inl ⟨_,_,rfl,rfl,k _ H (.refl _) (.bl _)⟩;split at e;rename_i b l h;split at e;rename_i hc;cases e;exact .inr ⟨d,f,b,l,a,c,h,hc.1,hc.2,k _ H (.refl _) (.bl _)⟩;cases e;cases e
def KY(K:W.Frag):List V->Hp->VK->Prop:=λa H Q=>∃x c t,a=[x,.ty c]/\AR K H x (.type t)/\(t="NoneType"\/t="int"\/t="bool"\/t="str"\/t="list"\/t="tuple") /\
 (c="int"\/c="bool"\/c="str"\/c="list"\/c="tuple")/\Q (.bl (xS t c)) H
def XH(K:W.Frag)(a:X.K=K):kD X (.builtin "isinstance") (KY K):=by
 subst a;intro p s Z H e u Q I r h;obtain⟨x,c,t,rfl,T,b,d,q⟩:=h;exact xN p s Z H _ u Q I r ⟨x,c,.type t,_,rfl,T,VI b d,q⟩
def XI(K:W.Frag)(hc:c="int"\/c="bool"\/c="str"\/c="list"\/c="tuple")(h:∀ m,PE X e (Gf (KY K) (GX (AY m r) (GX (tC (.ty c)) Ge)))):GE X e (CV (Fw c) r):=.mk λm=>Bk (h m) λn H Q g=>by
 have j:He (λx H Q=>KY K [x,.ty c] H Q) (Fw c):=by
  intro H d x Q q a e k;cases d with
  |non=>cases e;obtain rfl:=NQ a;exact⟨_,_,_,rfl,.non,.inl rfl,hc,k _ H (.refl _) (.bl _)⟩
  |bl b=>cases e;obtain rfl:=Io a;exact⟨_,_,_,rfl,.bl b,.inr (.inr (.inl rfl)),hc,k _ H (.refl _) (.bl _)⟩
  |int i=>cases e;obtain rfl:=cG a;exact⟨_,_,_,rfl,.int i,.inr (.inl rfl),hc,k _ H (.refl _) (.bl _)⟩
  |str i=>cases e;obtain rfl:=iS a;exact⟨_,_,_,rfl,.str i,.inr (.inr (.inr (.inl rfl))),hc,k _ H (.refl _) (.bl _)⟩
  |tup l=>cases e;obtain⟨p,o,rfl,f,_⟩:=eP a;exact⟨_,_,_,rfl,.tup f,.inr (.inr (.inr (.inr (.inr rfl)))),hc,k _ H (.refl _) (.bl _)⟩
  | lst l=>
    cases e;rcases a with a|⟨p,rfl,a⟩
    ·cases a with
     |lst f _=>exact⟨_,_,_,rfl,.frz f,.inr (.inr (.inr (.inr (.inl rfl)))),hc,k _ H (.refl _) (.bl _)⟩
    ·obtain⟨o,f,_⟩:=iO a;exact⟨_,_,_,rfl,.lst f,.inr (.inr (.inr (.inr (.inl rfl)))),hc,k _ H (.refl _) (.bl _)⟩
  |dic s v=>cases e
 exact NN j g
def gE(h:GE X e r)(a:Gm):PE X e (AY a r):=h.to a
def gA(h:GA X e r)(a:Gm):PA X e (BW a r):=h.to a
def gT(h:GT X e r)(a:Gm):PT X e (CG a r):=h.to a
def gI(h:GI X t e r)(a:Gm):PI X t e (EI a r):=h.to a
def Hw(h:CI E X e r)(a:Gm):BB X e (Bb a E r):=h.to a
noncomputable def KZ(K:W.Frag):Bool:=K.all λp=>match p.2.cls with
 |.type n=>!(n=="list")
 |_=>true
def XJ{N:List Int}(b:KZ K=true)(f:Ih H)(u:Bd K H a (N.map V.int)):BE H [⟨.val,.lst (N.map D.int)⟩] [.ref a]:=by
 have c:∃ o,H a=some (.frz o (.lst (N.map V.int))):=by
  rcases u with u|⟨o,I,n,g,hc,_⟩
  ·rcases u with u|⟨o,u⟩;rcases f a with z|⟨o,x,z⟩;rw[u]at z;cases z;rw[u]at z;cases z;exact⟨o,u⟩
  ·exfalso;unfold KZ at b;rw[HX]at b;have v:(a,o)∈K:=by
    clear b f;have:∀ (l:List (Addr×Obj)),List.lookup a l=some o->(a,o)∈l:=by
     intro l
     induction l with
     |nil=>intro h;simp at h
     | cons p r k=>
       intro h;rw[lookup_cons]at h;split at h
       ·rename_i e;have:a=p.1:=by simpa using e
        cases h;rw[this];exact Aa
       ·exact Am _ (k h)
    exact this K g
   have:=b _ v;rw[hc]at this;simp at this
 obtain⟨o,c⟩:=c;refine⟨rfl,λi s e=>?_,λi j s t p n d q m=>?_,λi s e=>?_⟩
 ·cases i with
  |zero=>simp at e;subst e;exact⟨_,rfl,.lst c (lA N)⟩
  |succ i=>simp at e
 ·cases i with
  |zero=>simp at d;subst d;cases m
  |succ i=>simp at d
 ·cases i with
  |zero=>simp at e;subst e;exact λz=>nomatch z
  |succ i=>simp at e
def dY{b:Type}(o:Option b)(K:b->Prop):Prop:=match o with
 |some a=>K a
 |none=>False
def RE(r:DE)(Z:Sg)(Q:hJ->Sg->Prop):Prop:=dY (r Z) λx=>Q x.1 x.2
def RT(r:DT)(Z:Sg)(Q:Bool->Sg->Prop):Prop:=dY (r Z) λx=>Q x.1 x.2
def RA(r:DA)(Z:Sg)(Q:List hJ->Sg->Prop):Prop:=dY (r Z) λx=>Q x.1 x.2
def RS(r:DS)(Z:Sg)(Q:Ct->Prop):Prop:=dY (r Z) Q
def RI(r:DI)(Z:Sg)(Q:List D->Option Nat->Sg->Prop):Prop:=dY (r Z) λx=>Q x.1 x.2.1 x.2.2
def RO(r:DO)(Z:Sg)(Q:Option Int->Sg->Prop):Prop:=dY (r Z) λx=>Q x.1 x.2
theorem aH{f:b->Option c}:dY (o.bind f) K=dY o λa=>dY (f a) K:=by cases o<;>rfl
theorem aY{K:b->Prop}:dY (some a) K=K a:=rfl
def vG{f:b->c}:dY (o.map f) K=dY o λa=>K (f a):=by cases o<;>rfl
theorem aN{a:Type}{c:Prop}[Decidable c]{o:Option a}{K:a->Prop}:dY (if c then o else none) K=(c/\dY o K):=by
 by_cases h:c
 ·lia
 ·rw[a0m h];exact propext ⟨λq=>q.elim,λq=>h q.1⟩
def bQ{K:b->Prop}:dY o K↔∃a,o=some a/\K a:=by
 cases o with
 |none=>exact⟨λq=>q.elim,λ⟨_,e,_⟩=>nomatch e⟩
 |some a=>exact⟨λq=>⟨a,rfl,q⟩,λz=>by obtain⟨_,e,q⟩:=z;cases e;exact q⟩
def bJ{K c:b->Prop}(h:dY o K)(w:∀a,K a->c a):dY o c:=by
 cases o with
 |none=>exact h
 |some a=>exact w a h
def EL:Nat->Sg->Nat->Sg->(hJ->Sg->Prop)->Prop
 |0,some s::_,i,Z,Q=>Q (if s.m=.val then .val s.d else .slot i) Z
 |n+1,_::r,i,Z,Q=>EL n r i Z Q
 |_,_,_,_,_=>False
def XM:∀(n:Nat) (r:Sg) (i:Nat) (Z:Sg) (Q:hJ->Sg->Prop),EL n r i Z Q=dY (match r[n]? with|some (some s)=>some (if s.m=.val then hJ.val s.d else hJ.slot i,Z)|_=>none) λx=>Q x.1 x.2:=by
 intro n r i Z Q
 induction n generalizing r with
 |zero=>cases r with|nil=>rfl|cons o r=>cases o<;>rfl
 |succ n j=>cases r with|nil=>rfl|cons o r=>exact j r
def GK:Nat->Sg->(D->Prop)->Prop
 |0,some s::_,K=>K s.d
 |n+1,_::r,K=>GK n r K
 |_,_,_=>False
theorem Ou:∀ (n:Nat) (r:Sg) (K:D->Prop),GK n r K=dY (match r[n]? with | some (some s)=>some s.d | _=>none) K
 |0,[],_ | 0,none::_,_ | 0,some s::_,_|n+1,[],_=>rfl
 | n+1,_::r,K=>by
   show GK n r K=_;rw[Ou n r K,EX]
def RD(Z:Sg)(r:hJ)(K:D->Prop):Prop:=dY (rd Z r) K
def PK:Nat->Sg->Sl->(Sg->Prop)->Prop
 |0,none::r,s,K | 0,some ⟨.val,_⟩::r,s,K | 0,some ⟨.own,_⟩::r,s,K=>K (some s::r)
 |n+1,o::r,s,K=>PK n r s λa=>K (o::a)
 |_,_,_,_=>False
def XN{r:Sg}:eR (o::r) (n+1)=eR r n:=rfl
theorem JB:∀ (n:Nat) (r:Sg) (s:Sl) (K:Sg->Prop),PK n r s K=dY (if eR r n=true then some (r.set n (some s))else none) K
 |0,[],s,K | 0,none::r,s,K | 0,some ⟨.val,_⟩::r,s,K | 0,some ⟨.own,_⟩::r,s,K | 0,some ⟨.par,_⟩::r,s,K | 0,some ⟨.lent,_⟩::r,s,K|n+1,[],s,K=>rfl
 | n+1,o::r,s,K=>by
   show PK n r s (λa=>K (o::a))=_;rw[JB n r s _,aN,aN,XN,List.set_cons_succ];rfl
def MK:Nat->Sg->FM->List D->(D->Sg->Prop)->Prop
 |0,some ⟨.own,d⟩::r,f,b,K=>dY (f d b) λy=>K y.2 (some ⟨.own,y.1⟩::r)
 |0,some ⟨.par,d⟩::r,f,b,K=>dY (f d b) λy=>K y.2 (some ⟨.par,y.1⟩::r)
 |n+1,o::r,f,b,K=>MK n r f b λe a=>K e (o::a)
 |_,_,_,_,_=>False
def Ov:∀(n:Nat) (r:Sg) (f:FM) (a:List D) (K:D->Sg->Prop),MK n r f a K=dY (CH f n a r) λx=>dY (match x.1 with|.val d=>some d|_=>none) λd=>K d x.2
:=by
 intro n r f a K
 induction n generalizing r K with
 | zero=>
   cases r with|nil=>rfl|cons o r=>
   cases o with|none=>rfl|some s=>
   obtain⟨m,d⟩:=s;cases m with
   |val|lent=>rfl
   | own=>
     show dY (f d a) _=dY ((f d a).bind λy=>some (hJ.val y.2,some (⟨.own,y.1⟩:Sl)::r)) _;rw[aH];rfl
   | par=>
     show dY (f d a) _=dY ((f d a).bind λy=>some (hJ.val y.2,some (⟨.par,y.1⟩:Sl)::r)) _;rw[aH];rfl
 | succ n i=>
   cases r with|nil=>rfl|cons o r=>
   show MK n r f a (λe b=>K e (o::b))=_;rw[i r _];unfold CH;rw[EX];cases q:r[n]? with
   |none=>rfl
   | some x=>cases x with
     |none=>rfl
     | some s=>
       dsimp only;by_cases h:s.m.mt=true;rw[gV h,gV h,aH,aH];rfl;rw[a0m h,a0m h];rfl
def TK:String->Nat->Sg->Prop->Prop
 |T,0,some ⟨.own,d⟩::_,P|T,0,some ⟨.par,d⟩::_,P|T,0,some ⟨.lent,d⟩::_,P=>EG T d=true/\P
 |T,n+1,_::r,P=>TK T n r P
 |_,_,_,_=>False
def JC:False=(false=true/\P):=propext ⟨elim,λh=>nomatch h.1⟩
def yG(T:String)(n:Nat)(r:Sg)(P:Prop):TK T n r P=(Ft T n r=true/\P):=by
 induction n generalizing r with
 | zero=>
   cases r with
   |nil=>exact JC
   | cons o r=>
     cases o with
     |none=>exact JC
     |some s=>obtain⟨m,d⟩:=s;cases m<;>first|rfl|exact JC
 | succ n i=>
   cases r with
   |nil=>exact JC
   |cons o r=>exact i r
theorem XO:RE (dC d) Z Q=Q (.val d) Z:=rfl
theorem Ox{a:Sg}:RE (aC i) (b::a) Q=EL i (b::a) i (b::a) Q:=(XM i (b::a) i (b::a) Q).symm
theorem Oy{r:Sg}:EL (n+1) (o::r) i Z Q=EL n r i Z Q:=rfl
theorem Oz{r:Sg}:EL 0 (some ⟨.val,d⟩::r) i Z Q=Q (.val d) Z:=rfl
theorem OA{r:Sg}:EL 0 (some ⟨.own,d⟩::r) i Z Q=Q (.slot i) Z:=rfl
theorem XP{r:Sg}:EL 0 (some ⟨.par,d⟩::r) i Z Q=Q (.slot i) Z:=rfl
theorem XQ{r:Sg}:EL 0 (some ⟨.lent,d⟩::r) i Z Q=Q (.slot i) Z:=rfl
theorem XR{h:Sg}:RE (aI f a b) (i::h) Q=RE a (i::h) λx g=>RE b g λy c=>RD c x λd=>RD c y λe=>dY (f d e) λr=>Q r c:=by
 unfold RE aI RD;simp only[aH,aY]
theorem XS{c:Sg}:RE (CV f a) (e::c) Q=RE a (e::c) λx b=>RD b x λd=>dY (f d) λr=>Q r b:=by
 unfold RE CV RD;simp only[aH,aY]
theorem XT:RD Z (.val d) K=K d:=rfl
theorem OB:RD Z (.own d) K=K d:=rfl
theorem XU{a:Sg}:RD (b::a) (.slot i) K=GK i (b::a) K:=(Ou i (b::a) K).symm
theorem OC{r:Sg}:GK 0 (some ⟨m,d⟩::r) K=K d:=rfl
theorem OD{r:Sg}:GK (n+1) (o::r) K=GK n r K:=rfl
theorem XW{e:Sg}:RT (cT a) (f::e) Q=RE a (f::e) λx c=>RD c x λd=>dY (match d with|.bl b=>some b|_=>none) λb=>Q b c:=by
 unfold RT RE cT RD;simp only[aH];congr 1;funext x;congr 1;funext d;cases d<;>rfl
theorem XX{e:Sg}:RT (Hf a) (f::e) Q=RE a (f::e) λx c=>RD c x λd=>dY (Jr d) λb=>Q b c:=by
 unfold RT RE Hf RD;simp only[aH,aY]
theorem XY{c:Sg}:RT (DR t u) (d::c) Q=RT t (d::c) λb a=>if b=true then RT u a Q else Q false a:=by
 unfold RT DR;simp only[aH];congr 1;funext x;by_cases h:x.1=true<;>simp[h,dY]
theorem XZ{c:Sg}:RT (Hg t u) (d::c) Q=RT t (d::c) λb a=>if b=true then Q true a else RT u a Q:=by
 unfold RT Hg;simp only[aH];congr 1;funext x;by_cases h:x.1=true<;>simp[h,dY]
theorem Ya{c:Sg}:RT (Hi t) (d::c) Q=RT t (d::c) λb a=>Q (!b) a:=by
 unfold RT Hi;simp only[aH,aY]
theorem yH:RT eU Z Q=Q true Z:=rfl
theorem yI{d:Sg}:RE (Hj a b) (e::d) Q=RT (cT a) (e::d) λt c=>if t=true then RE b c Q else Q (.val (.bl false)) c:=by
 unfold RT RE Hj;simp only[aH];congr 1;funext x;by_cases h:x.1=true<;>simp[h,dY]
theorem Yb{d:Sg}:RE (Hk t a b) (e::d) Q=RT t (e::d) λt c=>if t=true then RE a c Q else RE b c Q:=by
 unfold RT RE Hk;simp only[aH];congr 1;funext x;by_cases h:x.1=true<;>simp[h]
theorem Yc:RA aF Z Q=Q [] Z:=rfl
theorem yJ{d:Sg}:RA (aB a r) (e::d) Q=RE a (e::d) λx b=>RA r b λxs c=>Q (x::xs) c:=by
 unfold RA RE aB;simp only[aH,aY]
def Ek(Z:Sg)(r:List hJ)(K:List D->Prop):Prop:=dY (Gk Z r) K
def DC(r:List hJ)(K:List D->Prop):Prop:=dY (vals r) K
theorem yK:Ek Z [] K=K []:=rfl
theorem yL{a:Sg}:Ek (b::a) (x::xs) K=RD (b::a) x λd=>Ek (b::a) xs λc=>K (d::c):=by
 show dY ((rd (b::a) x).bind λd=>(Gk (b::a) xs).bind λc=>some (d::c)) K=_;unfold Ek RD;simp only[aH,aY]
theorem Yd:DC [] K=K []:=rfl
theorem Ye:DC (.val d::xs) K=DC xs λa=>K (d::a):=by
 show dY ((vals xs).bind λa=>some (d::a)) K=_;unfold DC;simp only[aH,aY]
theorem OE{b:Sg}:RE (hB fn d) (c::b) Q=RA d (c::b) λxs a=>Ek a xs λe=>dY (fn e) λr=>Q r a:=by
 unfold RE RA Ek hB;simp only[aH,aY]
theorem Yf{b:Sg}:RE (xW r) (c::b) Q=RA r (c::b) λxs a=>DC xs λd=>d.length<=sizeLine/\Q (.val (.tup d)) a:=by
 unfold RE RA DC xW;simp only[aH,aN,aY]
theorem Yg{b:Sg}:RE (iB r) (c::b) Q=RA r (c::b) λxs a=>DC xs λd=>d.length<=sizeLine/\Q (.own (.lst d)) a:=by
 unfold RE RA DC iB;simp only[aH,aN,aY]
def FK(r:hJ)(Z:Sg)(K:D->Sg->Prop):Prop:=dY (NT Z r) λx=>K x.1 x.2
theorem Yh{e:Sg}:RE (kN a) (f::e) Q=RE a (f::e) λx b=>FK x b λd c=>Q (.val d) c:=by
 unfold RE kN FK;simp only[aH,aY]
theorem Yi:FK (.val d) Z K=K d Z:=rfl
theorem Yj:FK (.own d) Z K=K d Z:=rfl
theorem yM:RS dZ Z Q=Q (.nx Z):=rfl
def JD(y:DS)(Q:Ct->Prop):Ct->Prop
 |.nx Z=>RS y Z Q
 |o=>Q o
def OF:RS (aW x y) Z Q=RS x Z (JD y Q):=by
 unfold RS aW;rw[aH];congr 1;funext o;cases o<;>rfl
theorem vH{a:Sg}:RS (aW x y) (b::a) Q=RS x (b::a) (JD y Q):=OF
theorem qW{a:Sg}:JD y Q (.nx (b::a))=RS y (b::a) Q:=rfl
theorem Yk:JD y Q (.rt v Z)=Q (.rt v Z):=rfl
theorem yN{c:Sg}:RS (fP a) (d::c) Q=RE a (d::c) λ_ b=>Q (.nx b):=by unfold RS RE fP;simp only[aH,aY]
theorem Yl{c:Sg}:RS (fQ a) (d::c) Q=RE a (d::c) λx b=>Q (.rt x b):=by unfold RS RE fQ;simp only[aH,aY]
theorem Ym{c:Sg}:RS (jW t x y) (d::c) Q=RT t (d::c) λb a=>if b=true then RS x a Q else RS y a Q:=by
 unfold RS RT jW;simp only[aH];congr 1;funext z;by_cases h:z.1=true<;>simp[h]
def PtK(i:Nat)(r:hJ)(Z:Sg)(K:Sg->Prop):Prop:=dY (Js i r Z) K
theorem OG{d:Sg}:RS (bC i a) (e::d) Q=RE a (e::d) λx b=>PtK i x b λc=>Q (.nx c):=by unfold RS RE PtK bC;simp only[aH,aY]
theorem Yn{a:Sg}:PtK i (.val d) (b::a) K=PK i (b::a) ⟨.val,d⟩ K:=(JB i (b::a) _ K).symm
theorem Yo{a:Sg}:PtK i (.own d) (b::a) K=PK i (b::a) ⟨.own,d⟩ K:=(JB i (b::a) _ K).symm
theorem Yp{r:Sg}:PK 0 (none::r) s K=K (some s::r):=rfl
theorem OH{r:Sg}:PK 0 (some ⟨.val,d⟩::r) s K=K (some s::r):=rfl
theorem OI{r:Sg}:PK 0 (some ⟨.own,d⟩::r) s K=K (some s::r):=rfl
theorem vI{r:Sg}:PK (n+1) (o::r) s K=PK n r s λa=>K (o::a):=rfl
theorem yO{c:Sg}:RE (uU T i b) (f::c) Q=TK T i (f::c) (MK i (f::c) b [] λd a=>Q (.val d) a):=by
 rw[yG,Ov];unfold RE uU;rw[aN];congr 1;apply propext;rw[bQ,bQ];constructor;rintro⟨⟨x,s⟩,e,q⟩;obtain⟨_,_,_,_,_,_,rfl,_⟩:=fT e;exact⟨_,e,q⟩;rintro⟨⟨x,s⟩,e,q⟩;obtain⟨_,_,_,_,_,_,rfl,_⟩:=fT e;exact⟨_,e,q⟩
theorem La{Q:hJ->Sg->Prop}:dY (CH b i c Z) (λx=>Q x.1 x.2)=MK i Z b c λd a=>Q (.val d) a:=by
 rw[Ov];apply propext;rw[bQ,bQ];constructor;rintro⟨⟨x,s⟩,e,q⟩;obtain⟨_,_,_,_,_,_,rfl,_⟩:=fT e;exact⟨_,e,q⟩;rintro⟨⟨x,s⟩,e,q⟩;obtain⟨_,_,_,_,_,_,rfl,_⟩:=fT e;exact⟨_,e,q⟩
theorem yP{e:Sg}:RE (eM T i c r) (f::e) Q=TK T i (f::e) (RA r (f::e) λxs a=>DC xs λg=>MK i a c g λd b=>Q (.val d) b):=by
 rw[yG];unfold RE eM RA DC;rw[aN];simp only[aH,La]
theorem yQ{e:Sg}:RE (pZ T i c r) (f::e) Q=TK T i (f::e) (RA r (f::e) λxs a=>Ek a xs λg=>MK i a c g λd b=>Q (.val d) b):=by
 rw[yG];unfold RE pZ RA Ek;rw[aN];simp only[aH,La]
theorem Yq{r:Sg}:TK T 0 (some ⟨.own,d⟩::r) P=(EG T d=true/\P):=rfl
theorem Yr{r:Sg}:TK T 0 (some ⟨.par,d⟩::r) P=(EG T d=true/\P):=rfl
theorem Ys{r:Sg}:TK T (n+1) (o::r) P=TK T n r P:=rfl
theorem Yt{r:Sg}:MK 0 (some ⟨.own,d⟩::r) a b K=dY (a d b) λy=>K y.2 (some ⟨.own,y.1⟩::r):=rfl
theorem Yu{r:Sg}:MK 0 (some ⟨.par,d⟩::r) a b K=dY (a d b) λy=>K y.2 (some ⟨.par,y.1⟩::r):=rfl
theorem Yv{r:Sg}:MK (n+1) (o::r) a d K=MK n r a d λe b=>K e (o::b):=rfl
theorem Yw{h:Sg}:RS (Gs i a b) (j::h) q=RE b (j::h) λx c=>dY (match x with | .val d=>some d | _=>none) λd=>TK "list" i c (RE a c λy f=>RD f y λg=>dY (match g with | .int k=>some k | _=>none) λk=>
  MK i f (λa _=>(JA k d a).map λb=>(b,.non)) [] λ_ e=>q (.nx e)):=by
 unfold RS RE RD Gs;rw[aH];congr 1;funext x;obtain⟨x,c⟩:=x;cases x with
 |own d|slot d=>rfl
 | val d=>
   show dY _ _=TK _ _ _ _;rw[yG];rw[aN];simp only[aH];congr 1;congr 1;funext y;congr 1;funext g;cases g with
   | int k=>
     rw[aH];show _=MK _ _ _ _ _;rw[← La (Q:=λ_ e=>q (.nx e))];rfl
   |_=>rfl
theorem Yx{e:Sg}:RS (EH g a) (f::e) Q=RE a (f::e) λx b=>dY (match x with | .val d=>some d | _=>none) λd=>dY (g d b) λc=>Q (.nx c):=by
 unfold RS RE EH;rw[aH];congr 1;funext x;obtain⟨x,b⟩:=x;cases x with
 |own d|slot d=>rfl
 | val d=>
   rw[aH];rfl
theorem Lb{a:Sg}:dY (gX i d (b::a)) K=PK i (b::a) ⟨.val,d⟩ K:=(JB i (b::a) _ K).symm
theorem sH{b:Sg}:dY (dI n a (.tup l) (c::b)) K=(l.length=n/\dY (a l (c::b)) K):=by
 show dY (if l.length=n then a l (c::b)else none) K=_;rw[aN]
theorem nO{c:Sg}:dY (aL g b (d::l) (e::c)) K=dY (g d (e::c)) λa=>dY (b l a) K:=by
 show dY ((g d (e::c)).bind λa=>b l a) K=_;rw[aH]
theorem sI:dY (eN [] Z) K=K Z:=rfl
theorem Yy{c:Sg}:RS (Iq i j r) (f::c) Q=RA r (f::c) λxs a=>DC xs λb=>dY (match b with|[d,e]=>some (d,e)|_=>none) λp=>(eR a i=true/\eR a j=true/\i≠j)/\Q (.nx ((a.set i (some ⟨.val,p.1⟩)).set j (some ⟨.val,p.2⟩))):=by
 unfold RS RA DC Iq;simp only[aH];congr 1;funext x;congr 1;funext b
 match b with
 |[]|[_]=>rfl
 |[d,e]=>rw[aN];rfl
 |_::_::_::_=>rfl
def CK(r:Aa4)(a:List Sl)(K:hJ->List Sl->Prop):Prop:=dY (r a) λy=>K y.1 y.2
def AK(Z:Sg)(r:List hJ)(K:List Sl->Prop):Prop:=dY (oS Z r) K
def A1(Z:Sg)(r:hJ)(K:Sl->Prop):Prop:=dY (yC Z r) K
def HK:Nat->Sg->(Sl->Prop)->Prop
 |0,some ⟨m,d⟩::_,K=>K ⟨if m.mt=true then .par else m,d⟩
 |n+1,_::r,K=>HK n r K
 |_,_,_=>False
theorem OJ:∀ (n:Nat) (r:Sg) (K:Sl->Prop),HK n r K=A1 r (.slot n) K
 |0,[],_ | 0,none::_,_ | 0,some s::_,_|n+1,[],_=>rfl
 | n+1,_::r,K=>by
   show HK n r K=_;rw[OJ n r K];rfl
def UK:Nat->Sg->D->(Sg->Prop)->Prop
 |0,some ⟨.own,_⟩::r,d,K=>K (some ⟨.own,d⟩::r)
 |0,some ⟨.par,_⟩::r,d,K=>K (some ⟨.par,d⟩::r)
 |0,o::r,_,K=>K (o::r)
 |n+1,o::r,d,K=>UK n r d λa=>K (o::a)
 |_,[],_,K=>K []
def uS(Z:Sg)(i:Nat)(d:D):Sg:=match Z[i]? with
 |some (some s)=>if s.m.mt=true then Z.set i (some ⟨s.m,d⟩)else Z
 |_=>Z
theorem OK:∀ (n:Nat) (r:Sg) (d:D) (K:Sg->Prop),UK n r d K=K (uS r n d)
 |0,[],_,_|n+1,[],_,_ | 0,none::r,d,K | 0,some ⟨.val,_⟩::r,d,K | 0,some ⟨.own,_⟩::r,d,K | 0,some ⟨.par,_⟩::r,d,K | 0,some ⟨.lent,_⟩::r,d,K=>rfl
 | n+1,o::r,d,K=>by
   show UK n r d (λa=>K (o::a))=_;rw[OK n r d _];unfold uS;rw[EX];cases r[n]? with
   |none=>rfl
   | some x=>cases x with
     |none=>rfl
     | some s=>
       grind
def sB:List hJ->List Sl->Sg->Sg
 |.slot i::r,a::A,Z=>sB r A (uS Z i a.d)
 |_::r,_::A,Z=>sB r A Z
 |_,_,Z=>Z
def Yz:(uS Z i d)[j]? = (Z[j]?).map λo=>if j=i then(match o with | some s=>some (if s.m.mt=true then⟨s.m,d⟩else s) | none=>none)else o:=by
 unfold uS;by_cases a:j=i
 ·subst a;cases h:Z[j]? with
  |none=>rw[h];rfl
  | some o=>
    cases o with
    |none=>simp_all
    | some s=>
      dsimp only;by_cases H:s.m.mt=true;rw[gV H,Bo (sL.mp h).1];simp[H]
      simp_all
 ·have:∀ x:Option Sl,(Z.set i x)[j]? = Z[j]?:=λx=>sU (hR a);split
  ·split
   ·simp_all
   simp
  simp_all
theorem Lc:∀ (f:List hJ) (A:List Sl) (Z:Sg) (j:Nat),eC f=true->(sB f A Z)[j]? = (Z[j]?).map (lD f A j)
 |[],A,Z,j,_=>by cases A<;>(show Z[j]?=_;cases Z[j]? with|none=>rfl|some o=>cases o<;>simp[lD,jA])
 |r::f,[],Z,j,_=>by cases r<;>(show Z[j]?=_;cases Z[j]? with|none=>rfl|some o=>cases o<;>simp[lD,jA])
 |.val d::f,a::A,Z,j,h|.own d::f,a::A,Z,j,h=>Lc f A Z j h
 | .slot i::f,a::A,Z,j,h=>by
   have g:eC f=true/\Fv i f=false:=by
    unfold eC at h
    lia
   show(sB f A (uS Z i a.d))[j]?=_;rw[Lc f A _ j g.1,Yz];cases Z[j]? with
   |none=>rfl
   | some o=>
     cases o with
     |none=>by_cases H:j=i<;>simp[lD,H]
     | some s=>
       by_cases H:j=i
       ·subst H;have c:jA j f A=none:=by
         cases q:jA j f A with
         |none=>rfl
         | some b=>
           obtain⟨k,e,_⟩:=fW q;rw[nN e]at g;lia
        simp[lD,c,jA]
       ·have:¬i=j:=λz=>H z.symm;simp[lD,H,jA,this]
def Ld(h:eC r=true):iW r a 0 Z=sB r a Z:=by
 apply Fc;intro j;rw[jB,Lc r a Z j h,BL]
def BK(r:List hJ)(a:List Sl)(Z:Sg)(K:Sg->Prop):Prop:=K (sB r a Z)
def Hx(A:List Sl)(K:hJ->List Sl->Prop):Ct->Prop
 |.nx Z=>K (.val .non) (sE A Z)
 |.rt r Z=>dY (Jv Z r) λa=>K a (sE A Z)
 |_=>False
theorem yR{e:Sg}{r:Aa4}:RE (aE n r g) (f::e) Q=RA g (f::e) λc a=>AK a c λd=>(d.length=n/\eC c=true)/\CK r d λy A=>BK c A a λb=>Q y b:=by
 unfold RE RA AK CK aE;simp only[aH,aN,aY];congr 1;funext x;congr 1;funext d;apply propext;constructor;rintro⟨h,q⟩;refine⟨h,bJ q λy q=>?_⟩;unfold BK;rw[← Ld h.2];exact q;rintro⟨h,q⟩;refine⟨h,bJ q λy q=>?_⟩;unfold BK at q;rw[← Ld h.2]at q;exact q
theorem YA:BK [] a Z K=K Z:=rfl
theorem YB:BK (.val d::r) (a::A) Z K=BK r A Z K:=rfl
theorem YC:BK (.own d::r) (a::A) Z K=BK r A Z K:=rfl
theorem YD{b:Sg}:BK (.slot i::r) (⟨m,d⟩::A) (c::b) K=UK i (c::b) d λa=>BK r A a K:=by
 rw[OK];rfl
theorem YE{r:Sg}:UK 0 (some ⟨.own,e⟩::r) d K=K (some ⟨.own,d⟩::r):=rfl
theorem YF{r:Sg}:UK 0 (some ⟨.par,e⟩::r) d K=K (some ⟨.par,d⟩::r):=rfl
theorem YG{r:Sg}:UK (n+1) (o::r) d K=UK n r d λa=>K (o::a):=rfl
def aZ:CK (iV len b) a K=RS b (EJ len a) (Hx a K):=by
 unfold CK RS iV;rw[aH];congr 1;funext o;cases o with
 |rt x s=>rw[aH];rfl
 |_=>rfl
def Gu:Nat->Sg->(hJ->Prop)->Prop
 |0,some ⟨.own,d⟩::_,K=>K (.own d)
 |0,some ⟨.val,d⟩::_,K=>K (.val d)
 |n+1,_::r,K=>Gu n r K
 |_,_,_=>False
theorem OL:∀ (n:Nat) (r:Sg) (K:hJ->Prop),Gu n r K=dY (Jv r (.slot n)) K
 |0,[],_ | 0,none::_,_ | 0,some ⟨.val,_⟩::r,K | 0,some ⟨.own,_⟩::r,K | 0,some ⟨.par,_⟩::r,K | 0,some ⟨.lent,_⟩::r,K|n+1,[],_=>rfl
 | n+1,o::r,K=>by
   show Gu n r K=_;rw[OL n r K];rfl
theorem yS:Hx a K (.rt (.val d) Z)=K (.val d) (sE a Z):=rfl
theorem yT:Hx a K (.rt (.own d) Z)=K (.own d) (sE a Z):=rfl
theorem yU{a:Sg}:Hx A K (.rt (.slot i) (b::a))=Gu i (b::a) λr=>K r (sE A (b::a)):=(OL i (b::a) _).symm
theorem YH{r:Sg}:Gu 0 (some ⟨.own,d⟩::r) k=k (.own d):=rfl
theorem YI{r:Sg}:Gu (n+1) (o::r) k=Gu n r k:=rfl
theorem yV:sE [] Z=[]:=rfl
theorem yW{r:Sg}:sE (⟨.val,d⟩::a) (some s::r)=⟨.val,d⟩::sE a r:=rfl
theorem yX{r:Sg}:sE (⟨.par,d⟩::a) (some s::r)=s::sE a r:=rfl
theorem YJ:AK Z [] K=K []:=rfl
theorem YK{b:Sg}:AK (c::b) (x::xs) K=A1 (c::b) x λa=>AK (c::b) xs λA=>K (a::A):=by
 show dY ((yC (c::b) x).bind λa=>(oS (c::b) xs).bind λA=>some (a::A)) K=_;unfold AK A1;simp only[aH,aY]
theorem YL:A1 Z (.val d) K=K ⟨.val,d⟩:=rfl
theorem YM:A1 Z (.own d) K=K ⟨.par,d⟩:=rfl
theorem YN{a:Sg}:A1 (b::a) (.slot i) K=HK i (b::a) K:=(OJ i (b::a) K).symm
theorem YO{r:Sg}:HK 0 (some ⟨.own,d⟩::r) K=K ⟨.par,d⟩:=rfl
theorem YP{r:Sg}:HK 0 (some ⟨.par,d⟩::r) K=K ⟨.par,d⟩:=rfl
theorem YQ{r:Sg}:HK (n+1) (o::r) K=HK n r K:=rfl
def YR{c:Sg}:RS (mS r g b) (d::c) Q=RI r (d::c) λi l a=>dY (Fu g b i (lendO l a)) λo=>Q (uZ l a o):=by
 unfold RS RI mS;simp only[aH,aY]
theorem OM{c:Sg}:RI (Al a) (e::c) K=RE a (e::c) λx b=>RD b x λd=>dY (oQ d) λl=>K l (match x with|.slot i=>some i|_=>none) b:=by
 unfold RI RE RD Al;simp only[aH,aY];try rfl
def Le:List D->Option (List D)
 |[.int j]=>if -(2^62)<=j/\j<2^62 then some (qA 0 j.toNat)else none
 |[.int i,.int j]=>if(-(2^62)<=i/\i<2^62) /\ -(2^62)<=j/\j<2^62 then some (qA i (j-i).toNat)else none
 |_=>none
theorem YS{b:Sg}:RI (uY r) (c::b) K=RA r (c::b) λxs a=>Ek a xs λd=>dY (Le d) λl=>K l none a:=by
 unfold RI RA Ek uY;simp only[aH];congr 1;funext x;congr 1;funext d
 match d with
 |[]=>rfl
 |[.int j]=>show dY (if -(2^62)<=j/\j<2^62 then _ else none) _=dY (if -(2^62)<=j/\j<2^62 then _ else none) _;rw[aN,aN];rfl
 |[.int i,.int j]=>show dY (if(-(2^62)<=i/\i<2^62) /\ -(2^62)<=j/\j<2^62 then _ else none) _=dY (if(-(2^62)<=i/\i<2^62) /\ -(2^62)<=j/\j<2^62 then _ else none) _;rw[aN,aN];rfl
 |[.non]|[.bl _]|[.str _]|[.tup _]|[.lst _]|[.dic _ _]|.non::_::_|.bl _::_::_|.str _::_::_|.tup _::_::_|.lst _::_::_|.dic _ _::_::_|.int _::.non::_|.int _::.bl _::_|.int _::.str _::_|.int _::.tup _::_|.int _::.lst _::_|.int _::.dic _ _::_|.int _::.int _::_::_=>rfl
theorem yZ:dY (Le [.int j]) K=((-(2^62)<=j/\j<2^62)/\K (qA 0 j.toNat)):=by
 show dY (if -(2^62)<=j/\j<2^62 then some (qA 0 j.toNat)else none) K=_;rw[aN];rfl
def YT:dY (Le [.int i,.int j]) K=(((-(2^62)<=i/\i<2^62) /\ -(2^62)<=j/\j<2^62)/\K (qA i (j-i).toNat)):=by
 show dY (if(-(2^62)<=i/\i<2^62) /\ -(2^62)<=j/\j<2^62 then some (qA i (j-i).toNat)else none) K=_;rw[aN];rfl
def YU(P:Nat->Sg->Prop)(q:P 0 Z)(H:∀i d Z,I[i]?=some d->P i Z->dY (g d Z) λc=>RS b c λo=>∃a,(o=.nx a\/o=.ct a)/\P (i+1) a)(k:∀n,P I.length n->K (.nx n)):dY (Fu g b I Z) K:=by
 induction I generalizing P Z with
 |nil=>exact k Z q
 | cons d r f=>
   show dY ((g d Z).bind _) K;rw[aH];refine bJ (H 0 d Z rfl q) λc h=>?_;rw[aH];refine bJ h λo j=>?_;obtain⟨a,l,m⟩:=j;have G:dY (Fu g b r a) K:=f (λi=>P (i+1)) m (λi d Z e p=>H (i+1) d Z (by simp_all) p) λn p=>k n (by simp_all);rcases l with rfl|rfl;exact G
   simp_all
theorem qX(P:Nat->Sg->Prop)(H:∀ m Z,P m Z->RT c Z λt d=>if t=true then RS b d λo=>(∃ a M,(o=.nx a\/o=.ct a)/\M < m/\P M a)\/(∃ x a,o=.rt x a/\K (.rt x a))\/(∃ a,o=.bk a/\K (.nx a))else K (.nx d)) :
  ∀(n m:Nat) (Z:Sg),m<n->P m Z->dY (mT c b n Z) K
 |0,m,Z,h,_=>by lia
 | n+1,m,Z,h,p=>by
   show dY ((c Z).bind _) K;rw[aH];refine bJ (H m Z p) λx e=>?_;dsimp only at e;by_cases f:x.1=true
   ·rw[gV f]at e ⊢;rw[aH];refine bJ e λo g=>?_;rcases g with⟨a,M,i,k,j⟩ | ⟨x,a,rfl,q⟩ | ⟨a,rfl,q⟩
    ·have G:=qX P H n M a (by lia) j;rcases i with rfl|rfl;exact G
     simp_all
    ·exact q
    ·exact q
   ·rw[a0m f]at e ⊢;exact e
def YV(P:Nat->Sg->Prop)(m:Nat)(H:m<1000000)(e:P m Z)(h:∀m Z,P m Z->RT c Z λt d=>if t=true then RS b d λo=>(∃a M,(o=.nx a\/o=.ct a)/\M < m/\P M a)\/(∃x a,o=.rt x a/\Q (.rt x a))\/(∃a,o=.bk a/\Q (.nx a))else Q (.nx d)):dY (mT c b Hm Z) Q:=
 qX P h Hm m Z (Ao H WL) e
def YW{b:Sg}:RE (bV o r g t e) (c::b) Q=RI r (c::b) λi l a=>i.length<=sizeLine/\dY (xZ o g t e i (bG o (lendO l a))) λy=>Q (.own (.lst y.1)) (uC l a (jX o (lendO l a) y.2)):=by
 unfold RE RI bV;simp only[aH,aN,aY]
def YX(I:List D):∀ (w:Sg) (P:Nat->List D->Sg->Prop),P 0 [] w ->
  (∀i d A w,I[i]?=some d->P i A w->dY (g d w) λc=>RT t c λb f=>if b=true then RE e f λr l=>∃v,r=.val v/\P (i+1) (A++[v]) (bG O l)else P (i+1) A (bG O f)) ->
  (∀A w,P I.length A w->K (A,w))->dY (xZ O g t e I w) K:=by
 induction I generalizing K with
 |nil=>exact λw P z _ k=>k [] w z
 | cons d r m=>
   intro w P z H k;show dY ((g d w).bind _) K;rw[aH];refine bJ (H 0 d [] w rfl z) λc o=>?_;rw[aH];refine bJ o λx h=>?_;dsimp only at h;by_cases n:x.1=true;rw[gV n]at h ⊢;rw[aH];refine bJ h λy q=>?_;obtain⟨v,s,p⟩:=q;rw[s];rw[aH];exact m _ (λi A w=>P (i+1) (v::A) w) p (λi B A a u j=>by simpa using H (i+1) B (v::A) a (by simp_all) j) λA a j=>k (v::A) a (by simp_all);rw[a0m n]at h ⊢;exact m _ (λi A w=>P (i+1) A w) h (λi B A a u j=>H (i+1) B A a (by simp_all) j) λA a j=>k A a (by simp_all)
theorem YY:dY (gP (.int i) (.int j)) K=K (.val (.int (i+j))):=rfl
theorem zA:dY (gP (.lst l) (.lst m)) K=(l.length+m.length<=sizeLine/\K (.own (.lst (l++m)))):=by
 show dY (if l.length+m.length<=sizeLine then some (hJ.own (.lst (l++m)))else none) K=_;rw[aN];rfl
theorem zB:dY (gP (.tup l) (.tup m)) K=(l.length+m.length<=sizeLine/\K (.val (.tup (l++m)))):=by
 show dY (if l.length+m.length<=sizeLine then some (hJ.val (.tup (l++m)))else none) K=_;rw[aN];rfl
theorem zC:dY (gP (.str x) (.str y)) K=(x.length+y.length<=sizeLine/\K (.val (.str (x++y)))):=by
 show dY (if x.length+y.length<=sizeLine then some (hJ.val (.str (x++y)))else none) K=_;rw[aN];rfl
theorem YZ:dY (Hr (.int i) (.int j)) K=K (.val (.int (i-j))):=rfl
theorem Za:dY (wX (.int i) (.int j)) K=(qB i j/\K (.val (.int (i*j)))):=@aN _ (qB i j) (Classical.propDecidable _) _ _
theorem Zb:dY (Hv (.int i) (.int j)) K=(Hu i j/\K (.val (.int (i / j)))):=@aN _ (Hu i j) (Classical.propDecidable _) _ _
theorem Zc:dY (CL (.int i) (.int j)) K=(0<j/\K (.val (.int (i % j)))):=@aN _ (0<j) (Classical.propDecidable _) _ _
theorem Zd:dY (Jy (.int i) (.int j)) K=(GV i j/\K (.val (.int (i^j.toNat)))):=@aN _ (GV i j) (Classical.propDecidable _) _ _
theorem Ze:dY (Ej (.int i) (.int j)) K=K (.val (.bl (decide (i<j)))):=rfl
theorem Zf:dY (CM (.int i) (.int j)) K=K (.val (.bl (decide (j<i)))):=rfl
theorem Zg:dY (Jz (.int i) (.int j)) K=K (.val (.bl (decide (j<=i)))):=rfl
theorem Zh:dY (hQ (.lst l) (.int i)) K=dY (atI l i) λd=>K (.val d):=by
 show dY ((atI l i).map hJ.val) K=_;rw[vG]
theorem Zi:dY (hQ (.tup l) (.int i)) K=dY (atI l i) λd=>K (.val d):=by
 show dY ((atI l i).map hJ.val) K=_;rw[vG]
theorem zD:dY (jQ [.lst l]) K=K (.val (.int l.length)):=rfl
theorem zE:dY (jQ [.tup l]) K=K (.val (.int l.length)):=rfl
theorem zF:dY (Gq [.bl b]) K=K (.val (.int (if b then 1 else 0))):=rfl
theorem Zj:dY (Ht [.int i,.int j]) K=K (.val (.int (if j > i then j else i))):=rfl
theorem Zk:dY (oU [.int i,.int j]) K=K (.val (.int (if j<i then j else i))):=rfl
theorem zG:dY (oV [.lst l]) K=K (.own (.lst l)):=rfl
theorem sJ:dY (oV [.tup l]) K=K (.own (.lst l)):=rfl
theorem Zl:dY (lE [.lst l]) K=K (.val (.tup l)):=rfl
theorem zH:dY (lE [.tup l]) K=K (.val (.tup l)):=rfl
theorem Zm:dY (Av false (.int i) (.int j)) K=K (.val (.bl (decide (i=j)))):=rfl
theorem Zn:dY ((JA k e (.lst l)).map λb=>(b,D.non)) K=dY (AM l.length k) λj=>K (.lst (l.set j e),.non):=by
 show dY (((AM l.length k).map λj=>D.lst (l.set j e)).map λb=>(b,D.non)) K=_;rw[vG,vG]
theorem Zo:dY (vD (.lst l) [e]) K=(l.length<sizeLine/\K (.lst (l++[e]),.non)):=by
 show dY (if l.length<sizeLine then some (D.lst (l++[e]),D.non)else none) K=_;rw[aN];rfl
def SK(d:D)(l hi:Option Int)(K:hJ->Prop):Prop:=dY (KQ d l hi) K
theorem Zp:RE (Ci a x y) Z Q=RE a Z λr c=>RO x c λl e=>RO y e λhi b=>RD b r λd=>SK d l hi λv=>Q v b:=by
 unfold RE RO RD SK Ci;simp only[aH,aY]
theorem Zq:RO yF Z K=K none Z:=rfl
theorem Zr:RO (dP a) Z K=RE a Z λx b=>RD b x λd=>dY (match d with|.int k=>some k|_=>none) λk=>K (some k) b:=by
 unfold RO RE RD dP;simp only[aH];congr 1;funext x;congr 1;funext d;cases d<;>rfl
theorem Zs:SK (.lst l) L hi K=K (.own (.lst (Gp l L hi))):=rfl
theorem Zt{K:D->Prop}:dY (atI (x::l) 0) K=K x:=by
 show dY ((AM (x::l).length 0).bind λj=>(x::l)[j]?) K=_;unfold AM;rw[gV (Int.le_refl 0),gV (by simp)];rfl
theorem Zu{K:D->Prop}:dY (atI (x::y::l) 1) K=K y:=by
 show dY ((AM (x::y::l).length 1).bind λj=>(x::y::l)[j]?) K=_;unfold AM;rw[gV (by decide),gV (by first|rfl|(simp;simp +arith))];rfl
theorem Zv{x:D}:dY (AM (x::l).length 0) K=K 0:=by
 unfold AM;rw[gV (Int.le_refl 0),gV (by simp)];rfl
theorem Zw{x y:D}:dY (AM (x::y::l).length 1) K=K 1:=by
 unfold AM;rw[gV (by decide),gV (by first|rfl|(simp;simp +arith))];rfl
theorem Zx(h:-(2^64)<j)(a:j<2^64):qB i j=True:=eq_true (.inl (.inr ⟨h,a⟩))
theorem Zy(h:-(2^64)<i)(a:i<2^64):qB i j=True:=eq_true (.inl (.inl ⟨h,a⟩))
theorem Zz[Decidable p]:qB i (if p then 1 else 0)=True:=eq_true (.inl (.inr (by split<;>decide)))
theorem ON(h:0<j)(a:j<18446744073709551616):Hu i j=True:=eq_true ⟨h,Int.lt_trans a (by decide)⟩
theorem ZA(h:0<=j)(a:j<=1000000)(b:-18446744073709551616<i)(c:i<18446744073709551616):GV i j=True:=eq_true ⟨h,a,by lia⟩
theorem ZC:lendO none Z=Z:=rfl
theorem ZE:uZ none Z o=o:=by cases o<;>rfl
theorem ZF:uC none Z a=a:=rfl
theorem ZG:(EG "list" (.lst l)=true)=True:=by simp[EG]
noncomputable def iD:List D->Option (List Str)
 |[]=>some []
 |.str s::r=>(iD r).bind λl=>some (s::l)
 |_::_=>none
def jR(h:iD l=some z):l=z.map D.str:=by
 induction l generalizing z with
 |nil=>cases h;rfl
 | cons d r i=>
   cases d with
   | str s=>
     obtain⟨l,a,b⟩:=aA h;cases b;rw[i a];rfl
   |_=>cases h
def iE(z:List Str):iD (z.map D.str)=some z:=by
 induction z with
 |nil=>rfl
 |cons b r a=>show(iD (r.map D.str)).bind _=_;simp_all
def Hy(sep:Str):F1:=λd=>match d with
 |.lst l=>(iD l).bind λy=>if(y.map (·.length)).sum+y.length*sep.length<=16777216 then some (.val (.str (Txt.join sep y)))else none
 |_=>none
def ZH(K:W.Frag)(h:∀ w,PE X e (Ef K "str" (Jk K) (tC (.str sep)) (BW w (aB r aF)))):GE X e (CV (Hy sep) r):=.mk λw=>Bk (h w) λA H Q l=>by
 have m:He (λx H Q=>Jk K (.str sep) [x] H Q) (Hy sep):=by
  intro H d x Q y n e k;unfold Hy at e;split at e;obtain⟨Y,f,e⟩:=aA e;split at e;rename_i C;cases e;obtain⟨p,G,rfl,i,b⟩:=fB n;rw[jR f]at b;rw[b.strs_inv]at i;exact⟨sep,p,Y,rfl,rfl,gU i,C,k _ H (.refl _) (.str _)⟩;cases e;cases e
 obtain⟨Z,O,y,B,e,k⟩:=l;obtain⟨⟨x,g⟩,f,e⟩:=aA e;obtain⟨o,q,e⟩:=aA e;obtain⟨r,s,e⟩:=aA e;cases e;refine⟨rfl,Z,O,[x],g,?_,λI u a b c _=>?_⟩;show((_:Option _).bind _)=_;rw[f];rfl;cases b with
 | cons b t=>
   cases t;refine m u o _ Q _ (b.vw a q) s λv E z j=>?_;exact k v E (a.same z) (j.res a) (c.trans (.same z)) (j.frh.back c)
def ZI:dY (Hy sep (.lst (z.map D.str))) K=((z.map (·.length)).sum+z.length*sep.length<=16777216/\K (.val (.str (Txt.join sep z)))):=by
 show dY ((iD (z.map D.str)).bind _) K=_;rw[iE];show dY (if _ then _ else none) K=_;rw[aN];rfl
def ZL(K:W.Frag)(a:X.K=K):EE X "str.join" (Jk K):=by rw[← a];exact UZ
def Iu:FM:=λd b=>match d,b with
 |.lst l,[.str z]=>(iD l).bind λa=>if z∈a/\a.Nodup then some (.lst ((a.erase z).map D.str),.non)else none
 |_,_=>none
theorem nP:∀ {b:List Str} {z:Str} {j:Nat},b.Nodup->b[j]? = some z->b.eraseIdx j=b.erase z
 |[],_,_,_,h=>rfl
 |y::r,z,0,_,h=>by simp_all
 | y::r,z,j+1,H,h=>by
   have c:z∈r:=An h;rw[Dq]at H;have a:y≠z:=λe=>H.1 (e▸c);rw[List.eraseIdx_cons_succ,List.erase_cons_tail (by simp_all),nP H.2 h]
set_option tactic.hygienic true in
def ZM:Gn Ny Iu:=by
 intro H d p q v Q s e o r b k;unfold Iu at b;cases d<;>(try exact aK b)<;>rcases q with _|⟨h,_|_⟩<;>(try exact aK b)<;>cases h<;>try exact aK b
 ·dsimp only at b;obtain⟨m,i,b⟩:=aA b;split at b
  ·rename_i l z _ c;cases b;obtain⟨x,f,g⟩:=iO o;rw[jR i]at g;rw[g.strs_inv]at f;cases r with
   | cons a t=>
     cases t;cases a;refine⟨p,m,z,rfl,rfl,f,c.1,λj n=>?_⟩;rw[nP c.2 n];exact k _ _ ⟨_,aJ,rX _⟩ .non
  simp_all
def ZN{a:List Str}:dY (Iu (.lst (a.map D.str)) [.str z]) K=((z∈a/\a.Nodup)/\K (.lst ((a.erase z).map D.str),.non)):=by
 show dY ((iD (a.map D.str)).bind _) K=_;rw[iE];show dY (if _ then _ else none) K=_;rw[aN];rfl
noncomputable def Hz(Z:Sg):hJ->Option D
 |.own d=>some d
 | .slot i=>match Z[i]? with
   |some (some s)=>if s.m=.val then none else some s.d
   |_=>none
 |.val _=>none
def JE(Z:Sg):List hJ->Option (List D)
 |[]=>some []
 |r::a=>(Hz Z r).bind λd=>(JE Z a).bind λb=>some (d::b)
inductive DV(H:Hp):List D->List V->Prop
 |nil:DV H [] []
 |cons {d:D} {p:Addr} {ds:List D} {vs:List V}:cM H d p->DV H ds vs->DV H (d::ds) (.ref p::vs)
set_option tactic.hygienic true in
def ZO(ok:dX f H Z c)(h:gN f H Z c r v)(e:Hz Z r=some d):∃p,v=.ref p/\cM H d p:=by
 cases r with
 |val d=>cases e
 | own k=>
   cases e;obtain⟨p,e,o,_⟩:=h;exact⟨p,e,o⟩
 | slot i=>
   unfold Hz at e;dsimp only at e;split at e;rename_i s g;split at e;cases e;rename_i j;cases e;obtain⟨p,b,o⟩:=ok.ownAt g j;obtain⟨a,_⟩:=h;rw[b]at a;cases a;exact⟨p,rfl,o⟩;cases e
theorem OO{g:List hJ}{v:List V}{h:List D}(o:dX i H Z f)(a:sS i H Z f g v)(e:JE Z g=some h):DV H h v:=by
 induction g generalizing v h with
 |nil=>cases a;cases e;exact .nil
 |cons r g ih=>cases a with
  |cons a t _=>obtain⟨d,b,e⟩:=aA e;obtain⟨h,c,e⟩:=aA e;cases e;obtain⟨p,rfl,O⟩:=ZO o a b;exact .cons O (ih t c)
def OP(a:List V->Hp->PySem.VK->Prop)(f:FN):Prop:=∀H d b Q r,DV H d b->f d=some r->(∀v h,lX H h->uR H h r v->Q v h)->a b H Q
def Iv(f:FN)(a:DA):DE:=λZ=>(a Z).bind λx=>(JE x.2 x.1).bind λd=>(f d).bind λr=>some (r,x.2)
def ZP(i:OP c f)(h:∀s,PE X e (Gf c (BW s d))):GE X e (Iv f d):=.mk λs=>Bk (h s) λu H Q B=>by
 obtain⟨Z,O,z,w,e,k⟩:=B;obtain⟨⟨x,j⟩,l,e⟩:=aA e;obtain⟨A,m,e⟩:=aA e;obtain⟨r,n,e⟩:=aA e;cases e;refine⟨Z,O,x,_,l,λy o a p b q=>?_⟩;refine i o A y Q _ (OO a p m) n λv C t g=>?_;exact k v C (a.same t) (g.res a) (b.trans (.same t)) (g.frh.back b)
noncomputable def Iw:FN:=λd=>match d with
 |[.lst l]=>some (.own (.lst l.reverse))
 |_=>none
def ZQ:OP NC Iw:=by
 intro H g v Q f o e k;unfold Iw at e;split at e
 ·cases e;cases o with
  | cons a t=>
    cases t;obtain⟨x,c,d⟩:=iO a;refine⟨_,x,rfl,c,λr b=>k _ _ (aP b) ⟨r,rfl,b,_,aJ,d.reverse.mono (Be.same (aP b))⟩⟩
 ·cases e
theorem Lf:∀{l:List D} {xs:List V},l.length=xs.length->(∀(j:Nat) d x,l[j]?=some d->xs[j]?=some x->Rp H d x)->Rps H l xs
 |[],[],_,_=>.nil
 |[],_::_,e,_|_::_,[],e,_=>by simp at e
 |d::l,x::xs,e,h=>.cons (h 0 d x rfl rfl) (Lf (by simp_all) λj f a b c=>h (j+1) f a (by simp_all) (by simp_all))
noncomputable def HA(l m:List D):List D:=(l.zip m).map λp=>.tup [p.1,p.2]
def HB:FN:=λd=>match d with
 |[.lst l,.lst m]=>some (.val (.tup (HA l m)))
 |_=>none
def NV(Z:Sg)(r:List hJ)(K:List D->Prop):Prop:=dY (JE Z r) K
def N1(Z:Sg)(r:hJ)(K:D->Prop):Prop:=dY (Hz Z r) K
theorem ZR:RE (Iv f b) Z Q=RA b Z λx a=>NV a x λd=>dY (f d) λr=>Q r a:=by
 unfold RE RA NV Iv;simp only[aH,aY]
theorem ZS:NV Z [] K=K []:=rfl
theorem ZT:NV Z (r::a) K=N1 Z r λd=>NV Z a λb=>K (d::b):=by
 unfold NV N1;show dY ((Hz Z r).bind _) K=_;simp only[aH,aY]
def GN:Nat->Sg->(D->Prop)->Prop
 |0,some ⟨m,d⟩::_,K=>if m=.val then False else K d
 |n+1,_::r,K=>GN n r K
 |_,_,_=>False
theorem OQ:∀ {i:Nat} {Z:Sg} {K:D->Prop},N1 Z (.slot i) K=GN i Z K
 |0,[],_ | 0,none::_,_=>rfl
 | 0,some ⟨m,d⟩::_,K=>by
   show dY (if m=.val then none else some d) K=if m=.val then False else K d
   split<;>rfl
 |n+1,[],_=>rfl
 | n+1,o::r,K=>by
   show N1 (o::r) (.slot (n+1)) K=GN n r K;rw[← OQ (i:=n) (Z:=r)];unfold N1 Hz;dsimp only;rw[EX]
theorem ZU{r:Sg}:GN 0 (some ⟨.own,d⟩::r) K=K d:=rfl
theorem ZV{r:Sg}:GN (n+1) (o::r) K=GN n r K:=rfl
theorem ZW:dY (Iw [.lst l]) K=K (.own (.lst l.reverse)):=rfl
def ZX(a:s.heap.IsTupleIter I t i)(e:s.heap.IsTuple t j)(f:j[i]? = some x)
  (q:∀h',h'.IsTupleIter I t (i+1)->SameBut I s.heap h'->Q x {s with heap:=h'}):wpAny (model prog w) A (nextOf (.ref I)) Q E s:=by
 obtain⟨o,b,hc,h⟩:=id a;obtain⟨g,c,_,n,d⟩:=e;refine dV (wpAny_callSpecial?_slot (name:=ofString "__next__") a.typeIs IW (BX IW a.typeIs F.entry_tuple_iterator_next ?_ (F.args_tuple_iterator_next_1 _)));show wpAny _ _ (field (.ref I) 0 >>= _) _ _ s;refine dV (Bf b h (x:=.ref t) rfl ?_);refine dV (Bf b h (x:=.int i 0) rfl ?_);refine dV (Cj c d ?_);simp only[toNat_natCast,f];refine dV (HR b h (by simp) (wpAny_pure ⟨x,rfl,wpAny_pure (q _ ⟨_,Heap.get?_update_self _ b (Obj.isFreed_of_fields (Obj.data_mapFields h _)),(Obj.cls_mapFields ..).trans hc,by rw[Obj.data_mapFields h];rfl⟩ (Eu ..))⟩))
def vJ(g:A.handled=none)(b:s.heap.IsTupleIter l t i)(h:s.heap.IsTuple t I)(j:I[i]? = none)
  (q:∀h' e,ExtBut l s.heap h'->(∃o,h'.get? e=some o/\o.cls=.type "StopIteration")->E (.ref e) {s with heap:=h'}):wpAny (model prog w) A (nextOf (.ref l)) Q E s:=by
 obtain⟨o,c,hc,H⟩:=id b;obtain⟨k,d,_,n,f⟩:=h;refine dV (wpAny_callSpecial?_slot (name:=ofString "__next__") b.typeIs IW (BX IW b.typeIs F.entry_tuple_iterator_next ?_ (F.args_tuple_iterator_next_1 _)));show wpAny _ _ (field (.ref l) 0 >>= _) _ _ s;refine dV (Bf c H (x:=.ref t) rfl ?_);refine dV (Bf c H (x:=.int i 0) rfl ?_);refine dV (Cj d f ?_);simp only[toNat_natCast,j];refine dV (Bx (dV (HR c H (by simp) ?_)));refine dV ?_;refine dV (m:=firstArgMember _ _) (wpAny_of_eq (a:=Value.none) (rfl) ?_);refine EU ?_ (by size_fits);refine dV (wpAny_handled ?_);rw[show A.in1.handled=none from g];refine dV (eH (wpAny_throw ?_));exact q _ _ (((Eu ..).extBut.push _).push _) ⟨_,Ak _ rfl,rfl⟩
def Draws.tup{prog:Program}{w:World}{A:Around}(f:A.handled=none)(l t:Addr)(c:t≠l)(I:Array Value) :
  Draws prog w A l [l,t] I.size (λi v=>I[i]?=some v) (λi h=>h.IsTupleIter l t i/\h.IsTuple t I) where
 live:=λ_ _ k=>k.1.imp λ_ z=>z.1
 frame:=λ_ _ _ k d=>⟨k.1.at λo e=>d l (by simp) o e,k.2.at λo e=>d t (by simp) o e⟩
 item:=λi s Q E m k g=>ZX k.1 k.2 (x:=I[i]) (by simp) λH a b=>g _ H s.toks (by simp) ⟨a,k.2.at λo e=>(b.2 t c).trans e⟩ b
 done:=λs Q E k j=>vJ f k.1 k.2 (by simp) j
section
open PyProof.Rows
def eD.spun{Z:St}{ch:List Addr}{a:Addr}(I:eD X A Z H s)(d:∀ b∈ch,DP X A H b)(k:∀ b u,b∉ch->s.heap.get? b=some u->h'.get? b=some u)(f:s.heap.objs.size<=a)
  (g:cC X.prog X.w (fI H a o) h' a o):eD X A Z (fI H a o) {s with heap:=h',toks:=t'}:=by
 have B:H a=none:=I.hok.fresh f;have h:∀b u,H b=some u->b∉ch:=λb u e z=>by rw[(d b z).1]at e;lia
 refine I.step (g':=s.gens) (d':=s.drawn) (ch:=ch) (λb C=>?_) (λb u _ _ hc e _=>k b u hc e) (λb u _ _ hc e _=>⟨u.slots,k b u hc e⟩) (λb u _ e n=>?_) (λb u hc e=>⟨u,k b u hc e⟩)
  (λb E e=>by rw[aG (bP e B)];exact e) (λb u v e=>by rw[aG (bP e B)];exact e) (λb M e=>⟨#[],by rw[aG (bP e B),e];simp⟩) (λm G=>?_) (λb u e=>?_) I.bare
 ·obtain⟨x,i,y,j,l,p⟩:=d b C;exact⟨j,i,l,p⟩
 ·rw[aG (AF (Ao (rN e) f))];exact n
 ·obtain⟨u,J,L,t,r⟩:=G;exact⟨u,J,L,k _ u (λz=>(d _ z).2.1 rfl) t,r⟩
 ·by_cases C:b=a;subst C;rw[aJ]at e;lia;rw[aG C]at e;refine(I.hok b u e).stay (λc v hc q=>k c v ?_ q) (λc q=>by rw[aG (bP q B)];exact q) λc E q=>by rw[aG (bP q B)];exact q
  rcases hc with z|z
  ·simp_all
  simp_all
def eD.spun0{Z:St}{ch:List Addr}(I:eD X t Z H s)(a:∀ b∈ch,DP X t H b)(k:∀ b u,b∉ch->s.heap.get? b=some u->h'.get? b=some u):eD X t Z H {s with heap:=h',toks:=t'}:=by
 have d:∀b u,H b=some u->b∉ch:=λb u e z=>by rw[(a b z).1]at e;lia
 refine I.step (g':=s.gens) (d':=s.drawn) (ch:=ch) (λb B=>?_) (λb u _ _ hc e _=>k b u hc e) (λb u _ _ hc e _=>⟨u.slots,k b u hc e⟩) (λb u _ e n=>n) (λb u hc e=>⟨u,k b u hc e⟩)
  (λb y e=>e) (λb u v e=>e) (λb G e=>⟨#[],by simp_all⟩) (λm A=>?_) (λb u e=>?_) I.bare
 ·obtain⟨l,f,o,g,h,i⟩:=a b B;exact⟨g,f,h,i⟩
 ·obtain⟨u,E,C,j,r⟩:=A;exact⟨u,E,C,k _ u (λz=>(a _ z).2.1 rfl) j,r⟩
 ·refine(I.hok b u e).stay (λc v hc q=>k c v ?_ q) (λc q=>q) λc y q=>q;rcases hc with z|z
  ·simp_all
  simp_all
end
noncomputable def Aw(i:Nat):Stmt:=PySem.Challenge.pw_mostrows_k27_whole_any_tree.main.body.getD i (.Pass ⟨0,0,0,0⟩)
structure Fi where
 n:Str
 s:Stmt
 N:List Str
 p:Nat
def tb:List Fi:=[⟨"_law_box",Aw 24,["_law_script","_law_k","_law_cell","_law_seed"],2⟩,
 ⟨"_law_take",Aw 25,["_law_box_here","_law_many","_law_digit","_law_one"],2⟩,
 ⟨"_law_names",Aw 27,["_law_box_here","_law_many","_law_letters","_law_stem","_law_at","_law_first","_law_form","_law_x","_law_y","_law_z","_law_some","_law_found","_law_k","_law_word","_law_own"],2⟩,
 ⟨"_law_order",Aw 26,["_law_box_here","_law_things","_law_left","_law_found"],2⟩,
 ⟨"_law_some_columns",Aw 28,["_law_box_here","_law_names_here","_law_many"],3⟩,
 ⟨"_law_any_tables",Aw 29,["_law_box_here","_law_names_here","_law_pool","_law_found","_law_k"],2⟩,
 ⟨"_law_ear_tables",Aw 30,["_law_box_here","_law_names_here","_law_left","_law_found","_law_k","_law_own","_law_one","_law_j"],2⟩,
 ⟨"_law_ring_tables",Aw 31,["_law_box_here","_law_names_here","_law_many","_law_ring","_law_sets","_law_one","_law_own","_law_k","_law_column"],2⟩,
 ⟨"_law_question",Aw 32,["_law_box_here","_law_kind","_law_columns_here","_law_tables","_law_way","_law_sets"],2⟩,
 ⟨"_law_columns",Aw 33,["_law_question_here","_law_found","_law_kt","_law_own","_law_column"],1⟩,
 ⟨"_law_value",Aw 34,["_law_box_here","_law_span","_law_value_here"],2⟩,
 ⟨"_law_house",Aw 35,["_law_box_here","_law_question_here","_law_ceiling","_law_columns_here","_law_span","_law_planted","_law_even","_law_room","_law_is_even","_law_found","_law_kt","_law_own","_law_limit","_law_rows","_law_k","_law_column","_law_row"],3⟩,
 ⟨"common_columns",Aw 10,["one","other","column"],2⟩,
 ⟨"picked",Aw 8,["row","places","place"],2⟩,
 ⟨"places_of",Aw 7,["columns","some","column"],2⟩,
 ⟨"grouped",Aw 11,["table","columns","others","places","other_places","groups","row"],3⟩,
 ⟨"table_of",Aw 6,["columns","rows"],2⟩,
 ⟨"joined",Aw 12,["one","other","common","added","ends","places","rows","row","column","end"],2⟩,
 ⟨"all_joined",Aw 13,["tables","whole","table"],1⟩,
 ⟨"tables_of",Aw 15,["question","house","pair","rows"],2⟩,
 ⟨"answers",Aw 17,["question","house"],2⟩,
 ⟨"_law_turned",Aw 40,["_law_box_here","_law_question_here","_law_house_here","_law_found","_law_k","_law_kt","_law_own","_law_seats","_law_rows","_law_row","_law_seat","_law_one"],3⟩,
 ⟨"_law_tree",Aw 36,["_law_box_here","_law_names_here","_law_left","_law_one","_law_other"],2⟩,
 ⟨"names_of",Aw 1,["question","name","columns"],1⟩,
 ⟨"named_tables",Aw 16,["question","house"],2⟩,
 ⟨"pairs_of",Aw 20,["tree","found","waiting","one"],1⟩,
 ⟨"cut",Aw 9,["table","columns","places","row"],2⟩,
 ⟨"columns_of",Aw 2,["question","found","name","columns","column"],1⟩,
 ⟨"by_tree",Aw 22,["question","house","tree","made","sizes","pair"],3⟩,
 ⟨"_law_pairs",Aw 38,["_law_tree_here"],1⟩,
 ⟨"_law_leaves",Aw 37,["_law_tree_here"],1⟩,
 ⟨"belonging",Aw 4,["question","things","tables","pair","thing"],3⟩,
 ⟨"house_part",Aw 18,["question","house","tables"],3⟩,
 ⟨"part",Aw 3,["question","tables","pair"],2⟩,
 ⟨"_law_parts_right",Aw 39,["_law_question_here","_law_house_here","_law_tree_here","_law_sizes","_law_pairs_here","_law_pair","_law_many","_law_names_here"],4⟩,
 ⟨"_law_seen",Aw 41,["_law_question_here","_law_other","_law_rows","_law_columns_here","_law_seats","_law_column","_law_row","_law_seat"],3⟩,
 ⟨"law",Aw 42,["_law_script","_law_box_here","_law_question_here","_law_house_here","_law_names_here","_law_due","_law_other","_law_rows","_law_k","_law_tree_here","_law_found","_law_sizes","_law_beside","_law_kt","_law_own"],1⟩]
def pz(i:Nat):List Str:=match tb[i]? with
 |some f=>f.N.take f.p
 |none=>[]
structure Iy where
 p:Nat->Addr
 d:Nat->FuncData
structure Txt(K:W.Frag)(mg:Str->Option Value)(a:Iy):Prop where
 m:∀i f,tb[i]?=some f->mg f.n=some (.ref (a.p i))
 F:∀i f,tb[i]?=some f->Eg K f.n f.n f.s (a.p i) (a.d i)
 o:∀x:Str,x∈(["dict","int","isinstance","len","list","max","min","range","reversed","set","sorted","str","tuple","zip"]:List Str)->mg x=none
def ZY:bootBuiltins "dict"=some (.type "dict"):=by decide +kernel
def ZZ:bootBuiltins "int"=some (.type "int"):=by decide +kernel
def oY:bootBuiltins "isinstance"=some (.builtin "isinstance"):=by decide +kernel
def c6:bootBuiltins "len"=some (.builtin "len"):=by decide +kernel
def oZ:bootBuiltins "list"=some (.type "list"):=by decide +kernel
def c7:bootBuiltins "max"=some (.builtin "max"):=by decide +kernel
def c8:bootBuiltins "min"=some (.builtin "min"):=by decide +kernel
def boot_range:bootBuiltins "range"=some (.type "range"):=by decide +kernel
def sK:bootBuiltins "reversed"=some (.type "reversed"):=by decide +kernel
def c9:bootBuiltins "set"=some (.type "set"):=by decide +kernel
def pA:bootBuiltins "sorted"=some (.builtin "sorted"):=by decide +kernel
def d3:bootBuiltins "str"=some (.type "str"):=by decide +kernel
def qY:bootBuiltins "tuple"=some (.type "tuple"):=by decide +kernel
def sM:bootBuiltins "zip"=some (.type "zip"):=by decide +kernel
def sN{a:Type}{Q:Nat->a->Prop}{x:a}{l:List a}(h:Q 0 x)(t:∀i f,l[i]?=some f->Q (i+1) f):∀i f,(x::l)[i]?=some f->Q i f
 |0,_,e=>by cases e;exact h
 |i+1,f,e=>t i f e
def JF{a:Type}{Q:Nat->a->Prop}:∀i f,([]:List a)[i]?=some f->Q i f:=λ_ _ e=>nomatch e
def sc:∀i f,tb[i]?=some f->AB f.N (pz i) (cK f.s):=by
 unfold tb
 repeat' first|exact JF|refine sN ⟨rfl,rfl,rfl,by decide +kernel,rfl,by decide +kernel,by decide +kernel⟩ ?_
@[elab_as_elim] def JG{P:List Value->Prop}{n:Nat}{u:List Value}(b:u.length=n+1)(h:∀ a r,r.length=n->P (a::r)):P u:=by
  cases u with
  |nil=>cases b
  |cons a r=>exact h a r (Nat.succ.inj b)
@[elab_as_elim] def OR{P:List Value->Prop}(b:u.length=1)(h:∀a,P [a]):P u:=JG b λa r c=>List.length_eq_zero_iff.mp c▸h a
@[elab_as_elim] def OS{P:List Value->Prop}(c:u.length=2)(h:∀a b,P [a,b]):P u:=JG c λa r d=>OR (P:=λr=>P (a::r)) d (h a)
@[elab_as_elim] def OT{P:List Value->Prop}(d:u.length=3)(h:∀a b c,P [a,b,c]):P u:=JG d λa r e=>OS (P:=λr=>P (a::r)) e (h a)
@[elab_as_elim] def d6{P:List Value->Prop}(e:u.length=4)(h:∀a b c d,P [a,b,c,d]):P u:=JG e λa r f=>OT (P:=λr=>P (a::r)) f (h a)
def d7:∀i f,tb[i]?=some f->∀(k d p:Value) (A:Option Addr) (c ct:Value) (u:List Value),u.length=(pz i).length->bindArgs (W.fnOf f.n f.n (rP f.s) (kH f.s) (cK f.s) .none k d p A c ct) ⟨u,[]⟩=pure ((pz i).zip u):=by
 unfold tb
 repeat' first|exact JF|refine sN (λ_ _ _ _ _ _ u a=>?_) ?_
 all_goals first|exact OR a λ_=>rfl|exact OS a λ_ _=>rfl|exact OT a λ_ _ _=>rfl|exact d6 a λ_ _ _ _=>rfl|exact us5 a λ_ _ _ _ _=>rfl|exact us6 a λ_ _ _ _ _ _=>rfl
def bn(T:Txt K mg a)(i:Nat)(f:Fi)(h:tb[i]?=some f):GZ K (a.d i) (pz i) []:=(T.F i f h).binds (d7 i f h)
abbrev Fk(P:Program)(w:World)(K:W.Frag)(mg:Str->Option Value)(base:Heap)(a:Iy)(i k:Nat)(s:Sp):Prop:=Au P w K mg base Dw k (a.p i) (a.d i) (pz i) s
open Classical in
def HC:FN:=λd=>match d with
 |[.int n]=>if 0<=n/\n<=1000 then some (.own (.lst (qA 0 n.toNat)))else none
 |_=>none
def d8(n:Nat):Rps H (qA 0 n) ((range n).map λ(i:Nat)=>V.int (i:Int)):=by
 refine Lf (by unfold qA;rw[eI,eI]) λj d x a b=>?_;unfold qA at a;rw[Ab]at a b;obtain⟨k,c,rfl⟩:=Bg.mp a;rw[c]at b;cases b;rw[zero_add];exact .int _
set_option tactic.hygienic true in
def d9:Dx NJ HC:=by
 intro H f d Q c v e k;unfold HC at e;rcases f with _|⟨q,_|⟨w,y⟩⟩;exact aK e
 ·cases q<;>try exact aK e
  rename_i n;dsimp only at e;split at e
  ·rename_i h;cases e;cases v with
   | cons a t=>
     cases t;rcases a with a|⟨p,_,o⟩;cases a;exact⟨n,rfl,h.1,h.2,λr b=>k _ _ (aP b) ⟨r,rfl,b,_,aJ,d8 _⟩⟩;exact o.elim
  ·cases e
 ·cases q<;>exact aK e
theorem zI:dY (HC [.int n]) K=((0<=n/\n<=1000)/\K (.own (.lst (qA 0 n.toNat)))):=by
 show dY (if _ then _ else none) K=_;rw[aN];rfl
def e7(b:X.N.Nodup)(hi:X.N[i]? = some x)(c:HY X.env.scope x)(d:GE X e r)(h:swapsWith e (some (.Name x a)) pos.line X.env=pure false:=by rfl)(f:X.fn x=true\/X.env.scope.names.lookup x=some .local:=by first | exact .inl rfl | exact .inr rfl | assumption) :
  GS E X (.Assign [.Name x a] e pos) (bC i r):=WC λg=>Jf b hi c (d.to g) h f
theorem f6:dY (hQ (.str z) (.int i)) K=(z.length<=sizeLine/\dY (atI z.cps.toList i) λc=>K (.val (.str ⟨#[c]⟩))):=by
 show dY (if _ then _ else none) K=_;rw[aN,vG]
def g0(h:z.length<=sizeLine):dY (jQ [.str z]) K=K (.val (.int z.length)):=by
 show dY (if _ then _ else none) K=_;rw[aN];exact propext ⟨λh=>h.2,λk=>⟨h,k⟩⟩
noncomputable def fo(x:Option (Bool×D)):Option Sl:=x.map λp=>⟨if p.1=true then .own else .val,p.2⟩
theorem g7{r:Sg}:PK 0 (fo x::r) s K=K (some s::r):=by
 cases x with
 |none=>rfl
 | some p=>
   obtain⟨b,d⟩:=p;cases b<;>rfl
@[irreducible] def zJ(o:List Nat)(g:DG)(t:DT)(e:DE)(i:List D)(a:Sg):=xZ o g t e i a
@[irreducible] def Iz(g:DG)(b:DS)(i:List D)(Z:Sg):=Fu g b i Z
@[irreducible] def JH(c:DT)(b:DS)(Z:Sg):=mT c b Hm Z
theorem zK{c:Sg}:RS (mS r g b) (d::c) Q=RI r (d::c) λi l a=>dY (Iz g b i (lendO l a)) λo=>Q (uZ l a o):=by
 unfold Iz;exact YR
theorem pB{a:Sg}:RS (oR c b) (d::a) Q=dY (JH c b (d::a)) Q:=by unfold JH;rfl
theorem nQ{b:Sg}:RE (bV o r g t e) (c::b) Q=RI r (c::b) λi l a=>i.length<=sizeLine/\dY (zJ o g t e i (bG o (lendO l a))) λy=>Q (.own (.lst y.1)) (uC l a (jX o (lendO l a) y.2)):=by
 unfold zJ;exact YW
def eV(P:Nat->Sg->Prop)(H:P 0 Z)(h:∀i d Z,I[i]?=some d->P i Z->dY (g d Z) λc=>RS b c λo=>∃a,(o=.nx a\/o=.ct a)/\P (i+1) a)(k:∀e,P I.length e->K (.nx e)):dY (Iz g b I Z) K:=by
 unfold Iz;exact YU P H h k
def mB(P:Nat->Sg->Prop)(m:Nat)(H:m<1000000)(e:P m Z)(h:∀m Z,P m Z->RT c Z λt d=>if t=true then RS b d λo=>(∃a M,(o=.nx a\/o=.ct a)/\M < m/\P M a)\/(∃x a,o=.rt x a/\Q (.rt x a))\/(∃a,o=.bk a/\Q (.nx a))else Q (.nx d)):dY (JH c b Z) Q:=by
 unfold JH;exact YV P m H e h
def iF(I:List D)(h:Sg)(P:Nat->List D->Sg->Prop)(j:P 0 [] h)
  (H:∀i d A h,I[i]?=some d->P i A h->dY (g d h) λc=>RT t c λb a=>if b=true then RE e a λr f=>∃v,r=.val v/\P (i+1) (A++[v]) (bG o f)else P (i+1) A (bG o a))
  (k:∀A h,P I.length A h->K (A,h)):dY (zJ o g t e I h) K:=by
 unfold zJ;exact YX I h P j H k
section
open SetTable
noncomputable def gS:Nat->Nat
 |0=>0
 |n+1=>5*gS n+1
def vK(n:Nat):4*gS n+1=5^n:=by
 induction n with
 |zero=>rfl
 |succ n a=>rw[Fh,← a];show 4*(5*gS n+1)+1=_;lia
def OU(a b:Nat):gS (a+b)=gS a*5^b+gS b:=by
 have c:=vK (a+b);have d:=vK a;have e:=vK b
 grind
def OV(n:Nat):5^n % 4=1:=by
 have:=vK n;lia
def g8(n:Nat)(h:n % 2=1):gS n % 2=1:=by
 have a:∀m,gS m % 2=m % 2:=λm=>by
  induction m with
  |zero=>rfl
  |succ m b=>show(5*gS m+1) % 2=_;lia
 simp_all
def qZ(hb:b % 2=1)(h:2 ^ k ∣ a*b):2 ^ k ∣ a:=by
 have hc:Nat.Coprime (2 ^ k) b:=by
  refine Nat.Coprime.pow_left k ?_;have:Nat.gcd 2 b=1:=by
   rw[Nat.gcd_rec,hb];rfl
  exact this
 exact Nat.Coprime.dvd_of_dvd_mul_right hc h
theorem OW:∀ (k n:Nat),2 ^ k ∣ gS n->2 ^ k ∣ n
 |0,n,_=>by simp
 | k+1,n,h=>by
   rcases Nat.mod_two_eq_zero_or_one n with e|e
   ·obtain⟨m,rfl⟩:∃ m,n=m+m:=⟨n / 2,by lia⟩;rw[OU]at h;have f:=OV m;obtain⟨q,a⟩:∃ q,5 ^ m+1=2*q:=⟨(5 ^ m+1) / 2,by lia⟩;have b:q % 2=1:=by lia
    have c:gS m*5^m+gS m=2*(gS m*q):=by
     have:gS m*5^m+gS m=gS m*(5^m+1):=rfl;rw[this,a,Nat.mul_left_comm]
    rw[c,Fh,Fg (2^k) 2]at h;have d:2^k ∣ gS m*q:=Nat.dvd_of_mul_dvd_mul_left (by decide) h;have g:=OW k m (qZ b d);have i:m+m=2*m:=by lia
    rw[i,Fh,Fg (2^k) 2];exact Nat.mul_dvd_mul_left 2 g
   ·have o:=g8 n e;have:2 ∣ gS n:=Nat.dvd_trans ⟨2^k,by rw[Fh,Fg]⟩ h;lia
noncomputable def CY(k:Nat):Nat->Nat->Nat
 |0,x=>x % 2^k
 |n+1,x=>(5*CY k n x+1) % 2^k
def Lg(k n x:Nat):CY k n x=(5 ^ n*x+gS n) % 2 ^ k:=by
 induction n with
 |zero=>simp[CY,gS]
 | succ n a=>
   show(5*CY k n x+1) % 2^k=_;rw[a];have e:5^(n+1)*x+gS (n+1)=5*(5^n*x+gS n)+1:=by
    show _+(5*gS n+1)=_
    grind
   rw[e,Nat.add_mod,Nat.mul_mod];simp
def OX(l:a < b)(hb:b < 2 ^ k)(h:CY k a x=CY k b x):False:=by
 rw[Lg,Lg]at h;obtain⟨d,rfl⟩:∃d,b=a+d:=⟨b-a,by lia⟩;have H:2^k ∣ (5^(a+d)*x+gS (a+d))-(5^a*x+gS a):=by
  exact Nat.dvd_of_mod_eq_zero (Nat.sub_mod_eq_zero_of_mod_eq h.symm)
 have e:(5 ^ (a+d)*x+gS (a+d))-(5 ^ a*x+gS a)=gS d*((4*x+1)*5 ^ a):=by
  have c:=vK d;have g:5^(a+d)*x=gS d*(4*x*5^a)+5^a*x:=by
   rw[Nat.pow_add,← c,mul_assoc,Nat.add_mul,Nat.one_mul,Nat.mul_add];rw[Fg (4*x),Fg 4 (gS d),mul_assoc,Nat.mul_left_comm]
  have i:gS (a+d)=gS d*5^a+gS a:=by rw[add_comm a d,OU]
  rw[g,i,Nat.add_mul,Nat.one_mul,Nat.mul_add];lia
 rw[e]at H;have j:((4*x+1)*5^a) % 2=1:=by
  have f:=OV a
  lia
 have:=Nat.le_of_dvd (by simp_all) (OW k d (qZ j H));lia
theorem sO:∀ (N:Nat) (f:Nat->Nat),(∀ i,i < N->f i < N)->(∀ i j,i < j->j < N->f i≠f j)->∀ c,c < N->∃ i,i < N/\f i=c
 |0,_,_,_,c,h=>absurd h (Dr c)
 | N+1,f,q,p,c,hc=>by
   by_cases d:∃i,i<N+1/\f i=c;exact d
   ·exfalso
    have b:∀i,i<N+1->f i≠c:=λi h e=>d ⟨i,h,e⟩
    let g:Nat->Nat:=λi=>if f i=N then c else f i
    have k:∀i,i<N+1->g i<N:=λi h=>by
     show(if f i=N then c else f i)<N;have l:=q i h;have m:=b i h
     lia
    have G:∀i j,i<j->j<N+1->g i≠g j:=λi j a H=>by
     show(if f i=N then c else f i)≠if f j=N then c else f j
     have l:=p i j a H;have m:=b i (CT a H);have o:=b j H
     lia
    obtain⟨i,n,e⟩:=sO N g (λi h=>k i (lt_succ_of_lt h)) (λi j a H=>G i j a (by lia)) (g N) (k N (by lia))
    simp_all
def g9(hc:c<2^k):∃n,n<2^k/\CY k n x=c:=
 sO (2^k) (λn=>CY k n x) (λi _=>by rw[Lg];exact mod_lt _ (Nat.two_pow_pos k)) (λi j a h e=>OX a h e) c hc
noncomputable def EM(m:Nat)(p:Probe):Probe:=
 if p.more > 0 then{p with j:=p.j+1,more:=p.more-1}else
 {p with j:=(leap m p.i p.perturb).1,more:=runEnd m (leap m p.i p.perturb).1-(leap m p.i p.perturb).1,i:=(leap m p.i p.perturb).1,perturb:=(leap m p.i p.perturb).2}
noncomputable def h9(m:Nat)(h:Int):Probe:=⟨bits h % (m+1),runEnd m (bits h % (m+1))-bits h % (m+1),bits h % (m+1),bits h,none⟩
def wk(m:Nat)(h:Int):Nat->Probe
 |0=>h9 m h
 |n+1=>EM m (wk m h n)
noncomputable def lp(m:Nat)(h:Int):Nat->Nat×Nat
 |0=>(bits h % (m+1),bits h)
 |l+1=>leap m (lp m h l).1 (lp m h l).2
noncomputable def sP(m i:Nat):Nat:=runEnd m i-i
def i0(m i:Nat):sP m i<=9:=by unfold sP runEnd;lia
def tm(m:Nat)(h:Int):Nat->Nat
 |0=>0
 |l+1=>tm m h l+sP m (lp m h l).1+1
def i4(m:Nat)(h:Int)(l:Nat):tm m h l<=10*l:=by
 induction l with
 |zero=>exact hF _
 | succ l a=>
   have:=i0 m (lp m h l).1;show tm m h l+sP m (lp m h l).1+1<=_;lia
theorem Lh{m:Nat}(e:wk m h (tm m h l)=⟨(lp m h l).1,sP m (lp m h l).1,(lp m h l).1,(lp m h l).2,none⟩) :
  ∀r,r<=sP m (lp m h l).1->wk m h (tm m h l+r)=⟨(lp m h l).1+r,sP m (lp m h l).1-r,(lp m h l).1,(lp m h l).2,none⟩
 |0,_=>e
 | r+1,a=>by
   have b:=Lh e r (AO a);show EM m (wk m h (tm m h l+r))=_;rw[b];unfold EM
   lia
theorem zL(m:Nat)(h:Int):∀ l,wk m h (tm m h l)=⟨(lp m h l).1,sP m (lp m h l).1,(lp m h l).1,(lp m h l).2,none⟩
 |0=>rfl
 | l+1=>by
   have a:=Lh (zL m h l) (sP m (lp m h l).1) (hF _);show EM m (wk m h (tm m h l+sP m (lp m h l).1))=_;rw[a];unfold EM;rw[a0m (by simp)];rfl
theorem OY(m:Nat)(h:Int):∀ l,(lp m h l).2=bits h / 32 ^ l
 |0=>by show bits h=_;simp
 | l+1=>by
   show(lp m h l).2 / 32=_;rw[OY m h l,Nat.div_div_eq_div_mul,Fh]
def i5(h:Int):bits h<2^64:=by
 unfold bits
 lia
def i6(m:Nat)(h:Int)(a:13<=l):(lp m h l).2=0:=by
 rw[OY];refine Nat.div_eq_of_lt (Ao (i5 h) ?_);refine gY (by decide:2^64<=32^13) (Nat.pow_le_pow_right (by decide) a)
def OZ(m:Nat)(h:Int):∀l,(lp m h l).1<m+1
 |0|l+1=>mod_lt _ (succ_pos _)
theorem Li{m k:Nat}(a:m+1=2 ^ k)(h:Int):∀ n,(lp m h (13+n)).1=CY k n (lp m h 13).1
 | 0=>by
   show _=_ % 2^k;rw[Nat.mod_eq_of_lt (by rw[← a];exact OZ m h 13)]
 | n+1=>by
   have e:(lp m h (13+(n+1))).1=((lp m h (13+n)).1*5+1+(lp m h (13+n)).2 / 32) % (m+1):=rfl;rw[e,i6 m h (by simp),Li a h n,a];show _=(5*CY k n _+1) % 2^k;rw[Fg 5]
def Lj{m i:Nat}(hi:i<=m)(r:Nat)(a:r<=sP m i):i+r<=m:=by
 unfold sP runEnd at a
 lia
theorem Lk{mask:Nat}(h:Int):∀ n,(wk mask h n).dummy=none/\(wk mask h n).j+(wk mask h n).more<=mask
 | 0=>⟨rfl,by
   have a:bits h % (mask+1)<=mask:=Ec (mod_lt _ (succ_pos _));exact Lj a _ (hF _)⟩
 | n+1=>by
   obtain⟨a,b⟩:=Lk (mask:=mask) h n;show(EM mask (wk mask h n)).dummy=none/\(EM mask (wk mask h n)).j+(EM mask (wk mask h n)).more<=mask;unfold EM;split
   ·lia
   ·refine⟨a,?_⟩;exact Lj (Ec (mod_lt _ (succ_pos _))) _ (hF _)
def Pa{mask:Nat}(h:Int)(n:Nat):(wk mask h n).j<=mask:=by
 have:=(Lk (mask:=mask) h n).2;lia
def IA(xs:Array Nat):Prop:=∀(i j:Nat) (a b:Nat),i<j->xs[i]?=some a->xs[j]?=some b->a<b
structure Pb(xs:Array Nat)(j r:Nat):Prop where
 le:r<=xs.size
 lo:∀(i a:Nat),i<r->xs[i]?=some a->a<j
 hi:∀(i a:Nat),r<=i->xs[i]?=some a->j<=a
theorem sQ(H:IA xs):∀ (b L hi:Nat),hi-L<=b->L<=hi->hi<=xs.size->(∀ (i a:Nat),i < L->xs[i]? = some a->a < j)->(∀ (i a:Nat),hi<=i->xs[i]? = some a->j<=a)->Pb xs j (below.go xs j b L hi)
 | 0,L,hi,o,n,c,d,f=>by
   have:L=hi:=by grind
   subst this;exact⟨c,d,f⟩
 | b+1,L,hi,o,n,c,d,f=>by
   unfold below.go;split
   ·rename_i k;have m:(L+hi) / 2 < xs.size:=by lia
    have E:xs[(L+hi) / 2]?=some xs[(L+hi) / 2]:=By m;have l:xs.getD ((L+hi) / 2) j=xs[(L+hi) / 2]:=by rw[Array.getD_eq_getD_getElem?,E];rfl
    dsimp only;rw[l];split
    ·rename_i h;refine sQ H b _ hi (by (simp_all;omega)) (by lia) c (λi a g e=>?_) f;by_cases z:i=(L+hi) / 2
     ·simp_all
     ·exact CT (H i _ a _ (by lia) e E) h
    ·rename_i h;refine sQ H b L _ (by (simp at *;omega)) (by lia) (AO m) d (λi a g e=>?_);by_cases z:i=(L+hi) / 2
     ·simp_all
     ·have:=H _ i _ a (by lia) E e;lia
   ·have:L=hi:=by lia
    subst this;exact⟨c,d,f⟩
def jC(H:IA xs)(j:Nat):Pb xs j (below xs j):=
 sQ H _ _ _ (by simp) (Ad _) (hF _) (λi a h _=>absurd h (Dr _)) λi a h e=>by grind
def jS(H:IA xs)(h:xs[i]? = some j):below xs j=i:=by
 have c:=jC H j;have b:below xs j<=i:=by
  refine Ed λz=>?_;have:=c.lo i j z h;lia
 have d:i<=below xs j:=by
  refine Ed λz=>?_;have e:below xs j<xs.size:=CT z (GJ.mp h).1;have a:xs[below xs j]?=some xs[below xs j]:=By e;have:=H _ i _ j z a h;have:=c.hi _ _ (hF _) a;lia
 lia
def vL{t:SetTable}(H:IA t.place)(h:t.place[i]?=some j):t.slot j=.live i:=by
 unfold slot;dsimp only;rw[jS H h,h];simp
def i7{t:SetTable}(H:t.dummies=#[])(h:∀i:Nat,t.place[i]? ≠ some j):t.slot j=.empty:=by
 unfold slot;rw[a0m (by simp_all),if_neg (by rw[H];simp[has])]
def Br(t:SetTable)(j:Nat):Prop:=∃i:Nat,t.place[i]?=some j
structure CZ(t:SetTable)(hs:List Int):Prop where
 pw:∃k,t.mask+1=2^k
 m7:7<=t.mask
 dm:t.dummies=#[]
 ri:IA t.place
 lt:∀(i j:Nat),t.place[i]?=some j->j<=t.mask
 len:t.place.size=hs.length
 fit:t.place.size<=t.mask
 rea:∀(i:Nat) h,hs[i]?=some h->∃m j,t.place[i]?=some j/\(wk t.mask h m).j=j/\∀m',m' < m->Br t (wk t.mask h m').j
theorem Pc(T:CZ t x)(q:¬ Br t (wk t.mask h M).j)(hb:∀ m,m < M->Br t (wk t.mask h m).j) :
  ∀ (a n:Nat),n<=M->M-n < a ->
    (∃m i,n<=m/\m<M/\t.place[i]?=some (wk t.mask h m).j/\hashAt i=h/\(∀j b,n<=j->j < m->t.place[b]?=some (wk t.mask h j).j->hashAt b≠h)/\probe.go t hashAt h a (wk t.mask h n)=some (.candidate (wk t.mask h m).j i (wk t.mask h (m+1)))) \/
    ((∀j b,n<=j->j < M->t.place[b]?=some (wk t.mask h j).j->hashAt b≠h)/\probe.go t hashAt h a (wk t.mask h n)=some (.empty (wk t.mask h M).j none))
 |0,n,_,s=>by simp_all
 | a+1,n,H,s=>by
   have k:=(Lk (mask:=t.mask) h n).1;unfold probe.go;by_cases c:n=M;subst c;refine .inr ⟨λj b l g=>by lia,?_⟩;have:t.slot (wk t.mask h n).j=.empty:=i7 T.dm λi e=>q ⟨i,e⟩;rw[this];dsimp only;rw[k]
   ·obtain⟨i,o⟩:=hb n (lt_of_le_of_ne H c);have p:=vL T.ri o;rw[p];dsimp only;by_cases d:hashAt i=h;refine .inl ⟨n,i,hF _,by lia,o,d,λj b l g=>by lia,?_⟩;rw[gV (by simpa using d)];rfl
    ·rw[a0m (by simpa using d)];have f:∀ b,t.place[b]? = some (wk t.mask h n).j->b=i:=λb e=>by
      rw[← jS T.ri e,← jS T.ri o]
     rcases Pc T q hb a (n+1) (by lia) (by lia)with⟨m,I,r,A,w,v,y,u⟩|⟨r,A⟩
     ·refine .inl ⟨m,I,AO r,A,w,v,λj b l g e=>?_,u⟩;by_cases z:j=n;subst z;rw[f b e];exact d
      grind
     ·refine .inr ⟨λj b l g e=>?_,A⟩;by_cases z:j=n;subst z;rw[f b e];exact d;exact r j b (by lia) g e
def Fx(xs:Array b)(d:p<=xs.size)(x:b)(i:Nat):(insertAt xs p x)[i]?=if i<p then xs[i]? else if i=p then some x else xs[i-1]?:=by
 rw[← Bc,toList_insertAt];have c:(xs.toList.take p).length=p:=by grind
 by_cases a:i<p;rw[gV a,BG (by simp[*]),List.getElem?_take_of_lt a,Bc];rw[a0m a,Di (by simp_all),c]
 grind
def nR(xs:Array a)(b:p<=xs.size)(x:a):(insertAt xs p x).size=xs.size+1:=by
 rw[← Bz,toList_insertAt,AL,Fe,BA,Fd,Bz];simp_all +arith
noncomputable def zM{a:Type}(l:List a)(p:Nat)(x:a):List a:=l.take p++x::l.drop p
def Pd(l:List a)(b:p<=l.length)(x:a)(i:Nat):(zM l p x)[i]?=if i<p then l[i]? else if i=p then some x else l[i-1]?:=by
 have:=Fx l.toArray (p:=p) (by simp_all) x i;rw[← Bc,toList_insertAt]at this;simpa[zM]using this
def pC(l:List a)(b:p<=l.length)(x:a):(zM l p x).length=l.length+1:=by
 unfold zM
 grind
def vM(t:SetTable)(j:Nat)(h:t.dummies=#[]):t.put j=({t with place:=insertAt t.place (below t.place j) j},below t.place j):=by
 unfold put;rw[h];rfl
def i8(a:below t.place j<=t.place.size)(e:T.place=insertAt t.place (below t.place j) j):Br T c↔Br t c\/c=j:=by
 constructor
 ·rintro⟨i,h⟩;rw[e,Fx _ a]at h;split at h;exact .inl ⟨i,h⟩;split at h
  ·simp_all
  ·exact .inl ⟨i-1,h⟩
 ·rintro(⟨i,h⟩|rfl);by_cases H:i<below t.place j;exact⟨i,by rw[e,Fx _ a,gV H];exact h⟩;exact⟨i+1,by rw[e,Fx _ a,a0m (by lia),a0m (by lia)];exact h⟩;exact⟨below t.place c,by rw[e,Fx _ a,a0m (by lia),gV rfl]⟩
theorem CZ.put(T:CZ t C)(r:¬ Br t (wk t.mask h M).j)(hb:∀ m,m < M->Br t (wk t.mask h m).j)(s:t.place.size+1<=t.mask) :
  CZ (t.put (wk t.mask h M).j).1 (zM C (below t.place (wk t.mask h M).j) h):=by
 have c:=jC T.ri (wk t.mask h M).j;rw[vM t _ T.dm];have l:=c.le;have n:below t.place (wk t.mask h M).j<=C.length:=by rw[← T.len];exact l
 have g:∀x,Br {t with place:=insertAt t.place (below t.place (wk t.mask h M).j) (wk t.mask h M).j} x↔Br t x\/x=(wk t.mask h M).j:=λx=>i8 l rfl;refine⟨T.pw,T.m7,T.dm,?_,?_,?_,?_,?_⟩
 ·intro L i2 a b E f d;have q:∀i a,t.place[i]?=some a->a≠(wk t.mask h M).j:=λi a e z=>r ⟨i,by rw[e,z]⟩;dsimp only at f d;rw[Fx _ l]at f d;generalize (wk t.mask h M).j=j at *;split at f;split at d;exact T.ri _ _ _ _ E f d;split at d;cases d;exact c.lo _ _ (by assumption) f;exact T.ri _ _ _ _ (by lia) f d;split at f;cases f;rw[a0m (by lia),a0m (by lia)]at d;have y:=c.hi _ _ (by lia:below t.place a<=i2-1) d;have A:=q _ _ d;lia;rw[a0m (by lia),a0m (by lia)]at d;exact T.ri _ _ _ _ (by grind) f d
 ·intro i j e;rcases(g j).mp ⟨i,e⟩with⟨u,v⟩|rfl;exact T.lt u j v;exact Pa h M
 ·show(insertAt _ _ _).size=_;rw[nR _ l,pC _ n,T.len]
 ·show(insertAt _ _ _).size<=_;rw[nR _ l];exact s
 ·intro i H e;rw[Pd _ n]at e;show ∃ m j,(insertAt t.place (below t.place (wk t.mask h M).j) (wk t.mask h M).j)[i]? = some j/\_;rw[Fx _ l];have o:∀ p,C[p]? = some H->∃ m j,t.place[p]? = some j/\(wk t.mask H m).j=j/\∀ B,B < m->Br {t with place:=insertAt t.place (below t.place (wk t.mask h M).j) (wk t.mask h M).j} (wk t.mask H B).j:=λp w=>by
   obtain⟨m,j,J,I,G⟩:=T.rea p H w;exact⟨m,j,J,I,λB k=>(g _).mpr (.inl (G B k))⟩
  split at e;rw[gV (by assumption)];exact o i e;split at e;cases e;rw[a0m (by assumption),gV (by assumption)];exact⟨M,_,rfl,rfl,λB k=>(g _).mpr (.inl (hb B k))⟩;rw[a0m (by assumption),a0m (by assumption)];exact o (i-1) e
def Dc(o:Array (Option Nat))(j:Nat):Prop:=∃k,o[j]?=some (some k)
structure Fy(mask:Nat)(ow:Array (Option Nat))(hs:List Int):Prop where
 sz:ow.size=mask+1
 bd:∀(j k:Nat),ow[j]?=some (some k)->k<hs.length
 one:∀(j j' k:Nat),ow[j]?=some (some k)->ow[j']?=some (some k)->j=j'
 rea:∀(k:Nat) h,hs[k]?=some h->∃m,ow[(wk mask h m).j]?=some (some k)/\∀m',m' < m->Dc ow (wk mask h m').j
def Ll(hj:j < o.size):(o.getD j (some 0)).isNone=true↔¬ Dc o j:=by
 have e:o[j]?=some o[j]:=By hj;rw[Array.getD_eq_getD_getElem?,e];constructor
 ·rintro h ⟨k,a⟩
  simp_all
 ·intro h;cases hc:o[j]with
  |none=>rfl
  |some k=>exact absurd ⟨k,by rw[e,hc]⟩ h
set_option tactic.hygienic true in
theorem vN{j:Nat}(u:O.size=j+1)(h:Int)(o:¬ Dc O (lp j h L).1) :
  ∀ (fuel l:Nat),l<=L->L < l+fuel->(∀ m,m < tm j h l->Dc O (wk j h m).j) ->
    ∃M,layClean.free j O fuel (lp j h l).1 (lp j h l).2=some (wk j h M).j/\¬Dc O (wk j h M).j/\∀m,m<M->Dc O (wk j h m).j
 |0,l,p,q,_=>by grind
 | fuel+1,l,p,q,t=>by
   have b:∀r,r<=sP j (lp j h l).1->(lp j h l).1+r<O.size:=λr e=>by
    have:=Lj (Ec (OZ j h l)) r e;simp_all +arith
   have f:runEnd j (lp j h l).1+1-(lp j h l).1=sP j (lp j h l).1+1:=by
    unfold sP runEnd;split<;>simp +arith
   have g:∀r,r<=sP j (lp j h l).1->(wk j h (tm j h l+r)).j=(lp j h l).1+r:=λr e=>by rw[Lh (zL j h l) r e]
   unfold layClean.free;split;rename_i k i;obtain⟨w,A,v⟩:=List.find?_range_eq_some.mp i;rw[Cq,f]at A;have c:k<=sP j (lp j h l).1:=Ec A;refine⟨tm j h l+k,by rw[g k c],?_,λm H=>?_⟩;rw[g k c];exact(Ll (b k c)).mp w;by_cases d:m<tm j h l;exact t m d;obtain⟨r,rfl⟩:∃r,m=tm j h l+r:=⟨m-tm j h l,by simp_all⟩;rw[g r (by lia)];have:=v r (by simp_all);refine AN λz=>?_;rw[(Ll (b r (by lia))).mpr z]at this;cases this
   ·rename_i i;have a:∀ r,r<=sP j (lp j h l).1->Dc O ((lp j h l).1+r):=λr e=>by
     have:=List.find?_eq_none.mp i r (by rw[Cq,f];exact lt_succ_of_le e);exact AN λz=>this ((Ll (b r e)).mpr z)
    have n:l≠L:=λz=>by
     subst z;exact o (by simpa using a 0 (Ad _))
    refine vN u h o fuel (l+1) (lt_of_le_of_ne p n) (by simp_all +arith) λm H=>?_;have s:m<tm j h l+sP j (lp j h l).1+1:=H;by_cases d:m<tm j h l;exact t m d;obtain⟨r,rfl⟩:∃r,m=tm j h l+r:=⟨m-tm j h l,by simp_all⟩;rw[g r (by simp_all +arith)];exact a r (by simp_all +arith)
def Fy.free{M:Nat}(T:Fy M o H)(q:H.length<=M):∃ c,c<=M/\¬ Dc o c:=by
 refine AN λl=>?_;have d:∀c,c<=M->Dc o c:=λc hc=>AN λz=>l ⟨c,hc,z⟩
 let f:Nat->Nat:=λc=>(o.getD c none).getD 0
 have j:∀ c,c<=M->o[c]? = some (some (f c)):=λc hc=>by
  obtain⟨k,e⟩:=d c hc;have:f c=k:=by
   show(o.getD c none).getD 0=k
   simp_all
  simp_all
 have n:∀a b,a<b->b<=M->f a≠f b:=λa b g p e=>by
  have m:=j a (by lia);rw[e]at m;have:=T.one a b _ m (j b p);simp_all
 obtain⟨i,r,e⟩:=sO H.length f (λi h=>T.bd _ _ (j i (by lia))) (λa b g p=>n a b g (by lia)) (f H.length) (T.bd _ _ (j H.length q))
 simp_all
def Fy.lay{y:Nat}(r:y+1=2 ^ k)(T:Fy y O H)(E:H.length<=y)(h:Int):∃ j,layClean.free y O (turns y) (bits h % (y+1)) (bits h)=some j/\Fy y (O.setIfInBounds j (some H.length)) (H++[h]):=by
 obtain⟨c,hc,s⟩:=T.free E;obtain⟨n,t,e⟩:=g9 (k:=k) (x:=(lp y h 13).1) (c:=c) (by lia);have u:¬Dc O (lp y h (13+n)).1:=by rw[Li r h n,e];exact s
 obtain⟨M,v,q,w⟩:=vN T.sz h u (turns y) 0 (Ad _) (by show 13+n<0+(y+15);lia) (λm G=>absurd G (Dr _));refine⟨_,v,?_⟩;have hj:(wk y h M).j<O.size:=by rw[T.sz];exact lt_succ_of_le (Pa h M)
 have g:∀c,(O.setIfInBounds (wk y h M).j (some H.length))[c]?=if(wk y h M).j=c then some (some H.length)else O[c]?:=λc=>by
  rw[Array.getElem?_setIfInBounds];split
  ·first|rfl|rw[gV hj]
  ·rfl
 have i:∀{c},Dc O c->Dc (O.setIfInBounds (wk y h M).j (some H.length)) c:=λ{c} J=>by
  obtain⟨b,a⟩:=J;refine⟨b,?_⟩;rw[g,a0m (λz=>q ⟨b,by rw[z];exact a⟩)];exact a
 refine⟨by rw[Array.size_setIfInBounds];exact T.sz,λj b a=>?_,λj L b l f=>?_,λb B a=>?_⟩;rw[g]at a;rw[AL];split at a;cases a;simp;have:=T.bd _ _ a;simp;lia
 ·rw[g]at l f;split at l;cases l;split at f;lia;have:=T.bd _ _ f;lia;split at f;cases f;have:=T.bd _ _ l;lia;exact T.one _ _ _ l f
 ·by_cases o:b<H.length;rw[BG o]at a;obtain⟨m,C,I⟩:=T.rea b B a;refine⟨m,?_,λA d=>i (I A d)⟩;rw[g,a0m (λz=>q ⟨b,by rw[z];exact C⟩)];exact C;rw[Di (Ed o)]at a;have p:b=H.length:=by grind
  subst p;have:B=h:=by simpa using a.symm
  subst this;exact⟨M,by rw[g,gV rfl],λA d=>i (w A d)⟩
theorem lF{m k:Nat}(b:m+1=2 ^ k):∀ (g:List Int) (H:List Int) (O:Array (Option Nat)),Fy m O H->H.length+g.length<=m+1 ->
  ∃ a,g.foldl (λA h=>do
    let (o,k) ← A
    let j ← layClean.free m o (turns m) (bits h % (m+1)) (bits h)
    pure (o.setIfInBounds j (some k),k+1)) (some (O,H.length))=some (a,H.length+g.length)/\Fy m a (H++g)
 |[],H,O,T,_=>⟨O,by simp,by simp_all⟩
 | h::g,H,O,T,i=>by
   rw[Fe]at i;obtain⟨j,e,c⟩:=T.lay b (by lia) h;obtain⟨a,d,f⟩:=lF b g (H++[h]) _ c (by grind);refine⟨a,?_,by simp_all⟩;rw[AL,List.length_singleton]at d
   grind
def i9(m:Nat):Fy m (Array.replicate (m+1) none) []:=by
 refine⟨by simp,λj k e=>?_,λj J k e=>?_,λk h e=>by simp at e⟩
 all_goals
  rw[Array.getElem?_replicate]at e
  simp_all
def j0{mask k finger moves:Nat}{led plain:Bool}(G:mask+1=2 ^ k)(J:7<=mask)(hn:hashes.size<=mask) :
  ∃t Y,laid mask finger moves led plain hashes=some (t,Y)/\CZ t (Y.toList.filterMap (hashes[·]?))/\Y.toList.Perm (range hashes.size)/\t.mask=mask/\t.place.size=hashes.size/\t.led=led/\t.plain=plain:=by
 obtain⟨ow,e,T⟩:=lF G hashes.toList [] _ (i9 mask) (by rw[Bz];simp;lia);rw[nil_append]at T;have K:layClean mask hashes=some ow:=by
  unfold layClean;rw[← Array.foldl_toList];have n:=e;rw[length_nil,BL]at n;rw[n];rfl
 let g:Nat->Option (Nat×Nat):=λj=>(ow.getD j none).map (j,·)
 have gd:∀ j p,g j=some p↔p.1=j/\ow[j]? = some (some p.2):=λj p=>by
  show(ow.getD j none).map (j,·)=some p↔_;rw[Array.getD_eq_getD_getElem?];cases H:ow[j]? with
  |none=>simp
  | some o=>
    cases o with
    |none=>simp
    | some A=>
      obtain⟨a,b⟩:=p;simp;intro _;exact⟨λz=>z.symm,λz=>z.symm⟩
 let d:=(range (mask+1)).filterMap g
 have O:∀p,p∈d↔ow[p.1]?=some (some p.2):=λp=>by
  rw[Ja];constructor;rintro⟨j,_,h⟩;obtain⟨rfl,h'⟩:=(gd j p).mp h;exact h';intro h;have:p.1<mask+1:=by rw[← T.sz];exact(GJ.mp h).1
  exact⟨p.1,Cq.mpr this,(gd _ _).mpr ⟨rfl,h⟩⟩
 have pw:d.Pairwise (λa b=>a.1<b.1):=List.Pairwise.filterMap g (λa S h b hb U B=>by
  rw[((gd _ _).mp hb).1,((gd _ _).mp B).1];exact h) List.pairwise_lt_range
 have ri:∀(i j:Nat) p q,i<j->d[i]?=some p->d[j]?=some q->p.1<q.1:=λi j p q s L M=>by
  obtain⟨hi,rfl⟩:=sL.mp L;obtain⟨hj,rfl⟩:=sL.mp M;exact List.pairwise_iff_getElem.mp pw i j hi hj s
 have nd:(d.map (·.2)).Nodup:=by
  rw[Dj,List.pairwise_map];refine imp_of_mem (λ{a b} ha hb N e=>?_) pw;have u:=(O a).mp ha;have w:=(O b).mp hb;rw[← e]at w;have:=T.one _ _ _ u w;simp_all
 have x:hashes.toList.length=hashes.size:=Bz;have perm:(d.map (·.2)).Perm (range hashes.size):=(List.perm_ext_iff_of_nodup nd nodup_range).mpr λa=>by
  rw[sY,Cq];constructor;rintro⟨p,v,rfl⟩;rw[← x];exact T.bd _ _ ((O p).mp v);intro ha;obtain⟨m,u,_⟩:=T.rea a hashes.toList[a] (oI ha);exact⟨((wk mask hashes.toList[a] m).j,a),(O _).mpr u,rfl⟩
 have I:d.length=hashes.size:=by have:=perm.length_eq;simpa using this
 have y:(d.map (·.2)).filterMap (hashes[·]?)=d.map λp=>hashes.toList.getD p.2 0:=by
  have C:∀ l:List (Nat×Nat),(∀ p∈l,p.2 < hashes.toList.length)->(l.map (·.2)).filterMap (hashes[·]?)=l.map λp=>hashes.toList.getD p.2 0:=by
   intro l
   induction l with
   |nil=>intro _;rfl
   | cons p r π=>
     intro hb;have u:=hb p Aa;have f:hashes[p.2]?=some (hashes.toList.getD p.2 0):=by
      rw[← Bc,DZ,oI u];rfl
     rw[BJ,List.filterMap_cons,f,BJ,π λq H=>hb q (Am _ H)]
  exact C d λp v=>T.bd _ _ ((O p).mp v)
 refine⟨⟨mask,(d.map (·.1)).toArray,#[],finger,led,moves,plain⟩,(d.map (·.2)).toArray,?_,?_,perm,rfl,by simpa using I,rfl,rfl⟩;unfold laid;rw[K];rfl;have pl:∀(i j:Nat),(d.map (·.1)).toArray[i]?=some j↔∃p,d[i]?=some p/\p.1=j:=λi j=>by
  rw[Cp,Ab];exact Bg
 have D1:∀c,Br (⟨mask,(d.map (·.1)).toArray,#[],finger,led,moves,plain⟩:SetTable) c↔Dc ow c:=λc=>by
  constructor;rintro⟨i,h⟩;obtain⟨p,f,rfl⟩:=(pl i c).mp h;exact⟨p.2,(O p).mp (An f)⟩;rintro⟨A,h⟩;obtain⟨i,hi,f⟩:=Dm ((O (c,A)).mpr h);exact⟨i,(pl i c).mpr ⟨(c,A),by rw[oI hi,f],rfl⟩⟩
 refine⟨⟨k,G⟩,J,rfl,?_,?_,?_,?_,?_⟩;intro i j a b s P Q;obtain⟨p,f,rfl⟩:=(pl i a).mp P;obtain⟨q,E,rfl⟩:=(pl j b).mp Q;exact ri i j p q s f E;intro i j n;obtain⟨p,f,rfl⟩:=(pl i j).mp n;have u:=(O p).mp (An f);have w:=(GJ.mp u).1;rw[T.sz]at w;exact Ec w;show(d.map (·.1)).toArray.size=((d.map (·.2)).toArray.toList.filterMap (hashes[·]?)).length;rw[show(d.map (·.2)).toArray.toList=d.map (·.2)from rfl,y];simp;show(d.map (·.1)).toArray.size<=mask;simp[I];exact hn;intro i h' n;rw[show(d.map (·.2)).toArray.toList=d.map (·.2)from rfl,y,Ab]at n;obtain⟨p,f,E⟩:=Bg.mp n;have v:=(O p).mp (An f);have hb:=T.bd _ _ v;have R:hashes.toList[p.2]?=some h':=by
  rw[← E,DZ,oI hb];rfl
 obtain⟨m,a1,a2⟩:=T.rea p.2 h' R;have:=T.one _ _ _ a1 v;exact⟨m,p.1,(pl i p.1).mpr ⟨p,f,rfl⟩,this,λm' F=>(D1 _).mpr (a2 m' F)⟩
end
structure Gv(prog:Program)(w:World)(A:Around)(S I:Addr)(n:Nat)(P:Nat->Value->Prop)(J:Nat->Heap->Prop):Prop where
 put:∀i v (s:Shared) (Q:Bool->Shared->Prop) (E:Value->Shared->Prop),i<n->P i v->J i s.heap ->
  (∀b h' tk,J (i+1) h'->(∀c o,c≠S->s.heap.get? c=some o->h'.get? c=some o)->Q b {s with heap:=h',toks:=tk})->wpAny (model prog w) A (setAdd S v) Q E s
 stay:∀i h h',J i h->(∀c o,c≠I->h.get? c=some o->h'.get? c=some o)->J i h'
theorem vO(W:Walks prog w A.in1 I O [I] n P G)(F:Gv prog w A.in1 S I n P J)(M:S∉O) :
  ∀ (k i:Nat) (s:Shared),i+k=n->G i s.heap->J i s.heap ->
    (∀h' T,J n h'->(∀c o,c≠S->c≠I->s.heap.get? c=some o->h'.get? c=some o)->R (.ok (.ret .none)) {s with heap:=h',toks:=T}) ->
    codeAny (model prog w) A (.builtin "set.update.loop" ⟨[.ref S,.ref I],[]⟩) R s
 | 0,i,s,h,L,j,q=>by
   have H:i=n:=h;subst H;refine DW PyProof.Rows.F.entry_set_update_loop ?_;rw[EZ Ke _]
   (show wpAny _ A.in1 (pyNext (.ref I) >>= _) _ _ s;refine dV (W.done s _ _ L λh' T a=>?_))
   have l:∀c o,c≠I->s.heap.get? c=some o->h'.get? c=some o:=λc o hc e=>a c o (by simpa using hc) e;exact eH (q h' T (F.stay _ _ _ j l) λc o _ hc e=>l c o hc e)
 | k+1,i,s,h,L,j,q=>by
   have H:i<n:=by lia
   refine DW PyProof.Rows.F.entry_set_update_loop ?_;rw[EZ Ke _]
   (show wpAny _ A.in1 (pyNext (.ref I) >>= _) _ _ s;refine dV (W.item i s _ _ H L λv u x y d f=>?_))
   have m:∀c o,c≠I->s.heap.get? c=some o->u.get? c=some o:=λc o hc e=>f c o (by simpa using hc) e
   (show wpAny _ A.in1 (holding [v] (setAdd S v) >>= _) _ _ _;refine dV (Ax ?_))
   refine F.put i v _ _ _ H y (F.stay _ _ _ j m) λb B C Q p=>?_;refine eH ⟨EV Ke _,?_⟩;have g:G (i+1) B:=W.frame _ _ _ d λc hc o e=>p c o (λz=>M (z▸hc)) e;exact vO W F M k (i+1) _ (by lia) g Q λh' T N E=>q h' T N λc o r t e=>E c o r t (p c o r (m c o t e))
def j5(k:TypeCalled T b a)(l:checkTypeCall T ⟨args,[]⟩=pure ())
  (g:codeAny (model prog w) A.in1 (.call (.builtin b) ⟨.type T::args,[]⟩) (wants Q₁ E) s)
  (h:∀obj d,Q₁ obj d->d.TypeIs obj T/\codeAny (model prog w) A.in1 (.call (.builtin a) ⟨obj::args,[]⟩) (wants (λr i=>r=.none/\Q obj i) E) d) :
  wpAny (model prog w) A (call (.type T) args) Q E s:=by
 obtain⟨B,z,⟨c,n,N⟩,o,p,q,j⟩:=k;have t:=j.lookup;refine wpAny_call (codeAny_of_tree (eH ⟨Code.quiet_builtin _ (by decide +kernel),DW F.entry_type_call ?_⟩));rw[Around.under_plain (weight_type_call_type T args []) rfl]
 repeat (any_goals (first|assumption|wp_step))
 refine GF g λr v f=>?_
 match r,f with
 |.error e,f=>exact f
 | .ok (.ret obj),f=>
   obtain⟨G,H⟩:=h obj v f;have C:=j.bind obj
   repeat (any_goals (first|assumption|wp_step))
   refine GF H λr y f=>?_
   match r,f with
   |.error e,f=>exact f
   | .ok (.ret x),⟨m,u⟩=>
     subst m
     repeat (any_goals (first|assumption|wp_step))
noncomputable abbrev Dd(e:Array (Int×Value))(E:Nat)(t:SetTable):Obj:={cls:=.type "set",dict:=none,data:=.set e E t}
noncomputable def fU(w:World):Bool:=!w.params.followText "set-order"
def j7(a:Value)(h:Q (.ref s.heap.objs.size) {s with heap:=s.heap.push (Dd #[] 0 (.fresh 0 0 (fU w)))}) :
  codeAny (model prog w) A (.call (.builtin "set.__new__") ⟨[.type "set",a],[]⟩) (wants Q E) s:=by
 refine codeAny_call_builtin F.plain_set_new F.entry_set_new (wpAny_of_eq (F.newCall_set_1 a) ?_);have b:=sub_set_self
 wp_walk
 refine HP (eH ?_);exact dV (wpAny_alloc (eH (eH h)))
structure FA(prog:Program)(w:World)(A:Around)(h₀:Heap)(l:Addr)(n:Nat)(P:Nat->Value->Prop) where
 T:String
 St:Addr->Nat->Heap->Prop
 ob:Obj
 ty:∃o,h₀.get? l=some o/\o.cls=.type T
 n1:isSubtype (.type T) (.type "set")=pure false
 n2:isSubtype (.type T) (.type "frozenset")=pure false
 n3:(type T==type "dict")=false
 iter:∀(A:Around) (s:Shared) (Q:Value->Shared->Prop) (E:Value->Shared->Prop),(∀b o,h₀.get? b=some o->s.heap.get? b=some o)->Q (.ref s.heap.objs.size) {s with heap:=s.heap.push ob}->wpAny (model prog w) A (pyIter (.ref l)) Q E s
 free:ob.isFreed=false
 walk:∀(A':Around),A'.handled=A.handled->∀I,l≠I->Walks prog w A' I [I,l] [I] n P (St I)
 iT:∀h:Heap,(∀b o,h₀.get? b=some o->h.get? b=some o)->St h.objs.size 0 (h.push ob)
def j8{s:Shared}(c:FA prog w A s.heap l n P)
  (L:∀N:Around,N.handled=A.handled->N.units<=A.units+8->Gv prog w N s.heap.objs.size (s.heap.objs.size+1) n P J)
  (v:∀(h':Heap),h'.get? s.heap.objs.size=some (Dd #[] 0 (.fresh 0 0 (fU w)))->(∀b o,s.heap.get? b=some o->h'.get? b=some o)->J 0 h')
  (q:∀h' M,J n h'->(∀b o,s.heap.get? b=some o->h'.get? b=some o)->Q (.ref s.heap.objs.size) {s with heap:=h',toks:=M}) :
  wpAny (model prog w) A (call (.type "set") [.ref l]) Q E s:=by
 obtain⟨T,St,U,⟨⟨t,k,m,j⟩,f,g⟩,n1,n2,n3,I,free,H,iT⟩:=c;simp only at g;subst g;have h:l<s.heap.objs.size:=rN f;refine j5 (Q₁:=λO G=>O=.ref s.heap.objs.size/\G={s with heap:=s.heap.push (Dd #[] 0 (.fresh 0 0 (fU w)))}) F.called_set (F.typeCall_set_1 _) (j7 _ ⟨rfl,rfl⟩) λO G Z0=>?_;obtain⟨x,y⟩:=Z0;subst x y;have hS:(s.heap.push (Dd #[] 0 (.fresh 0 0 (fU w)))).get? s.heap.objs.size=some (Dd #[] 0 (.fresh 0 0 (fU w))):=Ak _ rfl;have a:∀b o,s.heap.get? b=some o->(s.heap.push (Dd #[] 0 (.fresh 0 0 (fU w)))).get? b=some o:=λb o e=>sT _ e;have hT:Shared.TypeIs {s with heap:=s.heap.push (Dd #[] 0 (.fresh 0 0 (fU w)))} (.ref s.heap.objs.size) "set":=⟨_,hS,rfl⟩;have B:Shared.TypeIs {s with heap:=s.heap.push (Dd #[] 0 (.fresh 0 0 (fU w)))} (.ref l) T:=⟨_,a l _ f,rfl⟩;refine⟨hT,codeAny_call_builtin F.called_set.init.plain F.entry_set_init (check_set_init_1 hT ?_)⟩;have C:=a l _ f;unfold Builtin.«set.__init__» noKeywords Builtin.Frozenset.updateFrom;generalize p:pyIter=PI1
 wp_walk
 subst p;refine I _ _ _ _ a ?_;refine dV (wpAny_runValue ?_);have u:(s.heap.push (Dd #[] 0 (.fresh 0 0 (fU w)))).objs.size=s.heap.objs.size+1:=Ez ..;have ne:l≠s.heap.objs.size+1:=λz=>absurd h (by rw[z];exact Fj.mpr (Gb _));have i:=iT _ a;rw[u]at i;have r:((s.heap.push (Dd #[] 0 (.fresh 0 0 (fU w)))).push U).get? s.heap.objs.size=some (Dd #[] 0 (.fresh 0 0 (fU w))):=sT _ hS;have d:∀b o,s.heap.get? b=some o->((s.heap.push (Dd #[] 0 (.fresh 0 0 (fU w)))).push U).get? b=some o:=λb o e=>sT _ (a b o e);show codeAny (model prog w) A.in1.in1 (.builtin "set.update.loop" ⟨[.ref s.heap.objs.size,.ref (s.heap.push (Dd #[] 0 (.fresh 0 0 (fU w)))).objs.size],[]⟩) _ _;rw[u];refine vO (H A.in1.in1.in1 rfl (s.heap.objs.size+1) ne) (L A.in1.in1.in1 rfl (by show A.units+1+1+1<=A.units+8;simp)) ?_ n 0 _ (BL n) i (v _ r d) λh' M jn D1=>?_;simp only[mem_cons,not_mem_nil,or_false,not_or];exact⟨AF (GL _),DN h⟩;refine eH (eH ⟨rfl,q h' M jn λb o e=>?_⟩);have Y:=rN e;exact D1 b o (AF Y) (AF (lt_succ_of_lt Y)) (d b o e)
noncomputable def FA.list{s:Shared}(d:A.handled=none)(a:s.heap.IsList l j):FA prog w A s.heap l j.size (λi v=>j[i]?=some v) where
 T:="list"
 St:=λI i h=>h.IsListIter I l i/\h.IsList l j
 ob:={cls:=.type "list_iterator",data:=.fields #[.ref l,.int 0 0]}
 ty:=by obtain⟨o,f,hc,_⟩:=a;exact⟨o,f,hc⟩
 n1:=F.sub_list_set
 n2:=F.sub_list_frozenset
 n3:=by decide
 iter:=λk m Q E b g=>wpAny_pyIter_list (a.at λo e=>b l o e) g
 free:=rfl
 walk:=λk H I c=>Walks.list (H.trans d) I l c j
 iT:=λh b=>⟨⟨_,Ak _ rfl,rfl,rfl⟩,(a.at λo e=>b l o e).push _⟩
def zN:isSubtype (.type "tuple") (.type "set")=pure false:=by rw[isSubtype_type];kernel_rfl
def qC:isSubtype (.type "tuple") (.type "frozenset")=pure false:=by rw[isSubtype_type];kernel_rfl
noncomputable def FA.tup{prog:Program}{w:World}{A:Around}{s:Shared}(d:A.handled=none){l:Addr}{j:Array Value}(a:s.heap.IsTuple l j):FA prog w A s.heap l j.size (λi v=>j[i]?=some v) where
 T:="tuple"
 St:=λI i h=>h.IsTupleIter I l i/\h.IsTuple l j
 ob:={cls:=.type "tuple_iterator",data:=.fields #[.ref l,.int 0 0]}
 ty:=by obtain⟨o,f,hc,_⟩:=a;exact⟨o,f,hc⟩
 n1:=zN
 n2:=qC
 n3:=by decide
 iter:=λk m Q E b g=>IT (a.at λo e=>b l o e) g
 free:=rfl
 walk:=λk H I c=>Walks.tuple (H.trans d) I l c j
 iT:=λh b=>⟨⟨_,Ak _ rfl,rfl,rfl⟩,(a.at λo e=>sT _ (b l o e))⟩
section
open SetTable
def CZ.stop2(T:CZ t A)(h:Int):∃ M,M<=10*(13+t.place.size)/\¬ Br t (wk t.mask h M).j/\∀ m,m < M->Br t (wk t.mask h m).j:=by
 obtain⟨k,s⟩:=T.pw;have w:=T.fit;have E:∃ n,n<=t.place.size/\¬ Br t (wk t.mask h (tm t.mask h (13+n))).j:=by
  refine AN λy=>?_;have l:∀n,n<=t.place.size->Br t (CY k n (lp t.mask h 13).1):=λn d=>AN λz=>y ⟨n,d,by
   rw[zL,Li s h n];exact z⟩
  let f:Nat->Nat:=λn=>below t.place (CY k n (lp t.mask h 13).1)
  have o:∀n,n<=t.place.size->f n<t.place.size/\t.place[f n]?=some (CY k n (lp t.mask h 13).1):=λn d=>by
   obtain⟨i,e⟩:=l n d;have:f n=i:=jS T.ri e;rw[this];exact⟨(GJ.mp e).1,e⟩
  have u:∀a b,a<b->b<=t.place.size->f a≠f b:=λa b g H e=>by
   have p:=(o a (by lia)).2;rw[e,(o b H).2]at p;exact OX g (by lia:b<2^k) (Ap p).symm
  obtain⟨i,B,e⟩:=sO t.place.size f (λi h=>(o i (AO h)).1) (λa b g H=>u a b g (by lia)) (f t.place.size) (o t.place.size (hF _)).1
  simp_all
 obtain⟨n,y,q⟩:=E;have r:∀ N,(∃ m,m < N/\¬ Br t (wk t.mask h m).j)->∃ M,M < N/\¬ Br t (wk t.mask h M).j/\∀ m,m < M->Br t (wk t.mask h m).j:=by
  intro N
  induction N with
  |zero=>simp
  | succ N v=>
    rintro⟨m,p,x⟩;by_cases H:∃m,m<N/\¬Br t (wk t.mask h m).j
    ·obtain⟨M,a,b,c⟩:=v H
     grind
    grind
 obtain⟨M,a,b,c⟩:=r (tm t.mask h (13+n)+1) ⟨_,GL _,q⟩;have:=i4 t.mask h (13+n);exact⟨M,by lia,b,c⟩
end
abbrev jT(prog:Program)(w:World)(h:Heap)(k:List Int)(a:Addr):Prop:=IsTupleKey (intKind prog w) h k a
def jT.at(x:jT prog w h k a)(e:∀o,h.get? a=some o->h'.get? a=some o):jT prog w h' k a:=by
 obtain⟨o,i,n,b,r⟩:=x;exact⟨o,i,n,e o b,r⟩
def mE(h:ItemsAre (intKind prog w) k a):∀v∈a,∃i t,v=.int i t:=by
 induction h with
 |nil=>simp
 |cons h _ i=>exact List.forall_mem_cons.mpr ⟨(isInt_shape h).elim λt e=>⟨_,t,e⟩,i⟩
def j9(c:jT prog w s.heap k a)(h:Q true s):wpAny (model prog w) A (hashByValue 8 (.ref a)) Q E s:=by
 have x:=c.typeIs;obtain⟨o,I,n,f,_,q,H⟩:=c;refine dV (Er x F.slot_tuple_hash.lookup ?_);refine dV (Cj f q ?_);dsimp only[getD_some];refine dV ?_;rw[← Array.forIn_toList];refine wpAny_forIn_list _ (λp r m=>r.1=none/\m=s/\∀v∈p,∃i t,v=.int i t) _ ?_ ?_ _ _ ⟨rfl,rfl,mE H⟩;rintro v p r m ⟨d,rfl,b⟩;obtain⟨i,t,rfl⟩:=b v Aa;have e:hashByValue 7 (.int i t)=pure true:=rfl;exact eH ⟨rfl,rfl,λu g=>b u (Am _ g)⟩;rintro⟨j,l⟩ m ⟨d,rfl,_⟩;subst d;exact eH h
def Pe(c:jT prog w s.heap k a)(h:Q false s):wpAny (model prog w) A (ofAClassStatement 8 (.ref a)) Q E s:=by
 have x:=c.typeIs;obtain⟨o,I,n,f,_,q,H⟩:=c;unfold ofAClassStatement;refine dV (EW x ?_);refine dV (eH ?_);refine dV (Cj f q ?_);refine dV ?_;rw[← Array.forIn_toList];refine wpAny_forIn_list _ (λp r m=>r.1=none/\m=s/\∀v∈p,∃i t,v=.int i t) _ ?_ ?_ _ _ ⟨rfl,rfl,mE H⟩;rintro v p r m ⟨d,rfl,b⟩;obtain⟨i,t,rfl⟩:=b v Aa;have e:ofAClassStatement 7 (.int i t)=pure false:=rfl;exact eH ⟨rfl,rfl,λu g=>b u (Am _ g)⟩;rintro⟨j,l⟩ m ⟨d,rfl,_⟩;subst d;exact eH h
def k0(e:jT prog w s.heap k a)(l:List Value)(g:∀v∈l,∃d b,v=.ref b/\jT prog w s.heap d b)(h:Q false s):wpAny (model prog w) A (searchCouldBeSeen (.ref a) l) Q E s:=by
 refine dV ?_;refine wpAny_forIn_list _ (λo r n=>r.1=none/\n=s/\∀v∈o,∃d b,v=.ref b/\jT prog w s.heap d b) _ ?_ ?_ _ _ ⟨rfl,rfl,g⟩;rintro v o r n ⟨f,rfl,c⟩;obtain⟨d,b,rfl,H⟩:=c v Aa;have G:∀u∈o,∃d b,u=Value.ref b/\jT prog w n.heap d b:=λu i=>c u (Am _ i);dsimp only;split;exact eH ⟨rfl,rfl,G⟩;refine dV (wpAny_eqIsQuiet_tuple e ?_);refine dV (wpAny_eqIsQuiet_tuple H ?_);refine dV (Pe e ?_);refine dV (Pe H ?_);exact eH ⟨rfl,rfl,G⟩;rintro⟨j,m⟩ n ⟨f,rfl,_⟩;subst f;exact eH h
structure CN(prog:Program)(w:World)(h:Heap)(S:Addr)(led:Bool)(N:Addr->Prop)(ks:List (List Int))(o:Obj)(es:Array (Int×Value))(ep:Nat)(t:SetTable):Prop where
 ob:h.get? S=some o
 ex:o.ExactSet
 dt:o.data=.set es ep t
 tk:CZ t (es.toList.map (·.1))
 ful:t.place.size*5<t.mask*3
 ld:t.led=led
 pl:t.plain=true
 len:ks.length=es.size
 it:∀(i:Nat) e,es[i]?=some e->∃k a,ks[i]?=some k/\e=(tupleKeyHash (intKind prog w) k,.ref a)/\jT prog w h k a/\N a
 nd:ks.Nodup
theorem CZ.fits(T:CZ t H)(c:H.length=n):t.fits n=true:=by
 have a:=T.len;have b:=T.fit;simp only[SetTable.fits,SetTable.fill,Bool.and_eq_true,beq_iff_eq,decide_eq_true_eq,T.dm]
 grind
theorem CN.fits{s:Shared}(X:CN prog w s.heap S l N ks o E b t):t.fits E.size=true:=X.tk.fits (by simp)
def CN.state(X:CN prog w s.heap S l N ks o b c t)(h:Q (b,c,t) s):wpAny (model prog w) A (setState S) Q E s:=
 wpAny_setState_of X.ob X.dt X.fits h
def CN.even{s:Shared}(X:CN prog w s.heap S l N ks o E c t):t.gaveWay=false:=by
 obtain⟨k,a⟩:=X.tk.pw;have b:=X.tk.m7;unfold SetTable.gaveWay;have:t.mask % 2=1:=by
  cases k with
  |zero|succ k=>lia
 simp_all
set_option tactic.hygienic true in
theorem rA(X:CN prog w s.heap S led N ks o O ep t)(hu:A.units < cLine)(H:jT prog w s.heap k a)(hM:¬ Br t (wk t.mask (tupleKeyHash (intKind prog w) k) M).j)(hb:∀ m,m < M->Br t (wk t.mask (tupleKeyHash (intKind prog w) k) m).j)
  (q:M<10*SetTable.turns t.mask) :
  ∀ (d n:Nat) (c:Option SetTable.Probe) (Q:SetFound->Shared->Prop),c.getD (t.probeStart (tupleKeyHash (intKind prog w) k))=wk t.mask (tupleKeyHash (intKind prog w) k) n->n<=M->M-n < d ->
    (∀i:Nat,ks[i]?=some k->∃m j,n<=m/\t.place[i]?=some j/\(wk t.mask (tupleKeyHash (intKind prog w) k) m).j=j/\m<M) ->
    (k∈ks->Q (.there none) s)->(k∉ks->Q (.free (wk t.mask (tupleKeyHash (intKind prog w) k) M).j false) s)->wpAny (model prog w) A (setSearchFrom S (.ref a) (tupleKeyHash (intKind prog w) k) true d c) Q E s
 |0,n,c,Q,_,_,hf,_,_,_=>by simp_all
 | d+1,n,c,Q,I,hn,hf,r,q1,q2=>by
   refine dV (X.state ?_);dsimp only;rw[X.even,a0m Ga,I];have hg:=Pc X.tk (h:=tupleKeyHash (intKind prog w) k) (hashAt:=λi=>(O[i]?.map (·.1)).getD 0) hM hb (10*SetTable.turns t.mask) n hn (sub_lt_of_lt q);have u:∀(i:Nat) e,O[i]?=some e->((O[i]?.map (·.1)).getD 0)=e.1:=λi e G=>by rw[G];rfl
   split
   ·rename_i met f;rcases hg with⟨m,i,a1,a2,a3,a4,a5,a6⟩ | ⟨a1,a2⟩
    ·have e:met=.candidate (wk t.mask (tupleKeyHash (intKind prog w) k) m).j i (wk t.mask (tupleKeyHash (intKind prog w) k) (m+1)):=Ap (f.symm.trans a6);subst e;dsimp only;have hi:i < O.size:=by
      have h1:=(GJ.mp a3).1;have J:=X.tk.len;simp at J;simp_all
     have K:O[i]? = some O[i]:=By hi;obtain⟨L,b,y,ee,π,_⟩:=X.it i _ K;have seen:∀ v∈((O.filter (λx=>x.1==tupleKeyHash (intKind prog w) k)).toList.map (·.2)),∃ L b,v=Value.ref b/\jT prog w s.heap L b:=λv hv=>by
      obtain⟨e,G,rfl⟩:=sY.mp hv;have P:e∈O:=by
       rw[Array.mem_toList_iff]at G;exact(Array.mem_filter.mp G).1
      obtain⟨j,hj,ej⟩:=Array.getElem_of_mem P;obtain⟨k2,g,_,l,J,_⟩:=X.it j e (by rw[By hj,ej]);exact⟨k2,g,by rw[l],J⟩
     cases hl:t.led
     all_goals
      simp only[Bool.not_true,Bool.not_false,false_eq_true,if_false,if_true]
      try
       refine dV (k0 H _ seen ?_);simp only[false_eq_true,if_false]
      rw[K,ee];dsimp only;refine dV (Ax (wpAny_eqBool_tuple hu π H ?_));refine dV (X.state ?_);dsimp only;by_cases p:L=k;subst p;rw[HQ rfl];exact eH (q1 (An y));rw[FX p];have R:t.sameMemory t.moves t.mask=some true:=by unfold SetTable.sameMemory;simp
      rw[R];dsimp only;rw[gV rfl,vL X.tk.ri a3];dsimp only;rw[K,ee];dsimp only;refine dV (wpAny_isSame_ref_self ?_);simp only[if_true];refine dV (eH ?_);dsimp only;refine rA X hu H hM hb q d (m+1) (some _) Q rfl a2 (by lia) (λi2 l=>?_) q1 q2;obtain⟨T,j2,U,g,B,V1⟩:=r i2 l;refine⟨T,j2,?_,g,B,V1⟩
      refine lt_of_not_le λhle=>?_;have W:i2<O.size:=by rw[← X.len];exact(sL.mp l).1
      have C:O[i2]?=some O[i2]:=By W;obtain⟨k3,b5,D1,Y,_⟩:=X.it i2 _ C;rw[l]at D1;cases D1;by_cases z:T=m
      ·subst z;have:i2=i:=by rw[← jS X.tk.ri g,← jS X.tk.ri a3,B]
       subst this;rw[y]at l;exact p (Ap l)
      ·refine a5 T i2 U (by lia) (by rw[g,B]) ?_;show(O[i2]?.map (·.1)).getD 0=_;rw[u i2 _ C,Y]
    ·have e:met=.empty (wk t.mask (tupleKeyHash (intKind prog w) k) M).j none:=Ap (f.symm.trans a2);subst e;dsimp only;refine eH (q2 λhm=>?_);obtain⟨i,hi,e⟩:=Dm hm;have y:ks[i]?=some k:=by rw[oI hi,e]
     obtain⟨m,j,U,g,B,V1⟩:=r i y;have σ:i<O.size:=by rw[← X.len];exact hi
     have C:O[i]?=some O[i]:=By σ;obtain⟨k3,b5,D1,Y,_⟩:=X.it i _ C;rw[y]at D1;cases D1;refine a1 m i U V1 (by rw[g,B]) ?_;show(O[i]?.map (·.1)).getD 0=_;rw[u i _ C,Y]
   ·rename_i F;exfalso;rcases hg with⟨m,i,_,_,_,_,_,a6⟩|⟨_,a2⟩;exact F _ a6;exact F _ a2
section
open SetTable
theorem mW(n:Nat):∀ (f k:Nat),n < 2 ^ k*2 ^ f->3<=k->∃ g,sizeAbove.go n f (2 ^ k)=2 ^ g/\k<=g/\n < 2 ^ g/\(2 ^ g=2 ^ k\/2 ^ g<=2*n)
 |0,k,h,i=>⟨k,rfl,hF _,by simp_all,.inl rfl⟩
 | f+1,k,h,i=>by
   unfold sizeAbove.go;split
   ·have e:2^k*2=2^(k+1):=(Fh ..).symm;obtain⟨g,a,b,c,d⟩:=mW n f (k+1) (by rw[Fh,mul_assoc,Fg 2 (2^f),← Fh];exact h) (lt_succ_of_lt i)
    grind
   grind
def qE(n:Nat)(h:n<2^60):∃k,sizeAbove n=2^k/\3<=k/\n<2^k/\2^k<=8+2*n:=by
 obtain⟨k,a,b,c,d⟩:=mW n 64 3 (Ao h (by decide)) (hF _);exact⟨k,a,b,c,by lia⟩
noncomputable def rel{a:Type}(l:List a)(o:List Nat):List a:=o.filterMap (l[·]?)
theorem zO{l:List a}:∀ {o:List Nat},(∀ j∈o,j < l.length)->∀ i:Nat,(rel l o)[i]? = (o[i]?).bind (l[·]?)
 |[],_,i=>rfl
 | j::o,h,i=>by
   have H:=h j Aa;have e:rel l (j::o)=l[j]::rel l o:=by
    unfold rel
    simp_all
   rw[e];cases i with
   |zero=>simp
   |succ i=>exact zO (λx b=>h x (Am _ b)) i
def rB{l:List a}(h:∀ j∈o,j < l.length):(rel l o).length=o.length:=by
 induction o with
 |nil=>rfl
 | cons j o b=>
   have H:=h j Aa;have e:rel l (j::o)=l[j]::rel l o:=by
    unfold rel
    simp_all
   simp_all
def Pf{l:List a}(h:o.Perm (range l.length)):(rel l o).Perm l:=by
 have b:(rel l o).Perm (rel l (range l.length)):=h.filterMap _;have c:rel l (range l.length)=l:=by exact PySem.List.filterMap_getElem?_range_length l
 simp_all
def pD(l:List b)(p:Nat)(x:b):(zM l p x).Perm (x::l):=by
 unfold zM;have:=List.perm_middle (a:=x) (l₁:=l.take p) (l₂:=l.drop p)
 simp_all
end
def vP(prog:Program)(w:World)(h:Heap)(S:Addr)(l:Bool)(N:Addr->Prop)(ks:List (List Int)):Prop:=∃o e E t,CN prog w h S l N ks o e E t
def CN.store{s:Shared}(X:CN prog w s.heap S L N ks o C E t)(T:CZ B (b.toList.map (·.1)))(m:B.led=t.led)(p:B.plain=true)(H:c.length=b.size)(f:c.Nodup)
  (hi:∀(i:Nat) e,b[i]?=some e->∃k a,c[i]?=some k/\e=(tupleKeyHash (intKind prog w) k,.ref a)/\jT prog w s.heap k a/\N a) (q:B.place.size*5<B.mask*3) :
  CN prog w (s.heap.update S (putSet b B)) S L N c {o with data:=.set b (E+1) B} b (E+1) B:=by
 have r:(s.heap.update S (putSet b B)).get? S=some {o with data:=.set b (E+1) B}:=by
  have:=Dl (putSet b B) X.ob (by rw[GG b B X.dt];rfl);rw[GG b B X.dt]at this;exact this
 refine⟨r,X.ex,rfl,T,q,m.trans X.ld,p,H,λi e u=>?_,f⟩;obtain⟨k,a,v,x,l,y⟩:=hi i e u;refine⟨k,a,v,x,l.at (λO g=>?_),y⟩;have h:a≠S:=λz=>by
  subst z;obtain⟨A,I,n,d,_,j,_⟩:=l;rw[X.ob]at d;cases d;rw[X.dt]at j
  lia
 rw[(Eu s.heap S (putSet b B)).2 a h];exact g
def k7(X:CN prog w s.heap S led N ks o O ep t)(hu:A.units < cLine)(hk:jT prog w s.heap k a)(haN:N a)(hn:ks.length < 4000)
  (q1:k∈ks->∀tk,Q false {s with toks:=tk}) (q2:k∉ks->∀h' tk I,vP prog w h' S led N I->I.Perm (k::ks)->(∀c ob,c≠S->s.heap.get? c=some ob->h'.get? c=some ob)->Q true {s with heap:=h',toks:=tk}) :
  wpAny (model prog w) A (setAdd S (.ref a)) Q E s:=by
 obtain⟨M,hMs,hM,hb⟩:=X.tk.stop2 (tupleKeyHash (intKind prog w) k);have hsz:t.place.size=O.size:=by have:=X.tk.len;simpa using this
 have hfit:=X.tk.fit;have hes:O.size<4000:=by rw[← X.len];exact hn
 unfold setAdd;refine Ax (dV (wpAny_pyHash_tuple hu hk ?_));unfold setAddHashed;refine Ax ?_;generalize hs':s.toks+(k.length+1)=tk0;have X':CN prog w ({s with toks:=tk0}:Shared).heap S led N ks o O ep t:=X;have J:jT prog w ({s with toks:=tk0}:Shared).heap k a:=hk;unfold setAddHashedIn;refine dV (X'.state ?_);dsimp only;have hbs:byScan (.ref a) O=false:=rfl;rw[hbs,a0m Ga];unfold setSearch;refine dV (rA X' hu J hM hb (by show M<10*(t.mask+15);lia) 100000 0 none _ rfl (Ad _) (by lia) (λi ei=>?_) (λhm=>eH (q1 hm tk0)) λhm=>?_)
 ·have hi':i<O.size:=by rw[← X.len];exact(sL.mp ei).1
  have K:O[i]?=some O[i]:=By hi';obtain⟨k3,b5,e4,e5,_⟩:=X.it i _ K;rw[ei]at e4;cases e4;obtain⟨m,j,c1,c2,c3⟩:=X.tk.rea i (tupleKeyHash (intKind prog w) k) (by rw[Ab,Bc,K,e5];rfl);refine⟨m,j,Ad _,c1,c2,lt_of_not_le λz=>?_⟩;by_cases zz:M=m;subst zz;exact hM ⟨i,by rw[c1,c2]⟩;exact hM (c3 M (by lia))
 ·dsimp only;refine dV (X'.state ?_);dsimp only;have q:=vM t (wk t.mask (tupleKeyHash (intKind prog w) k) M).j X.tk.dm;have hf7:=X.tk.m7;have hful:=X.ful;have y:=X.tk.put hM hb (by lia);have h:=(jC X.tk.ri (wk t.mask (tupleKeyHash (intKind prog w) k) M).j).le;generalize hj:(wk t.mask (tupleKeyHash (intKind prog w) k) M).j=j at q y h ⊢;rw[q]at y ⊢;dsimp only at y ⊢;generalize hp:SetTable.below t.place j=p at y h ⊢;rw[gV X.pl];refine dV (j9 J ?_);rw[gV rfl];have B:p<=O.size:=by simp_all
  have L:p<=ks.length:=by rw[X.len];exact B
  have ehs:(SetTable.insertAt O p (tupleKeyHash (intKind prog w) k,Value.ref a)).toList.map (·.1)=zM (O.toList.map (·.1)) p (tupleKeyHash (intKind prog w) k):=by
   rw[SetTable.toList_insertAt];unfold zM;rw[AH,BJ,Ee,List.map_drop]
  rw[← ehs]at y;have l:(SetTable.insertAt O p (tupleKeyHash (intKind prog w) k,Value.ref a)).size=O.size+1:=nR O B _;have hpl:(SetTable.insertAt t.place p j).size=O.size+1:=by rw[nR t.place h,hsz]
  have π:∀(i:Nat) e,(SetTable.insertAt O p (tupleKeyHash (intKind prog w) k,Value.ref a))[i]?=some e->∃P r,(zM ks p k)[i]?=some P/\e=(tupleKeyHash (intKind prog w) P,.ref r)/\jT prog w s.heap P r/\N r:=λi e g=>by
   rw[Fx _ B]at g;rw[Pd _ L];split at g;rw[gV (by assumption)];exact X.it i e g;split at g;cases g;rw[a0m (by assumption),gV (by assumption)];exact⟨k,a,rfl,rfl,hk,haN⟩;rw[a0m (by assumption),a0m (by assumption)];exact X.it (i-1) e g
  have R:(zM ks p k).Nodup:=(pD ks p k).nodup_iff.mpr (Dq.mpr ⟨hm,X.nd⟩);have d:(zM ks p k).length=(SetTable.insertAt O p (tupleKeyHash (intKind prog w) k,Value.ref a)).size:=by rw[pC _ L,l,X.len]
  have hz:O.size+1<=sizeLine:=by rw[DK];lia
  refine dV (wpAny_storeSet_of (s:={s with toks:=tk0}) X.ob X.dt ?_ (by rw[l];exact hz));have kept:∀(e2:Array (Int×Value)) (t2:SetTable) c ob,c≠S->s.heap.get? c=some ob->(s.heap.update S (putSet e2 t2)).get? c=some ob:=λe2 t2 c ob hc e=>by
   rw[(Eu s.heap S (putSet e2 t2)).2 c hc];exact e
  by_cases T:({t with place:=SetTable.insertAt t.place p j}:SetTable).tooFull=true
  ·rw[T];simp only[Bool.not_false,Bool.and_self,if_true];refine dV ?_;unfold setRelay
   have hg:(s.heap.update S (putSet (SetTable.insertAt O p (tupleKeyHash (intKind prog w) k,Value.ref a)) {t with place:=SetTable.insertAt t.place p j})).get? S=some {o with data:=.set (SetTable.insertAt O p (tupleKeyHash (intKind prog w) k,Value.ref a)) (ep+1) {t with place:=SetTable.insertAt t.place p j}}:=by
    have:=Dl (putSet (SetTable.insertAt O p (tupleKeyHash (intKind prog w) k,Value.ref a)) {t with place:=SetTable.insertAt t.place p j}) X.ob (by rw[GG _ _ X.dt];rfl);rw[GG _ _ X.dt]at this;exact this
   refine dV (wpAny_setState_of (s:={s with heap:=s.heap.update S (putSet (SetTable.insertAt O p (tupleKeyHash (intKind prog w) k,Value.ref a)) {t with place:=SetTable.insertAt t.place p j}),toks:=tk0}) hg rfl (y.fits (by simp)) ?_);dsimp only;have hgr:SetTable.grown (O.size+1)=(O.size+1)*4:=by unfold SetTable.grown;rw[a0m (by lia)]
   obtain⟨G,U,sa2,sa3,sa4⟩:=qE ((O.size+1)*4) (by lia);rw[hgr,U];rw[a0m (by rw[DK];lia)];have V1:1<=2^G:=Nat.one_le_two_pow;have h8:8<=2^G:=by
    have:2^3<=2^G:=Nat.pow_le_pow_right (by decide) sa2;simpa using this
   generalize hE:SetTable.insertAt O p (tupleKeyHash (intKind prog w) k,Value.ref a)=b at *;obtain⟨C,od,l1,l2,W,l4,l5,l6,l7⟩:=j0 (mask:=2^G-1) (k:=G) (finger:=t.finger) (moves:=({t with place:=SetTable.insertAt t.place p j}:SetTable).movedTo (2^G-1)) (led:=t.led) (plain:=t.plain) (hashes:=b.map (·.1)) (sub_add_cancel V1) (by lia) (by rw[size_map,l];lia);have hrl:({t with place:=SetTable.insertAt t.place p j}:SetTable).relaid (b.map (·.1)) ((O.size+1)*4)=some (C,od):=by
    unfold SetTable.relaid;rw[U];exact l1
   rw[size_map]at W l5;have D1:∀x∈od.toList,x<b.toList.length:=λx H=>by
    have:=W.mem_iff.mp H;rw[Cq]at this;rw[Bz];exact this
   have K:(od.filterMap (b[·]?)).toList=rel b.toList od.toList:=by
    rw[Array.toList_filterMap];unfold rel;congr 1;funext x;rw[Bc]
   have u:od.toList.length=b.size:=by have:=W.length_eq;simpa using this
   have F:(od.filterMap (b[·]?)).size=b.size:=by
    rw[← Bz,K,rB D1,u]
   rw[hrl];refine dV ?_;show wpAny (model prog w) A (ite (((od.filterMap (b[·]?)).size != b.size)=true) _ _) _ _ _;dsimp only;rw[F];simp only[bne_self_eq_false,false_eq_true,if_false];refine eH ?_;dsimp only;refine wpAny_storeSet_of (s:={s with heap:=s.heap.update S (putSet b {t with place:=SetTable.insertAt t.place p j}),toks:=tk0}) hg rfl ?_ (by rw[F,l];exact hz);refine eH ?_
   have T3:CZ C ((od.filterMap (b[·]?)).toList.map (·.1)):=by
    have e4:(od.filterMap (b[·]?)).toList.map (·.1)=od.toList.filterMap ((b.map (·.1))[·]?):=by
     rw[Array.toList_filterMap,List.map_filterMap];congr 1;funext x;rw[Array.getElem?_map]
    rw[e4];exact l2
   have Y:∀x∈od.toList,x<(zM ks p k).length:=λx H=>by rw[d,← Bz];exact D1 x H
   refine q2 hm _ tk0 (rel (zM ks p k) od.toList) ⟨{o with data:=.set (od.filterMap (b[·]?)) (ep+1+1) C},od.filterMap (b[·]?),ep+1+1,C,?_,X.ex,rfl,T3,?_,l6.trans X.ld,l7.trans X.pl,?_,?_,?_⟩ ?_ ?_;have:=Dl (putSet (od.filterMap (b[·]?)) C) hg (by rw[GG _ _ rfl];rfl);rw[GG _ _ rfl]at this;exact this;rw[l4,l5,l];lia;rw[rB Y,u,F]
   ·intro i e g;rw[← Bc,K,zO D1]at g;rw[zO Y];cases H:od.toList[i]? with
    |none=>rw[H]at g;cases g
    | some x=>
      rw[H]at g;have he':b[x]?=some e:=by rw[← Bc];exact g
      obtain⟨P,r,h1,h2,h3,h4⟩:=π x e he';refine⟨P,r,h1,h2,h3.at (λob hob=>?_),h4⟩;have v:r≠S:=λz=>by
       subst z;obtain⟨o2,items,n,σ,_,hd2,_⟩:=h3;rw[X.ob]at σ;cases σ;rw[X.dt]at hd2;cases hd2
      rw[(Eu _ S (putSet (od.filterMap (b[·]?)) C)).2 r v];exact kept _ _ r ob v hob
   ·exact(Pf (by rw[d];exact W)).nodup_iff.mpr R
   ·exact(Pf (by rw[d];exact W)).trans (pD ks p k)
   ·intro c ob hc e;rw[(Eu _ S (putSet (od.filterMap (b[·]?)) C)).2 c hc];exact kept _ _ c ob hc e
  ·have f:({t with place:=SetTable.insertAt t.place p j}:SetTable).tooFull=false:=by simpa using T
   rw[f];simp only[Bool.and_false,false_eq_true,if_false];refine eH (q2 hm _ tk0 (zM ks p k) ⟨_,_,_,_,X.store y rfl X.pl d R π ?_⟩ (pD ks p k) (kept _ _));unfold SetTable.tooFull SetTable.fill at f;simp only[X.tk.dm,decide_eq_false_iff_not,Nat.not_le]at f;simpa using f
def vP.stay(X:vP prog w h S L N ks)(H:h'.get? S=h.get? S)(f:∀c ob,N c->h.get? c=some ob->h'.get? c=some ob):vP prog w h' S L N ks:=by
 obtain⟨o,E,n,t,Y⟩:=X;refine⟨o,E,n,t,H.trans Y.ob,Y.ex,Y.dt,Y.tk,Y.ful,Y.ld,Y.pl,Y.len,λi e g=>?_,Y.nd⟩;obtain⟨k,a,j,l,m,d⟩:=Y.it i e g;exact⟨k,a,j,l,m.at (λob b=>f a ob d b),d⟩
def fR(prog:Program)(w:World)(h:Heap)(N:Addr->Prop)(ks:List (List Int))(I:Array Value):Prop:=ks.length=I.size/\∀(i:Nat) v,I[i]?=some v->∃k a,ks[i]?=some k/\v=.ref a/\jT prog w h k a/\N a
def fR.stay(X:fR prog w h N ks I)(f:∀c ob,N c->h.get? c=some ob->h'.get? c=some ob):fR prog w h' N ks I:=by
 refine⟨X.1,λi v e=>?_⟩;obtain⟨k,a,g,j,l,d⟩:=X.2 i v e;exact⟨k,a,g,j,l.at (λob b=>f a ob d b),d⟩
def k8(y:A.units < cLine)(f:¬ N S)(g:¬ N I)(j:S≠I)(hb:ks.length < 4000) :
  Gv prog w A S I H.size (λi v=>H[i]?=some v) (λi h=>fR prog w h N ks H/\∃U,vP prog w h S led N U/\U.length<=i/\∀x,x∈U↔x∈ks.take i) where
 put:=λi v s Q E hi B ⟨T,U,X,l,J⟩ q=>by
  obtain⟨k,a,C,rfl,M,ha⟩:=T.2 i v B;have D1:i<ks.length:=by rw[T.1];exact hi
  have n:ks.take (i+1)=ks.take i++[k]:=by rw[GP,C];rfl
  have F:=X;obtain⟨o,es,ep,t,Y⟩:=X;refine k7 Y y M ha (by lia) (λd b=>?_) λd L b m G p r=>?_;refine q _ s.heap b ⟨T,U,F,le_succ_of_le l,λx=>?_⟩ λc O _ e=>e;rw[n,Ac,Ah,J x];refine⟨.inl,λh=>?_⟩;rcases h with h|rfl;exact h;exact(J _).mp d;refine q _ L b ⟨T.stay λc O hc e=>r c O (λz=>f (z▸hc)) e,m,G,by have:=p.length_eq;simp at this;simp_all,λx=>?_⟩ r;rw[p.mem_iff,Az,n,Ac,Ah,J x];exact or_comm
 stay:=λi h L ⟨T,U,X,l,J⟩ k=>by
  have u:∀c O,N c->h.get? c=some O->L.get? c=some O:=λc O hc e=>k c O (λz=>g (z▸hc)) e;refine⟨T.stay u,U,X.stay ?_ u,l,J⟩;obtain⟨o,es,ep,t,Y⟩:=X;rw[k S o j Y.ob,Y.ob]
def k9:Manifest.owners.lookup (String.ofList (['r','o','t','a','r','e','t','i','_','t','e','s']:List Char).reverse)=some Manifest.sig_set_iterator:=by kernel_rfl
def lG:Slot "set_iterator" "__next__" "set_iterator.__next__":=.of (owner:="set_iterator") (n:="__next__") (rfl) (rfl) (rfl) (rfl) (.inl (rfl)) (by rfl)
def vQ:entryFor table "set_iterator.__next__"=some Builtin.«set_iterator.__next__»:=entryFor_of_tree (rfl)
def Pg(a:Value):argsOk "set_iterator.__next__" ⟨[a],[]⟩:=by
 unfold argsOk;rw[signature?_of (id:="set_iterator.__next__") (n:=['_','_','t','x','e','n','_','_']) (o:=['r','o','t','a','r','e','t','i','_','t','e','s']) (rfl) k9];rfl
def qF:entryFor table "set.__iter__"=some Builtin.«frozenset.__iter__»:=entryFor_alias (id':="frozenset.__iter__") (rfl) rfl (by decide +kernel) (by kernel_rfl)
theorem zP{b:Type}:∀(l:List b) (i:Nat) (h:i<l.length),(l[i]::l.eraseIdx i).Perm l
 |[],i,h=>absurd h (Dr i)
 |a::l,0,_=>.refl _
 |a::l,i+1,h=>(List.Perm.swap a _ _).trans (.cons a (zP l i (Nat.lt_of_succ_lt_succ h)))
theorem vR(next:Nat->Nat):∀ (fuel k:Nat) (l:List a) (o:Array a),l.length=fuel->(pickOrder.go next fuel k l o).toList.Perm (o.toList++l)
 | 0,k,l,o,h=>by
   have:l=[]:=DX h;subst this;rw[Dp];rfl
 | fuel+1,k,l,o,h=>by
   have b:next k % l.length<l.length:=mod_lt _ (by simp[*])
   unfold pickOrder.go;rw[oI b];have c:=vR next fuel (k+1) (l.eraseIdx (next k % l.length)) (o.push l[next k % l.length]) (by grind)
   refine c.trans ?_;rw[Fb,append_assoc];exact append_left _ (zP l _ b)
def qG(next:Nat->Nat)(xs:Array a):(pickOrder next xs).toList.Perm xs.toList:=by
 have:=vR next xs.size 0 xs.toList #[] (by simp)
 simpa[pickOrder]using this
noncomputable abbrev IB(slot i n e:Nat)(S:Addr):Obj:={cls:=.type "set_iterator",data:=.fields #[.int slot 0,.int i 0,.ref S,.int n 0,.int e 0]}
noncomputable def cL(w:World)(S:Addr)(E:Nat)(e:Array (Int×Value)):Array (Int×Value):=if w.params.followText "set-order"=true then pickOrder (w.params.setOrder S E) e else e
def pE(e:Array (Int×Value)):(cL w S ep e).toList.Perm e.toList:=by
 unfold cL;split;exact qG _ e
 rfl
def JI(w:World)(h:Heap)(I S:Addr)(e:Array (Int×Value))(E:Nat)(t:SetTable)(i:Nat):Prop:=
 ∃s,h.get? I=some (IB s i e.size E S)/\(w.params.followText "set-order"=false->SetTable.below t.place s=i)
def l8:typeLookup (.type "set") "__len__"=pure (some (.builtin "set.__len__")):=by rw[typeLookup_type,FV];rfl
def m4(H:s.TypeIs (.ref S) "set")(h:∀b,Q b s):wpAny (model prog w) A (listLengthHint (.ref S)) Q E s:=by
 refine dV (Er H l8 ?_);refine dV (wpAny_isInstance (b:=true) H sub_set_self ?_);refine dV (EW H ?_);exact eH (h _)
section
open PyProof.Rows W
structure m8(c:Nat->Nat->Bool):Prop where
 ir:∀a,c a a=false
 tr:∀{a b d},c a b=true->c b d=true->c a d=true
 nt:∀{a b d},c b a=false->c d b=false->c d a=false
section
variable {N:Nat}{c:Nat->Nat->Bool}{cmp:Nat->Nat->(Bool->Shared->Prop)->Shared->Prop}{s:Shared}(π:m8 c)(hc:∀i j C,i<N->j<N->C (c i j) s->cmp i j C s)
include π hc
end
noncomputable def AZ:List Int->List Int->Bool
 |_,[]=>false
 |[],_::_=>true
 |a::x,b::y=>if a=b then AZ x y else decide (a<b)
theorem mX:∀x,AZ x x=false
 |[]=>rfl
 |a::x=>by show(if a=a then AZ x x else _)=false;rw[gV rfl];exact mX x
theorem JJ:∀ {x y z},AZ x y=true->AZ y z=true->AZ x z=true
 |_,[],_,h,_|_,_::_,[],_,h=>by simp[AZ]at h
 |[],_::_,_::_,_,_=>rfl
 | a::x,b::y,d::z,i,j=>by
   have c:(if a=b then AZ x y else decide (a<b))=true:=i;have e:(if b=d then AZ y z else decide (b<d))=true:=j;show(if a=d then AZ x z else decide (a<d))=true;by_cases f:a=b
   ·rw[gV f]at c;by_cases g:b=d;rw[gV g]at e;rw[gV (f.trans g)];exact JJ c e
    simp_all
   grind
theorem zQ:∀ {x y},AZ x y=false->AZ y x=false->x=y
 |[],[],_,_=>rfl
 |[],_::_,h,_|_::_,[],_,h=>by simp[AZ]at h
 | a::x,b::y,f,g=>by
   have c:(if a=b then AZ x y else decide (a<b))=false:=f;have d:(if b=a then AZ y x else decide (b<a))=false:=g;by_cases e:a=b;rw[gV e]at c;rw[gV e.symm]at d;rw[e,zQ c d]
   lia
def m9(i:Nat)(h:ItemsAre (intKind prog w) x xs)(h':ItemsAre (intKind prog w) y Y)(q:Q (AZ x y) s):KatLex prog w A b (decide (xs.length < Y.length)) Q (xs.zip Y) i s:=by
 induction h generalizing y Y i with
 |nil=>cases h'<;>exact q
 | @cons a _ x _ f l j=>
   cases h' with
   |nil=>exact q
   |@cons d _ y _ g k=>
   obtain⟨t,rfl⟩:=isInt_shape f;obtain⟨u,rfl⟩:=isInt_shape g;rw[List.zip_cons_cons];refine kat_cons (wpAny_eqBool_int ?_);have c:Q (if a=d then AZ x y else decide (a<d)) s:=q;by_cases e:a=d;rw[gV e]at c;rw[show(a==d)=true from DL.mpr e];refine kat_yes ?_;have:=j (i+1) k c;simpa using this
   ·rw[a0m e]at c;rw[show(a==d)=false by simp_all];refine kat_no ?_;cases (b&&i==0)with
    |true=>exact oneLt_int c
    |false=>exact kat_one _ _ (lt_int c)
def n8{M:List Value}(T:fR prog w s.heap N ks M.toArray)(z:0 < M.length)(B:∀ k∈ks,k≠[])(q:Q (tuples' true) s):wpAny (model prog w) A (keyKind' M.toArray) Q E s:=by
 have h:∀ (M:List Value) (ks:List (List Int)),(∀ (i:Nat) v,M[i]? = some v->∃ k a,ks[i]? = some k/\v=.ref a/\jT prog w s.heap k a)->(∀ k∈ks,k≠[])->∃ U:List Value,KatTups s.heap M U/\U.length=M.length/\∀ v∈U,∃ i t,v=.int i t:=by
  intro M
  induction M with
  |nil=>intro ks _ _;exact⟨[],KatTups.nil,rfl,by simp⟩
  | cons v r C=>
    intro ks c d;obtain⟨k,a,j,rfl,o,L,n,g,hc,hd,Y⟩:=c 0 v rfl;cases ks with
    |nil=>simp at j
    | cons J ks=>
      simp at j;subst j;obtain⟨U,l,y,m⟩:=C ks (λi u D1=>c (i+1) u (by simpa using D1)) λx b=>d x (Am _ b);have p:=d _ Aa;cases O:L.toList with
      | nil=>
        rw[O]at Y;cases Y;exact absurd rfl p
      | cons f dW=>
        have F:L[0]?=some f:=by rw[← Bc,O];rfl
        obtain⟨i,t,G⟩:=mE Y f (by rw[O];simp);refine⟨f::U,KatTups.cons g hc hd F l,by simp[y],λx b=>?_⟩;rcases Az.mp b with rfl|b;exact⟨i,t,G⟩;exact m x b
 obtain⟨U,l,y,m⟩:=h M ks (λi v e=>by
  obtain⟨k,a,c,d,H,_⟩:=T.2 i v (by simp_all);exact⟨k,a,c,d,H⟩) B
 refine kat_kind (T:=.type "int") l (by simp[*]) (λv I=>?_) (by decide) q;obtain⟨i,t,rfl⟩:=m v I;exact .now
def DD(k:List Int):List (List Int)->List (List Int)
 |[]=>[k]
 |x::r=>if AZ k x=true then k::x::r else if k=x then x::r else x::DD k r
def oT:List (List Int)->List (List Int)
 |[]=>[]
 |k::r=>DD k (oT r)
abbrev DF(l:List (List Int)):Prop:=l.Pairwise λa b=>AZ a b=true
theorem sR(k:List Int):∀ (l:List (List Int)) (x:List Int),x∈DD k l↔x=k\/x∈l
 |[],x=>by simp[DD]
 | y::r,x=>by
   unfold DD;split;simp
   ·split
    ·simp_all
    ·rw[Az,sR k r x,Az]
     lia
theorem Ph(k:List Int):∀ (l:List (List Int)),DF l->DF (DD k l)
 |[],_=>pairwise_singleton _ _
 | y::r,h=>by
   obtain⟨c,d⟩:=Ew.mp h;unfold DD;split;rename_i b;refine Ew.mpr ⟨λx a=>?_,h⟩;rcases Az.mp a with rfl|a;exact b;exact JJ b (c x a)
   ·split;exact h
    ·rename_i H e;refine Ew.mpr ⟨λx a=>?_,Ph k r d⟩;rcases(sR k r x).mp a with rfl | a
     ·cases f:AZ y x with
      |true=>rfl
      |false=>exact absurd (zQ (by simp_all) f) e
     simp_all
theorem dL:∀ (l:List (List Int)) (x:List Int),x∈oT l↔x∈l
 |[],x=>by rfl
 | k::r,x=>by
   show x∈DD k (oT r)↔_;rw[sR,dL r x,Az]
theorem eW:∀(l:List (List Int)),DF (oT l)
 |[]=>.nil
 |k::r=>Ph k _ (eW r)
def n9(h:DF l):l.Nodup:=Dj.mpr (h.imp λ{a b} h e=>by subst e;rw[mX]at h;lia)
theorem vS:∀ {a b:List (List Int)},DF a->DF b->(∀ x,x∈a↔x∈b)->a=b
 |[],[],_,_,_=>rfl
 |[],y::b,_,_,h=>by have:=(h y).mpr Aa;simp_all
 |x::a,[],_,_,h=>by have:=(h x).mp Aa;simp_all
 | x::a,y::b,j,H,h=>by
   obtain⟨A,k⟩:=Ew.mp j;obtain⟨d,g⟩:=Ew.mp H;have c:x=y:=by
    rcases Az.mp ((h x).mp Aa)with e|e;exact e;rcases Az.mp ((h y).mpr Aa)with f|f
    ·simp_all
    ·have:=JJ (d x e) (A y f);rw[mX]at this;lia
   subst c;have n:x∉a:=λz=>by have:=A x z;rw[mX]at this;lia
   have i:x∉b:=λz=>by have:=d x z;rw[mX]at this;lia
   rw[vS k g λz=>?_]
   grind
end
section
variable {κ:Type}[DecidableEq κ]
end
section
variable {κ:Type}[DecidableEq κ]
end
section
open PyProof.Rows Spec
def o1{id U:String}
  (hc:∀w s Z H A C Q,eD X w Z H s->bF A C->r A H Q->wpAny (model X.prog X.w) X.A (call (.type U) C) (λu G=>wpAny (model X.prog X.w) X.A (call (.builtin id) [u]) (EP X w Z Q) X.xe G) X.xe s)
  (l:Gl X x) (M:X.mg x=none) (m:bootBuiltins x=some (.builtin id)) (d:Gl X y) (f:X.mg y=none) (g:bootBuiltins y=some (.type U)) (N:PA X (e::E) t)
  (L:x≠"__name__":=by decide) (i:(x==("__debug__":Str))=false:=by decide) (j:y≠"__name__":=by decide) (b:(y==("__debug__":Str))=false:=by decide)
  (n:starEach (e::E) X.env=(false,eval e X.env)::starEach E X.env:=by rfl) (k:(backTo a (starEach E X.env)).any (·.1)=false:=by rfl)
  (J:starEach [.Call (.Name y c) (e::E) [] a] X.env=(false,eval (.Call (.Name y c) (e::E) [] a) X.env)::starEach [] X.env:=by rfl) :
  PE X (.Call (.Name x p) [.Call (.Name y c) (e::E) [] a] [] pos) (Gf r t):=by
 intro w s Z H Q I h;refine FW (jY I l M m (PyProof.Rows.callWith_builtin1 ?_ J (by rfl)) L i)
 (refine Calls.spliced_cons (FW (jY I d f g (FZ ?_ n k) j b)))
 exact thn (N a w s Z H _ I h) λC G ⟨A,o,q,v,z⟩=>thn (hc w G Z o A C Q q v z) λu O B=>Calls.spliced_nil B
def o3{Z:St}(I:eD X j Z H s)(hc:X.calm=true)(h:cY H p=some (b,xs)) :
  ∃f:List Value,bF xs f/\Nonempty (FA X.prog X.w X.A s.heap p f.toArray.size λi v=>f.toArray[i]?=some v):=by
 cases b with
 | true=>
   obtain⟨g,r,⟨o,n,a,c,e,d⟩,_⟩:=I.list (gU h);exact⟨g,r,⟨FA.list (I.ok.hd hc) ⟨o,a,c,n,d⟩⟩⟩
 | false=>
   obtain⟨g,r,q,_⟩:=I.tuple (eO h);exact⟨g,r,⟨FA.tup (I.ok.hd hc) q⟩⟩
end
def Pj(h:H p=some o):fI H p o=H:=by
 funext b;by_cases a:b=p;subst a;rw[aJ,h];rw[aG a]
section
open PyProof.Rows Spec
theorem lH{prog:Program}{w:World}:∀ {k:List Int} {u:List Value},bF (k.map V.int) u->ItemsAre (intKind prog w) k u
 |[],_,.nil=>.nil
 | i::r,_,.cons h t=>by
   obtain⟨T,rfl⟩:=h;exact .cons (by simp[intKind,Value.isInt]) (lH t)
def mF{Z:St}(I:eD X p Z H s)(h:H a=some (.tup (k.map V.int))):jT X.prog X.w s.heap k a:=by
 obtain⟨i,r,⟨o,b,hc,n,c⟩,_⟩:=I.tuple (eO (bO h));exact⟨o,i.toArray,n,b,hc,c,by simpa using lH r⟩
def Pk(r:V->List V->Hp->VK->Prop)(to:TE)(t:TA):TE:=λZ H Q=>to Z H λx h=>(∃p b,x=.ref p/\h p=some (.tup b))/\t Z h λb a=>r x b a Q
def o8{id:String}(slot:Slot "tuple" N id)(g:typeOf (.builtin id)=pure (.type "method_descriptor"))(hm:EE X id r)(m:PE X o to)(ha:PA X (e::M) t)
  (c:attributeBase o N X.env (eval o X.env)=eval o X.env:=by rfl)
  (f:((backTo w (starEach (e::M) X.env)).all (λx=>!x.1)&&(backToKw w (keywordEach [] X.env)).all (λx=>x.1.isSome)&&decide ((e::M).length+([]:List Keyword).length+(if([]:List Keyword).isEmpty then 0 else 1)<30))=true:=by rfl)
  (d:(O.endLine==w.line)=true:=by rfl) (hs:starEach (e::M) X.env=(false,eval e X.env)::starEach M X.env:=by rfl) (b:(backTo w (starEach M X.env)).any (·.1)=false:=by rfl) :
  PE X (.Call (.Attribute o N O) (e::M) [] w) (Pk r to t):=by
 intro L s Z H Q I h;refine wpAny_Call_method_late c f d rfl (thn (m L s Z H _ I h) λv T Z0=>?_);obtain⟨x,i,j,k,⟨p,U,ex,n⟩,q⟩:=Z0;subst ex;have u:v=.ref p:=k;subst u;obtain⟨_,its,_,⟨ob,y,z,_⟩,⟨A,G,J⟩⟩:=(show cC X.prog X.w i T.heap p (.tup U)from j.hok p _ n);refine⟨"tuple",id,F.plainAttrs_tuple,slot,g,⟨ob,y,z⟩,λa K=>?_,?_⟩
 ·simp_all
 ·have l:=ha w L T Z i _ j q;rw[hs]at l ⊢;refine Calls.callWith_builtin (by show(false||(backTo w (starEach M X.env)).any (·.1))=false;rw[b]<;>rfl) (Calls.evalArgs_plain ?_);exact thn l λus s2 ⟨Y,B,C,D1,E⟩=>hm L s2 Z B (.ref p) Y _ us Q C k D1 E
end
noncomputable def HD:List D->Option (List Int)
 |[]=>some []
 |.int i::r=>(HD r).bind λl=>some (i::l)
 |_::_=>none
def o9(h:HD l=some z):l=z.map D.int:=by
 induction l generalizing z with
 |nil=>cases h;rfl
 | cons d r i=>
   cases d with
   | int s=>
     obtain⟨l,a,b⟩:=aA h;cases b;rw[i a];rfl
   |_=>cases h
def p0(z:List Int):HD (z.map D.int)=some z:=by
 induction z with
 |nil=>rfl
 |cons b r a=>show(HD (r.map D.int)).bind _=_;simp_all
noncomputable abbrev tI(k:List Int):D:=.tup (k.map D.int)
def sV:List D->Option (List (List Int))
 |[]=>some []
 |.tup k::r=>(HD k).bind λa=>(sV r).bind λl=>some (a::l)
 |_::_=>none
def Pl(h:sV l=some z):l=z.map tI:=by
 induction l generalizing z with
 |nil=>cases h;rfl
 | cons d r i=>
   cases d with
   | tup k=>
     obtain⟨e,a,h⟩:=aA h;obtain⟨l,b,c⟩:=aA h;cases c;rw[i b,o9 a];rfl
   |_=>cases h
def pF(z:List (List Int)):sV (z.map tI)=some z:=by
 induction z with
 |nil=>rfl
 |cons b r a=>show(HD (b.map D.int)).bind (λc=>(sV (r.map tI)).bind _)=_;rw[a,p0];rfl
def p5(h:Rp H (tI k) v):∃a,v=.ref a/\H a=some (.tup (k.map V.int)):=by
 cases h with
 |tup h r=>rw[r.ints_inv]at h;simp_all
def Pn{ks:List (List Int)}(h:Rps H (ks.map tI) xs):∃m:List Addr,xs=m.map V.ref/\m.length=ks.length/\∀(i:Nat) a k,m[i]?=some a->ks[i]?=some k->H a=some (.tup (k.map V.int)):=by
 induction ks generalizing xs with
 |nil=>cases h;exact⟨[],rfl,rfl,λ_ _ _ e=>by cases e⟩
 | cons k ks j=>
   cases h with|cons a t=>
   obtain⟨p,rfl,d⟩:=p5 a;obtain⟨m,rfl,f,g⟩:=j t;refine⟨p::m,rfl,Cn (· + 1) f,λi a l b c=>?_⟩;cases i with
   |zero=>cases b;cases c;exact d
   |succ i=>exact g i a l b c
def Po{ks:List (List Int)}{c:List Addr}(h:c.length=ks.length)(b:∀(i:Nat) a k,c[i]?=some a->ks[i]?=some k->H a=some (.tup (k.map V.int))):Rps H (ks.map tI) (c.map V.ref):=by
 induction ks generalizing c with
 |nil=>cases c with|nil=>exact .nil|cons _ _=>cases h
 | cons k ks j=>
   cases c with
   |nil=>cases h
   |cons p c=>exact .cons (.tup (b 0 p k rfl rfl) (lA k)) (j (Nat.succ.inj h) λi=>b (i+1))
theorem sW{a:Sg}:dY (dI n c (.str z) (b::a)) K=(z.length=n/\dY (c (jZ z) (b::a)) K):=by
 show dY (if z.length=n then c (jZ z) (b::a)else none) K=_;rw[aN]
abbrev FT:=List D->D->Option D
def Pp(r:V->List V->Hp->PySem.VK->Prop)(f:FT):Prop:=∀H l x e p y Q d,H p=some (.tup x)->Rps H l x->AX H e y->f l e=some d->(∀v,Rp H d v->Q v H)->r (.ref p) [y] H Q
def HE(f:FT)(a b:DE):DE:=λZ=>(a Z).bind λx=>match x.1 with
 |.val (.tup l)=>(b x.2).bind λy=>(rd y.2 y.1).bind λe=>(f l e).bind λd=>some (.val d,y.2)
 |_=>none
def p6(w:Pp r f)(h:∀ O,PE X e (Pk r (AY O n) (BW O (aB o aF)))):GE X e (HE f n o):=.mk λO=>Bk (h O) λY H Q Z1=>by
 obtain⟨Z,ok,res,σ',e,k⟩:=Z1;have z:=e;obtain⟨⟨x,a⟩,A,T⟩:=aA z;dsimp only at T;have B:∃ l,x=.val (.tup l):=by
  cases x with
  | val C=>
    cases C with
    |tup l=>lia
    |_=>cases T
  |_=>cases T
 obtain⟨l,rfl⟩:=B;refine⟨Z,ok,_,a,A,λv1 D b E i _=>?_⟩;obtain⟨⟨y,j⟩,F,f2⟩:=aA T;obtain⟨G,I,J⟩:=aA f2;obtain⟨d,K,L⟩:=aA J;cases L;have m:Rp D (.tup l) v1:=E;obtain⟨p,U,rfl,q,M⟩:=eP (.inl m);refine⟨⟨p,U,rfl,q⟩,a,b,[y],j,?_,λvs s c N g _=>?_⟩;show((_:Option _).bind _)=_;rw[F];rfl;cases N with
 | cons π t _=>
   cases t;have u:=g.ext b;refine w s l U G p _ Q d (u.tup _ _ q) (M.mono u) (π.vw c I) K λv P=>?_;exact k v s c P (i.trans g) fO
theorem q0{c:Sg}:RE (HE f h i) (g::c) Q=RE h (g::c) λx a=>dY (match x with | .val (.tup l)=>some l | _=>none) λl=>RE i a λy b=>RD b y λe=>dY (f l e) λd=>Q (.val d) b:=by
 unfold RE RD HE;simp only[aH];congr 1;funext x;obtain⟨x,a⟩:=x;cases x with
 | val d=>
   cases d with
   |tup l=>simp only[aH];rfl
   |_=>rfl
 |_=>rfl
def zR:FT:=λl e=>match e with
 |.str z=>(iD l).bind λa=>some (.int (a.count z:Nat))
 |_=>none
def q9(a:Ae k A):A.units+8<PySem.cLine:=by have:=a.un;lia
section
open MeetsSeq MeetsSeq2 MeetsSeq3 SeqAt SeqRoads2
def SeqAt.mG(L hi:Nat)(f:Nat->a->Sem (ForInStep a))(I:Nat->a->Shared->Prop)(Q:a->Shared->Prop)
  (turn:∀i b s,L<=i->i<hi->I i b s->wpAny M A (f i b) (λr o=>match r with|.yield c=>I (i+1) c o | .done c=>Q c o) E s)
  (fin:∀b s,I (max L hi) b s->Q b s) (b:a) (h:I L b s):wpAny M A (forIn [L:hi] b f) Q E s:=by
 rw[Std.Legacy.Range.forIn_eq_forIn_range'];refine wpAny_forIn_list f (λl b s=>∃i,L<=i/\i<=max L hi/\l=range' i (max L hi-i)/\I i b s) Q ?_ ?_ _ b ⟨L,hF _,Nat.le_max_left _ _,?_,h⟩
 ·rintro x p b s ⟨i,d,n,e,g⟩;cases j:max L hi-i with
  |zero=>rw[j]at e;simp at e
  | succ m=>
    rw[j,List.range'_succ]at e;obtain⟨rfl,rfl⟩:=List.cons.inj e;refine PySem.thn (turn x b s d (by grind) g) λr o k=>?_;cases r with
    |yield c=>exact⟨x+1,le_succ_of_le d,by lia,by rw[show max L hi-(x+1)=m by grind],k⟩
    |done c=>exact k
 ·rintro b s ⟨i,d,n,e,g⟩;have:i=max L hi:=by
   have:=Cn List.length e;simp at this;grind
  subst this;exact fin b s g
 ·show range' L ((hi-L+1-1) / 1) 1=_;rw[Nat.div_one,show hi-L+1-1=max L hi-L by grind]
def SeqAt.tuple_indexAt(l:Addr)(I:Array Value)(n:Nat)(k:Option Addr)(u:Array (Option Value))(x:Value)(e:Value->Bool)(j:Nat)(hj:j < I.size)(hb:∀ m (v:m < I.size),m < j->e I[m]=false)(H:e I[j]=true) :
  Meets (Builtin.«tuple.index» ⟨[.ref l,x],[]⟩)
   (λA R s=>s.heap.get? l=some {cls:=.type "tuple",dict:=k,data:=.seq I n,slots:=u}/\(∀y,y∈I->EqAt A.in1 s y x (e y))/\R (.ok (.ret (.int j s.toks))) {s with toks:=s.toks+1}):=
 .of_wp λq w A R s h=>by
  obtain⟨o,g,d,t,O⟩:=s;obtain⟨f,p,h⟩:=h
  wp_walk using RV f,mG _ _ _ (λi (b:Option (PySem.Fin)×PUnit) r=>r=⟨o,g,d,t,O⟩/\b=(none,⟨⟩)/\i<=j) _
  case turn=>
   rintro i b r _ z ⟨rfl,rfl,c⟩;have a:i<I.size:=CS c hj;rw[By a];refine dV (p _ (Array.getElem_mem a) q w _ _ ?_);rcases Nat.lt_or_eq_of_le c with l|rfl
   ·rw[hb i a l]
    wp_walk
    exact⟨rfl,rfl,l⟩
   ·rw[H]
    wp_walk
    exact⟨_,rfl,h⟩
  case fin=>
   rintro b r ⟨_,_,f⟩;lia
  case h=>exact⟨rfl,rfl,Ad _⟩
end
section
open PyProof.Rows Spec
def lJ(a b:Value):argsOk "tuple.index" ⟨[a,b],[]⟩:=by
 unfold argsOk;rw[signature?_of (id:="tuple.index") (n:=['x','e','d','n','i']) (o:=['e','l','p','u','t']) (by kernel_rfl) F.owner_tuple];kernel_rfl
def Pq{i:Nat}(h:bF z U)(e:z[i]?=some x):∃u,U[i]?=some u/\cJ x u:=by
 induction h generalizing i with
 |nil=>simp at e
 | cons a t b=>
   cases i with
   |zero=>simp at e;subst e;exact⟨_,rfl,a⟩
   |succ i=>exact b (by simpa using e)
def Pr:V->List V->Hp->VK->Prop:=λx v H Q=>∃(l:Addr) (a:List Str) (z:Str),x=.ref l/\v=[.str z]/\H l=some (.tup (a.map V.str))/\z∈a/\Q (.int (a.idxOf z:Nat)) H
def r8:EE X "tuple.index" Pr:=by
 intro pins s Z H x vs v us Q I B C h;obtain⟨l,O,z,rfl,rfl,D1,G,q⟩:=h;cases B;obtain⟨u,rfl,J⟩:=C.one;obtain⟨t,rfl⟩:=J;obtain⟨_,T,r,⟨⟨oc,od,K,sl⟩,e,c,n,d⟩,_⟩:=(show cC X.prog X.w H s.heap l (.tup (O.map V.str))from I.hok l _ D1);dsimp only at c d;subst c d;have hj:O.idxOf z<O.length:=List.idxOf_lt_length_iff.mpr G;have o:T.length=O.length:=by
  have:=r.length;simpa using this.symm
 have f:∀m (U:m<T.toArray.size),∃(a:m<O.length) (b:Tok),T.toArray[m]=.str O[m] b:=λm U=>by
  have g:m<T.length:=by simpa using U
  have a:m<O.length:=by simp_all
  obtain⟨u,A,L⟩:=Pq (i:=m) r (by rw[Ab,oI a];rfl);obtain⟨b,rfl⟩:=L;rw[oI g]at A;exact⟨a,b,by simpa using Ap A⟩
 refine Et F.slot_tuple_index ⟨_,e,rfl⟩ F.entry_tuple_index (lJ _ _) (SeqAt.tuple_indexAt l T.toArray n od sl (.str z t) (Jo z) (O.idxOf z) (by simp;simp[*]) (λm U j=>?_) ?_) ⟨e,λy M=>?_,?_⟩;obtain⟨a,b,k⟩:=f m U;rw[k];show(O[m]==z)=false;have h:=List.not_of_lt_findIdx (p:=(· == z)) (xs:=O) j;simpa using h;obtain⟨a,b,k⟩:=f (O.idxOf z) (by simp;simp[*]);rw[k];show(O[O.idxOf z]==z)=true;simp;obtain⟨N,b,rfl⟩:=rT r y (by simpa using M);exact λY w E Q h=>eqBool_str h;exact⟨.int _,H,I.tok _,⟨_,rfl⟩,q⟩
end
def IC:FT:=λl e=>match e with
 |.str z=>(iD l).bind λa=>if z∈a then some (.int (a.idxOf z:Nat))else none
 |_=>none
def s9:Pp Pr IC:=by
 intro H l x e p y Q d b r c a k;unfold IC at a;split at a;obtain⟨z,f,a⟩:=aA a;split at a;rename_i g;cases a;rw[iS c];rw[jR f]at r;rw[r.strs_inv]at b;exact⟨p,z,_,rfl,rfl,b,g,k _ (.int _)⟩;cases a;cases a
theorem zS{a:List Str}:dY (IC (a.map D.str) (.str z)) K=(z∈a/\K (.int (a.idxOf z:Nat))):=by
 show dY ((iD (a.map D.str)).bind _) K=_;rw[iE];show dY (if _ then _ else none) K=_;rw[aN];rfl
structure Bh(h:Heap)(S:Addr)(led:Bool)(o:Obj)(es:Array (Int×Value))(ep:Nat)(t:SetTable):Prop where
 ob:h.get? S=some o
 ex:o.ExactSet
 dt:o.data=.set es ep t
 tk:CZ t (es.toList.map (·.1))
 ful:t.place.size*5<t.mask*3
 ld:t.led=led
 pl:t.plain=true
theorem Bh.fits{s:Shared}(X:Bh s.heap S l o e E t):t.fits e.size=true:=X.tk.fits (by simp)
def Bh.state(X:Bh s.heap S l o e a t)(h:Q (e,a,t) s):wpAny (model prog w) A (setState S) Q E s:=
 wpAny_setState_of X.ob X.dt X.fits h
def t6(X:Bh s.heap S (fU w) o e b t)(q:Q (.ref s.heap.objs.size) {s with heap:=s.heap.push (IB 0 0 e.size b S)}):wpAny (model prog w) A (pyIter (.ref S)) Q E s:=by
 have H:s.TypeIs (.ref S) "set":=⟨o,X.ob,X.ex.1⟩;refine wpAny_pyIter_slot H F.slot_set_iter (BX F.slot_set_iter H qF ?_ (F.args_set_iter_1 _));show wpAny _ _ (Builtin.Frozenset.sizeOf S >>= _) _ _ s;refine dV (dV (Kd X.ob X.dt X.fits (eH ?_)));refine dV (dV (X.state ?_));refine dV (dV (HP (eH ?_)));refine eH ?_;have a:(!t.plain&&decide (e.size > 1))=false:=by rw[X.pl];rfl
 rw[a0m (λh=>?_)];refine dV (eH ?_);refine dV (wpAny_setEpoch_of X.ob X.dt X.fits ?_);refine dV (EU ?_);exact eH ⟨_,rfl,"set_iterator",_,⟨_,Ak _ rfl,rfl⟩,lG.lookup,q⟩;rw[BZ]at h;exact Bool.noConfusion (a.symm.trans h.2)
def vT(X:Bh s.heap S (fU w) o C G t)(j:w.params.followText "set-order"=false->SetTable.below t.place slot=i)
  (k:∀e next,(cL w S G C)[i]?=some e->(w.params.followText "set-order"=false->SetTable.below t.place next=i+1)->Q (some (e.2,next)) s) (l:(cL w S G C)[i]?=none->Q none s):wpAny (model prog w) A (setNext S slot i G) Q E s:=by
 unfold setNext;refine dV (X.state ?_);unfold setsByText;refine dV (dV (HP (eH ?_)));dsimp only;by_cases H:w.params.followText "set-order"=true
 ·rw[gV (show(model prog w).w.params.followText "set-order"=true from H)];simp only[bne_self_eq_false,false_eq_true,if_false];unfold setWalk;refine dV (dV (X.state ?_));unfold setsByText;refine dV (dV (HP (eH ?_)));dsimp only;rw[gV (show(model prog w).w.params.followText "set-order"=true from H)];refine dV (HP (eH ?_));have m:cL w S G C=pickOrder (w.params.setOrder S G) C:=by unfold cL;rw[gV H]
  show wpAny _ _ (pure ((pickOrder (w.params.setOrder S G) C)[i]?.map λe=>(e.2,slot))) _ _ _;refine eH ?_;rw[← m];cases d:(cL w S G C)[i]? with
  |none=>exact l d
  |some e=>exact k e slot d λz=>by rw[H]at z;cases z
 ·have f:w.params.followText "set-order"=false:=by simpa using H
  have a:=j f;have m:cL w S G C=C:=by unfold cL;rw[a0m H]
  have n:(!t.plain&&decide (C.size > 1))=false:=by rw[X.pl];rfl
  have g:t.led=true:=by rw[X.ld];unfold fU;rw[f];rfl
  rw[a0m (show ¬((model prog w).w.params.followText "set-order"=true)from H)];refine wpAny_ite_split (λh=>absurd (n.symm.trans h) Ga) λ_=>?_;refine dV ?_;have p:wpAny (model prog w) A (if(!t.led && !C.isEmpty)=true then unsupported "set:maker-not-led" else pure ()) (λ_ I=>I=s) E s:=by
   rw[g];simp only[Bool.not_true,Bool.false_and,false_eq_true,if_false];exact eH rfl
  refine Ck p (λ_ I x=>?_) λ_ _ z=>z;subst x;rw[a];rw[m]at k l;have q:t.place.size=C.size:=by have:=X.tk.len;simpa using this
  cases d:C[i]? with
  |none=>exact eH (l d)
  | some e=>
    have r:i<t.place.size:=by rw[q];exact(GJ.mp d).1
    have b:t.place[i]?=some t.place[i]:=By r;rw[b];refine eH (k e _ d λ_=>?_);have c:=jC X.tk.ri (t.place[i]+1);have y:i<SetTable.below t.place (t.place[i]+1):=by
     refine lt_of_not_le λz=>?_;have:=c.hi i _ z b;lia
    have B:SetTable.below t.place (t.place[i]+1)<=i+1:=by
     refine Ed λz=>?_;have u:i+1<t.place.size:=Ao z c.le;have v:t.place[i+1]?=some t.place[i+1]:=By u;have:=c.lo (i+1) _ z v;have:=X.tk.ri i (i+1) _ _ (GL _) b v;lia
    lia
def t7(X:Bh s.heap S (fU w) o m p t)(hi:JI w s.heap I S m p t i)(h:(cL w S p m)[i]? = some e)
  (q:∀h',JI w h' I S m p t (i+1)->(∀b ob,b≠I->s.heap.get? b=some ob->h'.get? b=some ob)->Q (some e.2) {s with heap:=h'}):wpAny (model prog w) A (pyNext (.ref I)) Q E s:=by
 obtain⟨r,c,d⟩:=hi;have u:s.TypeIs (.ref I) "set_iterator":=⟨_,c,rfl⟩;refine dV (Es (wpAny_callSpecial?_slot (name:=ofString "__next__") u lG (BX lG u vQ ?_ (Pg _))));show wpAny _ _ (fieldsOf (.ref I) >>= _) _ _ s;refine dV (dV (wpAny_load c (eH ?_)));dsimp only;refine dV (Kd X.ob X.dt X.fits ?_);simp only[bne_self_eq_false,false_eq_true,if_false,toNat_natCast];refine dV (vT X d (λl n a f=>?_) λv=>?_)
 ·rw[h]at a;cases a;refine dV (HR c rfl (by simp) ?_);have g:(s.heap.update I (λob=>ob.mapFields (·.setIfInBounds 0 (rawInt n)))).get? I=some (IB n i m.size p S):=by
   rw[Dl _ c rfl];rfl
  refine dV (HR (s:={s with heap:=s.heap.update I (λob=>ob.mapFields (·.setIfInBounds 0 (rawInt n)))}) g rfl (by simp) ?_);have j:((s.heap.update I (λob=>ob.mapFields (·.setIfInBounds 0 (rawInt n)))).update I (λob=>ob.mapFields (·.setIfInBounds 1 (rawInt ((i:Int)+1))))).get? I=some (IB n (i+1) m.size p S):=by
   rw[Dl _ g rfl];rfl
  refine eH ⟨_,rfl,eH (q _ ⟨n,j,f⟩ λb ob H k=>?_)⟩;exact(Dk _ _ (hR H)).trans ((Dk _ _ (hR H)).trans k)
 simp_all
def t8(e:A.handled=none)(X:Bh s.heap S (fU w) o p r t)(hi:JI w s.heap I S p r t i)(j:(cL w S r p)[i]? = none)
  (q:∀h',(∀b ob,b≠I->s.heap.get? b=some ob->h'.get? b=some ob)->Q none {s with heap:=h'}):wpAny (model prog w) A (pyNext (.ref I)) Q E s:=by
 obtain⟨l,c,d⟩:=hi;have H:s.TypeIs (.ref I) "set_iterator":=⟨_,c,rfl⟩;refine dV (Es (wpAny_callSpecial?_slot (name:=ofString "__next__") H lG (BX lG H vQ ?_ (Pg _))));show wpAny _ _ (fieldsOf (.ref I) >>= _) _ _ s;refine dV (dV (wpAny_load c (eH ?_)));dsimp only;refine dV (Kd X.ob X.dt X.fits ?_);simp only[bne_self_eq_false,false_eq_true,if_false,toNat_natCast];refine dV (vT X d (λk n f g=>?_) λv=>?_)
 ·simp_all
 ·refine dV (HR c rfl (by simp) ?_);refine dV ?_;refine dV (m:=firstArgMember _ _) (wpAny_of_eq (a:=Value.none) rfl ?_);refine EU ?_ (by size_fits);refine dV (wpAny_handled ?_);rw[show A.in1.handled=none from e];refine dV (eH (wpAny_throw ?_));refine dV (wpAny_isInstance (T:="StopIteration") (b:=true) ⟨_,Ak _ rfl,rfl⟩ isSubtype_stop ?_);refine eH (q _ λb ob u h=>sT _ (sT _ ((Dk _ _ (hR u)).trans h)))
def u0{I:Addr}{L:Addr}(n:A.handled=none)(X:Bh H S (fU w) o G ep t)(p:H.objs.size<=I)(r:H.objs.size<=L)(d:L≠I) :
  BD prog w A I L G.size (λi C h=>(∀b ob,H.get? b=some ob->h.get? b=some ob)/\JI w h I S G ep t i/\C.toList=((cL w S ep G).toList.take i).map (·.2)) (λC h=>(∀b ob,H.get? b=some ob->h.get? b=some ob)/\C.toList=(cL w S ep G).toList.map (·.2)):=by
 have u:(cL w S ep G).toList.length=G.size:=by have:=(pE (w:=w) (S:=S) (ep:=ep) G).length_eq;simp_all
 have l:∀b ob,H.get? b=some ob->b≠I:=λb ob e z=>absurd (rN e) (Fj.mpr (z▸p));have v:∀b ob,H.get? b=some ob->b≠L:=λb ob e z=>absurd (rN e) (Fj.mpr (z▸r));have m:∀(h:Heap),(∀b ob,H.get? b=some ob->h.get? b=some ob)->Bh h S (fU w) o G ep t:=λh a=>
  ⟨a _ _ X.ob,X.ex,X.dt,X.tk,X.ful,X.ld,X.pl⟩
 refine⟨λi C s c Q E U ⟨a,M,N⟩ T q=>?_,λC s c Q E ⟨a,M,N⟩ T q=>?_,λi C h O ⟨a,M,N⟩ _ k=>?_⟩
 ·have g:i<(cL w S ep G).toList.length:=by simp[*]
  have x:(cL w S ep G)[i]?=some (cL w S ep G).toList[i]:=by simp
  refine t7 (m s.heap a) M x λO j f=>?_;have:=q (cL w S ep G).toList[i].2 O s.toks ⟨λb ob e=>f b ob (l b ob e) (a b ob e),j,?_⟩ (f _ _ d T);exact this;rw[Fb,N,GP,oI g,AH];rfl
 ·refine t8 n (m s.heap a) M (by simp_all) λO f=>?_;have:=q O s.toks ⟨λb ob e=>f b ob (l b ob e) (a b ob e),by grind⟩ (f _ _ d T);exact this
 ·obtain⟨J,y,B⟩:=M;exact⟨λb ob e=>k b ob (v b ob e) (a b ob e),⟨J,k I _ (hR d) y,B⟩,N⟩
def u1(g:A.handled=none)(X:Bh s.heap S (fU w) o p r t)(H:p.size<=sizeLine)
  (q:∀h' v,(∀b ob,s.heap.get? b=some ob->h'.get? b=some ob)->s.heap.objs.size<h'.objs.size->Q ((cL w S r p).toList.map (·.2)) {s with heap:=h',toks:=v}):wpAny (model prog w) A (collect (.ref S)) Q E s:=by
 have u:∀b ob,s.heap.get? b=some ob->(s.heap.push (jN #[] 0)).get? b=some ob:=λb ob e=>sT _ e;have l:(s.heap.push (jN #[] 0)).objs.size=s.heap.objs.size+1:=Ez ..;have h:Bh ({s with heap:=s.heap.push (jN #[] 0)}:Shared).heap S (fU w) o p r t:=
  ⟨u _ _ X.ob,X.ex,X.dt,X.tk,X.ful,X.ld,X.pl⟩
 have a:∀b ob,s.heap.get? b=some ob->((s.heap.push (jN #[] 0)).push (IB 0 0 p.size r S)).get? b=some ob:=λb ob e=>sT _ (u b ob e);have i:SetTable.below t.place 0=0:=by
  have c:=jC X.tk.ri 0;refine Nat.le_zero.mp (Ed λz=>?_);exact absurd (c.lo 0 _ z (By (Ao z c.le))) (Dr _)
 have N:s.heap.objs.size≠(s.heap.push (jN #[] 0)).objs.size:=by simp
 have L:=u0 (prog:=prog) (A:=A.in1) g (I:=(s.heap.push (jN #[] 0)).objs.size) (L:=s.heap.objs.size) X (by simp) (hF _) N;refine NB (T:="set") L H ⟨o,X.ob,X.ex.1⟩ rfl rfl (λj k d=>t6 h d) (λj k d=>m4 ⟨o,a _ _ X.ob,X.ex.1⟩ d)
  ⟨a,⟨0,Ak _ rfl,λ_=>i⟩,rfl⟩ (sT _ (Ak _ rfl)) λh' v x m f n=>?_
 simp_all
section
open PyProof.Rows Spec
def Pt:V->List V->Hp->VK->Prop:=λx v H Q=>∃(l:Addr) (a:List Str) (z:Str),x=.ref l/\v=[.str z]/\H l=some (.lst (a.map V.str))/\z∈a/\Q (.int (a.idxOf z:Nat)) H
def u2:EE X "list.index" Pt:=by
 intro O s Z H x U v Y Q I w A h;obtain⟨l,M,z,rfl,rfl,B,C,q⟩:=h;cases w;obtain⟨u,rfl,T⟩:=A.one;obtain⟨t,rfl⟩:=T;obtain⟨f,L,n,r,K,e⟩:=I.lstM B;have hj:M.idxOf z<M.length:=List.idxOf_lt_length_iff.mpr C;have c:L.length=M.length:=by
  have:=r.length;simpa using this.symm
 have hb:L.length<2^62:=CS (by rw[c];simpa using f) (by decide:sizeLine<2^62);have d:∀m (N:m<L.toArray.size),∃(a:m<M.length) (b:Tok),L.toArray[m]=.str M[m] b:=λm N=>by
  have g:m<L.length:=by simpa using N
  have a:m<M.length:=by simp_all
  obtain⟨u,o,E⟩:=Pq (i:=m) r (by rw[Ab,oI a];rfl);obtain⟨b,rfl⟩:=E;rw[oI g]at o;exact⟨a,b,by simpa using Ap o⟩
 refine Et F.slot_list_index ⟨_,e,rfl⟩ F.entry_list_index (F.args_list_index_2 _ _) (MeetsSeq.list_index l L.toArray n (.str z t) (Jo z) (λy G=>?_) (M.idxOf z) (by simp;simp[*]) (by lia) ?_ (λm N j=>?_)) ⟨e,?_⟩;obtain⟨J,b,rfl⟩:=rT r y (by simpa using G);exact eqGives_str J z b t;obtain⟨a,b,k⟩:=d (M.idxOf z) (by simp;simp[*]);rw[k];show(M[M.idxOf z]==z)=true;simp;obtain⟨a,b,k⟩:=d m N;rw[k];show(M[m]==z)=false;have h:=List.not_of_lt_findIdx (p:=(· == z)) (xs:=M) j;simpa using h;exact⟨.int _,H,I.tok _,⟨_,rfl⟩,q⟩
end
def JK:FM:=λd b=>match d,b with
 |.lst l,[.str z]=>(iD l).bind λa=>if z∈a then some (.lst l,.int (a.idxOf z:Nat))else none
 |_,_=>none
def u3:Gn Pt JK:=by
 intro H d p l v Q m e o r b k;unfold JK at b;split at b
 ·obtain⟨z,h,b⟩:=aA b;split at b
  ·rename_i i;cases b;obtain⟨x,f,g⟩:=o;have c:=g;rw[jR h]at c;have j:=c.strs_inv;subst j;cases r with
   | cons a t=>
     cases t;cases a;have q:=k (.lst (z.map V.str)) (.int (z.idxOf _:Nat)) (by rw[Pj f];exact⟨_,f,g⟩) (.int _);rw[Pj f]at q;exact⟨p,z,_,rfl,rfl,f,i,q⟩
  ·cases b
 ·cases b
theorem zT{a:List Str}:dY (JK (.lst (a.map D.str)) [.str z]) K=(z∈a/\K (.lst (a.map D.str),.int (a.idxOf z:Nat))):=by
 show dY ((iD (a.map D.str)).bind _) K=_;rw[iE];show dY (if _ then _ else none) K=_;rw[aN];rfl
def HF(C:MC):Prop:=∀A (K a:hJ->List Sl->Prop),(∀r l,K r l->a r l)->C A K->C A a
structure EN(E:Ex)(X:Cx)(st:Stmt)(m:MS):Prop where
 to:∀Γ,PS X st (Jw Γ E m)
 mon:CJ m
def jD:CJ (RS r):=λ_ _ _ w q=>bJ q w
def Pu{D:AQ}(h:Jw b E (RS r) D a H):Bb b E r D a H:=by
 obtain⟨Z,O,q⟩:=h;obtain⟨o,e,q⟩:=bQ.mp q;exact⟨Z,O,o,e,q⟩
def u4(h:CI E X s r):GM E X s (RS r):=⟨λa=>Hc (h.to a) λ_ _ _=>Pu,jD⟩
def u5(h:GS E X s r):EN E X s (RS r):=⟨λa=>CF (h.to a) λ_ _ _=>Pu,jD⟩
def u6(h:EN E X s m):GM E X [s] m:=⟨λa=>kB (h.to a),h.mon⟩
def FC(b:MS)(Q:Ct->Prop)(o:Ct):Prop:=match o with
 |.nx a=>b a Q
 |o=>Q o
def zU(a b:MS):MS:=λZ Q=>a Z (FC b Q)
def jE(H:CJ a)(e:CJ b):CJ (zU a b):=λZ Q g w q=>H Z _ _ (λo q=>by
 cases o with
 |nx d=>exact e d _ _ w q
 |rt r h | bk h | ct h=>exact w _ q
 |ex c f h=>exact w _ q) q
def Pw{n:List Stmt}(l:EN E X s a)(e:GM E X n b):GM E X (s::n) (zU a b) where
 to:=λm=>Hc (eZ (l.to m) (e.to m)) λD p H ⟨Z,O,q⟩=>⟨Z,O,l.mon Z _ _ (λo q=>by
  cases o with
  |nx d=>exact λi j g h=>⟨d,g,e.mon d _ _ (λo q=>q.after h) q⟩
  |rt r k | bk k | ct k=>exact q
  |ex c f k=>exact q) q⟩
 mon:=jE l.mon e.mon
def FD(t:DT)(a b:MS):MS:=λZ Q=>RT t Z λx c=>if x=true then a c Q else b c Q
def u7(hc:GT X c t)(n:GM E X l a)(hb:GM E X k b):EN E X (.If c l k pos) (FD t a b) where
 to:=λm=>CF (Kj (hc.to m) (n.to m) (hb.to m)) λD p H z=>by
  obtain⟨Z,O,q⟩:=z;obtain⟨⟨x,d⟩,h,q⟩:=bQ.mp q;refine⟨Z,O,x,d,h,λi f g=>?_⟩;split at q;rename_i e;rw[gV e];exact⟨d,f,n.mon _ _ _ (λo q=>q.after g) q⟩;rename_i e;rw[a0m e];exact⟨d,f,hb.mon _ _ _ (λo q=>q.after g) q⟩
 mon:=λZ Q j w q=>bJ q λx q=>by
  dsimp only at q ⊢;split at q;rename_i e;rw[gV e];exact n.mon _ _ _ w q;rename_i e;rw[a0m e];exact hb.mon _ _ _ w q
def vU(i n:Nat)(C:MC)(b:DA):MS:=λZ Q=>dY (b Z) λx=>dY (oS x.2 x.1) λc=>(c.length=n/\eC x.1=true)/\C c λy A=>dY (Js i y (iW x.1 A 0 x.2)) λa=>Q (.nx a)
def u9(f:dX t s a r)(l:gN t s a r x v)(g:hC Z r H a r s)(m:Fs H x v)(k:Js i x a=some b) :
  dX t s b (r.set i (some v))/\hC Z r H b (r.set i (some v)) s:=by
 cases x with
 | val d=>
   have c:(if eR a i=true then some (a.set i (some ⟨.val,d⟩))else none)=some b:=k;split at c;rename_i h;cases c;exact⟨f.put h l,g.put h .val (.inl rfl)⟩
   simp_all
 | own d=>
   have c:(if eR a i=true then some (a.set i (some ⟨.own,d⟩))else none)=some b:=k;split at c;rename_i h;cases c;obtain⟨p,rfl,n,o,q⟩:=l;exact⟨f.putOwn h n o q,g.put h .own (.inr ⟨rfl,λp e=>m _ p rfl e⟩)⟩
   simp_all
 |slot j=>cases k
def sZ(b:HF C):CJ (vU i n C a):=λZ Q d w q=>bJ q λx q=>bJ q λe q=>⟨q.1,b _ _ _ (λy A q=>bJ q λc q=>w _ q) q.2⟩
def Px(g:HF C)(h:∀ I,PS X N (EB (Ji (DB n C) [] f (BW I e)) (gM i))):EN E X N (vU i n C e) where
 to:=λI=>CF (h I) λD L H Z1=>by
  obtain⟨Z,T,q⟩:=Z1;obtain⟨⟨O,a⟩,j,q⟩:=bQ.mp q;obtain⟨Y,k,⟨l,U⟩,q⟩:=bQ.mp q;refine⟨Z,T,O,a,j,λM m b o d p=>?_⟩;show DB n C (M++[]) m _ f;rw[Dp];obtain⟨r,c⟩:=vC k U b o d p;refine⟨Y,r,l,g _ _ _ (λy J q v s Q t=>?_) q⟩;obtain⟨u,w,x,z⟩:=c y J v s Q t;obtain⟨A,B,q⟩:=bQ.mp q;obtain⟨F,G⟩:=u9 u w x z B;exact q _ _ F G
 mon:=sZ g
def tE(h:CJ m):HF (Hq len m):=λA K b w q=>h _ _ _ (λo q=>by
 cases o with
 |nx Z=>exact w _ _ q
 |rt r Z=>obtain⟨a,e,q⟩:=q;exact⟨a,e,w _ _ q⟩
 |bk Z|ct Z=>exact q
 |ex c f Z=>exact q) q
def v5{n:List Int}(b:HF C)(c:KZ K=true)(d:Ih H)(g:Bd K H a (n.map V.int))(h:C [⟨.val,.lst (n.map D.int)⟩] λy _=>y=.val (.bl true)) :
  DB 1 C [.ref a] H (λv _=>v=.bl true) (λ_ _ _=>False):=
 ⟨_,XJ c d g,rfl,b _ _ _ (λy A e v i p f=>by subst e;cases f;rfl) h⟩
def v7:∀x Z H (Q c:St->Hp->Prop),(∀a b,Q a b->c a b)->Fn x Z H Q->Fn x Z H c:=λ_ _ _ _ _ f q=>⟨q.1,f _ _ q.2⟩
def rC(h:∀ x Z H (Q c:St->Hp->Prop),(∀ a b,Q a b->c a b)->t x Z H Q->t x Z H c)(k:∀ x Z H (Q c:St->Hp->Prop),(∀ a b,Q a b->c a b)->u x Z H Q->u x Z H c) :
  ∀x Z H (Q c:St->Hp->Prop),(∀a b,Q a b->c a b)->nY t u x Z H Q->nY t u x Z H c:=λ_ _ _ _ _ f ⟨v,r,e,q⟩=>⟨v,r,e,h _ _ _ _ _ (λ_ _ q=>k _ _ _ _ _ f q) q⟩
def v8(k:∀ x Z H (Q c:St->Hp->Prop),(∀ a b,Q a b->c a b)->u x Z H Q->u x Z H c) :
  ∀x Z H (Q c:St->Hp->Prop),(∀a b,Q a b->c a b)->oM K n u x Z H Q->oM K n u x Z H c:=λx _ _ _ _ f q=>by
 cases x with
 |str z=>exact⟨q.1,k _ _ _ _ _ f q.2⟩
 |ref a=>obtain⟨g,d,e,q⟩:=q;exact⟨g,d,e,k _ _ _ _ _ f q⟩
 |_=>exact q
structure FE(z TI1 TO1 i j:Addr)(f g:List Addr):Prop where
 a1:TI1≠z
 a2:TO1≠z
 a3:TI1≠TO1
 a4:i≠z
 a5:j≠z
 a6:TI1≠i
 a7:TI1≠j
 a8:TO1≠i
 a9:TO1≠j
 fz:z∉f
 fo:TO1∉f
 fj:j∉f
 gz:z∉g
 go:TO1∉g
 gi:i∉g
def w5{Q:Value->Shared->Prop}(D1:FE z TI1 O i j f g)(u:Draws prog w A i f n P S)(B:Draws prog w A j g n R T)(N:k < n)
  (hz:IsZip s.heap z TI1 O .none) (hI:IsPair s.heap TI1 (.ref i) (.ref j)) (hO:IsPair s.heap O a b) (si:S k s.heap) (sj:T k s.heap)
  (q:∀x y h' tk,P k x->R k y->IsZip h' z TI1 O (rawInt s.heap.objs.size)->IsPair h' O x y->S (k+1) h'->T (k+1) h'->IsPair h' s.heap.objs.size x y ->
   (∀c o,c≠z->c≠O->c≠i->c≠j->s.heap.get? c=some o->h'.get? c=some o)->Q (.ref s.heap.objs.size) {s with heap:=h',toks:=tk}) :
  wpAny (model prog w) A (Builtin.«zip.__next__» ⟨[.ref z],[]⟩) (λfin s'=>∃v,fin=.done (.ret v)/\Q v s') E s:=by
 (show wpAny _ _ (field (.ref z) 2 >>= _) _ _ _;refine dV (Bf hz rfl (x:=.bool false) rfl ?_))
 (show wpAny _ _ (field (.ref z) 3 >>= _) _ _ _;refine dV (Bf hz rfl (x:=.ref TI1) rfl ?_);refine dV (Cj hI rfl ?_))
 (show wpAny _ _ (ownedTupleIsFree (.ref z) >>= _) _ _ _;refine dV ?_;unfold ownedTupleIsFree;refine dV (Bf hz rfl (x:=.none) rfl (eH ?_)))
 (refine dV (Bx ?_);refine dV (Bf hz rfl (x:=.ref O) rfl ?_);refine dV (wpAny_setField_rec hz (by simp) λh1 I l=>?_))
 replace I:IsZip h1 z TI1 O .ellipsis:=I
 (refine dV ?_;refine dV (dV (wpAny_onRaise ?_)))
 (show wpAny _ _ (nextOf (.ref i) >>= _) _ _ _;refine dV (u.item k _ _ _ N (u.frame _ _ _ si λc hc o e=>(l.2 c λz=>D1.fz (z▸hc)).trans e) λx h2 t2 px s2 m=>eH ?_))
 have π:IsPair h2 O a b:=(m.2 O D1.a8).trans ((l.2 O D1.a2).trans hO)
 (refine dV (Cj π rfl ?_);refine dV (wpAny_updateSeq_pair π λU J p=>?_))
 replace J:IsPair U O x b:=J
 (refine dV (wpAny_letGo (eH ?_));refine dV (dV (wpAny_onRaise ?_)))
 have t3:T k U:=B.frame _ _ _ sj λc hc o e=>(p.2 c λz=>D1.go (z▸hc)).trans ((m.2 c λz=>D1.gi (z▸hc)).trans ((l.2 c λz=>D1.gz (z▸hc)).trans e))
 (show wpAny _ _ (nextOf (.ref j) >>= _) _ _ _;refine dV (B.item k _ _ _ N t3 λy h4 t4 py s4 r=>eH ?_))
 have V1:IsPair h4 O x b:=(r.2 O D1.a9).trans J
 (refine dV (Cj V1 rfl ?_);refine dV (wpAny_updateSeq_pair V1 λd C t=>?_))
 replace C:IsPair d O x y:=C
 (refine dV (wpAny_letGo (eH (eH ?_)));refine dV (Cj C rfl ?_);refine dV (wpAny_newTuple ?_))
 have sz:d.objs.size=s.heap.objs.size:=by rw[t.1,r.1,p.1,m.1,l.1]
 have W:IsZip d z TI1 O .ellipsis:=(t.2 z D1.a2.symm).trans ((r.2 z D1.a5.symm).trans ((p.2 z D1.a2.symm).trans ((m.2 z D1.a4.symm).trans I)));have kp:∀c o,c≠z->c≠O->c≠i->c≠j->s.heap.get? c=some o->d.get? c=some o:=λc o h F K L e=>(t.2 c F).trans ((r.2 c L).trans ((p.2 c F).trans ((m.2 c K).trans ((l.2 c h).trans e))));have s5:S (k+1) d:=u.frame _ _ _ s2 λc hc o e=>(t.2 c λz=>D1.fo (z▸hc)).trans ((r.2 c λz=>D1.fj (z▸hc)).trans ((p.2 c λz=>D1.fo (z▸hc)).trans e));have t5:T (k+1) d:=B.frame _ _ _ s4 λc hc o e=>(t.2 c λz=>D1.go (z▸hc)).trans e;have X:z<d.objs.size:=rN W
 (show wpAny _ _ (ownedTupleHandOut (.ref z) (.ref d.objs.size) >>= _) _ _ _;refine dV ?_;unfold ownedTupleHandOut)
 have z6:IsZip (d.push {cls:=.type "tuple",data:=.seq #[x,y]}) z TI1 O .ellipsis:=sT _ W;refine dV (wpAny_setField_rec z6 (by simp) λh7 M Y=>?_)
 replace M:IsZip h7 z TI1 O (rawInt d.objs.size):=M
 refine wpAny_setField_rec M (by simp) λG H σ=>?_
 replace H:IsZip G z TI1 O (rawInt d.objs.size):=H
 have up:∀c o,c≠z->d.get? c=some o->G.get? c=some o:=λc o h e=>(σ.2 c h).trans ((Y.2 c h).trans (sT _ e));have p8:IsPair G d.objs.size x y:=(σ.2 _ (DN X)).trans ((Y.2 _ (DN X)).trans (Ak _ rfl))
 (refine eH ⟨_,rfl,?_⟩;show Q (.ref d.objs.size) _)
 rw[sz]at H p8 ⊢;exact q x y G t4 px py H (up _ _ D1.a2 C) (u.frame _ _ _ s5 λc hc o e=>up c o (λz=>D1.fz (z▸hc)) e) (B.frame _ _ _ t5 λc hc o e=>up c o (λz=>D1.gz (z▸hc)) e) p8 λc o h F K L e=>up c o h (kp c o h F K L e)
def w6(J:FE z T H i j f g)(a:Draws prog w A i f n P S)
  (I:IsZip s.heap z T H .none) (l:IsPair s.heap T (.ref i) (.ref j)) (m:S n s.heap)
  (q:∀h' e,(∀c o,c≠z->c≠i->s.heap.get? c=some o->h'.get? c=some o)->(∃o,h'.get? e=some o/\o.cls=.type "StopIteration")->E (.ref e) {s with heap:=h'}) :
  wpAny (model prog w) A (Builtin.«zip.__next__» ⟨[.ref z],[]⟩) Q E s:=by
 (show wpAny _ _ (field (.ref z) 2 >>= _) _ _ _;refine dV (Bf I rfl (x:=.bool false) rfl ?_))
 (refine dV (Bf I rfl (x:=.ref T) rfl ?_);refine dV (Cj l rfl ?_))
 (refine dV ?_;unfold ownedTupleIsFree;refine dV (Bf I rfl (x:=.none) rfl (eH ?_)))
 (refine dV (Bx ?_);refine dV (Bf I rfl (x:=.ref H) rfl ?_);refine dV (wpAny_setField_rec I (by simp) λG p b=>?_))
 (refine dV ?_;refine dV (dV (wpAny_onRaise ?_)))
 (refine dV (a.done _ _ _ (a.frame _ _ _ m λc hc o e=>(b.2 c λz=>J.fz (z▸hc)).trans e) λr e d ⟨t,u,v⟩=>?_))
 have y:IsZip r z T H .ellipsis:=d _ _ J.a4.symm p;have B:e≠z:=λx=>by lia
 exact wpAny_setField_rec y (by simp) λC _ h=>q C e (λc o k F x=>(h.2 c k).trans (d _ _ F ((b.2 c k).trans x))) ⟨t,(h.2 e B).trans u,v⟩
def Py(U:FE z L J i j f g)(d:Draws prog w A.in1 i f n P S)(e:Draws prog w A.in1 j g n R T)(h:k < n)
  (N:IsZip s.heap z L J .none) (l:IsPair s.heap L (.ref i) (.ref j)) (m:IsPair s.heap J a b) (p:S k s.heap) (r:T k s.heap)
  (q:∀x y h' M,P k x->R k y->IsZip h' z L J (rawInt s.heap.objs.size)->IsPair h' J x y->S (k+1) h'->T (k+1) h'->IsPair h' s.heap.objs.size x y ->
   (∀c o,c≠z->c≠J->c≠i->c≠j->s.heap.get? c=some o->h'.get? c=some o)->Q (some (.ref s.heap.objs.size)) {s with heap:=h',toks:=M}) :
  wpAny (model prog w) A (pyNext (.ref z)) Q E s:=by
 have O:s.TypeIs (.ref z) "zip":=⟨_,N,rfl⟩;exact dV (Es (wpAny_callSpecial?_slot (name:=ofString "__next__") O F.slot_zip_next (BX F.slot_zip_next O F.entry_zip_next (w5 U d e h N l m p r λx y h' M t u v B C G H I=>eH (q x y h' M t u v B C G H I)) (F.args_zip_next_1 _))))
def Pz(u:FE z t p i j f g)(a:Draws prog w A.in1 i f n P S)
  (H:IsZip s.heap z t p .none) (d:IsPair s.heap t (.ref i) (.ref j)) (h:S n s.heap)
  (q:∀h',(∀c o,c≠z->c≠i->s.heap.get? c=some o->h'.get? c=some o)->Q none {s with heap:=h'}):wpAny (model prog w) A (pyNext (.ref z)) Q E s:=by
 have r:s.TypeIs (.ref z) "zip":=⟨_,H,rfl⟩
 (refine dV (Es (wpAny_callSpecial?_slot (name:=ofString "__next__") r F.slot_zip_next (BX F.slot_zip_next r F.entry_zip_next (w6 u a H d h λh' e k ⟨o,l,m⟩=>?_) (F.args_zip_next_1 _))));refine dV (wpAny_isInstance (T:="StopIteration") (b:=true) ⟨o,l,m⟩ isSubtype_stop ?_))
 exact eH (q _ k)
noncomputable abbrev HG(b:Bool):String:=if b=true then "list" else "tuple"
noncomputable abbrev FF(b:Bool):String:=if b=true then "list_iterator" else "tuple_iterator"
abbrev EO(b:Bool)(l:Addr):Obj:={cls:=.type (FF b),data:=.fields #[.ref l,.int 0 0]}
def Bp(b:Bool)(h:Heap)(l:Addr)(xs:Array Value):Prop:=if b=true then h.IsList l xs else h.IsTuple l xs
def De(b:Bool)(h:Heap)(i l:Addr)(k:Nat):Prop:=∃o,h.get? i=some o/\o.cls=.type (FF b)/\o.data=.fields #[.ref l,.int k 0]
abbrev w8(a b:Bool)(h:Heap)(l m:Addr):Heap:=((((h.push (EO a l)).push (EO b m)).push {cls:=.type "tuple",data:=.seq #[.ref h.objs.size,.ref (h.objs.size+1)]}).push {cls:=.type "tuple",data:=.seq #[.none,.none]}).push
 {cls:=.type "zip",data:=.fields #[.none,.bool false,.bool false,.ref (h.objs.size+2),.ref (h.objs.size+3)]}
def x2(a c:Bool)(l m:Addr)(xs y:Array Value):Meets (Builtin.«zip.__new__» ⟨[.type "zip",.ref l,.ref m],[]⟩) (λ_ R s=>Bp a s.heap l xs/\Bp c s.heap m y/\R (.ok (.ret (.ref (s.heap.objs.size+4)))) {s with heap:=w8 a c s.heap l m}):=
 .of_wp λp w A R s h=>by
  obtain⟨b,g,d,t,o⟩:=s;obtain⟨e,f,h⟩:=h;have i:=sub_zip;have N:∀{Q:Value->Shared->Prop} {E:Value->Shared->Prop} {A:Around},Q (.ref b.objs.size) ⟨b.push (EO a l),g,d,t,o⟩->wpAny (model p w) A (pyIter (.ref l)) Q E ⟨b,g,d,t,o⟩:=λq=>by
   cases a;exact IT (show IsTuple _ l xs from e) q;exact wpAny_pyIter_list (show IsList _ l xs from e) q
  have n:∀{Q:Value->Shared->Prop} {E:Value->Shared->Prop} {A:Around},Q (.ref (b.push (EO a l)).objs.size) ⟨(b.push (EO a l)).push (EO c m),g,d,t,o⟩->wpAny (model p w) A (pyIter (.ref m)) Q E ⟨b.push (EO a l),g,d,t,o⟩:=λq=>by
   cases c;exact IT (show IsTuple _ m y from Heap.IsTuple.push f _) q;exact wpAny_pyIter_list (show IsList _ m y from Heap.IsList.push f _) q
  wp_walk using N,n
  refine⟨_,rfl,?_⟩;simp only[Heap.size_push];exact h
def x3{h:Heap}(f:a.isFreed=false)(g:b.isFreed=false)(i:c.isFreed=false)(j:d.isFreed=false)(k:e.isFreed=false) :
  ∀h',((((h.push a).push b).push c).push d).push e=h'->h'.get? h.objs.size=some a/\h'.get? (h.objs.size+1)=some b/\h'.get? (h.objs.size+2)=some c/\h'.get? (h.objs.size+3)=some d/\h'.get? (h.objs.size+4)=some e/\∀x o,h.get? x=some o->h'.get? x=some o:=by
 intro h' l;have u:∀{c:Addr} {o O:Obj} {h:Heap},h.get? c=some o->(h.push O).get? c=some o:=λe=>sT _ e;have p:=Ak (h.push a) (o:=b) g;have n:=Ak ((h.push a).push b) (o:=c) i;have m:=Ak (((h.push a).push b).push c) (o:=d) j;have A:=Ak ((((h.push a).push b).push c).push d) (o:=e) k;simp only[Heap.size_push]at p n m A;rw[← l];exact⟨u (u (u (u (Ak h (o:=a) f)))),u (u (u p)),u (u n),u m,A,λx o q=>u (u (u (u (u q))))⟩
def PB{s:Shared}(H:Bp a s.heap l xs)(g:Bp c s.heap m y)
  (q:∀h',IsZip h' (s.heap.objs.size+4) (s.heap.objs.size+2) (s.heap.objs.size+3) .none->IsPair h' (s.heap.objs.size+2) (.ref s.heap.objs.size) (.ref (s.heap.objs.size+1))->IsPair h' (s.heap.objs.size+3) .none .none ->
   De a h' s.heap.objs.size l 0->De c h' (s.heap.objs.size+1) m 0->(∀x o,s.heap.get? x=some o->h'.get? x=some o)->h'.objs.size=s.heap.objs.size+5->Q (.ref (s.heap.objs.size+4)) {s with heap:=h'}) :
  wpAny (model prog w) A (call (.type "zip") [.ref l,.ref m]) Q E s:=by
 refine callType_new F.called_zip (rfl) (F.typeCall_zip_2 _ _) (F.newCall_zip_2 _ _) (λO=>F.args_object_init_3 O _ _) F.entry_zip_new (x2 a c l m xs y) ⟨H,g,?_⟩;obtain⟨i,j,k,n,f,p⟩:=x3 (h:=s.heap) (a:=EO a l) (b:=EO c m) (c:={cls:=.type "tuple",data:=.seq #[.ref s.heap.objs.size,.ref (s.heap.objs.size+1)]}) (d:={cls:=.type "tuple",data:=.seq #[.none,.none]})
  (e:={cls:=.type "zip",data:=.fields #[.none,.bool false,.bool false,.ref (s.heap.objs.size+2),.ref (s.heap.objs.size+3)]}) rfl rfl rfl rfl rfl _ rfl
 exact⟨⟨_,f,rfl⟩,q _ f k n ⟨_,i,rfl,rfl⟩ ⟨_,j,rfl,rfl⟩ p (by simp)⟩
section
open PyProof.Rows
def kJ(h:cY H q=some z)(hb:H b=none):q≠b:=λe=>by
 unfold cY at h;simp_all
noncomputable def Lm(a c:Bool)(p q:Addr):It:=
 ⟨λi H=>∃b Y x y,cY H p=some (a,b)/\cY H q=some (c,Y)/\b.length=Y.length/\b[i]?=some x/\Y[i]?=some y,
  λi H v h=>∃T x y,v=.ref T/\H T=none/\h=fI H T (.tup [x,y])/\(∀b,cY H p=some (a,b)->b[i]?=some x)/\∀Y,cY H q=some (c,Y)->Y[i]?=some y,
  λi H=>∃b Y,cY H p=some (a,b)/\cY H q=some (c,Y)/\b.length=i/\Y.length=i⟩
def PD(a c:Bool)(z t T i j p q:Addr)(k:Nat)(h:Heap):Prop:=IsZip h z t T .none/\IsPair h t (.ref i) (.ref j)/\(∃a b,IsPair h T a b)/\De a h i p k/\De c h j q k
def PF{s:Shared}{z TI TO i j p q:Addr}(st:PD O c z TI TO i j p q k s.heap)(F:Bp O s.heap p xs)(G:Bp c s.heap q ys)(H:TI≠TO)(u:i≠j)(I:p≠TO)(J:q≠TO):FE z TI TO i j [i,p] [j,q]:=by
 obtain⟨h,v,⟨a,b,w⟩,⟨W,d,l,X⟩,Y,f,m,σ⟩:=st;obtain⟨o6,x,K⟩:∃o,s.heap.get? p=some o/\o.cls=.type (HG O):=by cases O<;>exact F.imp λ_ q=>⟨q.1,q.2.1⟩
 obtain⟨o7,y,L⟩:∃o,s.heap.get? q=some o/\o.cls=.type (HG c):=by cases c<;>exact G.imp λ_ q=>⟨q.1,q.2.1⟩
 have M:type (FF O)≠type "zip":=by cases O<;>decide
 have A:type (FF O)≠type "tuple":=by cases O<;>decide
 have n:type (HG O)≠type "zip":=by cases O<;>decide
 have r:type (HG c)≠type "zip":=by cases c<;>decide
 have t:type (FF c)≠type "zip":=by cases c<;>decide
 have g:type (FF c)≠type "tuple":=by cases c<;>decide
 have N:type (FF O)≠type (HG c):=by cases O<;>cases c<;>decide
 have π:type (FF c)≠type (HG O):=by cases O<;>cases c<;>decide
 have B:i≠z:=λe=>by rw[e,h]at d;cases d;exact M l.symm
 have C:j≠z:=λe=>by rw[e,h]at f;cases f;exact t m.symm
 have P:TI≠i:=λe=>by rw[← e,v]at d;cases d;exact A l.symm
 have Q:TI≠j:=λe=>by rw[← e,v]at f;cases f;exact g m.symm
 have D1:TO≠i:=λe=>by rw[← e,w]at d;cases d;exact A l.symm
 have E:TO≠j:=λe=>by rw[← e,w]at f;cases f;exact g m.symm
 have pz:p≠z:=λe=>by rw[e,h]at x;cases x;exact n K.symm
 have R:q≠z:=λe=>by rw[e,h]at y;cases y;exact r L.symm
 have S:p≠j:=λe=>by lia
 have T:q≠i:=λe=>by lia
 have U:TI≠z:=λe=>by lia
 have V:TO≠z:=λe=>by lia
 refine⟨U,V,H,B,C,P,Q,D1,E,?_,?_,?_,?_,?_,?_⟩;simp[B.symm,pz.symm];simp[D1,I.symm];simp[u.symm,S.symm];simp[C.symm,R.symm];simp[E,J.symm];simp[u,T.symm]
def FG{Z:St}(I:eD X p Z H s)(e:cY H q=some (c,y)):∃a:List Value,bF y a/\Bp c s.heap q a.toArray:=by
 cases c;obtain⟨a,b,d,_⟩:=I.tuple (eO e);exact⟨a,b,d⟩;obtain⟨a,b,d,_⟩:=I.list (gU e);exact⟨a,b,d.isList⟩
def vV(b:A.handled=none)(d l:Addr)(a:l≠d)(I:Array Value) :
  Draws prog w A d [d,l] I.size (λi v=>I[i]?=some v) (λi h=>De c h d l i/\Bp c h l I):=by
 cases c;exact Draws.tup b d l a I;exact Draws.list b d l a I
def mY(x:De c h i l k)(w:∀o,h.get? i=some o->h'.get? i=some o):De c h' i l k:=x.imp λo q=>⟨w o q.1,q.2⟩
def x4(c:IsPair h T u v)(a:cJ x u)(b:cJ y v):cC P w (fI H T (.tup [x,y])) h T (.tup [x,y]):=
 ⟨by show 2<=sizeLine;decide,[u,v],.cons a (.cons b .nil),⟨_,c,rfl,_,rfl⟩,⟨_,c,rfl⟩⟩
def x8{K:W.Frag}(p q z TI TO i j:Addr)(R:TI≠TO)(d2:i≠j) :
  Cr P w K (.Tuple B k pos) (Lm a0 c p q) [z,TI,TO,i,j] z (PD a0 c z TI TO i j p q) where
 mem:=by simp
 obj:=λn h st b hb=>by
  obtain⟨M,C,⟨a,a',S⟩,⟨o4,T,c4,e4⟩,o5,U,c5,e5⟩:=st;simp only[mem_cons,not_mem_nil,or_false]at hb;rcases hb with rfl|rfl|rfl|rfl|rfl;exact⟨_,M,λv e=>by cases e⟩;exact⟨_,C,λv e=>by cases e⟩;exact⟨_,S,λv e=>by cases e⟩;exact⟨_,T,λv e=>by rw[e4]at e;cases e⟩;exact⟨_,U,λv e=>by rw[e5]at e;cases e⟩
 keep:=λn h h' st kp=>by
  obtain⟨M,C,⟨a,a',S⟩,T,U⟩:=st;exact⟨kp z (by simp) _ M,kp TI (by simp) _ C,⟨a,a',kp TO (by simp) _ S⟩,mY T λo e=>kp i (by simp) o e,mY U λo e=>kp j (by simp) o e⟩
 item:=by
  intro X V Y σ hc n pins s Z H E I g st hg;subst V Y σ;obtain⟨xs,ys,x,y,m,r,hl,N,hy⟩:=hg;obtain⟨O,π,t1⟩:=FG I m;obtain⟨d,t,t2⟩:=FG I r;obtain⟨u,hu,ru⟩:=π.get N;obtain⟨v,hv,rv'⟩:=t.get hy;have f:Bp a0 s.heap p O.toArray:=t1;have l:Bp c s.heap q d.toArray:=t2;obtain⟨F,G,⟨a,b,z3⟩,Q,z5⟩:=id st;have J:H TO=none:=(g TO (by simp)).1;have hi:H i=none:=(g i (by simp)).1;have hj:H j=none:=(g j (by simp)).1;have D1:=PF st f l R d2 (kJ m J) (kJ r J);have el:O.toArray.size=d.toArray.size:=by rw[CC,CC,← π.length,← t.length];exact hl
  have hlt:n<O.toArray.size:=by
   have:=(sL.mp hu).1;simpa using this
  have dj:=vV (c:=c) (prog:=X.prog) (w:=X.w) (A:=X.A.in1) (I.ok.hd hc) j q (kJ r hj) d.toArray;rw[← el]at dj;refine Py D1 (vV (c:=a0) (A:=X.A.in1) (I.ok.hd hc) i p (kJ m hi) O.toArray) dj hlt F G z3 ⟨Q,f⟩ ⟨z5,l⟩ λx1 y1 M tk px py g1 g2 g3 g4 g5 g6=>?_;obtain rfl:x1=u:=by
   rw[Cp,hu]at px;exact(Ap px).symm
  obtain rfl:y1=v:=by
   rw[Cp,hv]at py;exact(Ap py).symm
  refine⟨_,rfl,wpAny_letOwnedTupleGo_zip g1 λC k1 L=>?_⟩;have nz:s.heap.objs.size≠z:=λe=>absurd (rN F) (by rw[← e];exact BI _);have ha:H s.heap.objs.size=none:=I.hok.fresh (hF _);have kk:∀c o,c≠z->c≠TO->c≠i->c≠j->s.heap.get? c=some o->C.get? c=some o:=λc o c1 c2 c3 c4 e=>(L.2 c c1).trans (g6 c o c1 c2 c3 c4 e);refine⟨.ref s.heap.objs.size,fI H s.heap.objs.size (.tup [x,y]),?_,rfl,⟨_,x,y,rfl,ha,rfl,λzs e=>by rw[m]at e;cases e;exact N,λzs e=>by rw[r]at e;cases e;exact hy⟩,⟨k1,kk TI _ D1.a1 R D1.a6 D1.a7 G,⟨_,_,(L.2 TO D1.a2).trans g2⟩,mY g3.1 λo e=>(L.2 i D1.a4).trans e,mY g4.1 λo e=>(L.2 j D1.a5).trans e⟩,λb hb=>?_⟩;exact I.spun (ch:=[z,TI,TO,i,j]) (t':=tk) g (λb o hb e=>kk b o (λz=>hb (by simp[z])) (λz=>hb (by simp[z])) (λz=>hb (by simp[z])) (λz=>hb (by simp[z])) e) (hF _) (x4 ((L.2 _ nz).trans g5) ru rv');rw[aG (λe=>?_)];exact(g b hb).1;obtain⟨o,ho⟩:∃o,s.heap.get? b=some o:=by
   simp only[mem_cons,not_mem_nil,or_false]at hb;rcases hb with rfl|rfl|rfl|rfl|rfl;exact⟨_,F⟩;exact⟨_,G⟩;exact⟨_,z3⟩;exact Q.imp λ_ q=>q.1;exact z5.imp λ_ q=>q.1
  exact absurd (rN ho) (by rw[e];exact BI _)
 done:=by
  intro X V Y σ hc n pins s Z H E I g st hg;subst V Y σ;obtain⟨xs,ys,m,r,N,hy⟩:=hg;obtain⟨O,π,t1⟩:=FG I m;obtain⟨d,t,t2⟩:=FG I r;have f:Bp a0 s.heap p O.toArray:=t1;have l:Bp c s.heap q d.toArray:=t2;have J:H TO=none:=(g TO (by simp)).1;have hi:H i=none:=(g i (by simp)).1;obtain⟨F,G,⟨a,b,z3⟩,Q,z5⟩:=id st;have hl:O.toArray.size=n:=by rw[CC,← π.length];exact N
  refine Pz (PF st f l R d2 (kJ m J) (kJ r J)) (vV (c:=a0) (A:=X.A.in1) (I.ok.hd hc) i p (kJ m hi) O.toArray) F G ⟨by rw[hl];exact Q,f⟩ λh' kp=>⟨rfl,I.spun0 (ch:=[z,TI,TO,i,j]) (t':=s.toks) g λb o hb e=>kp b o (λz=>hb (by simp[z])) (λz=>hb (by simp[z])) e⟩
 self:=λ_ _ _ _ _ st h=>wpAny_pyIter_zip st.1 h
def PJ(d:TA):TI:=λZ H R=>d Z H λv b=>∃a c p q x y,v=[.ref p,.ref q]/\cY b p=some (a,x)/\cY b q=some (c,y)/\x.length=y.length/\R (Lm a c p q) b
def x9(o:Gl X "zip")(T:X.mg "zip"=none)(j:bootBuiltins "zip"=some (.type "zip"))(U:PA X [a,b] m)
  (Q:starEach [a,b] X.env=(false,eval a X.env)::starEach [b] X.env:=by rfl) (l:(backTo pos (starEach [b] X.env)).any (·.1)=false:=by rfl):PI X (.Tuple d k f) (.Call (.Name "zip" p) [a,b] [] pos) (PJ m):=by
 intro N s Z H R I h;refine Call_ (jY I o T j (FZ (thn (U pos N s Z H _ I h) λus M Y=>?_) Q l));obtain⟨vs,r,g,t,w⟩:=Y;obtain⟨a0,c,p,q,xs,ys,rfl,x,y,L,k⟩:=w;obtain⟨u,v,rfl,z,A⟩:=t.two;cases z;cases A;obtain⟨O,_,B⟩:=FG g x;obtain⟨C,_,D1⟩:=FG g y;have i:∀c,c∈[M.heap.objs.size+4,M.heap.objs.size+2,M.heap.objs.size+3,M.heap.objs.size,M.heap.objs.size+1]->M.heap.objs.size<=c:=λc hc=>by grind
 refine PB B D1 λh' n E F G J K _=>wpAny_pyIter_zip n ?_;exact⟨_,[M.heap.objs.size+4,M.heap.objs.size+2,M.heap.objs.size+3,M.heap.objs.size,M.heap.objs.size+1],_,_,r,rfl,g.kept (t':=M.toks) K,x8 p q (M.heap.objs.size+4) (M.heap.objs.size+2) (M.heap.objs.size+3) M.heap.objs.size (M.heap.objs.size+1) (λe=>absurd (Nat.add_left_cancel e) (by decide)) (λe=>absurd e.symm (Nat.succ_ne_self _)),⟨n,E,⟨_,_,F⟩,G,J⟩,λc hc=>g.fpOk (i c hc) (g.hok.fresh (i c hc)),k⟩
end
noncomputable def uD:List D->List D->List D
 |x::a,y::Y=>.tup [x,y]::uD a Y
 |_,_=>[]
theorem tF:∀ {l m:List D} {i:Nat} {d:D},(uD l m)[i]? = some d->∃ x y,l[i]? = some x/\m[i]? = some y/\d=.tup [x,y]
 |[],_,_,_,h|_::_,[],_,_,h=>by simp[uD]at h
 |x::l,y::m,0,d,h=>by simp[uD]at h;exact⟨x,y,rfl,rfl,h.symm⟩
 | x::l,y::m,i+1,d,h=>by
   obtain⟨a,b,e,f,c⟩:=tF (l:=l) (m:=m) (i:=i) (d:=d) (by simpa[uD]using h);exact⟨a,b,by simp_all,by simp_all,c⟩
theorem kK:∀{l m:List D},l.length=m.length->(uD l m).length=l.length
 |[],_,_=>rfl
 |_::_,[],h=>by simp at h
 |_::l,_::m,h=>by simp[uD];exact kK (by simp_all)
def y0(j:l.length=m.length):KP (Lm a c p q) (uD l m) (λH=>(cY H p=some (a,xs)/\Rps H l xs)/\cY H q=some (c,ys)/\Rps H m ys) where
 go:=λH i d ⟨⟨g,b⟩,h,f⟩ e=>by
  obtain⟨x,y,k,n,_⟩:=tF e;obtain⟨u,o,_⟩:=b.get k;obtain⟨v,r,_⟩:=f.get n;exact⟨xs,ys,u,v,g,h,by rw[← b.length,← f.length];exact j,o,r⟩
 yld:=λH i d v L ⟨⟨g,b⟩,h,f⟩ e ⟨T,x,y,s,G,t,z,A⟩=>by
  obtain⟨E,F,k,n,rfl⟩:=tF e;obtain⟨u,o,B⟩:=b.get k;obtain⟨w,r,C⟩:=f.get n;have J:=z xs g;rw[o]at J;cases J;have I:=A ys h;rw[r]at I;cases I;subst s t;exact⟨aP G,.tup aJ (.cons (B.mono (Be.same (aP G))) (.cons (C.mono (Be.same (aP G))) .nil))⟩
 stop:=λH ⟨⟨g,b⟩,h,f⟩=>⟨xs,ys,g,h,by rw[kK j,b.length],by rw[kK j,j,f.length]⟩
noncomputable abbrev y8(x:hJ):Option Nat:=match x with|.slot i=>some i|_=>none
def Gw(Z:Sg)(r:List hJ):Option (List D×Option Nat):=match r with
 |[.val x,y]=>(Ei x).bind λl=>(rd Z y).bind λd=>(Ei d).bind λm=>if l.2.length=m.2.length then some (uD l.2 m.2,y8 y)else none
 |_=>none
def y9(h:Rp H d v)(e:Ei d=some l):∃p xs,v=.ref p/\cY H p=some (l.1,xs)/\Rps H l.2 xs/\∀a,Be H a->cY a p=some (l.1,xs):=by
 cases h with
 |tup h r=>cases e;exact⟨_,_,rfl,bO h,r,λa x=>bO (x.tup _ _ h)⟩
 |lst h r=>cases e;exact⟨_,_,rfl,nH h,r,λa x=>nH (x.frz _ _ _ h)⟩
 |non|bl|int|str|dic=>cases e
def Gx(a:DA):DI:=λZ=>(a Z).bind λx=>(Gw x.2 x.1).bind λl=>some (l.1,l.2,x.2)
def z7(h:Ei d=some m):oQ d=some m.2:=by
 cases d<;>first|(cases h;rfl)|cases h
def z8(h:∀ Γ,PI X Y e (PJ (BW Γ s))):GI X Y e (Gx s):=.mk λΓ=>Ju (h Γ) λU H R Z1=>by
 obtain⟨Z,ok,O,l,B,e,k⟩:=Z1;obtain⟨⟨x,j⟩,C,e⟩:=aA e;obtain⟨its,c,e⟩:=aA e;cases e;refine⟨Z,ok,x,j,C,λvs D f E n K=>?_⟩;unfold Gw at c;split at c
 ·rename_i L y F;obtain⟨l,G,c⟩:=aA c;obtain⟨d,u,c⟩:=aA c;obtain⟨m,v,c⟩:=aA c;split at c
  ·rename_i w;cases c;subst F;cases E with
   | cons a t _=>cases t with
     | cons b t _=>
       cases t;obtain⟨p,xs,rfl,I,z,o⟩:=y9 a G;have Q:=b.vw f u;obtain⟨q,ys,rfl,A,T⟩:=KN Q v;have M:=uX f b u (z7 v) Q q m.1 ys rfl A T;refine⟨l.1,m.1,p,q,xs,ys,rfl,I,A,by rw[← z.length,← T.length];exact w,k _ D _ f n (y0 (xs:=xs) (ys:=ys) w) λr g J i=>?_⟩;have N:=i.ext (Γ:=Γ) f.lendO;exact⟨⟨o _ N,z.mono N⟩,M r g J i⟩
  simp_all
 simp_all
theorem z9{b:Sg}:RI (Gx d) (c::b) K=RA d (c::b) λr a=>dY (Gw a r) λl=>K l.1 l.2 a:=by
 unfold RI RA Gx;simp only[aH,aY]
theorem nT:dY (Gw Z [.val (.tup l),.val (.tup m)]) K=(l.length=m.length/\K (uD l m,none)):=by
 show dY (if l.length=m.length then some (uD l m,none)else none) K=_;rw[aN];rfl
section
open Sem(wp)
def vW:entryFor table "dict.update.loop"=some Builtin.«dict.update.loop»:=entryFor_of_tree (by kernel_rfl)
def lK:plainId "dict.update.loop"=true:=by decide +kernel
def A0(f:s.heap.IsTuple a #[u,x])(h:Q [u,x] s):wpAny (model prog w) A (pairItems (.ref a)) Q E s:=by
 obtain⟨⟨c,i,j,m⟩,k,b,n,e⟩:=f;simp only at b e;subst b e;obtain⟨l,g,d,t,o⟩:=s;have H:(⟨l,g,d,t,o⟩:Shared).TypeIs (.ref a) "tuple":=⟨_,k,rfl⟩;unfold pairItems
 repeat (any_goals (first|assumption|wp_step))
section
variable {κ:Type}[DecidableEq κ]
def A2[DecidableEq K](l:List (K×Value))(k:K)(v:Value):(stored l k v).length<=l.length+1:=by
 unfold stored;split<;>simp
end
section
variable {κ:Type}[DecidableEq κ]
end
section
variable {κ:Type}[DecidableEq κ]
end
end
section
open PyProof.Rows Spec
def A3{k:κ}[DecidableEq κ](h:k∉l.map Prod.fst):Gj l k v=l++[(k,v)]:=by
 unfold Gj
 grind
theorem rD:∀ (b a:List (Key×V)),((a++b).map Prod.fst).Nodup->qR a b=a++b
 |[],a,_=>by simp[qR]
 | p::b,a,h=>by
   show qR (Gj a p.1 p.2) b=_;have H:((a.map Prod.fst)++p.1::b.map Prod.fst).Nodup:=by simpa using h
   rw[A3 λz=>(List.nodup_append.mp H).2.2 _ z p.1 (by simp) rfl,rD b (a++[(p.1,p.2)]) (by simpa using h)];simp
def zV:typeLookup (.type "zip") "keys"=pure none:=by rw[typeLookup_type,FV];kernel_rfl
def qH:typeLookup (.type "zip") "__getattr__"=pure none:=by rw[typeLookup_type,FV];kernel_rfl
def vX:entryFor table "zip.__getattribute__"=some Builtin.«object.__getattribute__»:=entryFor_alias (id':="object.__getattribute__") (by kernel_rfl) (by decide +kernel) (by decide +kernel) (by kernel_rfl)
section
def A4{z C B:Addr}(x:IsZip s.heap z C B .none)(k:A.handled=none)
  (h:∀h' T,(∀b o,s.heap.get? b=some o->h'.get? b=some o)->Q none {s with heap:=h',toks:=T}):wpAny (model prog w) A (getAttr? (.ref z) "keys") Q E s:=by
 obtain⟨i,g,d,T,O⟩:=s;have m:∀u:Tok,Meets (Builtin.«object.__getattribute__» ⟨[.ref z,.str "keys" u],[]⟩) (λA R s=>IsZip s.heap z C B .none/\raisesAttr (.ref z) "keys" A R s):=λu=>Meets.of_wp λprog w A R s G=>by
  obtain⟨j,y⟩:=G;obtain⟨i,g,d,T,O⟩:=s;have a:i.get? z=_:=j;have H:(⟨i,g,d,T,O⟩:Shared).TypeIs (.ref z) "zip":=⟨_,j,rfl⟩;have f:=zV;unfold Builtin.«object.__getattribute__»
  repeat (any_goals (first|assumption|wp_step))
  exact wpAny_raiseAttrError y.1 y.2 (attrMsg_fits (by decide +kernel) (by size_fits))
 have H:∀c,(⟨i,g,d,c,O⟩:Shared).TypeIs (.ref z) "zip":=λ_=>⟨_,x,rfl⟩;have l:=sub_AttributeError;have n:=F.slot_zip_getattribute.lookup;have p:=F.slot_zip_getattribute.bind (.ref z);have q:=qH;unfold getAttr? getAttrBy? getAttrBy
 repeat (any_goals (first|assumption|exact H _|((with_reducible show wpAny _ _ (call (Value.builtin "zip.__getattribute__") _ _) _ _ _);refine Et F.slot_zip_getattribute (H _) vX (F.args_zip_getattribute_2 _ _) (m _) ⟨x,k,λh' c e a=>?_⟩)|wp_step))
 obtain⟨r,t,v⟩:=a.there;show wpAny _ _ (getattributeRaised _ _ _ _ _ _ _) _ _ _;unfold getattributeRaised hookOrError attributeErrorLeaves
 repeat (any_goals (first|assumption|wp_step))
 exact h _ _ a.keeps
def A5{z O TO T i j:Addr}{Q:Value->Shared->Prop}(D1:FE z O TO i j f g)(d:Draws prog w A i f n P S)(p:Draws prog w A j g n R U)(r:k < n)
  (hz:rV s.heap z O TO T B) (hT:s.heap.get? T=some o) (C:IsPair s.heap O (.ref i) (.ref j)) (F:S k s.heap) (G:U k s.heap)
  (q:∀x y h' tk,P k x->R k y->rV h' z O TO T true->S (k+1) h'->U (k+1) h'->IsPair h' s.heap.objs.size x y->h'.objs.size=s.heap.objs.size+1 ->
   (∀c o,c≠z->c≠i->c≠j->s.heap.get? c=some o->h'.get? c=some o)->Q (.ref s.heap.objs.size) {s with heap:=h',toks:=tk}) :
  wpAny (model prog w) A (Builtin.«zip.__next__» ⟨[.ref z],[]⟩) (λfin s'=>∃v,fin=.done (.ret v)/\Q v s') E s:=by
 (show wpAny _ _ (field (.ref z) 2 >>= _) _ _ _;refine dV (Bf hz.heap rfl (x:=.bool false) rfl ?_))
 (show wpAny _ _ (field (.ref z) 3 >>= _) _ _ _;refine dV (Bf hz.heap rfl (x:=.ref O) rfl ?_))
 refine dV (Cj C rfl ?_)
 (show wpAny _ _ (ownedTupleIsFree (.ref z) >>= _) _ _ _;refine dV (kY hz hT λt b h=>?_))
 rw[a0m (by decide)]
 try (refine dV (eH ?_))
 refine dV ?_;simp only[List.forIn_toArray,forIn_cons,List.forIn_nil];refine dV (dV (Ax ?_))
 (show wpAny _ _ (nextOf (.ref i) >>= _) _ _ _;refine dV (d.item k _ _ _ r (d.frame _ _ _ F λc hc o e=>(h.2 c λz=>D1.fz (z▸hc)).trans e) λx H Y I s2 l=>eH (eH ?_)))
 refine dV (dV (Ax ?_));have J:U k H:=p.frame _ _ _ G λc hc o e=>(l.2 c λz=>D1.gi (z▸hc)).trans ((h.2 c λz=>D1.gz (z▸hc)).trans e)
 (show wpAny _ _ (nextOf (.ref j) >>= _) _ _ _;refine dV (p.item k _ _ _ r J λy a K L M m=>eH (eH (eH ?_))))
 refine dV (wpAny_newTuple (hsz:=by show 2<=sizeLine;decide) ?_);have sz:a.objs.size=s.heap.objs.size:=by rw[m.1,l.1,h.1]
 have N:rV a z O TO T true:=(m.2 z D1.a5.symm).trans ((l.2 z D1.a4.symm).trans b);have up:∀c o,a.get? c=some o->(a.push {cls:=.type "tuple",data:=.seq #[x,y]}).get? c=some o:=λc o e=>sT _ e;refine eH ⟨_,rfl,?_⟩;show Q (.ref a.objs.size) _;have u:IsPair (a.push {cls:=.type "tuple",data:=.seq #[x,y]}) a.objs.size x y:=Ak _ rfl;have π:S (k+1) a:=d.frame _ _ _ s2 λc hc o e=>(m.2 c λz=>D1.fj (z▸hc)).trans e;rw[sz]at u ⊢;exact q x y _ K I L (up _ _ N) (d.frame _ _ _ π λc _ o e=>up c o e) (p.frame _ _ _ M λc _ o e=>up c o e) u (by rw[Ez,sz]) λc o V W X e=>up c o ((m.2 c X).trans ((l.2 c W).trans ((h.2 c V).trans e)))
def A6{z y B T i j:Addr}(G:FE z y B i j f g)(b:Draws prog w A i f n P S)
  (H:rV s.heap z y B T k) (C:s.heap.get? T=some o) (l:IsPair s.heap y (.ref i) (.ref j)) (m:S n s.heap)
  (q:∀h' e,(∀c o,c≠z->c≠i->s.heap.get? c=some o->h'.get? c=some o)->(∃o,h'.get? e=some o/\o.cls=.type "StopIteration")->E (.ref e) {s with heap:=h'}) :
  wpAny (model prog w) A (Builtin.«zip.__next__» ⟨[.ref z],[]⟩) Q E s:=by
 (show wpAny _ _ (field (.ref z) 2 >>= _) _ _ _;refine dV (Bf H.heap rfl (x:=.bool false) rfl ?_))
 (show wpAny _ _ (field (.ref z) 3 >>= _) _ _ _;refine dV (Bf H.heap rfl (x:=.ref y) rfl ?_))
 refine dV (Cj l rfl ?_)
 (show wpAny _ _ (ownedTupleIsFree (.ref z) >>= _) _ _ _;refine dV (kY H C λd a h=>?_))
 rw[a0m (by decide)]
 try (refine dV (eH ?_))
 refine dV ?_;simp only[List.forIn_toArray,forIn_cons,List.forIn_nil];refine dV (dV (Ax ?_))
 (show wpAny _ _ (nextOf (.ref i) >>= _) _ _ _;refine dV (b.done _ _ _ (b.frame _ _ _ m λc hc o e=>(h.2 c λz=>G.fz (z▸hc)).trans e) λp e r t=>?_))
 exact q p e (λc o u v x=>r _ _ v ((h.2 c u).trans x)) t
structure ZD(a0 c0:Bool)(h0:Heap)(N l1 l2:Addr)(i:Nat)(h:Heap):Prop where
 keep:∀b o,h0.get? b=some o->h.get? b=some o
 st:IsZip h (N+4) (N+2) (N+3) .none\/∃T b o,rV h (N+4) (N+2) (N+3) T b/\h.get? T=some o/\N+6<=T
 ti:IsPair h (N+2) (.ref N) (.ref (N+1))
 to:∃a b,IsPair h (N+3) a b
 i1:De a0 h N l1 i
 i2:De c0 h (N+1) l2 i
 sz:N+6<=h.objs.size
def ZD.move(J:ZD A C m N n L i h)(l:m.objs.size=N)(H:SameBut (N+5) h h'):ZD A C m N n L i h':=by
 have k:∀{b:Addr} {o:Obj},b≠N+5->h.get? b=some o->h'.get? b=some o:=λp e=>(H.2 _ p).trans e;have c:∀j,j<5->N+j≠N+5:=λj r=>by unfold Addr at *;lia
 refine⟨λb o e=>k (by have:=rN e;unfold Addr at *;lia) (J.keep b o e),?_,k (c 2 (by unfold Addr at *;lia)) J.ti,?_,mY J.i1 λo e=>k (c 0 (by unfold Addr at *;lia)) e,mY J.i2 λo e=>k (c 1 (by unfold Addr at *;lia)) e,by rw[H.1];exact J.sz⟩;rcases J.st with f|⟨T,b,o,f,q,d⟩;exact .inl (k (c 4 (by unfold Addr at *;lia)) f);exact .inr ⟨T,b,o,k (c 4 (by unfold Addr at *;lia)) f,k (λz=>by subst z;exact absurd d (by unfold Addr at *;lia)) q,d⟩;obtain⟨a,b,g⟩:=J.to;exact⟨a,b,k (c 3 (by unfold Addr at *;lia)) g⟩
def A7(h:L<N)(a:l<N):FE (N+4) (N+2) (N+3) N (N+1) [N,L] [N+1,l]:=by
 constructor<;>(try simp only[mem_cons,not_mem_nil,or_false,not_or])<;>(unfold Addr at *;lia)
def Ln(x:Bp b h l xs)(k:∀o,h.get? l=some o->h'.get? l=some o):Bp b h' l xs:=by
 cases b;obtain⟨o,e,r⟩:=(show IsTuple h l xs from x);exact(show IsTuple h' l xs from⟨o,k o e,r⟩);obtain⟨o,e,r⟩:=(show IsList h l xs from x);exact(show IsList h' l xs from⟨o,k o e,r⟩)
def PL(x:Bp b h l xs):l<h.objs.size:=by
 cases b;obtain⟨o,e,r⟩:=(show IsTuple h l xs from x);exact rN e;obtain⟨o,e,r⟩:=(show IsList h l xs from x);exact rN e
variable {κ:Type}[DecidableEq κ]
def A8{knd:KeyKind prog w κ}{h0:Heap}{N l1 l2:Addr}(hh:A.handled=none)(g:h0.objs.size=N)(h:Bp a0 h0 l1 xs)(m:Bp c0 h0 l2 ys)(L:ys.size=xs.size)(O:List (κ×Value))(hn:O.length=xs.size)(hsz:xs.size < 4000)
  (hP:∀(i:Nat) p,O[i]?=some p->∃u,xs[i]?=some u/\ys[i]?=some p.2/\knd.is p.1 u=true) :
  ∀ (k i:Nat) (c:Tok) (s:Shared) (kvs:List (κ×Value)),i+k=xs.size->ZD a0 c0 h0 N l1 l2 i s.heap->s.heap.DictOf knd (N+5) kvs->kvs.length<=i ->
    (∀h' tk,h'.DictOf knd (N+5) ((O.drop i).foldl (λl p=>stored l p.1 p.2) kvs)->(∀b o,h0.get? b=some o->h'.get? b=some o)->R (.ok (.ret .none)) {s with heap:=h',toks:=tk}) ->
    codeAny (model prog w) A (.builtin "dict.update.loop" ⟨[.ref (N+5),.ref (N+4),.int i c,.none],[]⟩) R s:=by
 have n:l1<N:=by rw[← g];exact PL h
 have t:l2<N:=by rw[← g];exact PL m
 have D1:=A7 n t;have I:=vV (c:=a0) (prog:=prog) (w:=w) (A:=A.in1.in1) hh N l1 (AF n) xs;have M:=vV (c:=c0) (prog:=prog) (w:=w) (A:=A.in1.in1) hh (N+1) l2 (AF (lt_succ_of_lt t)) ys;rw[L]at M;intro k
 induction k with
 | zero=>
   intro i c s kvs K J π hl q;have hi:i=xs.size:=K;refine DW vW ?_;rw[EZ lK _];have B:Bp a0 s.heap l1 xs:=Ln h λo e=>J.keep _ o e;have P:=J.i1;rw[hi]at P;rw[List.drop_of_length_le (by unfold Addr at *;simp[*])]at q;have fin:∀h':Heap,(∀c o,c≠N+4->c≠N->s.heap.get? c=some o->h'.get? c=some o)->R (.ok (.ret .none)) {s with heap:=h',toks:=s.toks}:=λh' z=>by
    refine q h' s.toks ?_ λb o e=>?_;obtain⟨o,es,ep,S,r⟩:=π;exact⟨o,es,ep,z _ o (by unfold Addr at *;lia) (by unfold Addr at *;lia) S,r⟩;have:=rN e;exact z b o (by unfold Addr at *;lia) (by unfold Addr at *;lia) (J.keep b o e)
   (show wpAny _ A.in1 (pyNext (.ref (N+4)) >>= _) _ _ s)
   refine dV ?_;rcases J.st with f|⟨T,b,o,f,hT,C⟩;exact Pz D1 I f J.ti ⟨P,B⟩ λh' K=>dV (eH (eH (fin h' K)));have d:s.TypeIs (.ref (N+4)) "zip":=⟨_,f,rfl⟩;unfold pyNext;refine dV (Es (wpAny_callSpecial?_slot (name:=ofString "__next__") d F.slot_zip_next (BX F.slot_zip_next d F.entry_zip_next (A6 D1 I f hT J.ti ⟨P,B⟩ λh' e k1 ⟨o,e1,e2⟩=>?_) (F.args_zip_next_1 _))));refine dV (wpAny_isInstance (T:="StopIteration") (b:=true) ⟨o,e1,e2⟩ isSubtype_stop ?_);exact eH (dV (eH (eH (fin h' k1))))
 | succ k ih=>
   intro i c s kvs K J π hl q;have hi:i<xs.size:=by lia
   refine DW vW ?_;rw[EZ lK _];have B:Bp a0 s.heap l1 xs:=Ln h λo e=>J.keep _ o e;have L2:Bp c0 s.heap l2 ys:=Ln m λo e=>J.keep _ o e;have ep:O[i]?=some O[i]:=oI (by unfold Addr at *;simp[*]);obtain⟨u,hx,hy,hu⟩:=hP i _ ep;have sz:=J.sz;have ed:O.drop i=O[i]::O.drop (i+1):=drop_eq_getElem_cons (by unfold Addr at *;simp[*])
   (show wpAny _ A.in1 (pyNext (.ref (N+4)) >>= _) _ _ s)
   refine dV (Ck (Q:=λv s'=>∃ h' U,v=some (.ref s.heap.objs.size)/\s'={s with heap:=h',toks:=U}/\(∃ T b o,rV h' (N+4) (N+2) (N+3) T b/\h'.get? T=some o/\N+6<=T)/\(∃ a b,IsPair h' (N+3) a b)/\De a0 h' N l1 (i+1)/\De c0 h' (N+1) l2 (i+1)/\IsPair h' s.heap.objs.size u O[i].2 /\
     ∀c o,c≠N+4->c≠N+3->c≠N->c≠N+1->s.heap.get? c=some o->h'.get? c=some o) ?_ ?_ λ_ _ e=>e)
   ·rcases J.st with f|⟨T,b,o,f,hT,C⟩;obtain⟨a,b,j⟩:=J.to;refine Py D1 I M hi f J.ti j ⟨J.i1,B⟩ ⟨J.i2,L2⟩ λx y h' tk E G a1 a2 a3 a4 a5 a7=>?_;rw[hx]at E;cases E;rw[hy]at G;cases G;exact⟨h',tk,rfl,rfl,⟨_,false,_,a1,a5,sz⟩,⟨_,_,a2⟩,a3.1,a4.1,a5,a7⟩;obtain⟨a,b',j⟩:=J.to;have d:s.TypeIs (.ref (N+4)) "zip":=⟨_,f,rfl⟩;unfold pyNext;refine dV (Es (wpAny_callSpecial?_slot (name:=ofString "__next__") d F.slot_zip_next (BX F.slot_zip_next d F.entry_zip_next (A5 D1 I M hi f hT J.ti ⟨J.i1,B⟩ ⟨J.i2,L2⟩ λx y h' tk E G a1 a3 a4 a5 a6 a7=>?_) (F.args_zip_next_1 _))));rw[hx]at E;cases E;rw[hy]at G;cases G;exact eH ⟨h',tk,rfl,rfl,⟨T,true,o,a1,a7 T o (by unfold Addr at *;lia) (by unfold Addr at *;lia) (by unfold Addr at *;lia) hT,C⟩,⟨a,b',a7 _ _ (by unfold Addr at *;lia) (by unfold Addr at *;lia) (by unfold Addr at *;lia) j⟩,a3.1,a4.1,a5,λc o c1 _ c3 c4 e=>a7 c o c1 c3 c4 e⟩
   ·rintro _ _ ⟨H,V,rfl,rfl,z1,z2,z3,z4,z5,W⟩;have X:H.DictOf knd (N+5) kvs:=let ⟨o,es,ep,S,r⟩:=π;⟨o,es,ep,W _ o (by unfold Addr at *;lia) (by unfold Addr at *;lia) (by unfold Addr at *;lia) (by unfold Addr at *;lia) S,r⟩
    have Y:N+6<=H.objs.size:=by have:=rN (show H.get? s.heap.objs.size=_ from z5);unfold Addr at *;lia
    have J2:ZD a0 c0 h0 N l1 l2 (i+1) H:=⟨λb o e=>by
     have:=rN e;exact W b o (by unfold Addr at *;lia) (by unfold Addr at *;lia) (by unfold Addr at *;lia) (by unfold Addr at *;lia) (J.keep b o e),.inr z1,W _ _ (by unfold Addr at *;lia) (by unfold Addr at *;lia) (by unfold Addr at *;lia) (by unfold Addr at *;lia) J.ti,z2,z3,z4,Y⟩
    refine dV (Ax (dV (wpAny_tryCatch (A0 (s:={s with heap:=H,toks:=V}) (a:=s.heap.objs.size) (u:=u) (x:=O[i].2) ⟨_,z5,rfl,_,rfl⟩ ?_))));dsimp only;refine Ax (wpAny_dictSet_pairs (hsz:=by unfold sizeLine;lia) hu X λh3 σ hs3=>?_);refine eH ⟨EV lK _,?_⟩;refine ih (i+1) 0 _ _ (by unfold Addr at *;lia) (J2.move g hs3) σ (gY (A2 ..) (by unfold Addr at *;simp[*])) λh' tk dn kn=>q h' tk (by rw[ed];exact dn) kn
def vY{knd:KeyKind prog w κ}{prs:List (κ×Value)}(y:A.handled=none)(h:Bp a0 h0 l1 xs)(j:Bp c0 h0 l2 Y)(m:Y.size=xs.size)(hn:prs.length=xs.size)(I:xs.size < 4000)
  (z:∀(i:Nat) p,prs[i]?=some p->∃u,xs[i]?=some u/\Y[i]?=some p.2/\knd.is p.1 u=true)
  (H:IsZip s.heap (h0.objs.size+4) (h0.objs.size+2) (h0.objs.size+3) .none) (U:IsPair s.heap (h0.objs.size+2) (.ref h0.objs.size) (.ref (h0.objs.size+1))) (to:IsPair s.heap (h0.objs.size+3) .none .none)
  (i1:De a0 s.heap h0.objs.size l1 0) (i2:De c0 s.heap (h0.objs.size+1) l2 0) (hs:s.heap.objs.size=h0.objs.size+5) (B:∀b o,h0.get? b=some o->s.heap.get? b=some o)
  (q:∀h' T,h'.DictOf knd (h0.objs.size+5) (prs.foldl (λl p=>stored l p.1 p.2) [])->(∀b o,h0.get? b=some o->h'.get? b=some o)->Q (.ref (h0.objs.size+5)) {s with heap:=h',toks:=T}) :
  wpAny (model prog w) A (call (.type "dict") [.ref (h0.objs.size+4)]) Q E s:=by
 refine callType_codes (Q₁:=λO G=>O=.ref s.heap.objs.size/\G={s with heap:=s.heap.push {cls:=.type "dict",data:=.dict #[]}}) F.kt_called_dict (F.kt_typeCall_dict_1 _) F.entry_dict_init (kt_code_dict_new _ ⟨rfl,rfl⟩) ?_;rintro O G ⟨rfl,rfl⟩;have a:(s.heap.push {cls:=.type "dict",data:=.dict #[]}).DictOf knd s.heap.objs.size []:=Heap.DictOf.new s.heap;have c:∀b o,s.heap.get? b=some o->(s.heap.push {cls:=.type "dict",data:=.dict #[]}).get? b=some o:=λb o e=>sT _ e;refine⟨a.typeIs,F.args_dict_init_2 _ _,?_⟩;have n:Shared.TypeIs {s with heap:=s.heap.push {cls:=.type "dict",data:=.dict #[]}} (.ref (h0.objs.size+4)) "zip":=⟨_,c _ _ H,rfl⟩;unfold Builtin.«dict.__init__» Builtin.Dict.selfAndRest;refine dV (dV (wpAny_notOrdered_dict a.typeIs (eH ?_)));show wpAny _ _ (updateFrom "dict.__init__" s.heap.objs.size (.ref (h0.objs.size+4)) [] .none) _ _ _;unfold updateFrom;refine dV (EW n ?_);rw[gV (by decide)];refine dV (A4 (c _ _ H) y λg t v=>?_);rw[gV (by rfl)];refine dV (Bx (dV (wpAny_pyIter_zip (s:=⟨g,s.gens,s.drawn,t,s.os⟩) (v _ _ (c _ _ H)) ?_)));refine eH ⟨EV lK _,?_⟩;have d:g.DictOf knd s.heap.objs.size []:=let ⟨o,L,M,x,r⟩:=a;⟨o,L,M,v _ o x,r⟩
 rw[hs]at d ⊢;have J:h0.objs.size+6<=g.objs.size:=by obtain⟨o,L,M,x,_⟩:=d;exact rN x
 have f:∀{b:Addr} {o:Obj},s.heap.get? b=some o->g.get? b=some o:=λe=>v _ _ (c _ _ e);exact A8 (A:=A.in1) (N:=h0.objs.size) y rfl h j m prs hn I z xs.size 0 0 _ [] (BL _) ⟨λb o e=>f (B b o e),.inl (f H),f U,⟨_,_,f to⟩,mY i1 λo e=>f e,mY i2 λo e=>f e,J⟩ d (hF _) λh' T C k=>⟨rfl,q h' T C k⟩
end
inductive AS(h:Heap):Tk->Value->Prop
 |s (x:Str) (t:Tok):AS h (.s x) (.str x t)
 |p {a b:Tk} {q:Addr} {o:Obj} {u w:Value} {n:Nat}:h.get? q=some o->o.cls=.type "tuple"->o.data=.seq #[u,w] n->AS h a u->AS h b w->AS h (.p a b) (.ref q)
def AS.inj{h:Heap}{a b:Tk}{v:Value}(x:AS h a v)(y:AS h b v):a=b:=by
 induction x generalizing b with
 |s x t=>cases y;rfl
 | p g _ k c d i j=>
   cases y with
   | p l _ G e f=>
     rw[g]at l;cases l;rw[k]at G;cases G;rw[i e,j f]
theorem AS.keep(H:h.get? d=some o)(c:o.data=.dict E i)(k:∀b u,b≠d->h.get? b=some u->h'.get? b=some u){a:Tk}{v:Value}(x:AS h a v):AS h' a v:=by
 induction x with
 |s x t=>exact .s x t
 |p e f g a b A B=>exact .p (k _ _ (λz=>by lia) e) f g A B
noncomputable def zW:Tk->PyData
 |.s x=>.str x
 |.p a b=>.tuple [zW a,zW b]
def Tk.ok(k:Tk):Bool:=(zW k).canLay0&&decide (k.dep<=8)
theorem nU:∀ {k:Tk} {v:Value},AS h k v->∃ A,Reads h v (zW k) A
 |_,_,.s x t=>⟨_,.str x t⟩
 | _,_,.p c d e a b=>by
   obtain⟨A,r⟩:=nU a;obtain⟨B,q⟩:=nU b;exact⟨_,.tuple c d e (.cons r (.cons q .nil))⟩
theorem nV:∀ k:Tk,(zW k).depth=k.dep
 |.s x=>rfl
 | .p a b=>by
   show max (zW a).depth (max (zW b).depth 0)+1=max a.dep b.dep+1;rw[nV a,nV b];simp
theorem Lo:∀ a b:Tk,PyData.eqv (zW a) (zW b)=decide (a=b)
 | .s x,.s y=>by
   show(x==y)=_
   lia
 |.s x,.p _ _|.p _ _,.s x=>rfl
 | .p a b,.p c d=>by
   show(PyData.eqv (zW a) (zW c)&&(PyData.eqv (zW b) (zW d)&&true))=_;rw[Lo a c,Lo b d,Bool.and_true]
   simp
def PM(e:A.units+8<cLine)(c:a.ok=true)(d:b.ok=true)(H:AS s.heap a u)(hb:AS s.heap b v)(h:Q (decide (a=b)) s):wpAny (model prog w) A (eqBool u v) Q E s:=by
 unfold Tk.ok at c d;rw[BZ,Ep]at c d;obtain⟨f,r⟩:=nU H;obtain⟨B,q⟩:=nU hb;refine SeqAt.eqBoolOverData prog w A E s u v _ _ f B Q r q c.1 d.1 ?_ (by rw[Lo];exact h);rw[nV,nV];lia
theorem tG(k:Tk){v:Value}{A:Around}{s:Shared}{Q:Int->Shared->Prop}(d:A.units+k.dep < cLine)(P:AS s.heap k v)(h:∀ j,Q (gQ w k) {s with toks:=j}):wpAny (model prog w) A (pyHash v) Q E s:=by
 induction k generalizing v A s Q with
 |s x=>cases P with
  |s _ t=>exact wpAny_pyHash_str (h _)
 |p a b x y=>cases P with
  |p c e f l H=>
   have m:A.units+(max a.dep b.dep+1)<cLine:=d;refine W.pyHash_slot (T:="tuple") ⟨_,c,e⟩ F.slot_tuple_hash F.entry_tuple_hash (F.args_tuple_hash_1 _) (beq_builtin_none _) (.inr (by lia)) ?_;show wpAny _ _ (tupleItemsOf (.ref _) >>= _) _ _ s;refine dV (wpAny_tupleItemsOf c f (dV ?_));have z:A.in1.units=A.units+1:=rfl;refine dV (dV (x (s:=s) (by lia) l λg=>dV (eH (eH ?_))));refine dV (dV (y (s:={s with toks:=g}) (by lia) H λi=>dV (eH (eH ?_))));refine eH ?_;exact dV (wpAny_mkInt (eH ⟨_,_,rfl,h _⟩))
theorem nW(n:Nat)(k:Tk){v:Value}{A:Around}{s:Shared}{Q:Bool->Shared->Prop}(H:k.dep<=n)(P:AS s.heap k v)(h:Q true s):wpAny (model prog w) A (eqIsQuiet n v) Q E s:=by
 induction k generalizing n v A s Q with
 |s x=>cases P with
  |s _ t=>rw[eqIsQuiet_byValue n (by rfl)];exact eH h
 |p a b x y=>cases n with
  |zero=>exact absurd H (Nat.not_succ_le_zero _)
  |succ n=>cases P with
   |p c d e i g=>
   have j:max a.dep b.dep+1<=n+1:=H;have f:s.TypeIs (.ref _) "tuple":=⟨_,c,d⟩;unfold eqIsQuiet;refine dV (Er f F.slot_tuple_eq.lookup ?_);refine dV (wpAny_isInstance f isSubtype_tuple_tuple ?_);refine dV (Cj c e (dV ?_));refine dV (dV (x n (s:=s) (by lia) i ?_));refine eH (dV (dV (y n (s:=s) (by lia) g ?_)));exact eH (eH (eH h))
abbrev TkE:=Tk×Value×Value
def vZ(w:World)(x:TkE):DictEntry:=⟨gQ w x.1,x.2.1,x.2.2⟩
noncomputable def El:List TkE->Tk->Option Value
 |[],_=>none
 |x::r,k=>if x.1=k then some x.2.2 else El r k
theorem PN:∀ {xs:List TkE},(∀ (j:Nat) p,xs[j]? ≠ some (k,p))->El xs k=none
 |[],_=>rfl
 | x::r,h=>by
   unfold El;rw[a0m (λz=>h 0 x.2 (by rw[← z];rfl))];exact PN λj p=>h (j+1) p
def PQ{xs:List TkE}{j:Nat}(c:(xs.map (·.1)).Nodup)(h:xs[j]? = some (k,p)):El xs k=some p.2:=by
 induction xs generalizing j with
 |nil=>cases h
 | cons x r b=>
   unfold El;cases j with
   |zero=>cases h;rw[gV rfl]
   | succ j=>
     have a:=Dq.mp (show(x.1::r.map (·.1)).Nodup from c);have H:r[j]?=some (k,p):=by simpa using h
     rw[a0m (λz=>a.1 (by rw[z];exact sY.mpr ⟨_,An H,rfl⟩))];exact b a.2 H
def A9{xs:List TkE}{i j:Nat}(h:(xs.map (·.1)).Nodup)(H:xs[i]?=some (k,p))(c:xs[j]?=some (k,q)):i=j:=by
 have a:(xs.map (·.1))[i]?=some k:=by simp_all
 have b:(xs.map (·.1))[j]?=some k:=by simp_all
 exact(List.getElem?_inj (sL.mp a).1 h).mp (a.trans b.symm)
def JL{e:Array DictEntry}{xs:List TkE}(a:e.toList=xs.map (vZ w))(i:Nat):e[i]?=xs[i]?.map (vZ w):=by rw[← Bc,a,Ab]
def CO(w:World)(e:Array DictEntry)(k:Tk):List Nat:=placesWithHash e.size (λi=>e[i]?.map (·.hash)) (gQ w k)
def PR{xs:List TkE}(c:E.toList=xs.map (vZ w)):i∈CO w E k↔∃x,xs[i]?=some x/\gQ w x.1=gQ w k:=by
 have d:E.size=xs.length:=by rw[← Bz,c,eI]
 unfold CO placesWithHash;rw[List.mem_filter,Cq];dsimp only;rw[JL c];constructor;rintro⟨a,b⟩;have e:xs[i]?=some (xs[i]'(d▸a)):=oI _;rw[e]at b;exact⟨_,e,by simpa[vZ]using b⟩;rintro⟨x,a,b⟩;rw[a];exact⟨by rw[d];exact(sL.mp a).1,by simp[vZ,b]⟩
def B0:(CO w es k).Nodup:=List.Pairwise.filter _ nodup_range
def B1(b:k.dep<=8)(c:AS s.heap k i)(d:∀v∈l,∃j:Tk,j.dep<=8/\AS s.heap j v)(h:Q false s):wpAny (model prog w) A (tableMayTell i l) Q E s:=by
 unfold tableMayTell;split;exact eH h;refine dV (nW 8 k b c ?_);refine dV (wpAny_forIn_list _ (λm r g=>g=s/\r=(none,())/\∀v∈m,∃j:Tk,j.dep<=8/\AS s.heap j v) _ ?_ ?_ _ _ ⟨rfl,rfl,d⟩);rintro x m r g ⟨rfl,rfl,a⟩;obtain⟨j,H,e⟩:=a x (.head _);refine dV (nW 8 j H e ?_);exact eH ⟨rfl,rfl,λv f=>a v (.tail _ f)⟩;rintro r g ⟨rfl,rfl,_⟩;exact eH h
def PU{xs:List TkE}(Y:A.units+8 < cLine)(π:k.ok=true)(P:AS s.heap k O)(L:s.heap.get? d=some o)(hd:o.data=.dict es ep)(D1:es.toList=xs.map (vZ w))(G:∀ x∈xs,AS s.heap x.1 x.2.1/\x.1.ok=true)(hn:(xs.map (·.1)).Nodup)
  (h0:(∀(j:Nat) p,xs[j]? ≠ some (k,p))->Q none s) (h1:∀(j:Nat) p,xs[j]?=some (k,p)->Q (some j) s):wpAny (model prog w) A (dictFind d O (gQ w k)) Q E s:=by
 have dk:k.dep<=8:=by unfold Tk.ok at π;rw[BZ,Ep]at π;exact π.2
 have there:∀(j:Nat) p,xs[j]?=some (k,p)->j∈CO w es k:=λj p e=>(PR D1).mpr ⟨_,e,rfl⟩;have turn:∀(i:Nat),i∈CO w es k->∃x:TkE,xs[i]?=some x/\es[i]?=some ⟨gQ w k,x.2.1,x.2.2⟩/\AS s.heap x.1 x.2.1/\x.1.ok=true:=λi hi=>by
  obtain⟨x,e,eh⟩:=(PR D1).mp hi;obtain⟨a,b⟩:=G x (An e);exact⟨x,e,by rw[JL D1,e];show some (vZ w x)=_;unfold vZ;rw[eh],a,b⟩
 have plain:wpAny (model prog w) A (dictWalkPlain d O (gQ w k) es (CO w es k)) Q E s:=by
  unfold dictWalkPlain;refine dV (wpAny_forIn_list _ (λdW r s'=>s'=s/\r=(none,())/\∃pre,CO w es k=pre++dW/\∀i∈pre,∀p,xs[i]? ≠ some (k,p)) _ ?_ ?_ _ _ ⟨rfl,rfl,[],rfl,λ_ h=>nomatch h⟩)
  ·rintro i dW r s' ⟨rfl,rfl,pre,g,c⟩;obtain⟨x,B,C,H,I⟩:=turn i (by rw[g];simp);rw[C];dsimp only;rw[gV (by simp)];refine dV (wpAny_dictEpoch L hd (dV (PM Y I π H P (dV (wpAny_dictEpoch L hd ?_)))));rw[a0m (by simp)];by_cases f:x.1=k
   ·rw[HQ f]
    first|rw[gV rfl]|skip
    refine dV (Bx (eH (eH (h1 i x.2 (by rw[B,← f])))))
   ·rw[FX f];simp only[false_eq_true,if_false];have nx:∀ j∈pre++[i],∀ p,xs[j]? ≠ some (k,p):=λj hj p e=>by
     rcases Ac.mp hj with z|z;exact c j z p e;cases Ah.mp z;rw[B]at e;cases e;exact f rfl
    refine dV (Bx ?_)
    first
     |exact eH ⟨rfl,rfl,pre++[i],by rw[g];simp,nx⟩
     |exact dV (eH (eH ⟨rfl,rfl,pre++[i],by rw[g];simp,nx⟩))
  ·rintro r s' ⟨rfl,rfl,pre,g,c⟩;exact eH (h0 λj p e=>c j (by have:=there j p e;rw[g]at this;simpa using this) p e)
 have V:∀v∈(CO w es k).filterMap (λi=>es[i]?.map (·.key)),∃j:Tk,j.dep<=8/\AS s.heap j v:=λv T=>by
  obtain⟨i,hi,e⟩:=Ja.mp T;obtain⟨x,B,C,H,I⟩:=turn i hi;rw[C]at e;cases e;unfold Tk.ok at I;rw[BZ,Ep]at I;exact⟨_,I.2,H⟩
 have J:(∃x t,O=.str x t/\k=.s x)\/∃q,O=.ref q:=by
  cases P with
  |s x t=>exact .inl ⟨x,t,rfl,rfl⟩
  |p=>exact .inr ⟨_,rfl⟩
 have W:placesWithHash es.size (λi=>es[i]?.map (·.hash)) (gQ w k)=CO w es k:=rfl;rcases J with⟨x,t,rfl,ek⟩|⟨q,rfl⟩
 case' inl=>by_cases F:(es.all λe=>isExactStrKey e.key)=true
 case pos=>
  subst ek;have f:∀y∈xs,∃z u,y.1=.s z/\y.2.1=.str z u:=λy M=>by
   have m:vZ w y∈es:=Array.mem_toList_iff.mp (by rw[D1];exact sY.mpr ⟨y,M,rfl⟩);have:=Array.all_eq_true'.mp F _ m;obtain⟨a,_⟩:=G y M;obtain⟨y1,σ,y3⟩:=y;cases a with
   |s z u=>exact⟨z,u,rfl,rfl⟩
   |p=>cases this
  have X:KeysOf (strKind prog w) es:=λe hm=>by
   obtain⟨y,M,rfl⟩:=sY.mp (by rw[← D1];exact Array.mem_toList_iff.mpr hm);obtain⟨z,u,B,C⟩:=f y M;exact⟨z,by show Value.isStrOf z (vZ w y).key=true;unfold vZ;rw[C];simp[Value.isStrOf],by unfold vZ;rw[B];rfl⟩
  refine wpAny_dictFind_of (knd:=strKind prog w) (k:=x) (by show Value.isStrOf x (.str x t)=true;simp[Value.isStrOf]) L hd X ?_;have O:∀(j:Nat) y,xs[j]?=some y->(Value.isStrOf x y.2.1=true↔y.1=.s x):=λj y e=>by
   obtain⟨z,u,B,C⟩:=f y (An e);rw[B,C];show(z==x)=true↔_;rw[DL];exact⟨λh=>by rw[h],λh=>by cases h;rfl⟩
  cases hf:es.findIdx? λe=>Value.isStrOf x e.key with
  | none=>
    refine(show Q (es.findIdx? λe=>Value.isStrOf x e.key) s from ?_);rw[hf];refine h0 λj p e=>?_;have m:vZ w (.s x,p)∈es:=Array.mem_toList_iff.mp (by rw[D1];exact sY.mpr ⟨_,An e,rfl⟩);have:=Array.findIdx?_eq_none_iff.mp hf _ m;rw[show Value.isStrOf x (vZ w (.s x,p)).key=true from(O j _ e).mpr rfl]at this;cases this
  | some i=>
    refine(show Q (es.findIdx? λe=>Value.isStrOf x e.key) s from ?_);rw[hf];obtain⟨hl,N,_⟩:=Array.findIdx?_eq_some_iff_getElem.mp hf;have e:=JL D1 i;rw[By hl]at e;obtain⟨y,ey,H⟩:=Bg.mp e.symm;rw[← H]at N;obtain⟨y1,σ⟩:=y;have:=(O i _ ey).mp N;dsimp only at this;subst this;exact h1 i σ ey
 all_goals
  unfold dictFind;refine Ax (dV (wpAny_dictEntries L hd ?_));dsimp only;rw[W]
 case' neg=>
  rw[a0m F];by_cases T:(((Value.str x t)::(CO w es k).filterMap λi=>es[i]?.map (·.key)).all carriedByValue)=true
 case pos=>rw[gV T];exact plain
 case' neg=>rw[a0m T]
 case' inr=>
  have R:¬(es.any λe=>e.key==Value.ref q&&e.hash != gQ w k)=true:=λh=>by
   obtain⟨e,hm,N⟩:=Array.any_eq_true'.mp h;obtain⟨y,M,rfl⟩:=sY.mp (by rw[← D1];exact Array.mem_toList_iff.mpr hm);rw[BZ,DL,bne_iff_ne]at N;have:=(G y M).1;rw[show y.2.1=Value.ref q from N.1]at this;exact N.2 (by rw[← this.inj P];rfl)
  rw[a0m (by simp[carriedByValue]),a0m R]
 all_goals
  first
  |by_cases l:(((CO w es k).filterMap λi=>es[i]?.map (·.key))==[Value.ref q])=true
  |by_cases l:(((CO w es k).filterMap λi=>es[i]?.map (·.key))==[Value.str x t])=true
 all_goals first|rw[gV l]|rw[a0m l]
 all_goals first|refine dV (eH ?_)|refine dV (B1 dk P V ?_)
 all_goals
  rw[a0m (by simp)];refine dV (wpAny_forIn_list _ (λdW r s'=>s'=s/\∃pre n,r=(none,n)/\CO w es k=pre++dW/\((n=none/\∀i∈pre,∀p,xs[i]? ≠ some (k,p))\/∃j p,n=some j/\j∈pre/\xs[j]?=some (k,p))) _ ?_ ?_ _ _ ⟨rfl,[],none,rfl,rfl,.inl ⟨rfl,λ_ h=>nomatch h⟩⟩)
  ·rintro i dW r s' ⟨rfl,pre,n,rfl,g,U⟩;obtain⟨y,B,C,H,I⟩:=turn i (by rw[g];simp);have S:CO w es k=(pre++[i])++dW:=by rw[g];simp
   rw[C];dsimp only;rw[gV (by simp)];refine dV (wpAny_dictEpoch L hd (dV (PM Y I π H P (dV (wpAny_dictEpoch L hd ?_)))));rw[a0m (by simp)];by_cases f:y.1=k
   ·have K:xs[i]? = some (k,y.2):=by rw[B,← f]
    rw[HQ f];rcases U with⟨rfl,c⟩|⟨j,p,rfl,hj,e⟩
    ·first|rw[gV rfl]|skip
     simp only[Option.isSome_none,false_eq_true,if_false,if_true];refine dV (Bx ?_);split;exact eH (eH (h1 i _ K));exact eH ⟨rfl,_,_,rfl,S,.inr ⟨i,_,rfl,by simp,K⟩⟩
    ·have:=A9 hn e K;subst this;have nd:=B0 (w:=w) (es:=es) (k:=k);rw[g]at nd;exact absurd rfl ((List.nodup_append.mp nd).2.2 j hj j (.head _))
   ·rw[FX f];simp only[false_eq_true,if_false];refine dV (Bx ?_);rw[a0m (by simp)];refine eH ⟨rfl,_,_,rfl,S,?_⟩;rcases U with⟨rfl,c⟩|⟨j,p,rfl,hj,e⟩;refine .inl ⟨rfl,λj hj p e=>?_⟩;rcases Ac.mp hj with z|z;exact c j z p e;cases Ah.mp z;rw[B]at e;cases e;exact f rfl;exact .inr ⟨j,p,rfl,BY _ hj,e⟩
  ·rintro r s' ⟨rfl,pre,n,rfl,g,U⟩;rcases U with⟨rfl,c⟩|⟨j,p,rfl,hj,e⟩;exact eH (h0 λj p e=>c j (by have:=there j p e;rw[g]at this;simpa using this) p e);exact eH (h1 j p e)
def ID(w:World)(h:Heap)(d:Addr)(xs:List TkE):Prop:=∃o e E,h.get? d=some o/\o.ExactDict/\o.data=.dict e E/\e.toList=xs.map (vZ w)/\(∀x∈xs,AS h x.1 x.2.1/\x.1.ok=true)/\(xs.map (·.1)).Nodup
def PV{k:Tk}(h:k.ok=true):k.dep<=8:=by unfold Tk.ok at h;simp_all
def zX{s:Shared}(m:ID w s.heap d xs):s.TypeIs (.ref d) "dict":=let ⟨o,_,_,h,c,_⟩:=m;⟨o,h,c.1⟩
def B2(n:A.units+9<cLine)(a:k.ok=true)(b:AS s.heap k r)(m:ID w s.heap d xs)(e:El xs k=some v)(h:∀t,Q v {s with toks:=t}):wpAny (model prog w) A (getItem (.ref d) r) Q E s:=by
 have H:=zX m;obtain⟨o,x,y,c,q,f,g,l,i⟩:=m;have z:A.in1.units=A.units+1:=rfl;refine Ax (dV (wpAny_sequenceKey H (rfl) (dV (wpAny_callSpecial?_slot H slot_dict_getitem (BX slot_dict_getitem H entry_dict_getitem ?_ (args_dict_getitem _ _))))));show wpAny _ _ (dictGet d r >>= _) _ _ s;have O:=PV a;refine dV (Ax (dV (tG k (by lia) b λt=>dV (PU (s:={s with toks:=t}) (by omega) a b c f g l i (λN=>?_) λj p u=>?_))));rw[PN N]at e;cases e;rw[PQ i u]at e;cases e;refine dV (wpAny_dictEntries (s:={s with toks:=t}) c f ?_);rw[JL g,u];exact eH (eH ⟨p.2,rfl,eH (h t)⟩)
def B3(G:A.units+9 < cLine)(B:k.ok=true)(C:AS s.heap k I)(m:ID w s.heap d xs)(e:El xs k=none)(H:xs.length < 4000)
  (h:∀h' T,ID w h' d (xs++[(k,I,v)])->SameBut d s.heap h'->Q () {s with heap:=h',toks:=T}):wpAny (model prog w) A (setItem (.ref d) I v) Q E s:=by
 have J:=zX m;obtain⟨o,M,Y,f,D1,c,g,i,l⟩:=m;have z:A.in1.units=A.units+1:=rfl;have F:M.size=xs.length:=by rw[← Bz,g,eI]
 refine Ax (dV (wpAny_sequenceKey J (by decide) (dV (wpAny_callSpecial?_slot J slot_dict_setitem (BX slot_dict_setitem J entry_dict_setitem ?_ (args_dict_setitem _ _ _))))));refine dV (wpAny_notOrdered_dict J ?_);show wpAny _ _ (dictSet d I v >>= _) _ _ s;have od:=PV B;refine dV (Ax (dV (tG k (by rw[z];lia) C λT=>?_)));refine Ax (dV (PU (s:={s with toks:=T}) (by rw[z];omega) B C f c g i l (λN=>?_) λj p L=>?_))
 ·refine dV (Bx (wpAny_updateDictKeys (s:={s with toks:=T}) f c ?_ (by rw[F,DK];lia)));refine eH ⟨.none,rfl,eH (h _ T ?_ (Eu ..))⟩;have O:∀ {a:Tk} {u:Value},AS s.heap a u->AS (s.heap.update d (Obj.mapDictKeys λM=>M.push ⟨gQ w k,I,v⟩)) a u:=λt=>t.keep f c λb u U q=>(Dk _ _ (hR U)).trans q;refine⟨_,_,Y+1,Dl _ f (Obj.isFreed_of_dict (Obj.data_mapDictKeys c _)),D1.mapDictKeys _,Obj.data_mapDictKeys c _,by simp[g,vZ],λx n=>?_,?_⟩
  ·rcases Ac.mp n with q|q;exact⟨O (i x q).1,(i x q).2⟩
   simp_all
  ·rw[AH];refine List.nodup_append.mpr ⟨l,by simp,λx n y r q=>?_⟩;cases Ah.mp r;obtain⟨y,r,rfl⟩:=sY.mp n;obtain⟨j,L⟩:=List.mem_iff_getElem?.mp r;exact N j y.2 (by rw[L,← show y.1=k from q])
 ·rw[PQ l L]at e;cases e
def MP(H:Hp):List (Tk×V)->List TkE->Prop:=Paired λ(p:Tk×V) (q:TkE)=>p.1=q.1/\(∃y,xD H p.1 y/\cJ y q.2.1)/\cJ p.2 q.2.2
noncomputable def rE(l:List (Str×V)):List (Key×V):=l.map λp=>(.inr p.1,p.2)
noncomputable def FH(l:List (Str×V)):List (Tk×V):=l.map λp=>(.s p.1,p.2)
def Lp(H:Hp)(a:Addr)(k:List (Tk×V)):Prop:=Rd H a (.dM k)\/∃l,Rd H a (.dK (rE l))/\k=FH l
def Lq(H:Hp)(a:Addr)(k:List (Tk×V)):Prop:=H a=some (.dM k)\/∃l,H a=some (.dK (rE l))/\k=FH l
def Lq.rd(h:Lq H a k):Lp H a k:=h.elim (λh=>.inl (.inl h)) λ⟨l,h,e⟩=>.inr ⟨l,.inl h,e⟩
noncomputable def FI:List (Tk×V)->Tk->Option V
 |[],_=>none
 |x::r,k=>if x.1=k then some x.2 else FI r k
def MP.val(h:MP H b xs):(FI b k=none/\El xs k=none)\/∃v u,FI b k=some v/\El xs k=some u/\cJ v u:=by
 induction h with
 |nil=>exact .inl ⟨rfl,rfl⟩
 | cons r t a=>
   unfold FI El;rw[← r.1];split;exact .inr ⟨_,_,rfl,rfl,r.2.2⟩;exact a
theorem IE(ok:AA P w H h){k:Tk}{y:V}{u:Value}(z:xD H k y)(r:cJ y u):AS h k u:=by
 induction k generalizing y u with
 |s x=>obtain rfl:=z;obtain⟨t,rfl⟩:=r;exact .s x t
 |p a b A B=>
   obtain⟨q,x,y,rfl,e,c,d⟩:=z;cases r;obtain⟨_,I,f,⟨o,g,i,n,j⟩,_⟩:=ok q _ e;cases f with
   | cons l t=>cases t with
     |cons m t=>cases t;exact .p g i j (A c l) (B d m)
def PX(ok:AA P w H h)(e:Lp H a O)(I:∀ p∈O,p.1.ok=true):(a==sysModules)=false/\∃ xs,MP H O xs/\ID w h a xs:=by
 have all:∀ {l:List (Tk×V)} {m:List TkE},MP H l m->(∀ p∈l,p.1.ok=true)->∀ x∈m,AS h x.1 x.2.1/\x.1.ok=true:=by
  intro l m q
  induction q with
  |nil=>exact λ_ x c=>nomatch c
  | @cons p q ps qs S t f=>
    intro J x c;rcases Az.mp c with rfl|c;obtain⟨T,⟨y,b,d⟩,_⟩:=S;rw[← T];exact⟨IE ok b d,J p (.head _)⟩;exact f (λp U=>J p (.tail _ U)) x c
 rcases e with e | ⟨l,e,rfl⟩;obtain⟨_,hd,xs,r,o,es,ep,g,j,n,u,A⟩:=(show cC P w H h a (.dM O)from Im ok e);exact⟨hd,xs,r,o,es,ep,g,j,n,u,all r I,A⟩;obtain⟨_,hd,s,r,o,es,ep,g,j,n,u,A,K⟩:=(show cC P w H h a (.dK (rE l))from Im ok e);have B:∀ (l:List (Str×V)) (s:List (Key×Value)) (el:List DictEntry),KV (rE l) s->Pairs (bH P w) el s->(∀ e∈el,∃ k,(bH P w).is k e.key=true/\e.hash=(bH P w).hash k) ->
   ∃xs:List TkE,MP H (FH l) xs/\el=xs.map (vZ w)/\s.map (·.1)=l.map (λp=>.inr p.1)/\xs.map (·.1)=l.map λp=>Tk.s p.1:=by
  intro l
  induction l with
  |nil=>intro s el r q _;cases r;cases q;exact⟨[],.nil,rfl,rfl,rfl⟩
  | cons p l f=>
    intro s el r q L;cases r with
    | @cons _ v _ s W t=>
      cases q with
      | @cons e _ el _ M N q=>
        obtain⟨xs,b,d,C,D1⟩:=f s el t q λe E=>L e (.tail _ E);obtain⟨k,X,π⟩:=L e (.head _);obtain⟨σ,Y⟩:=v;obtain⟨F,G⟩:=W;subst F;have:=(bH P w).inj _ _ _ M X;subst this;rcases bU (show xA (.inr p.1) e.key=true from M)with⟨i,t,z,_⟩|⟨x,t,z,Q⟩;cases z;cases z;obtain⟨eh,R,ev⟩:=e;dsimp only at N π Q;subst π Q;exact⟨(.s p.1,.str p.1 t,Y)::xs,.cons ⟨rfl,⟨.str p.1,rfl,⟨t,rfl⟩⟩,G⟩ b,by rw[d,N];rfl,by rw[BJ,C];rfl,by rw[BJ,D1];rfl⟩
 obtain⟨xs,b,d,C,D1⟩:=B l s es.toList r A λe E=>u e (Array.mem_toList_iff.mp E);refine⟨hd,xs,b,o,es,ep,g,j,n,d,all b I,?_⟩;rw[D1];rw[C]at K;rw[List.Nodup,List.pairwise_map]at K ⊢
 simp_all
def PY:R2:=λx y H Q=>∃a b k v,x=.ref a/\Lp H a b/\xD H k y/\k.ok=true/\(∀p∈b,p.1.ok=true)/\FI b k=some v/\Q v H
def B4(E:X.A.units+64<cLine)(d:PE X o T)(hi:PE X i ty)(N:KI i):PE X (.Subscript o i pos) (EC PY T ty):=by
 intro A s Z H Q I h;refine VO F.slot_dict_getitem.lookup N (thn (d A s Z H _ I h) λu L ⟨x,e,f,g,j⟩=>thn (hi A L Z e _ f j) λG s2 U=>?_);obtain⟨y,l,b,m,a,M,k,v,O,n,p,q,r,t,w⟩:=U;subst O;obtain rfl:u=Value.ref a:=g;obtain⟨hd,xs,B,c⟩:=PX b.hok n r;rcases B.val (k:=k)with⟨z,_⟩|⟨J,K,z,C,Y⟩
 ·simp_all
 ·rw[t]at z;cases z;exact⟨zX c,B2 (by lia) q (IE b.hok p m) c C λtk=>⟨v,l,b.tok _,Y,w⟩⟩
def PZ:rL:=λo i v H Q=>∃p a k,o=.ref p/\Lq H p a/\xD H k i/\k.ok=true/\(∀p∈a,p.1.ok=true)/\FI a k=none/\a.length<4000/\Q (fI H p (.dM (a++[(k,v)])))
theorem MP.mono(c:∀b xs,H b=some (.tup xs)->d b=some (.tup xs))(h:MP H k xs):MP d k xs:=Paired.mapP h λp q z=>⟨z.1,let ⟨y,a,b⟩:=z.2.1;⟨y,a.mono c,b⟩,z.2.2⟩
def B5(L:X.A.units+64 < cLine):Kk X PZ:=by
 intro pins s Z H o i v ov M u Q I t U w h;obtain⟨p,A,k,rfl,j,n,B,C,N,π,q⟩:=h;cases t;obtain⟨hd,xs,d,D1⟩:=PX I.hok j.rd C;rcases d.val (k:=k)with⟨_,z⟩|⟨P,R,z,_⟩
 ·have S:xs.length=A.length:=(Paired.length d).symm;have O:GR (H p):=by rcases j with e | ⟨l,e,_⟩<;>(rw[e];exact True.intro)
  have nt:∀b Y,H b=some (.tup Y)->b≠p:=λb Y e z=>by subst z;rw[e]at O;exact O
  refine B3 (by lia) B (IE I.hok n U) D1 z (by simp_all) λh' tk f hs=>⟨_,?_,q⟩;obtain⟨o,es,ep,c,g,E,F,T,G⟩:=f;have r:∀b Y,H b=some (.tup Y)->fI H p (.dM (A++[(k,v)])) b=some (.tup Y):=λb Y e=>by rw[aG (nt b Y e)];exact e
  refine NG I O hs ⟨o,c⟩ ⟨by rw[AL,DK];grind,hd,_,?_,o,es,ep,c,g,E,F,G⟩;have J:∀{l:List (Tk×V)} {m:List TkE} {x:Tk×V} {y:TkE},MP (fI H p (.dM (A++[(k,v)]))) l m->(x.1=y.1/\(∃z,xD (fI H p (.dM (A++[(k,v)]))) x.1 z/\cJ z y.2.1)/\cJ x.2 y.2.2)->MP (fI H p (.dM (A++[(k,v)]))) (l++[x]) (m++[y]):=by
   intro l m x y c g
   induction c with
   |nil=>exact .cons g .nil
   |cons a _ K=>exact .cons a K
  exact J (d.mono r) ⟨rfl,⟨i,n.mono r,U⟩,w⟩
 simp_all
def Lr:List V->Hp->VK->Prop:=λv H Q=>∃(p q:Addr) (z:List Str) (y:List V),v=[.ref p,.ref q]/\(∃a c,cY H p=some (a,z.map V.str)/\cY H q=some (c,y))/\z.length=y.length/\z.length<4000/\z.Nodup/\∀d,H d=none->Q (.ref d) (fI H d (.dK (rE (z.zip y))))
theorem Qa{j:List Str}{Y:List V}{U l:List Value}(a:bF (j.map V.str) U)(b:bF Y l)(h:j.length=Y.length):∃ r:List (Key×Value),KV (rE (j.zip Y)) r/\r.length=U.length/\∀ (i:Nat) p,r[i]? = some p->∃ u,U[i]? = some u/\l[i]? = some p.2/\(bH prog w).is p.1 u=true:=by
 induction j generalizing Y U l with
 |nil=>cases Y with
  |nil=>cases a;cases b;exact⟨[],.nil,rfl,λi p h=>by simp at h⟩
  |cons=>cases h
 |cons z j ih=>cases Y with
  |nil=>cases h
  |cons y Y=>cases a with
   |cons a t=>cases b with
    |cons b d=>
     obtain⟨r,e,f,g⟩:=ih t d (by simpa using h);refine⟨(.inr z,_)::r,.cons ⟨rfl,b⟩ e,by simp[f],λi p c=>?_⟩;cases i with
     |zero=>simp at c;subst c;exact⟨_,rfl,rfl,NF (k:=.inr z) a⟩
     |succ i=>exact g i p (by simpa using c)
def B6(hc:X.calm=true):∀ A s Z H T U Q,eD X A Z H s->bF T U->Lr T H Q ->
  wpAny (model X.prog X.w) X.A (call (.type "zip") U) (λu s1=>wpAny (model X.prog X.w) X.A (call (.type "dict") [u]) (EP X A Z Q) X.xe s1) X.xe s:=by
 intro A s Z H T U Q I D1 h;obtain⟨p,q,O,Y,rfl,⟨a0,c0,g,E⟩,hl,R,j,k⟩:=h;obtain⟨u,v,rfl,F,l⟩:=D1.two;cases F;cases l;obtain⟨c,B,d⟩:=FG I g;obtain⟨e,C,f⟩:=FG I E;have l1:c.length=O.length:=by rw[← B.length,eI]
 have l2:e.length=Y.length:=C.length.symm;obtain⟨rs,G,J,K⟩:=Qa (prog:=X.prog) (w:=X.w) B C hl;refine PB d f λL m o r t x M y=>?_;refine vY (h0:=s.heap) (s:={s with heap:=L}) (knd:=bH X.prog X.w) (prs:=rs) (I.ok.hd hc) d f (by simp only[size_toArray];lia) (by rw[CC];exact J) (by rw[CC];simp_all) (λi p g=>by simpa using K i p g) m o r t x y M λh' tk N π=>?_;have P:((rE (O.zip Y)).map Prod.fst).Nodup:=by
  have:(rE (O.zip Y)).map Prod.fst=O.map Sum.inr:=by
   unfold rE;rw[map_map,show((Prod.fst:Key×V->Key) ∘ λ(p:Str×V)=>((Sum.inr p.1:Key),p.2))=Sum.inr ∘ Prod.fst from rfl,← map_map,map_fst_zip (by simp[*])]
  rw[this];exact List.Pairwise.map _ (λa b n z=>n (by injection z)) j
 have em:=rD (rE (O.zip Y)) [] (by simpa using P);rw[nil_append]at em;have hm:(qR [] (rE (O.zip Y))).length<=sizeLine:=by
  rw[em,DK];unfold rE;rw[eI,length_zip];lia
 refine⟨.ref (s.heap.objs.size+5),fI H (s.heap.objs.size+5) (.dK (qR [] (rE (O.zip Y)))),I.laid (t':=tk) π (le_add_right _ _) (VN hm ?_ (G.merge .nil) N),rfl,?_⟩;have:=I.big;exact beq_eq_false_iff_ne.mpr (DN (Ao this (le_add_right _ _)));rw[em];exact k _ (I.hok.fresh (le_add_right _ _))
end
def dz(l m:List D):Option hJ:=(iD l).bind λz=>if z.length=m.length/\z.length<4000/\z.Nodup then some (.own (.dic l m))else none
def wA:FN:=λd=>match d with
 |[.lst l,.lst m]=>dz l m
 |_=>none
def B7:Dx Lr wA:=by
 intro H B A Q u v e k;have h:∀ {l m:List D} {p q:Addr} {a c:Bool} {t Y:List V},dz l m=some u->cY H p=some (a,t)->Rps H l t->cY H q=some (c,Y)->Rps H m Y->Lr [.ref p,.ref q] H Q:=λ{l m p q a c t Y} e b f i g=>by
  obtain⟨z,r,e⟩:=aA e;split at e
  ·rename_i hc;cases e;rw[jR r]at f;rw[f.strs_inv]at b;have s:z.length=Y.length:=by rw[← g.length];exact hc.1
   refine⟨p,q,z,Y,rfl,⟨_,_,b,i⟩,s,hc.2.1,hc.2.2,λd w=>k _ _ (aP w) ⟨d,rfl,w,_,(rE (z.zip Y)).map (·.2),aJ,⟨?_,rfl⟩,?_⟩⟩;rw[jR r];unfold rE;rw[map_map,show((λo:Key×V=>oN o.1) ∘ λ(p:Str×V)=>((Sum.inr p.1:Key),p.2))=D.str ∘ Prod.fst from rfl,← map_map,map_fst_zip (by simp_all)];unfold rE;rw[map_map,show((λo:Key×V=>o.2) ∘ λ(p:Str×V)=>((Sum.inr p.1:Key),p.2))=Prod.snd from rfl,map_snd_zip (by simp_all)];exact g.mono (.same (aP w))
  ·cases e
 unfold wA at e;split at e;obtain⟨x,y,rfl,j,n⟩:=Hs v;obtain⟨p,t,rfl,b,f⟩:=fB j;obtain⟨q,Y,rfl,i,g⟩:=fB n;exact h e b f i g;cases e
section
open PyProof.Rows Spec
def Qb:List V->Hp->VK->Prop:=λv H Q=>∃p q a Y,v=[.ref p,.ref q]/\cY H p=some (true,a)/\cY H q=some (true,Y) /\
 ∀r (T:List Addr) h,lX H h->H r=none->h r=some (.tup (T.map V.ref))->T.length=min a.length Y.length->(∀(j:Nat) t,T[j]?=some t->∃x y,a[j]?=some x/\Y[j]?=some y/\h t=some (.tup [x,y]))->Q (.ref r) h
def B8(hc:X.calm=true):∀ pins s Z H vs us Q,eD X pins Z H s->bF vs us->Qb vs H Q ->
  wpAny (model X.prog X.w) X.A (call (.type "zip") us) (λu s1=>wpAny (model X.prog X.w) X.A (call (.type "tuple") [u]) (EP X pins Z Q) X.xe s1) X.xe s:=by
 intro pins s Z H vs us Q I rv h;obtain⟨p,q,xs,ys,rfl,hp,hq,q⟩:=h;obtain⟨u,v,rfl,D1,P⟩:=rv.two;cases D1;cases P;obtain⟨O,r1,R,z1⟩:=I.list (gU hp);obtain⟨w,r2,S,z2⟩:=I.list (gU hq);have cO8:=r1.length;have eD4:=r2.length;have E:s.heap.IsList p O.toArray:=R.isList;have F:s.heap.IsList _ w.toArray:=S.isList;refine call_zip_2 E F λU hz W Y σ hi2 hsz hk=>?_;have hn:min O.toArray.size w.toArray.size<=sizeLine:=by simp only[size_toArray];grind
 refine xR (h0:=s.heap) (s:={s with heap:=U}) (I.ok.hd hc) E F hn hz W Y σ hi2 hsz hk λh' tk A hK G=>?_;have hacc':A.size=min O.length w.length:=by simpa using G
 let ts:List Addr:=(range A.size).map λj=>match (A[j]?:Option Value)with|some (Value.ref T)=>T|_=>(0:Nat)
 have J:ts.length=min xs.length ys.length:=by simp only[ts,length_map,length_range];lia
 have f:∀j,j<A.size->∃T x y,ts[j]?=some T/\A[j]?=some (.ref T)/\O[j]?=some x/\w[j]?=some y/\IsPair h' T x y/\s.heap.objs.size+6<=T:=λj hj=>by
  obtain⟨T,x,y,k,N,π,g4,g5⟩:=hK.got j (by simp only[size_toArray];simp_all);refine⟨T,x,y,?_,k,by simpa using N,by simpa using π,g4,g5⟩;simp only[ts];rw[Ab,List.getElem?_range hj,map_some,k]
 let ps:List (Addr×List V):=(range A.size).map λj=>(ts[j]?.getD 0,[xs[j]?.getD .non,ys[j]?.getD .non])
 have I1:eD X pins Z H {s with heap:=h',toks:=tk}:=I.kept hK.keep;have K:∀pr∈ps,∃j T x y u v,j<A.size/\pr=(T,[x,y])/\ts[j]?=some T/\xs[j]?=some x/\ys[j]?=some y/\O[j]?=some u/\w[j]?=some v/\cJ x u/\cJ y v/\IsPair h' T u v/\s.heap.objs.size+6<=T:=λpr c=>by
  obtain⟨j,hj,rfl⟩:=sY.mp c;have a:=Cq.mp hj;obtain⟨T,u,v,z,k,N,π,g4,g5⟩:=f j a;have B:xs[j]?=some xs[j]:=oI (by grind);have C:ys[j]?=some ys[j]:=oI (by grind);obtain⟨u',gu,D1⟩:=r1.get B;obtain⟨v',gv,m⟩:=r2.get C;rw[N]at gu;cases gu;rw[π]at gv;cases gv;exact⟨j,T,xs[j],ys[j],_,_,a,by rw[z,B,C];rfl,z,B,C,N,π,D1,m,g4,g5⟩
 have hnd:(ps.map (·.1)).Nodup:=by
  have:ps.map (·.1)=(range A.size).map λj=>ts[j]?.getD 0:=by simp only[ps,map_map];rfl
  rw[this];refine List.pairwise_map.mpr ?_;refine imp_of_mem ?_ nodup_range;intro i j hi hj hne e;have L:=Cq.mp hi;have a:=Cq.mp hj;obtain⟨T,_,_,z,k,_⟩:=f i L;obtain⟨T',_,_,g0',g1',_⟩:=f j a;rw[z,g0']at e;have e':T=T':=e;subst e';have U:A.toList[i]?=A.toList[j]?:=by rw[Bc,Bc,k,g1']
  exact hne ((List.getElem?_inj (by rw[Bz];exact L) hK.nd).mp U)
 obtain⟨H',I2,d,hat,hoth⟩:=eD.adoptAll ps I1 (λpr c=>by
   obtain⟨j,T,x,y,u,v,_,rfl,_,_,_,_,_,_,_,hT,hge⟩:=K pr c;exact I.stray (by unfold Addr at *;lia) (I.hok.fresh (by unfold Addr at *;lia))) hnd (λpr c=>by
   obtain⟨j,T,x,y,u,v,_,rfl,_,_,_,_,_,D1,m,hT,hge⟩:=K pr c;exact⟨by show 2<=sizeLine;decide,[u,v],.cons D1 (.cons m .nil),⟨_,hT,rfl,_,rfl⟩,⟨_,hT,rfl⟩⟩)
 have g:H' h'.objs.size=none:=I2.hok.fresh (hF _);have tv:bF (ts.map V.ref) A.toList:=by
  have ea:A.toList=ts.map Value.ref:=by
   apply Fc;intro j;by_cases hj:j<A.size;obtain⟨T,x,y,z,k,_⟩:=f j hj;rw[Bc,k,Ab,z];rfl;rw[Eb.mpr (by rw[Bz];exact Ed hj),Eb.mpr (by simp only[ts,length_map,length_range];(simp at *;omega))]
  rw[ea];generalize ts=l
  induction l with
  |nil=>exact .nil
  |cons t r ih=>exact .cons rfl ih
 refine⟨.ref h'.objs.size,fI H' h'.objs.size (.tup (ts.map V.ref)),I2.laid (t':=tk) (λb o e=>sT _ e) (hF _) ⟨by rw[eI,J];simp_all,A.toList,tv,⟨_,Ak _ rfl,rfl,0,by show Data.seq A 0=Data.seq A.toList.toArray 0;rw[toArray_toList]⟩,⟨_,Ak _ rfl,rfl⟩⟩,rfl,?_⟩;refine q _ ts _ (d.trans (aP g)) ?_ aJ J λj t hj=>?_
 ·cases e:H h'.objs.size with
  |none=>rfl
  |some o=>rw[d _ _ e]at g;cases g
 ·have a:j < A.size:=by
   have:=(sL.mp hj).1;simp only[ts,length_map,length_range]at this;exact this
  have M:(ts[j]?.getD 0,[xs[j]?.getD .non,ys[j]?.getD .non])∈ps:=sY.mpr ⟨j,Cq.mpr a,rfl⟩;have B:xs[j]?=some xs[j]:=oI (by lia);have C:ys[j]?=some ys[j]:=oI (by grind);have:=hat _ M;rw[hj,B,C]at this;have n:H' t=some (.tup [xs[j],ys[j]]):=this;exact⟨xs[j],ys[j],B,C,aP g _ _ n⟩
end
def B9:Dx Qb HB:=by
 intro H ds vs Q res vw e k;unfold HB at e;split at e;cases e;obtain⟨G,I,rfl,m,n⟩:=Hs vw;obtain⟨J,U,rfl,o,h⟩:=fB m;obtain⟨K,Y,rfl,p,i⟩:=fB n;refine⟨_,_,U,Y,rfl,o,p,λr ts T O L c s t=>k _ T O (.tup c ?_)⟩;have x:Be H T:=.same O;refine Lf ?_ λj d v f l=>?_;unfold HA;rw[eI,length_zip,eI,s,h.length,i.length];rw[Ab]at l;obtain⟨q,y,rfl⟩:=Bg.mp l;obtain⟨u,w,z,A,B⟩:=t j q y;unfold HA at f;rw[Ab]at f;obtain⟨⟨M,N⟩,C,rfl⟩:=Bg.mp f;obtain⟨D,E⟩:=List.getElem?_zip_eq_some.mp C;obtain⟨π,a,F⟩:=h.get D;obtain⟨P,b,g⟩:=i.get E;rw[z]at a;cases a;rw[A]at b;cases b;exact .tup B (.cons (F.mono x) (.cons (g.mono x) .nil));cases e
section
open Sem(wp)
section
variable {K:Type}[DecidableEq K]
def C0{u:HeapKind prog w K}(m:u.room A)(c:u.is s.heap k a)(J:s.heap.DictOfH u d xs)(I:xs.length<=sizeLine)
  (L:∀p,atKey xs k=some p->Q p.2 {s with toks:=s.toks+u.draws k})
  (n:atKey xs k=none->∀h',h'.DictOfH u d (xs++[(k,a,v)])->SameBut d s.heap h'->Q v {s with heap:=h',toks:=s.toks+u.draws k}) :
  wpAny (model prog w) A (dictSetDefault d (.ref a) v) Q E s:=by
 obtain⟨o,T,M,g,hc,H,i,h,B⟩:=J;have C:∀{x:K} {b:Addr} (f:Array DictEntry->Array DictEntry),u.is s.heap x b->u.is (s.heap.update d (Obj.mapDictKeys f)) x b:=λf t=>u.keeps t g H (Eu ..);unfold dictSetDefault
 try with_reducible refine Ax ?_
 refine dV (u.pyHash m c (dV (wpAny_dictFind_heap (s:={s with toks:=s.toks+u.draws k}) m c g H i h B (λN=>?_) λj p G=>?_)))
 ·have O:k∉xs.map (·.1):=not_mem_keys_of_get N;have q:=n (atKey_none_of_get N);refine dV (Bx (dV (wpAny_updateDictKeys (s:={s with toks:=s.toks+u.draws k}) (hz:=by have:=size_of_entries i;simp_all) g H (eH (q _ ?_ (Eu ..))))));refine⟨_,_,M+1,Dl _ g (Obj.isFreed_of_dict (Obj.data_mapDictKeys H _)),hc.mapDictKeys _,Obj.data_mapDictKeys H _,by simp[i,entryOfKey],λx l=>?_,?_⟩;rcases Ac.mp l with z|z;exact C _ (h x z);cases Ah.mp z;exact C _ c;simp only[map_append,map_cons,map_nil];exact List.nodup_append.mpr ⟨B,by simp,λx l y r e=>O (by cases Ah.mp r;exact e▸l)⟩
 ·refine dV (wpAny_dictEntries (s:={s with toks:=s.toks+u.draws k}) g H ?_);rw[entry_at i j,G];exact dV (Bx (eH (L p (atKey_of_get B G))))
def C1(o:HeapKind prog w K)(d a:Addr)(q:(d==sysModules)=false)(n:Value) :
  MeetsIn prog w (Builtin.«dict.setdefault» ⟨[.ref d,.ref a,n],[]⟩) (λA R s=>o.room A.in1/\∃k xs,o.is s.heap k a/\s.heap.DictOfH o d xs/\xs.length<=sizeLine /\
   (∀p,atKey xs k=some p->R (.ok (.ret p.2)) {s with toks:=s.toks+o.draws k}) /\
   (atKey xs k=none->∀h',h'.DictOfH o d (xs++[(k,a,n)])->SameBut d s.heap h'->R (.ok (.ret n)) {s with heap:=h',toks:=s.toks+o.draws k})):=
 .of_wp λA R s h=>by
  obtain⟨c,k,xs,b,H,f,g,i⟩:=h;have j:s.TypeIs (.ref d) "dict":=H.typeIs;unfold Builtin.«dict.setdefault» Builtin.Dict.keyAndDefault;refine dV (dV (wpAny_notOrdered_dict j (eH ?_)));show wpAny _ _ (if(d==sysModules)=true then _ else dictSetDefault d (.ref a) n >>= _) _ _ s;rw[q,a0m Ga];exact dV (C0 c b H f (λp e=>eH ⟨_,rfl,g p e⟩) λe h' m l=>eH ⟨_,rfl,i e h' m l⟩)
end
end
section
open PyProof.Rows Spec
def BF(H:Hp)(a:Addr)(k:List (List Key×V)):Prop:=H a=some (.dT k)\/H a=some (.dK [])/\k=[]
def C2(ok:AA P w H h)(e:BF H a k):(a==sysModules)=false/\∃xs,KT H k xs/\h.DictOfH (tupleKind (bH P w)) a xs:=by
 rcases e with e|⟨e,rfl⟩;obtain⟨_,l,xs,r,c⟩:=VM ok e;exact⟨l,xs,r,c⟩;obtain⟨_,l,v,r,c⟩:=VL ok e;cases r;obtain⟨o,E,m,d,hc,b,j,f,n⟩:=c;have g:E.toList=[]:=DX f.length;exact⟨l,[],.nil,o,E,m,d,hc,b,by rw[g];rfl,λx i=>by simp at i,.nil⟩
def snoc{l:List b}{m:List c}(p:Paired R l m)(h:R x y):Paired R (l++[x]) (m++[y]):=by
 induction p with
 |nil=>exact .cons h .nil
 |cons a _ i=>exact .cons a i
def C3{Z:St}(t:A.units+1 < cLine)(I:eD X M Z H s)(e:BF H a w)(h:H b=some (.tup (k.map kV)))(l:w.length < sizeLine)(u:cJ z r)
  (h1:∀v i N,nJ w k=some v->eD X M Z H N->cJ v i->Q i N) (x:nJ w k=none->∀N,eD X M Z (fI H a (.dT (w++[(k,z)]))) N->Q r N) :
  wpAny (model X.prog X.w) A (call (.builtin "dict.setdefault") [.ref a,.ref b,r]) Q E s:=by
 obtain⟨T,O,L,j⟩:=C2 I.hok e;have J:O.length=w.length:=(Paired.length L).symm;refine call_meetsIn F.slot_dict_setdefault j.typeIs F.entry_dict_setdefault (F.args_dict_setdefault_3 _ _ _) (C1 (tupleKind (bH X.prog X.w)) a b T r) ⟨tupleKind_room_in1 t,k,O,KG I.hok h,j,by lia,λp y=>?_,λY h' g U=>?_⟩
 ·have q:=L.val k;rw[y]at q;cases d:nJ w k with
  |none=>rw[d]at q;exact nomatch q
  |some v=>rw[d]at q;exact h1 v _ _ d (I.tok _) q
 ·have q:=L.val k;rw[Y]at q;have d:nJ w k=none:=by
   cases d:nJ w k with
   |none=>rfl
   |some v=>rw[d]at q;exact nomatch q
  refine x d _ ?_;obtain⟨o,es,ep,m,B,C,D1,_,G⟩:=g;have f:KT H (w++[(k,z)]) (O++[(k,b,r)]):=snoc L ⟨rfl,h,u⟩;refine NG I (by rcases e with e|⟨e,_⟩<;>(rw[e];exact True.intro)) U ⟨o,m⟩ ⟨by simp;exact l,T,_,f.keeps λc ys n=>?_,o,es,ep,m,B,C,D1,G⟩;rw[aG (by rcases e with e|⟨e,_⟩<;>exact Si n e λz=>nomatch z)];exact n
def Lu(t ty tx:TE):TE:=λZ H Q=>t Z H λx c=>∃a,x=.ref a/\Hb c a/\ty Z c λy d=>tx Z d λz h=>∃e k b,BF h a e/\y=.ref b/\h b=some (.tup (k.map kV))/\e.length<sizeLine /\
 (∀v,nJ e k=some v->Q v h)/\(nJ e k=none->Q z (fI h a (.dT (e++[(k,z)]))))
def C4(j:X.A.units+1<cLine)(l:PE X o td)(n:PE X e ty)(p:PE X f tx)(m:M2 X o "setdefault" apos e f O):PE X (.Call (.Attribute o "setdefault" apos) [e,f] [] O) (Lu td ty tx):=by
 intro A s Z H Q I h;refine wpAny_Call_method m.base m.few m.line F.plainAttrs_dict F.slot_dict_setdefault F.type_dict_setdefault (thn (l A s Z H _ I h) λu s1 h=>?_);obtain⟨x,q,g,r,a,ex,d,t⟩:=h;subst ex;obtain rfl:u=Value.ref a:=r;obtain⟨w,B,_⟩:=NH g d;refine⟨w,B,?_⟩;rw[m.trees];refine Calls.callWith_builtin rfl (Calls.evalArgs_plain (Calls.spliced_cons (thn (n A s1 Z q _ g t) λC s2 h=>?_)));obtain⟨y,D1,E,G,J⟩:=h;refine Calls.spliced_cons (thn (p A s2 Z D1 _ E J) λV W h=>Calls.spliced_nil ?_);obtain⟨z,K,L,i,kvs,k,b,M,N,π,P,R,S⟩:=h;subst N;obtain rfl:C=Value.ref b:=G;exact C3 j L M π P i (λv Y T e c U=>⟨v,K,c,U,R v e⟩) λe T c=>⟨z,_,c,i,S e⟩
end
inductive FQ(Q:Hp->Prop):Hp->Prop
 |done {H:Hp}:Q H->FQ Q H
 |step {H:Hp} {p:Addr} {u:HO}:H p=some u->Fz u->(∀o,FQ Q (fI H p (.frz o u)))->FQ Q H
structure Cu(Γ:Gm)(Z:Sg)(σV:St)(q:Addr):Prop where
 nv:¬CD Z σV q
 h0:Γ.H₀ q=none
def Cu.step(h:Cu d Z b q)(s:hC Z b H c a f)(e:H q=some o):Cu d c a q/\f q=some o:=
 ⟨⟨λz=>(s.nv q z).elim h.nv λz=>(by lia),h.h0⟩,s.fr q o e λz=>h.nv z.nv⟩
def FJ(H:Hp)(q:Addr):Prop:=H q=none\/∃o,H q=some o/\Fz o
def tH{L:Addr->Prop}(h:∀a,L a->FJ H a)(k:∀a,¬L a->c a=H a):Be H c:=by
 refine⟨λb d e=>?_,λb O x e=>?_⟩<;>rw[k b λz=>?_]<;>first|exact e|(rcases h b z with s|⟨o,s,f⟩<;>rw[s]at e<;>cases e;exact f)
def dX.hids{L:Addr->Prop}(ok:dX f H Z d)(h:∀ a,L a->Cu f Z d a/\FJ H a)(k:∀ a,¬ L a->g a=H a):dX f g Z d:=
 ⟨λi t e=>by
  obtain⟨v,b,r⟩:=ok.rel i t e;refine⟨v,b,r.mono (tH (λa z=>(h a z).2) k) λp x c m E=>?_⟩;rw[k p λz=>(h p z).1.nv ⟨i,t,e,m,by simp_all⟩];exact E,ok.dis,ok.own,ok.par,
  λa x e n=>by rw[k a λz=>(by have:=(h a z).1.h0;lia)];exact ok.keep a x e n,
  λa e=>by
   by_cases z:L a;exact(h a z).1.h0;rw[k a z]at e;exact ok.dom a e,ok.len⟩
def hC.hids{L:Addr->Prop}(f:hC c b d Z g H)(h:∀ a,L a->(d a=none\/iU c b a)/\j a≠none)(k:∀ a,¬ L a->j a=H a):hC c b d Z g j:=
 ⟨λa x e n=>by rw[k a λz=>(by rcases(h a z).1 with q | q;(lia);exact n q)];exact f.fr a x e n,
  λa e=>by
   by_cases z:L a
   ·simp_all
   ·rw[k a z]at e;exact f.dom a e,f.mu,f.nv,f.kp,f.fix,f.lt⟩
def Lv(z:¬a=q):fI H q o a=H a:=aG z
def dX.hid(ok:dX c H Z b)(h:Cu c Z b q)(s:FJ H q):dX c (fI H q O) Z b:=ok.hids (L:=(· = q)) (λa e=>by simp_all) λa z=>Lv z
def hC.hid(g:hC c b d Z f H)(h:d q=none\/iU c b q):hC c b d Z f (fI H q O):=g.hids (L:=(· = q)) (λa e=>by subst e;exact⟨h,by rw[aJ];lia⟩) λa z=>Lv z
def FJ.ext(s:FJ H q):Be H (fI H q o'):=tH (L:=(· = q)) (λa e=>by simp_all) λa z=>Lv z
noncomputable abbrev SG:Sl:=⟨.own,.dic [] []⟩
def pG{Z:Sg}(h:(Z.set g (some s))[i]?=some (some t)):(i=g/\t=s)\/(i≠g/\Z[i]?=some (some t)):=by
 rcases aT h with⟨z,a,_⟩|⟨z,a⟩
 ·simp_all
 simp_all
def hC.wide{p:Nat}(w:hC Z u H x v C)(f:g < Z.length)(t:x.length=Z.length)(k:u[g]? = some (some (.ref p)))(l:v[g]? = some (some (.ref p))):hC (Z.set g (some SG)) u H (x.set g (some SG)) v C:=by
 have U:∀{a},iU Z u a->iU (Z.set g (some SG)) u a:=λ{a} B=>by
  obtain⟨i,s,b,d,c⟩:=B;by_cases z:i=g;subst z;exact⟨i,SG,by rw[Bo f],rfl,c⟩;exact⟨i,s,by rw[sU (hR z)];exact b,d,c⟩
 have j:∀{a},CD Z u a->CD (Z.set g (some SG)) u a:=λ{a} B=>by
  obtain⟨i,s,b,d,c⟩:=B;by_cases z:i=g;subst z;exact⟨i,SG,by rw[Bo f],(λz=>nomatch z),c⟩;exact⟨i,s,by rw[sU (hR z)];exact b,d,c⟩
 have q:iU (Z.set g (some SG)) u p:=⟨g,SG,by rw[Bo f],rfl,k⟩;refine⟨λa o e n=>w.fr a o e λz=>n (U z),w.dom,λa ⟨i,s,b,d,c⟩=>?_,λa ⟨i,s,b,d,c⟩=>?_,λi s h=>?_,λi s h m=>?_,λi s h m=>?_⟩
 ·rcases pG b with⟨rfl,rfl⟩|⟨z,b⟩
  ·simp_all
  ·exact(w.mu a ⟨i,s,b,d,c⟩).imp U id
 ·rcases pG b with⟨rfl,rfl⟩|⟨z,b⟩;rw[l]at c;cases c;exact .inl q.nv;exact(w.nv a ⟨i,s,b,d,c⟩).imp j id
 ·rcases pG h with⟨rfl,rfl⟩|⟨z,h⟩
  ·simp_all
  ·obtain⟨y,A⟩:=w.kp i s h;exact⟨y,by rw[sU (hR z)];exact A⟩
 ·rcases pG h with⟨rfl,rfl⟩|⟨z,h⟩;rcases m with m|m<;>cases m;obtain⟨y,A,r⟩:=w.fix i s h m;exact⟨y,by rw[sU (hR z)];exact A,r⟩
 ·rcases pG h with⟨rfl,rfl⟩|⟨z,h⟩;cases m;obtain⟨y,A,r⟩:=w.lt i s h m;exact⟨y,by rw[sU (hR z)];exact A,r⟩
def hC.drop(c:hC Z k H (b.set g (some SG)) j p)(q:Z[g]? = some none)(n:∀ s,b[g]? ≠ some (some s)):hC Z k H b j p:=by
 have u:∀{i:Nat} {s:Sl},b[i]?=some (some s)->(b.set g (some SG))[i]?=some (some s):=λ{i s} h=>by
  rw[sU (λz=>n s (by rw[z];exact h))];exact h
 refine⟨c.fr,c.dom,λa ⟨i,s,e,r⟩=>c.mu a ⟨i,s,u e,r⟩,λa ⟨i,s,e,r⟩=>c.nv a ⟨i,s,u e,r⟩,λi s h=>?_,λi s h m=>?_,λi s h m=>c.lt i s (u h) m⟩
 ·obtain⟨l,f⟩:=c.kp i s h;rcases pG f with⟨rfl,rfl⟩|⟨z,f⟩
  ·simp_all
  simp_all
 ·obtain⟨l,f,r⟩:=c.fix i s h m;rcases pG f with⟨rfl,rfl⟩|⟨z,f⟩
  ·simp_all
  ·exact⟨l,f,r⟩
def dX.forget(ok:dX f H Z d):dX f H (Z.set g none) d:=by
 have u:∀{i:Nat} {s:Sl},(Z.set g none)[i]?=some (some s)->Z[i]?=some (some s):=λ{i s} h=>by
  rcases aT h with⟨z,a,_⟩|⟨z,a⟩;cases a;exact a
 exact⟨λi s e=>ok.rel i s (u e),λi j s t q n b c=>ok.dis i j s t q n (u b) (u c),λi s q e=>ok.own i s q (u e),λi s q e=>ok.par i s q (u e),ok.keep,ok.dom,by rw[Ds];exact ok.len⟩
noncomputable def Lw:D->Option Key
 |.int i=>some (.inl i)
 |.str x=>some (.inr x)
 |_=>none
def qI:List D->Option (List Key)
 |[]=>some []
 |d::r=>(Lw d).bind λk=>(qI r).bind λa=>some (k::a)
def tJ(h:qI l=some ks):l=ks.map oN:=by
 induction l generalizing ks with
 |nil=>cases h;rfl
 | cons d r i=>
   obtain⟨k,a,h⟩:=aA h;obtain⟨ks,b,h⟩:=aA h;cases h;rw[BJ,← i b];cases d<;>cases a<;>rfl
def Qd{ks:List Key}:Rps H (ks.map oN) xs->xs=ks.map kV:=xU λk _ a=>by cases k<;>cases a<;>rfl
abbrev Ca:=List (List Key×List D)
noncomputable def wY(k:List Key)(v:D):Ca->Ca
 |[]=>[(k,[v])]
 |p::r=>if p.1=k then(p.1,p.2++[v])::r else p::wY k v r
inductive Ay(H:Hp)(n:Nat):Ca->List (List Key×V)->List Addr->Prop
 |nil:Ay H n [] [] []
 |cons {k:List Key} {vs:List D} {l:Addr} {xs:List V} {acc:Ca} {kvs:List (List Key×V)} {ls:List Addr}:H l=some (.lst xs)->Rps H vs xs->xs.length<=n->l∉ls->Ay H n acc kvs ls->Ay H n ((k,vs)::acc) ((k,.ref l)::kvs) (l::ls)
def Ay.keep(h:Ay H n A f L)(x:Be H g)(k:∀l∈L,∀o,H l=some o->g l=some o):Ay g n A f L:=by
 induction h with
 |nil=>exact .nil
 |cons a b c d _ i=>exact .cons (k _ Aa _ a) (b.mono x) c d (i λl e=>k l (Am _ e))
def Ay.up(h:Ay H n A e L):Ay H (n+1) A e L:=by
 induction h with
 |nil=>exact .nil
 |cons a b c d _ i=>exact .cons a b (le_succ_of_le c) d i
def Ay.soft(h:Ay H n A b L):∀l∈L,∃xs,H l=some (.lst xs):=by
 induction h with
 |nil=>simp
 |cons a _ _ _ _ i=>exact List.forall_mem_cons.mpr ⟨⟨_,a⟩,i⟩
def Ay.keys(h:Ay H n A a L):a.map (·.1)=A.map (·.1):=by
 induction h with
 |nil=>rfl
 |cons _ _ _ _ _ i=>rw[BJ,BJ,i]
def Ay.len{H:Hp}{n:Nat}{A:Ca}{a:List (List Key×V)}{L:List Addr}(h:Ay H n A a L):a.length=A.length:=by have:=Cn List.length h.keys;simp_all
def Ay.app(h:Ay H n E C L):nJ C k=some v ->
  ∃l xs,v=.ref l/\l∈L/\H l=some (.lst xs)/\xs.length<=n/\(Rp (fI H l (.lst (xs++[y]))) d y->Be H (fI H l (.lst (xs++[y])))->Ay (fI H l (.lst (xs++[y]))) (n+1) (wY k d E) C L):=by
 induction h with
 |nil=>intro h;cases h
 | @cons j _ l xs _ _ _ f g m a t i=>
   intro h;by_cases e:j=k;rw[jO e]at h;cases h;refine⟨l,xs,rfl,Aa,f,m,λr x=>?_⟩;show Ay _ _ (if j=k then _ else _) _ _;rw[gV e];refine .cons aJ ((g.mono x).append (.cons r .nil)) (by simp_all) a (t.up.keep x λb G o q=>?_);rw[aG (show b≠l from λz=>a (by simp_all))];exact q;rw[jP e]at h;obtain⟨p,c,s,u,w,A,B⟩:=i h;refine⟨p,c,s,Am _ u,w,A,λr x=>?_⟩;show Ay _ _ (if j=k then _ else _) _ _;rw[a0m e];exact .cons (by rw[aG (show l≠p from λz=>a (by simp_all))];exact f) (g.mono x) (le_succ_of_le m) a (B r x)
def Ay.more(a:H l=some (.lst []))(g:Ay H n A f L)(h:l∉L):Ay H n (A++[(k,[])]) (f++[(k,.ref l)]) (L++[l]):=by
 induction g with
 |nil=>exact .cons a .nil (Ad _) (by simp) .nil
 |cons b c d e _ i=>exact .cons b c d (by intro z;simp_all) (i λz=>h (Am _ z))
theorem wB:∀ {a:Ca},k∉a.map (·.1)->wY k d (a++[(k,[])])=wY k d a
 |[],_=>by simp[wY]
 | p::r,h=>by
   have e:¬p.1=k:=λz=>h (by simp[z]);show(if p.1=k then _ else _)=(if p.1=k then _ else _);rw[a0m e,a0m e];exact Cn (p :: ·) (wB λz=>h (by simp_all))
theorem Qe:∀ {a:List (List Key×V)},nJ a k=none->k∉a.map (·.1)
 |[],_=>by simp
 | p::r,h=>by
   by_cases e:p.1=k;rw[jO e]at h;cases h
   ·rw[jP e]at h;intro z;rcases Az.mp z with z|z
    ·simp_all
    ·exact Qe h z
theorem Qg:∀ {a:List (List Key×V)},nJ a k=none->nJ (a++[(k,v)]) k=some v
 |[],_=>jO rfl
 | p::r,h=>by
   by_cases e:p.1=k;rw[jO e]at h;cases h;rw[jP e]at h;rw[List.cons_append,jP e];exact Qg h
section
open PyProof.Rows Spec
def JM(H:Hp)(a:Addr)(k:List (List Key×V)):Prop:=Rd H a (.dT k)\/Rd H a (.dK [])/\k=[]
def C5(ok:AA P w H h)(e:JM H a k):(a==sysModules)=false/\∃xs,KT H k xs/\h.DictOfH (tupleKind (bH P w)) a xs:=by
 rcases e with e|⟨e,rfl⟩;obtain⟨_,l,xs,r,c⟩:=KH ok e;exact⟨l,xs,r,c⟩;obtain⟨_,l,v,r,c⟩:=KD ok e;cases r;obtain⟨o,E,m,d,hc,b,i,f,n⟩:=c;have j:E.toList=[]:=DX f.length;exact⟨l,[],.nil,o,E,m,d,hc,b,by simp_all,λx g=>by simp at g,.nil⟩
def C6{Z:St}(f:A.units+1 < cLine)(I:eD X p Z H s)(e:JM H a l)(g:H b=some (.tup (k.map kV)))(i:cJ z r)(h:∀ c m,eD X p Z H m->cJ ((nJ l k).getD z) c->Q c m) :
  wpAny (model X.prog X.w) A (call (.builtin "dict.get") [.ref a,.ref b,r]) Q E s:=by
 obtain⟨n,x,j,d⟩:=C5 I.hok e;exact call_meetsIn F.slot_dict_get d.typeIs F.entry_dict_get (F.args_dict_get_3 _ _ _) (meetsH_dict_get_default (tupleKind (bH X.prog X.w)) a b n r) ⟨tupleKind_room_in1 f,k,x,KG I.hok g,d,h _ _ (I.tok _) ((j.val k).getD i)⟩
def C7(t ty tx:TE):TE:=λZ H Q=>t Z H λx c=>∃a,x=.ref a/\Hb c a/\ty Z c λy d=>tx Z d λz h=>∃e k b,JM h a e/\y=.ref b/\h b=some (.tup (k.map kV))/\Q ((nJ e k).getD z) h
def C8(g:X.A.units+1<cLine)(i:PE X o td)(j:PE X e ty)(l:PE X f tx)(m:M2 X o "get" Y e f O):PE X (.Call (.Attribute o "get" Y) [e,f] [] O) (C7 td ty tx):=by
 intro A s Z H Q I h;refine wpAny_Call_method m.base m.few m.line F.plainAttrs_dict F.slot_dict_get F.type_dict_get (thn (i A s Z H _ I h) λu s1 h=>?_);obtain⟨x,n,c,p,a,ex,d,q⟩:=h;subst ex;obtain rfl:u=Value.ref a:=p;obtain⟨r,t,_⟩:=NH c d;refine⟨r,t,?_⟩;rw[m.trees];refine Calls.callWith_builtin rfl (Calls.evalArgs_plain (Calls.spliced_cons (thn (j A s1 Z n _ c q) λv s2 h=>?_)));obtain⟨y,w,B,C,D1⟩:=h;refine Calls.spliced_cons (thn (l A s2 Z w _ B D1) λR S h=>Calls.spliced_nil ?_);obtain⟨z,E,G,J,kvs,k,b,K,L,M,N⟩:=h;subst L;obtain rfl:v=Value.ref b:=C;exact C6 g G K M J λT U π P=>⟨_,E,π,P,N⟩
end
def IF:List D->List D->List Key->Option (Option D)
 |[],[],_=>some none
 |.tup l::b,v::a,k=>(qI l).bind λj=>if j=k then some (some v)else IF b a k
 |_,_,_=>none
def C9(h:Rps H v (m.map (·.2)))(e:IF (m.map λc=>D.tup (c.1.map oN)) v k=some r) :
  (r=none/\nJ m k=none)\/∃d x,r=some d/\nJ m k=some x/\Rp H d x:=by
 induction m generalizing v with
 |nil=>cases h;cases e;exact .inl ⟨rfl,rfl⟩
 | cons p m i=>
   cases h with|cons a t=>
   obtain⟨j,g,e⟩:=aA e;have l:p.1=j:=by
    have:=tJ g;have I:∀{x y:List Key},x.map oN=y.map oN->x=y:=λ{x y} h=>by
     refine(List.map_inj_right (f:=oN) λa b h=>?_).mp h;cases a<;>cases b<;>cases h<;>rfl
    exact I this
   subst l;split at e;rename_i h;cases e;exact .inr ⟨_,_,rfl,jO h,a⟩;rename_i h;rw[jP h];exact i t e
def Lx(h:AX H (.dic ks e) v):∃ a u w,v=.ref a/\Rd H a u/\Jp u ks w/\Rps H e w:=by
 rcases h with h|⟨p,rfl,u,w,b,c,d⟩
 ·cases h with
  |dic b c d=>exact⟨_,_,_,rfl,.inr ⟨_,b⟩,c,d⟩
 ·exact⟨p,u,w,rfl,.inl b,c,d⟩
def D0(h:AX H (.dic ks d) v):∃a,v=.ref a/\Hb H a:=by
 obtain⟨a,u,w,rfl,b,c,_⟩:=Lx h;refine⟨a,rfl,?_⟩;cases u with
 |dK k=>exact .inl ⟨k,b⟩
 |dT k=>exact .inr (.inl ⟨k,b⟩)
 |dM k=>exact .inr (.inr ⟨k,b⟩)
 |_=>exact c.elim
def D2(h:AX H (.dic ks i) v)(e:IF ks i k=some r):∃ a g,v=.ref a/\JM H a g/\((r=none/\nJ g k=none)\/∃ d x,r=some d/\nJ g k=some x/\Rp H d x):=by
 obtain⟨a,u,w,rfl,f,b,c⟩:=Lx h;cases u with
 | dT g=>
   obtain⟨rfl,rfl⟩:=b;exact⟨a,g,rfl,.inl f,C9 c e⟩
 | dK g=>
   obtain⟨rfl,rfl⟩:=b;cases g with
   |nil=>cases c;cases e;exact⟨a,[],rfl,.inr ⟨f,rfl⟩,.inl ⟨rfl,rfl⟩⟩
   | cons p r=>
     obtain⟨j,_⟩:=p;cases c with
     |cons _ _=>cases j<;>cases e
 |dM g=>obtain⟨rfl,rfl⟩:=b;cases i<;>cases e
 |_=>exact b.elim
def D3(h:AX H (.tup l) v)(e:qI l=some k):∃ b,v=.ref b/\H b=some (.tup (k.map kV)):=by
 rcases h with h|⟨p,rfl,h⟩
 ·cases h with
  |tup h r=>rw[tJ e]at r;rw[Qd r]at h;simp_all
 ·exact h.elim
noncomputable def Ly:D->Bool
 |.dic _ _=>true
 |_=>false
def JN:D->D->Option (Option D)
 |.dic a v,.tup l=>(qI l).bind λk=>IF a v k
 |_,_=>none
def HH(a b c:DE):DE:=λZ=>(a Z).bind λx=>(rd x.2 x.1).bind λf=>if Ly f=true then(b x.2).bind λy=>(c y.2).bind λz=>(rd z.2 x.1).bind λd=>(rd z.2 y.1).bind λe=>(JN d e).bind λr=>some ((match r with|some v=>.val v|none=>z.1),z.2)else none
def D6(K:X.A.units+1 < cLine)(L:GE X o E)(M:GE X e F)(N:GE X f G)(m:M2 X o "get" O e f A):GE X (.Call (.Attribute o "get" O) [e,f] [] A) (HH E F G):=.mk λΓ=>Bk (C8 K (L.to Γ) (M.to Γ) (N.to Γ) m) λσV H Q Z1=>by
 obtain⟨Z,ok,res,σ',c,k⟩:=Z1;obtain⟨⟨x,t⟩,π,c⟩:=aA c;obtain⟨P,R,c⟩:=aA c;split at c
 case isFalse=>cases c
 rename_i hd;obtain⟨⟨y,B⟩,S,c⟩:=aA c;obtain⟨⟨z,D⟩,T,c⟩:=aA c;obtain⟨d,U,c⟩:=aA c;obtain⟨e',V,c⟩:=aA c;obtain⟨r,s,c⟩:=aA c;cases c;refine⟨Z,ok,x,t,π,λv W i I C f1=>?_⟩;have Y:=I.vw i R;obtain⟨a,rfl,ha⟩:∃a,v=.ref a/\Hb W a:=by
  cases P with
  |dic ks vs=>exact D0 Y
  |_=>cases hd
 refine⟨a,rfl,ha,t,i,y,B,S,λw H2 l σ n f2=>⟨B,l,z,D,T,λu J g r3 p f3=>?_⟩⟩;have vx:=((I.step i n).step l p).vw g U;have vy:=(σ.step l p).vw g V;unfold JN at s;split at s;obtain⟨j,g1,s⟩:=aA s;obtain⟨b,rfl,hb⟩:=D3 vy g1;obtain⟨a',kvs,q,hq,h⟩:=D2 vx s;cases q;refine⟨kvs,j,b,hq,rfl,hb,?_⟩;have st:=(C.trans n).trans p;rcases h with⟨rfl,h⟩|⟨d,x,rfl,h,rp⟩;rw[h];exact k u J g r3 st (f3.back (C.trans n));rw[h];exact k x J g rp st fO;cases s
def IG:hJ->Option (List Key)
 |.val (.tup l)=>qI l
 |_=>none
noncomputable def Qi:List D->Option D
 |[v]=>some v
 |_=>none
def Gy(row:Nat)(b:DE)(c:DA):List D->Ca->Sg->Option (Ca×Sg)
 |[],A,Z=>some (A,Z)
 |d::r,A,Z=>(gX row d Z).bind λa=>(b a).bind λx=>(IG x.1).bind λk=>(c x.2).bind λy=>(vals y.1).bind λe=>(Qi e).bind λv=>Gy row b c r (wY k v A) y.2
def FL(a:Ca):D:=.dic (a.map λp=>.tup (p.1.map oN)) (a.map λp=>.lst p.2)
open Classical in
def Gz(g row:Nat)(r:DI)(a:DE)(b:DA):DS:=λZ=>if Z[g]?=some none then(r (Z.set g (some SG))).bind λx=>
 if x.2.1=none/\x.2.2[g]?=some (some SG)/\x.1.length<4000 then(Gy row a b x.1 [] (x.2.2.set g none)).bind λy=>some (.rt (.own (FL y.1)) (y.2.set g none))else none else none
def Lz(t:TE):TE:=λZ H Q=>t Z H λv a=>FQ (Q v) a
def D7(h:PE X e t):PE X e (Lz t):=λp s Z H Q I q=>
 thn (h p s Z H _ I q) λu l z=>by
  obtain⟨v,a,b,d,f⟩:=z;suffices ∀a,FQ (Q v) a->eD X p Z a l->∃v c,eD X p Z c l/\cJ v u/\Q v c from this a f b
  intro a q b
  induction q with
  |done q=>exact⟨v,_,b,d,q⟩
  | step g i _ j=>
    obtain⟨o,k⟩:=xV b g i;exact j o k
def D8{L:List Addr}(h:∀l∈L,∃xs,H l=some (.lst xs))(nd:L.Nodup)(q:∀j,(∀a,a∉L->j a=H a)->(∀l∈L,∀xs,H l=some (.lst xs)->∃o,j l=some (.frz o (.lst xs)))->Q j):FQ Q H:=by
 induction L generalizing H with
 |nil=>exact .done (q H (λ_ _=>rfl) λl h=>by simp at h)
 | cons l L i=>
   obtain⟨xs,e⟩:=h l Aa;obtain⟨N,m⟩:=Dq.mp nd;have n:∀b∈L,b≠l:=λb g z=>N (z▸g);refine .step e True.intro λo=>i (λb g=>?_) m λj d f=>q j (λa k=>?_) λb g y c=>?_;obtain⟨y,c⟩:=h b (Am _ g);exact⟨y,by rw[aG (n b g)];exact c⟩;rw[d a λz=>k (Am _ z),aG (show a≠l from λz=>k (by rw[z];exact Aa))];rcases Az.mp g with rfl|g;rw[e]at c;cases c;exact⟨o,by rw[d b N,aJ]⟩;exact f b g y (by rw[aG (n b g)];exact c)
def Ay.nodup(h:Ay H n A a L):L.Nodup:=by
 induction h with
 |nil=>exact .nil
 |cons _ _ _ h _ i=>exact Dq.mpr ⟨h,i⟩
def Ay.rps(x:Be H f)(h:Ay H n A d L)(k:∀l∈L,∀xs,H l=some (.lst xs)->∃o,f l=some (.frz o (.lst xs))):Rps f (A.map λp=>.lst p.2) (d.map (·.2)):=by
 induction h with
 |nil=>exact .nil
 | cons a b _ _ _ i=>
   obtain⟨o,e⟩:=k _ Aa _ a;exact .cons (.lst e (b.mono x)) (i λl c=>k l (Am _ c))
theorem D9{Z:Sg}(h:Z[g]?=some x):Z.set g x=Z:=by
 apply Fc;intro i;by_cases z:i=g;subst z;rw[h,Bo (sL.mp h).1];rw[sU (hR z)]
def Qj(ok:dX b H Z a)(h:H p=none):¬CD Z a p:=λz=>by
 obtain⟨o,e,_⟩:=ok.mutObj z;rw[h]at e;cases e
section
open PyProof.Rows W
structure Cm(M:Model)(A:Around)(s:Shared)(κ:SortKind)(G:Keyed->Prop)(c:Keyed->Keyed->Bool):Prop where
 lt:∀{x y:Keyed} {E:Value->Shared->Prop} {Q:Bool->Shared->Prop},G x->G y->Q (c x y) s->wpAny M A (keyLt' κ x.1 y.1) Q E s
 ir:∀x,c x x=false
 tr:∀{x y z},c x y=true->c y z=true->c x z=true
def IH{e:SortSt}(C:Cm M A s κ G c)(a:kindOf e=κ)(b:G x)(d:G y)(q:Q (some (c x y)) e):wpS M A E s (lt' x y) Q e:=by
 rw[lt'_eq];refine wpS_bind (wpS_get (wpS_bind (wpS_lift (Es ?_))));rw[a];exact C.lt b d ⟨rfl,wpS_pure q⟩
def bL{b:SortSt}(h:a[i]?=some x)(q:Q x b):wpS M A E s (elem' a i) Q b:=by
 rw[elem'_eq,h];exact wpS_pure q
def mH{e:SortSt}(C:Cm M A s κ G c)(a:kindOf e=κ)(hi:(arrOf e)[i]?=some x)(hj:(arrOf e)[j]?=some y)(b:G x)(d:G y)(q:Q (some (c x y)) e):wpS M A E s (ltAt' i j) Q e:=by
 refine wpS_bind (wpS_get ?_);exact wpS_bind (bL hi (wpS_bind (bL hj (IH C a b d q))))
noncomputable def zY:Bool->Keyed->Array Keyed->Nat->Nat->Nat->StateT SortSt Sem (Option Nat):=sortPriv% PySem.Builtin.gallop
def E1{U:Bool}{st:SortSt}(C:Cm M A s κ G c)(J:kindOf st=κ)(T:Nat->Bool)
  (hb:∀i,i<n->∃x,z[base+i]?=some x/\G x/\T i=if U then c x p else !c p x) (K:G p) (hm:∀i j,i<=j->j<n->T j=true->T i=true) (B:N<n)
  (q:∀k,k<=n->(∀i,i<k->T i=true)->(∀i,k<=i->i<n->T i=false)->Q (some k) st):wpS M A E s (zY U p z base n N) Q st:=by
 have u:∀i j,i<=j->j<n->T i=false->T j=false:=λi j d h b=>by
  cases e:T j with
  |false=>rfl
  |true=>rw[hm i j d h e]at b;cases b
 have v:∀(i:Nat) (Q:Option Bool->SortSt->Prop),i<n->Q (some (T i)) st->wpS M A E s (do let x ← elem' z (base+i);if U then lt' x p else return (← lt' p x).map (!·)) Q st:=λi Q Y q=>by
  obtain⟨x,e,g,H⟩:=hb i Y;refine wpS_bind (bL e ?_);cases U with
  |true=>exact IH C J g K (by simp only[if_true]at H;rw[← H];exact q)
  |false=>exact wpS_bind (IH C J K g (wpS_pure (by simp at H;rw[H]at q;exact q)))
 refine wpS_bind (v N _ B ?_);dsimp only;cases L:T N
 case' true=>
  rw[gV rfl];refine wpS_bind (wpS_mono (wpS_forRange (λi (r:Option (Option Nat)×Nat×Nat) O=>st=O/\r.1=none/\r.2.1<r.2.2/\i<=r.2.1/\N+r.2.1<n/\T (N+r.2.1)=true)
   (Q:=λr O=>st=O/\r.1=none/\(∀i,i<N+r.2.1+1->T i=true)/\(∀i,N+min r.2.2 (n-N)<=i->i<n->T i=false)/\N+r.2.1+1<=N+min r.2.2 (n-N)/\N+min r.2.2 (n-N)<=n) ?_ ?_ ⟨rfl,rfl,Nat.zero_lt_one,hF _,B,L⟩) ?_)
  ·rintro i ⟨o,l,f⟩ O-Y ⟨rfl,rfl,d,h,b,a⟩;dsimp only at d h b a ⊢;split;refine wpS_pure ⟨rfl,rfl,?_⟩;dsimp only;rw[show N+min f (n-N)=n by lia];exact⟨λi Y=>hm i _ (Ec Y) b a,λi t w=>absurd t (Nat.not_le.mpr w),b,hF _⟩;refine wpS_bind (v (N+f) _ (by simp_all +arith) ?_);dsimp only;cases y:T (N+f)<;>refine wpS_pure ⟨rfl,rfl,?_⟩<;>dsimp only;rw[show N+min f (n-N)=N+f by grind];exact⟨λi Y=>hm i _ (Ec Y) b a,λi t w=>u (N+f) i t w y,Nat.add_lt_add_left d _,by lia⟩;exact⟨by lia,by lia,by simp_all +arith,y⟩
  ·rintro⟨o,l,f⟩ O ⟨rfl,rfl,d,h,b,a⟩;dsimp only at d h b a;lia
  rintro⟨o,l,f⟩ O ⟨rfl,rfl,d,h,b,a⟩;dsimp only at d h b a ⊢;generalize N+l+1=lo at d b ⊢;generalize N+min f (n-N)=Y at h b a ⊢
 case' false=>
  rw[a0m (by decide)];refine wpS_bind (wpS_mono (wpS_forRange (λi (r:Option (Option Nat)×Nat×Nat) O=>st=O/\r.1=none/\r.2.1<r.2.2/\i<=r.2.1/\r.2.1<=N/\T (N-r.2.1)=false)
   (Q:=λr O=>st=O/\r.1=none/\(∀i,i<N+1-min r.2.2 (N+1)->T i=true)/\(∀i,N-r.2.1<=i->i<n->T i=false)/\N+1-min r.2.2 (N+1)<=N-r.2.1/\N-r.2.1<=n) ?_ ?_ ⟨rfl,rfl,Nat.zero_lt_one,hF _,Ad _,L⟩) ?_)
  ·rintro i ⟨o,l,f⟩ O-Y ⟨rfl,rfl,d,h,b,a⟩;dsimp only at d h b a ⊢;split;refine wpS_pure ⟨rfl,rfl,?_⟩;dsimp only;rw[show N+1-min f (N+1)=0 by simp[*]];exact⟨λi Y=>absurd Y (Dr _),λi t w=>u _ i t w a,Ad _,AO (sub_lt_of_lt B)⟩;refine wpS_bind (v (N-f) _ (sub_lt_of_lt B) ?_);dsimp only;cases y:T (N-f)<;>refine wpS_pure ⟨rfl,rfl,?_⟩<;>dsimp only;exact⟨by lia,by lia,by simp_all +arith,y⟩;rw[show N+1-min f (N+1)=N-f+1 by grind];exact⟨λi Y=>hm i (N-f) (Ec Y) (sub_lt_of_lt B) y,λi t w=>u _ i t w a,by grind,AO (sub_lt_of_lt B)⟩
  ·rintro⟨o,l,f⟩ O ⟨rfl,rfl,d,h,b,a⟩;dsimp only at d h b a;lia
  rintro⟨o,l,f⟩ O ⟨rfl,rfl,d,h,b,a⟩;dsimp only at d h b a ⊢;generalize N+1-min f (N+1)=lo at d b ⊢;generalize N-l=Y at h b a ⊢
 all_goals
  refine wpS_bind (wpS_mono (wpS_forRange (λi (r:Option (Option Nat)×Nat×Nat) O=>st=O/\r.1=none/\(∀i,i<r.2.1->T i=true)/\(∀i,r.2.2<=i->i<n->T i=false)/\r.2.1<=r.2.2/\r.2.2<=n/\r.2.2+i<=n+r.2.1)
   (Q:=λr O=>st=O/\r.1=none/\(∀i,i<r.2.1->T i=true)/\(∀i,r.2.2<=i->i<n->T i=false)/\r.2.1=r.2.2/\r.2.2<=n) ?_ ?_ ⟨rfl,rfl,d,h,b,a,by dsimp only;lia⟩) ?_)
  ·rintro i ⟨o,l,f⟩ O-Y ⟨rfl,rfl,d,h,b,a,F⟩;dsimp only at d h b a F ⊢;split;exact wpS_pure ⟨rfl,rfl,d,h,by dsimp only;lia,a⟩;have I:=le_add_right l ((f-l) / 2);have D1:l+(f-l) / 2<f:=by grind
   generalize l+(f-l) / 2=m at I D1 ⊢;refine wpS_bind (v _ _ (Ao D1 a) ?_);dsimp only;cases y:T m<;>refine wpS_pure ⟨rfl,rfl,?_⟩<;>dsimp only;exact⟨d,λi t w=>u _ i t w y,I,gY (AO D1) a,gY (Nat.add_lt_add_right D1 i) F⟩;exact⟨λi t=>hm i _ (Ec t) (Ao D1 a) y,h,D1,a,Nat.succ_le_succ (gY F (add_le_add_left I n))⟩
  ·rintro⟨o,l,f⟩ O ⟨rfl,rfl,d,h,b,a,F⟩;exact⟨rfl,rfl,d,h,by dsimp only at b a F ⊢;lia,a⟩
  rintro⟨o,l,f⟩ O ⟨rfl,rfl,d,h,b,a⟩;dsimp only at d h b a ⊢;subst b;exact wpS_pure (q _ a d h)
abbrev Af(c:Keyed->Keyed->Bool)(l:List Keyed):Prop:=l.Pairwise λx y=>c x y=true
structure Mg(c:Keyed->Keyed->Bool)(la lb out:List Keyed)(i j:Nat):Prop where
 pm:out.Perm (la.take i++lb.take j)
 so:Af c out
 le:∀o∈out,∀x∈la.drop i++lb.drop j,c o x=true
 hi:i<=la.length
 hj:j<=lb.length
def Rs(c:Keyed->Keyed->Bool)(a L l:List Keyed):Prop:=l.Perm (a++L)/\Af c l
def Mg.len{c:Keyed->Keyed->Bool}{L:List Keyed}{l:List Keyed}{O:List Keyed}{i:Nat}{j:Nat}(m:Mg c L l O i j):O.length=i+j:=by
 have:=m.pm.length_eq;have:=m.hi;have:=m.hj;simp at *;simp[*]
theorem Mg.symm{c:Keyed->Keyed->Bool}{L:List Keyed}{l:List Keyed}{O:List Keyed}{i:Nat}{j:Nat}(m:Mg c L l O i j):Mg c l L O j i:=
 ⟨m.pm.trans List.perm_append_comm,m.so,λo b x a=>m.le o b x (by simp at a ⊢;exact a.symm),m.hj,m.hi⟩
def Mg.left(m:Mg c l L O i j)(s:Af c l)(d:i+k<=l.length)(h:∀x∈(l.drop i).take k,∀y∈L.drop j,c x y=true):Mg c l L (O++(l.drop i).take k) (i+k) j:=by
 have n:Af c ((l.drop i).take k++(l.drop i).drop k):=by rw[take_append_drop];exact s.sublist (List.drop_sublist _ _)
 obtain⟨g,f,e⟩:=List.pairwise_append.mp n;refine⟨?_,List.pairwise_append.mpr ⟨m.so,g,λo a x b=>m.le o a x (Ac.mpr (.inl (BH b)))⟩,λo a x b=>?_,d,m.hj⟩;rw[take_add];refine(m.pm.append_right _).trans ?_;rw[append_assoc,append_assoc];exact append_left _ List.perm_append_comm;rw[Ac]at b a;rcases a with a|a;refine m.le o a x (Ac.mpr (b.imp (λz=>?_) id));rw[← drop_drop]at z;exact mem_of_mem_drop z;rcases b with b|b;exact e o a x (by rw[drop_drop];exact b);exact h o a x b
def Mg.right(m:Mg c L l O i j)(s:Af c l)(a:j+k<=l.length)(h:∀x∈(l.drop j).take k,∀y∈L.drop i,c x y=true):Mg c L l (O++(l.drop j).take k) i (j+k):=(m.symm.left s a h).symm
def Mg.done(m:Mg c b L O i j)(d:Af c b)(s:Af c L)(h:i=b.length\/j=L.length):Rs c b L (O++b.drop i++L.drop j):=by
 rcases h with rfl|rfl;have:=m.right s (k:=L.length-j) (by have:=m.hj;simp[*]) (λx _ y a=>by simp at a);have e:(L.drop j).take (L.length-j)=L.drop j:=Co (by simp);rw[e]at this;refine⟨?_,?_⟩;have p:=this.pm;rw[Co (l:=L) (by lia),take_length]at p;simpa using p;simpa using this.so;have:=m.left d (k:=b.length-i) (by have:=m.hi;simp[*]) (λx _ y a=>by simp at a);have e:(b.drop i).take (b.length-i)=b.drop i:=Co (by simp);rw[e]at this;refine⟨?_,?_⟩;have p:=this.pm;rw[Co (l:=b) (by lia),take_length]at p;simpa using p;simpa using this.so
def Mg.last(m:Mg c L l O i j)(n:Af c L)(s:Af c l)(h:i+1=L.length)(d:∀x∈L.drop i,∀y∈l,c y x=true):Rs c L l (O++l.drop j++L.drop i):=by
 have a:=m.right s (k:=l.length-j) (by have:=m.hj;simp[*]) (λx f y g=>d y g x (mem_of_mem_drop (BH f)));have e:(l.drop j).take (l.length-j)=l.drop j:=Co (by simp);rw[e]at a;have b:j+(l.length-j)=l.length:=by have:=m.hj;simp[*]
 have:=a.done n s (.inr b);rw[b,drop_length,Dp]at this;exact this
def jF{l:List Keyed}(h:l[i]?=some x):l.drop i=x::l.drop (i+1):=by
 obtain⟨a,rfl⟩:=sL.mp h;exact drop_eq_getElem_cons a
def lL(h:l[i]?=some x)(s:Af c l):∀y∈l.drop i,y=x\/c x y=true:=by
 have:=s.sublist (List.drop_sublist i l);rw[jF h]at this ⊢;exact λy a=>(Az.mp a).imp id λz=>(Ew.mp this).1 y z
noncomputable def E2:Array Keyed->Array Keyed->StateT SortSt Sem (Array Keyed):=sortPriv% PySem.Builtin.mergeLo
noncomputable def E3:Nat->StateT SortSt Sem Unit:=sortPriv% PySem.Builtin.setMinGallop
structure Ag(st st':SortSt):Prop where
 k:kindOf st'=kindOf st
 a:arrOf st'=arrOf st
 p:pendingOf st'=pendingOf st
 f:failedOf st'=failedOf st
def Ag.rfl'{s:SortSt}:Ag s s:=⟨rfl,rfl,rfl,rfl⟩
theorem Ag.trans{a b d:SortSt}(x:Ag a b)(y:Ag b d):Ag a d:=⟨y.k.trans x.k,y.a.trans x.a,y.p.trans x.p,y.f.trans x.f⟩
def lM{b:SortSt}(q:∀a,Ag b a->Q () a):wpS M A E s (E3 g) Q b:=wpS_modify (q _ ⟨rfl,rfl,rfl,rfl⟩)
theorem Cm.as(C:Cm M A s κ G c)(h:c x y=true):c y x=false:=by
 cases e:c y x with
 |false=>rfl
 |true=>have:=C.tr h e;rw[C.ir]at this;lia
def qJ{a:Array Keyed}(h:i<a.size):∃x,a[i]?=some x/\a.toList[i]?=some x/\x∈a.toList:=⟨a[i],by simp,by simp,by simp⟩
def lO{l:List Keyed}(h:x∈(l.drop i).take k):∃j,j<k/\l[i+j]?=some x:=by
 obtain⟨j,H⟩:=getElem?_of_mem h;rw[getElem?_take]at H;split at H;rename_i a;rw[getElem?_drop]at H;exact⟨j,a,H⟩
 lia
def tK{l:List Keyed}(h:x∈l.drop i):∃j,i<=j/\j<l.length/\l[j]?=some x:=by
 obtain⟨j,H⟩:=getElem?_of_mem h;rw[getElem?_drop]at H;exact⟨i+j,by lia,(sL.mp H).1,H⟩
def zZ{st:SortSt}(C:Cm M A s κ G c)(w:kindOf st=κ)(z:(a.toList.drop b).take n=L)(hn:L.length=n)(B:∀ x∈L,G x)(D1:G O)(F:Af c L)
  (hd:∀x∈L,c x O=true\/c O x=true) (H:U<n) (q:∀k,k<=n->(∀x∈L.take k,c x O=true)->(∀x∈L.drop k,c O x=true)->Q (some k) st):wpS M A E s (zY T O a b n U) Q st:=by
 have I:∀x∈L,(if T=true then c x O else !c O x)=c x O:=λx d=>by
  cases T with
  |true=>rfl
  |false=>rcases hd x d with e|e<;>simp[e,C.as e]
 have f:∀i,i<n->∃x,a[b+i]?=some x/\L[i]?=some x/\x∈L:=λi Y=>by
  obtain⟨x,d⟩:∃x,L[i]?=some x:=⟨L[i],by simp[hn,Y]⟩;refine⟨x,?_,d,An d⟩;rw[← z,getElem?_take,gV Y,getElem?_drop]at d;simpa using d
 refine E1 C w (λi=>match L[i]? with|some x=>c x O|none=>false) (λi Y=>?_) D1 (λi j m o g=>?_) H λk m o g=>q k m (λx d=>?_) λx d=>?_
 ·obtain⟨x,u,h,p⟩:=f i Y;exact⟨x,u,B x p,by simp only[h];exact(I x p).symm⟩
 ·obtain⟨x,u,h,p⟩:=f i (by lia);obtain⟨y,P,l,R⟩:=f j o;simp only[h,l]at g ⊢;rcases Nat.eq_or_lt_of_le m with e|e;subst e;rw[h]at l;cases l;exact g;obtain⟨J,K⟩:=sL.mp h;obtain⟨N,π⟩:=sL.mp l;have:=List.pairwise_iff_getElem.mp F i j J N e;rw[K,π]at this;exact C.tr this g
 ·obtain⟨j,r,t⟩:=lO (i:=0) (by rw[drop_zero];exact d);rw[BL]at t;have:=o j r;simp only[t]at this;exact this
 ·obtain⟨j,r,t,v⟩:=tK d;have:=g j r (by simp_all);simp only[v]at this;rcases hd x (An v)with e|e;rw[e]at this;cases this;exact e
def JO{v:SortSt}(C:Cm M A s κ G c)(j:kindOf v=κ)(l:∀ x∈a.toList,G x)(m:G d)(z:Af c a.toList)
  (B:∀x∈a.toList,c x d=true\/c d x=true) (hb:b+n<=a.size) (o:H<n)
  (q:∀k,k<=n->(∀i x,i<k->a.toList[b+i]?=some x->c x d=true)->(∀i x,k<=i->i<n->a.toList[b+i]?=some x->c d x=true)->Q (some k) v):wpS M A E s (zY L d a b n H) Q v:=by
 have g:∀x∈(a.toList.drop b).take n,x∈a.toList:=λx f=>mem_of_mem_drop (BH f);have y:∀i x,i<n->a.toList[b+i]?=some x->((a.toList.drop b).take n)[i]?=some x:=λi x h e=>by rw[getElem?_take,gV h,getElem?_drop];exact e
 refine zZ C j rfl (by simp;lia) (λx f=>l x (g x f)) m (z.sublist ((take_sublist _ _).trans (List.drop_sublist _ _))) (λx f=>B x (g x f)) o λk p r t=>q k p (λi x w f=>r x ?_) λi x w u f=>t x ?_;have:=y i x (by lia) f;exact An (i:=i) (by rw[getElem?_take,gV w];exact this);have:=y i x u f;exact An (i:=i-k) (by rw[getElem?_drop,show k+(i-k)=i by simp[*]];exact this)
def jU{l:List Keyed}(h:l[i]?=some x):(l.drop i).take 1=[x]:=by rw[jF h];rfl
def gZ{a:Array Keyed}:(a.extract i j).toList=(a.toList.drop i).take (j-i):=by simp
def tL{a:Array Keyed}:(a.extract i a.size).toList=a.toList.drop i:=by
 rw[gZ];exact Co (by simp)
def kL{Q:a->SortSt->Prop}{b:SortSt}[Decidable p](h:wpS M A E s m Q b)(h':wpS M A E s c Q b):wpS M A E s (if p then m else c) Q b:=by
 by_cases e:p
 ·simp_all
 simp_all
def jG{Q:a->SortSt->Prop}{b:SortSt}[Decidable p](h':¬p->wpS M A E s y Q b)(h:p->wpS M A E s x Q b):wpS M A E s (if p then x else y) Q b:=by
 by_cases e:p;rw[gV e];exact h e;rw[a0m e];exact h' e
def eQ{i j:Nat}{Q:a->SortSt->Prop}{b:SortSt}(h:i=j->wpS M A E s x Q b)(h':¬i=j->wpS M A E s y Q b):wpS M A E s (if(i==j)=true then x else y) Q b:=jG (λe=>h' λz=>e (DL.mpr z)) λe=>h (DL.mp e)
def Qk{a b:Type}{x y:StateT SortSt Sem a}{J:b->StateT SortSt Sem a}{Q:a->SortSt->Prop}{d:SortSt}[Decidable p](u v:b)(e:y=J u)(c:x=J v)(h:∀g,wpS M A E s (J g) Q d):wpS M A E s (if p then x else y) Q d:=jG (λ_=>e▸h u) λ_=>c▸h v
def tM{a b c:Type}{x y:StateT SortSt Sem a}{J:b->c->StateT SortSt Sem a}{Q:a->SortSt->Prop}{d:SortSt}[Decidable p](P:b->c->Prop)(u:b)(v:c)(e:y=J u v)(h:∀u v,P u v->wpS M A E s (J u v) Q d)(n:¬p->P u v)(k:(∀u v,P u v->wpS M A E s (J u v) Q d)->p->wpS M A E s x Q d):wpS M A E s (if p then x else y) Q d:=jG (λz=>e▸h u v (n z)) (k h)
def E4{a b:Type}{x y:StateT SortSt Sem a}{J:b->StateT SortSt Sem a}{Q:a->SortSt->Prop}{c:SortSt}[Decidable p](P:b->SortSt->Prop)(u:b)(e:y=J u)(h:∀v t,P v t->wpS M A E s (J v) Q t)(n:¬p->P u c)(k:(∀v t,P v t->wpS M A E s (J v) Q t)->p->wpS M A E s x Q c):wpS M A E s (if p then x else y) Q c:=jG (λz=>e▸h u c (n z)) (k h)
def Ql{f g i j k:Type}{P:f×g×i×j×k->Prop}(h:∀a b c d e,P (a,b,c,d,e))(r:f×g×i×j×k):P r:=h r.1 r.2.1 r.2.2.1 r.2.2.2.1 r.2.2.2.2
def JP{g i j k l m:Type}{P:g×i×j×k×l×m->Prop}(h:∀a b c d e f,P (a,b,c,d,e,f))(r:g×i×j×k×l×m):P r:=h r.1 r.2.1 r.2.2.1 r.2.2.2.1 r.2.2.2.2.1 r.2.2.2.2.2
def JQ{i j k l m n o:Type}{P:i×j×k×l×m×n×o->Prop}(h:∀a b c d e f g,P (a,b,c,d,e,f,g))(r:i×j×k×l×m×n×o):P r:=h r.1 r.2.1 r.2.2.1 r.2.2.2.1 r.2.2.2.2.1 r.2.2.2.2.2.1 r.2.2.2.2.2.2
def E5{st:SortSt}(C:Cm M A s κ G c)(hk:kindOf st=κ)(ga:∀ x∈a.toList,G x)(gb:∀ x∈b.toList,G x)(sa:Af c a.toList)(sb:Af c b.toList)
  (hd:∀x∈a.toList,∀y∈b.toList,c x y=true\/c y x=true) (h1:1<=a.size) (h2:1<=b.size) (hf:∀y∈b.toList.take 1,∀x∈a.toList,c y x=true) (hl:∀x∈a.toList.drop (a.size-1),∀y∈b.toList,c y x=true)
  (q:∀r O,Ag st O->Rs c a.toList b.toList r.toList->Q r O):wpS M A E s (E2 a b) Q st:=by
 have la:a.toList.length=a.size:=rfl;have lb:b.toList.length=b.size:=rfl;obtain⟨b0,hb0,hb1,hb2⟩:=qJ (a:=b) (i:=0) h2;have t1:b.toList.take 1=[b0]:=by have:=jU hb1;rwa[drop_zero]at this
 have m0:Mg c a.toList b.toList [b0] 0 1:=by
  have:=(Mg.mk (c:=c) (la:=a.toList) (lb:=b.toList) (out:=[]) (i:=0) (j:=0) (by simp) .nil (λ_ h=>by simp at h) (zero_le _) (zero_le _)).right sb (k:=1) (by omega) (by rw[drop_zero,drop_zero];exact hf);rwa[drop_zero,t1]at this
 have dn:∀{o:Array Keyed} {i j:Nat},Mg c a.toList b.toList o.toList i j->(i=a.size\/j=b.size)->Rs c a.toList b.toList (o++a.extract i a.size++b.extract j b.size).toList:=λ{o i j} m h=>by
  rw[toList_append,toList_append,tL,tL];exact m.done sa sb h
 have ls:∀{o:Array Keyed} {i j:Nat},Mg c a.toList b.toList o.toList i j->i+1=a.size->Rs c a.toList b.toList (o++b.extract j b.size++a.extract i a.size).toList:=λ{o i j} m h=>by
  rw[toList_append,toList_append,tL,tL];exact m.last sa sb h (by rw[show i=a.size-1 by lia];exact hl)
 have pa:∀{o:Array Keyed} {i j:Nat} {x:Keyed},Mg c a.toList b.toList o.toList i j->a.toList[i]?=some x->(∀y∈b.toList.drop j,c x y=true)->Mg c a.toList b.toList (o.push x).toList (i+1) j:=λ{o i j x} m L h=>by
  have:=m.left sa (k:=1) (sL.mp L).1 (by rw[jU L];intro z D1;cases Ah.mp D1;exact h);rwa[jU L,← Fb]at this
 have pb:∀{o:Array Keyed} {i j:Nat} {x:Keyed},Mg c a.toList b.toList o.toList i j->b.toList[j]?=some x->(∀y∈a.toList.drop i,c x y=true)->Mg c a.toList b.toList (o.push x).toList i (j+1):=λ{o i j x} m L h=>by
  have:=m.right sb (k:=1) (sL.mp L).1 (by rw[jU L];intro z D1;cases Ah.mp D1;exact h);rwa[jU L,← Fb]at this
 refine wpS_bind (wpS_lift (Bx ⟨rfl,?_⟩));refine wpS_bind (bL hb0 (eQ (λn1=>wpS_pure (q _ _ .rfl' (dn m0 (.inr n1)))) λn1=>eQ (λn2=>wpS_pure (q _ _ .rfl' (ls m0 n2))) λn2=>?_));refine wpS_bind (wpS_get ?_);refine wpS_bind (wpS_mono (wpS_forRange (λi (r:Option (Array Keyed)×Array Keyed×Nat×Nat×Nat) O=>Ag st O/\r.1=none/\Mg c a.toList b.toList r.2.1.toList r.2.2.1 r.2.2.2.1/\r.2.2.1+1<a.size/\r.2.2.2.1<b.size/\i+1<=r.2.1.size)
  (Q:=λr O=>Ag st O/\∃o,r.1=some o/\Rs c a.toList b.toList o.toList) ?_ ?_ ⟨.rfl',rfl,m0,by dsimp only;lia,by dsimp only;lia,hF _⟩) ?_)
 ·refine λn=>Ql λo out F B m st1 _ hn W=>AN λI=>?_;obtain⟨l1,-,mg,p,f,w⟩:=W;dsimp only at mg p f w;refine I (wpS_bind (wpS_mono (wpS_forRange (λi (r:Option (Array Keyed)×Array Keyed×Nat×Nat×Nat×Nat) O=>Ag st O/\r.1=none/\Mg c a.toList b.toList r.2.1.toList r.2.2.1 r.2.2.2.1/\r.2.2.1+1 < a.size/\r.2.2.2.1 < b.size/\n+1+i<=r.2.1.size)
   (Q:=λr O=>Ag st O/\((r.1=none/\Mg c a.toList b.toList r.2.1.toList r.2.2.1 r.2.2.2.1/\r.2.2.1+1<a.size/\r.2.2.2.1<b.size/\n+2<=r.2.1.size)\/∃o,r.1=some o/\Rs c a.toList b.toList o.toList)) ?_ ?_ ⟨l1,rfl,mg,p,f,w⟩) ?_))
  ·refine λi=>JP λo out F B ac bc N _ hi W=>AN λI=>?_;obtain⟨l2,-,mg,p,f,w⟩:=W;dsimp only at mg p f w;obtain⟨y,π,P,R⟩:=qJ (a:=b) f;obtain⟨x,S,T,U⟩:=qJ (a:=a) (show F < a.size by lia);refine I (wpS_bind (bL π (wpS_bind (bL S (wpS_bind (IH C (l2.k.trans hk) (gb y R) (ga x U) (jG (λe=>?_) λe=>?_)))))))
   ·have e':c x y=true:=(hd x U y R).resolve_right e;have l:=pa mg T (λz D1=>(lL P sb z D1).elim (λh=>h▸e') (C.tr e'));have X:n+1+i<(out.push x).size:=by rw[size_push];exact lt_succ_of_le w
    exact wpS_bind (bL S (eQ (λJ=>wpS_pure ⟨l2,.inr ⟨_,rfl,ls l J⟩⟩) λJ=>kL (wpS_pure ⟨l2,.inl ⟨rfl,l,lt_of_le_of_ne p J,f,gY (by simp) X⟩⟩) (wpS_pure ⟨l2,rfl,l,lt_of_le_of_ne p J,f,X⟩)))
   ·have l:=pb mg P (λz D1=>(lL T sa z D1).elim (λh=>h▸e) (C.tr e));have X:n+1+i<(out.push y).size:=by rw[size_push];exact lt_succ_of_le w
    exact wpS_bind (bL π (eQ (λJ=>wpS_pure ⟨l2,.inr ⟨_,rfl,dn l (.inr J)⟩⟩) λJ=>kL (wpS_pure ⟨l2,.inl ⟨rfl,l,p,lt_of_le_of_ne f J,gY (by simp) X⟩⟩) (wpS_pure ⟨l2,rfl,l,p,lt_of_le_of_ne f J,X⟩)))
  ·rintro⟨o,out,F,B,ac,bc⟩ N ⟨l2,rfl,mg,p,f,w⟩;have:=mg.len;dsimp only at mg p f w this;simp at this w;lia
  refine JP λo out F B ac bc N W=>AN λI=>?_;obtain⟨l2,⟨rfl,mg,p,f,w⟩|⟨r,rfl,hr⟩⟩:=W
  case inr=>exact I (wpS_pure ⟨l2,r,rfl,hr⟩)
  dsimp only at mg p f w;refine I (wpS_bind (wpS_lift (Bx ⟨rfl,?_⟩)));refine wpS_bind (wpS_mono (wpS_forRange (λi (r:Option (Array Keyed)×Array Keyed×Nat×Nat×Nat×Nat×Nat) O=>Ag st O/\r.1=none/\Mg c a.toList b.toList r.2.1.toList r.2.2.1 r.2.2.2.1/\r.2.2.1+1<a.size/\r.2.2.2.1<b.size/\n+2+i<=r.2.1.size)
   (Q:=λr O=>Ag st O/\((r.1=none/\Mg c a.toList b.toList r.2.1.toList r.2.2.1 r.2.2.2.1/\r.2.2.1+1<a.size/\r.2.2.2.1<b.size/\n+2<=r.2.1.size)\/∃o,r.1=some o/\Rs c a.toList b.toList o.toList)) ?_ ?_ ⟨l2,rfl,mg,p,f,w⟩) ?_)
  ·refine λi=>JQ λo out F B m ac bc N _ hi W=>AN λI=>?_;obtain⟨l2,-,mg,p,f,w⟩:=W;dsimp only at mg p f w;obtain⟨y,π,P,R⟩:=qJ (a:=b) f;have x0:=Nat.lt_of_succ_lt p;refine I ?_;dsimp only;apply Qk m (m-1);rfl;rfl
   intro g;refine(wpS_bind (lM λst3 K=>wpS_bind (bL π (wpS_bind (JO C ((l2.trans K).k.trans hk) ga (gb y R) sa (λx L=>hd x L y R) (b:=F) (n:=a.size-F) (le_of_eq (Nat.add_sub_of_le (AO x0))) (Nat.sub_pos_of_lt x0) λk k1 k2 k3=>?_)))))
   replace K:=l2.trans K
   have f2:∀z∈a.toList.drop (F+k),c y z=true:=λz D1=>by
    obtain⟨j,j1,j2,j3⟩:=tK D1;obtain⟨d,rfl⟩:=exists_eq_add_of_le j1;rw[add_assoc]at j2 j3;exact k3 _ z (le_add_right _ _) (Nat.lt_sub_of_add_lt (by rw[add_comm];exact j2)) j3
   apply tM (λt ia1=>Mg c a.toList b.toList t.toList ia1 B/\n+2+i<=t.size/\(∀z∈a.toList.drop ia1,c y z=true)/\ia1+1<a.size) out F;rfl
   ·refine λt ia1 Y=>AN λI=>?_;obtain⟨l,X,f2,p⟩:=Y;obtain⟨x,S,T,U⟩:=qJ (a:=a) (Nat.lt_of_succ_lt p);have V1:=pb l P f2;have x5:n+2+i < (t.push y).size:=by rw[size_push];exact lt_succ_of_le X
    replace f:B+1<=b.size:=f
    refine I (wpS_bind (bL π (eQ (λe4=>wpS_pure ⟨K,.inr ⟨_,rfl,dn V1 (.inr e4)⟩⟩) λe4=>?_)));generalize t.push y=t at V1 x5 ⊢;generalize B+1=B at V1 e4 f ⊢
    replace f:=lt_of_le_of_ne f e4
    refine wpS_bind (bL S (wpS_bind (JO C (K.k.trans hk) gb (ga x U) sb (λz D1=>(hd x U z D1).symm) (b:=B) (n:=b.size-B) (le_of_eq (Nat.add_sub_of_le (AO f))) (Nat.sub_pos_of_lt f) λj j1 j2 j3=>?_)));have f4:∀z∈b.toList.drop (B+j),c x z=true:=λz D1=>by
     obtain⟨v,v1,v2,v3⟩:=tK D1;obtain⟨d,rfl⟩:=exists_eq_add_of_le v1;rw[add_assoc]at v2 v3;exact j3 _ z (le_add_right _ _) (Nat.lt_sub_of_add_lt (by rw[add_comm];exact v2)) v3
    apply tM (λH ib2=>Mg c a.toList b.toList H.toList ia1 ib2/\n+2+i<H.size/\(∀z∈b.toList.drop ib2,c x z=true)/\ib2<b.size) t B;rfl
    ·intro H ib2 Y;have σ:=pa Y.1 T Y.2.2.1;have x6:n+2+i+1<(H.push x).size:=by rw[size_push];exact Nat.succ_lt_succ Y.2.1
     exact wpS_bind (bL S (eQ (λe6=>wpS_pure ⟨K,.inr ⟨_,rfl,ls σ e6⟩⟩) λe6=>kL (wpS_pure ⟨K,.inl ⟨rfl,σ,lt_of_le_of_ne p e6,Y.2.2.2,gY (by lia) x6⟩⟩) (wpS_pure ⟨K,rfl,σ,lt_of_le_of_ne p e6,Y.2.2.2,AO x6⟩)))
    ·exact λhj0=>⟨V1,x5,by rw[Nat.eq_zero_of_not_pos hj0]at f4;exact f4,f⟩
    ·intro key hj0;have mg4:Mg c a.toList b.toList (t++b.extract B (B+j)).toList ia1 (B+j):=by
      rw[toList_append,gZ,add_sub_cancel_left];refine V1.right sb (Nat.add_le_of_le_sub' (AO f) j1) λz D1 u hu=>?_;obtain⟨v,v1,v2⟩:=lO D1;have:=j2 v z v1 v2;exact(lL T sa u hu).elim (λh=>h▸this) (C.tr this)
     exact eQ (λe5=>wpS_pure ⟨K,.inr ⟨_,rfl,dn mg4 (.inr e5)⟩⟩) λe5=>key _ _ ⟨mg4,by rw[size_append];exact Ao x5 (le_add_right _ _),f4,lt_of_le_of_ne mg4.hj e5⟩
   ·exact λhk0=>⟨mg,w,by rw[Nat.eq_zero_of_not_pos hk0]at f2;exact f2,p⟩
   ·intro key hk0;have l:Mg c a.toList b.toList (out++a.extract F (F+k)).toList (F+k) B:=by
     rw[toList_append,gZ,add_sub_cancel_left];refine mg.left sa (Nat.add_le_of_le_sub' (AO x0) k1) λx L z D1=>?_;obtain⟨j,j1,j2⟩:=lO L;have:=k2 j x j1 j2;exact(lL P sb z D1).elim (λh=>h▸this) (C.tr this)
    exact eQ (λJ=>wpS_pure ⟨K,.inr ⟨_,rfl,ls l J⟩⟩) λJ=>eQ (λe3=>wpS_pure ⟨K,.inr ⟨_,rfl,dn l (.inl e3)⟩⟩) λe3=>key _ _ ⟨l,by rw[size_append];exact gY w (le_add_right _ _),f2,lt_of_le_of_ne (lt_of_le_of_ne l.hi e3) J⟩
  ·rintro⟨o,out,F,B,m,ac,bc⟩ N ⟨l2,rfl,mg,p,f,w⟩;have:=mg.len;dsimp only at mg p f w this;simp at this w;lia
  refine JQ λo out F B m ac bc N W=>AN λI=>?_;obtain⟨l2,⟨rfl,mg,p,f,w⟩|⟨r,rfl,hr⟩⟩:=W;exact I (wpS_bind (lM λst3 K=>wpS_pure ⟨l2.trans K,rfl,mg,p,f,w⟩));exact I (wpS_pure ⟨l2,r,rfl,hr⟩)
 ·rintro⟨o,out,F,B,m⟩ st1 ⟨l1,rfl,mg,p,f,w⟩;have:=mg.len;dsimp only at mg p f w this;simp at this w;lia
 ·rintro⟨o,out,F,B,m⟩ st1 ⟨l1,r,rfl,hr⟩;exact wpS_pure (q _ _ l1 hr)
structure Wh(c:Keyed->Keyed->Bool)(a b out:Array Keyed)(na nb:Nat):Prop where
 m:Mg (λx y=>c y x) b.toList.reverse a.toList.reverse out.toList (b.size-nb) (a.size-na)
 ha:na<=a.size
 hb:nb<=b.size
theorem Wh.symm{c:Keyed->Keyed->Bool}{a:Array Keyed}{b:Array Keyed}{o:Array Keyed}{N:Nat}{n:Nat}(w:Wh c a b o N n):Wh c b a o n N:=⟨w.m.symm,w.hb,w.ha⟩
theorem Wh.len{c:Keyed->Keyed->Bool}{a:Array Keyed}{b:Array Keyed}{o:Array Keyed}{N:Nat}{n:Nat}(w:Wh c a b o N n):o.size+N+n=a.size+b.size:=by
 have:=w.m.len;have:=w.ha;have:=w.hb
 grind
def pH(h:Af c l):Af (λx y=>c y x) l.reverse:=List.pairwise_reverse.mpr h
def Qm(h:Rs (λx y=>c y x) L.reverse a.reverse l):Rs c a L l.reverse:=
 ⟨by have:=(List.reverse_perm l).trans h.1;rw[← List.reverse_append]at this;exact this.trans (List.reverse_perm _),List.pairwise_reverse.mpr h.2⟩
def iP{a:Array Keyed}(h:n<=a.size):a.toList.reverse.drop (a.size-n)=(a.toList.take n).reverse:=by
 rw[List.drop_reverse];grind
theorem Wh.done(w:Wh c a b o N n)(d:Af c a.toList)(s:Af c b.toList)(h:N=0\/n=0):Rs c a.toList b.toList (a.extract 0 N++b.extract 0 n++o.reverse).toList:=by
 have:=Qm (w.m.done (pH s) (pH d) (by grind));rw[iP w.ha,iP w.hb]at this
 simp_all
theorem Wh.last(w:Wh c a b o N n)(g:Af c a.toList)(s:Af c b.toList)(h:n=1)(d:∀y∈b.toList.take 1,∀x∈a.toList,c y x=true):Rs c a.toList b.toList (b.extract 0 n++a.extract 0 N++o.reverse).toList:=by
 have:=Qm (w.m.last (pH s) (pH g) (by simp;have:=w.hb;simp_all) (by rw[iP w.hb,h];intro x e y f;exact d x (List.mem_reverse.mp e) y (List.mem_reverse.mp f)));rw[iP w.ha,iP w.hb]at this
 simp_all
def wC{a:Array Keyed}(h:n<=a.size)(b:k<=n):(a.extract (n-k) n).reverse.toList=(a.toList.reverse.drop (a.size-n)).take k:=by
 rw[iP h,toList_reverse,gZ,List.take_reverse,List.drop_take]
 grind
def Wh.pa(w:Wh c a b o n N)(s:Af c a.toList)(d:k<=n)(h:∀ i x,n-k<=i->i < n->a.toList[i]? = some x->∀ y∈b.toList.take N,c y x=true):Wh c a b (o++(a.extract (n-k) n).reverse) (n-k) N:=by
 have:=w.m.right (pH s) (k:=k) (by simp;have:=w.ha;grind) (by
  rw[iP w.hb,← wC w.ha d];intro x e y f;rw[toList_reverse,List.mem_reverse,gZ]at e;obtain⟨j,l,g⟩:=lO e;exact h _ x (by simp) (by lia) g y (List.mem_reverse.mp f))
 rw[← wC w.ha d,← toList_append,show a.size-n+k=a.size-(n-k) by have:=w.ha;lia]at this;exact⟨this,by have:=w.ha;(simp;omega),w.hb⟩
def Wh.to(w:Wh c a b o n N)(s:Af c a.toList)(d:t<=n)(h:∀i x,t<=i->i<n->a.toList[i]?=some x->∀y∈b.toList.take N,c y x=true):Wh c a b (o++(a.extract t n).reverse) t N:=by
 have e:n-(n-t)=t:=by lia
 have:=w.pa s (k:=n-t) (by simp) (by rw[e];exact h)
 simp_all
theorem Wh.push(w:Wh c a b o n N)(s:Af c a.toList)(h1:1<=n)(d:a.toList[n-1]? = some x)(h:∀ y∈b.toList.take N,c y x=true):Wh c a b (o.push x) (n-1) N:=by
 have:=w.pa s h1 (λi z f g j=>by grind);have e:o++(a.extract (n-1) n).reverse=o.push x:=by
  apply Array.toList_inj.mp;rw[toList_append,toList_reverse,gZ,show n-(n-1)=1 by grind,jU d];simp
 simp_all
def jV(h:l[i]?=some x)(s:Af c l):∀y∈l.take (i+1),y=x\/c y x=true:=by
 have:=s.sublist (take_sublist (i+1) l);obtain⟨a,rfl⟩:=sL.mp h;rw[List.take_succ_eq_append_getElem a]at this ⊢;intro y b;rcases Ac.mp b with z|z;exact .inr ((List.pairwise_append.mp this).2.2 y z _ (Ah.mpr rfl));exact .inl (Ah.mp z)
noncomputable def E6:Array Keyed->Array Keyed->StateT SortSt Sem (Array Keyed):=sortPriv% PySem.Builtin.mergeHi
def E7{st:SortSt}(C:Cm M A s κ G c)(hk:kindOf st=κ)(ga:∀ x∈a.toList,G x)(gb:∀ x∈b.toList,G x)(sa:Af c a.toList)(sb:Af c b.toList)
  (hd:∀x∈a.toList,∀y∈b.toList,c x y=true\/c y x=true) (h1:1<=a.size) (h2:1<=b.size) (hf:∀y∈b.toList.take 1,∀x∈a.toList,c y x=true) (hl:∀x∈a.toList.drop (a.size-1),∀y∈b.toList,c y x=true)
  (q:∀r k,Ag st k->Rs c a.toList b.toList r.toList->Q r k):wpS M A E s (E6 a b) Q st:=by
 have la:a.toList.length=a.size:=rfl;have lb:b.toList.length=b.size:=rfl;obtain⟨a0,ha0,ha1,ha2⟩:=qJ (a:=a) (i:=a.size-1) (sub_lt h1 one_pos);have w0:Wh c a b #[a0] (a.size-1) b.size:=by
  have:=(Wh.mk (c:=c) (a:=a) (b:=b) (out:=#[]) (na:=a.size) (nb:=b.size) ⟨by simp,.nil,λ_ h=>by simp at h,by simp,by simp⟩ (hF _) (hF _)).push sa h1 ha1
   (by rw[← lb,take_length];exact hl a0 (by rw[jF ha1];exact Aa))
  exact this
 have dn:∀{o:Array Keyed} {i j:Nat},Wh c a b o i j->(i=0\/j=0)->Rs c a.toList b.toList (a.extract 0 i++b.extract 0 j++o.reverse).toList:=λw h=>w.done sa sb h;have ls:∀{o:Array Keyed} {i j:Nat},Wh c a b o i j->j=1->Rs c a.toList b.toList (b.extract 0 j++a.extract 0 i++o.reverse).toList:=λw h=>w.last sa sb h hf;refine wpS_bind (wpS_lift (Bx ⟨rfl,?_⟩));refine wpS_bind (bL ha0 (eQ (λn1=>wpS_pure (q _ _ .rfl' (dn w0 (.inl n1)))) λn1=>eQ (λn2=>wpS_pure (q _ _ .rfl' (ls w0 n2))) λn2=>?_));refine wpS_bind (wpS_get ?_);refine wpS_bind (wpS_mono (wpS_forRange (λi (r:Option (Array Keyed)×Nat×Nat×Array Keyed×Nat) k=>Ag st k/\r.1=none/\Wh c a b r.2.2.2.1 r.2.1 r.2.2.1/\1<=r.2.1/\2<=r.2.2.1/\i+1<=r.2.2.2.1.size)
  (Q:=λr k=>Ag st k/\∃o,r.1=some o/\Rs c a.toList b.toList o.toList) ?_ ?_ ⟨.rfl',rfl,w0,pos_of_ne_zero n1,lt_of_le_of_ne h2 (hR n2),hF _⟩) ?_)
 ·refine λn=>Ql λo na nb out m st1 _ hn U=>AN λF=>?_;obtain⟨l1,-,O,d,f,B⟩:=U;dsimp only at O d f B;refine F (wpS_bind (wpS_mono (wpS_forRange (λi (r:Option (Array Keyed)×Nat×Nat×Array Keyed×Nat×Nat) k=>Ag st k/\r.1=none/\Wh c a b r.2.2.2.1 r.2.1 r.2.2.1/\1<=r.2.1/\2<=r.2.2.1/\n+1+i<=r.2.2.2.1.size)
   (Q:=λr k=>Ag st k/\((r.1=none/\Wh c a b r.2.2.2.1 r.2.1 r.2.2.1/\1<=r.2.1/\2<=r.2.2.1/\n+2<=r.2.2.2.1.size)\/∃o,r.1=some o/\Rs c a.toList b.toList o.toList)) ?_ ?_ ⟨l1,rfl,O,d,f,B⟩) ?_))
  ·refine λi=>JP λo na nb out ac bc L _ hi U=>AN λF=>?_;obtain⟨l2,-,O,d,f,B⟩:=U;dsimp only at O d f B;have W:=AO f;obtain⟨y,N,π,P⟩:=qJ (a:=b) (Ao (sub_lt W one_pos) O.hb);obtain⟨x,R,S,T⟩:=qJ (a:=a) (Ao (sub_lt d one_pos) O.ha);have sx:=jV S sa;have sy:=jV π sb;rw[sub_add_cancel d]at sx;rw[sub_add_cancel W]at sy;refine F (wpS_bind (bL N (wpS_bind (bL R (wpS_bind (IH C (l2.k.trans hk) (gb y P) (ga x T) (jG (λe=>?_) λe=>?_)))))))
   ·have e':c x y=true:=(hd x T y P).resolve_right e;have l:=(O.symm.push sb W π (λz H=>(sx z H).elim (λh=>h▸e') λh=>C.tr h e')).symm;have X:n+1+i<(out.push y).size:=by rw[size_push];exact lt_succ_of_le B
    exact wpS_bind (bL N (eQ (λI=>wpS_pure ⟨l2,.inr ⟨_,rfl,ls l I⟩⟩) λI=>kL (wpS_pure ⟨l2,.inl ⟨rfl,l,d,lt_of_le_of_ne (Nat.le_sub_one_of_lt f) (hR I),gY (by simp) X⟩⟩) (wpS_pure ⟨l2,rfl,l,d,lt_of_le_of_ne (Nat.le_sub_one_of_lt f) (hR I),X⟩)))
   ·have l:=O.push sa d S (λz H=>(sy z H).elim (λh=>h▸e) λh=>C.tr h e);have X:n+1+i<(out.push x).size:=by rw[size_push];exact lt_succ_of_le B
    exact wpS_bind (bL R (eQ (λI=>wpS_pure ⟨l2,.inr ⟨_,rfl,dn l (.inl I)⟩⟩) λI=>kL (wpS_pure ⟨l2,.inl ⟨rfl,l,pos_of_ne_zero I,f,gY (by simp) X⟩⟩) (wpS_pure ⟨l2,rfl,l,pos_of_ne_zero I,f,X⟩)))
  ·rintro⟨o,na,nb,out,ac,bc⟩ L ⟨l2,rfl,O,d,f,B⟩;have:=O.len;dsimp only at O d f B this;lia
  refine JP λo na nb out ac bc L U=>AN λF=>?_;obtain⟨l2,⟨rfl,O,d,f,B⟩|⟨r,rfl,hr⟩⟩:=U
  case inr=>exact F (wpS_pure ⟨l2,r,rfl,hr⟩)
  dsimp only at O d f B;refine F (wpS_bind (wpS_lift (Bx ⟨rfl,?_⟩)));refine wpS_bind (wpS_mono (wpS_forRange (λi (r:Option (Array Keyed)×Nat×Nat×Array Keyed×Nat×Nat×Nat) k=>Ag st k/\r.1=none/\Wh c a b r.2.2.2.1 r.2.1 r.2.2.1/\1<=r.2.1/\2<=r.2.2.1/\n+2+i<=r.2.2.2.1.size)
   (Q:=λr k=>Ag st k/\((r.1=none/\Wh c a b r.2.2.2.1 r.2.1 r.2.2.1/\1<=r.2.1/\2<=r.2.2.1/\n+2<=r.2.2.2.1.size)\/∃o,r.1=some o/\Rs c a.toList b.toList o.toList)) ?_ ?_ ⟨l2,rfl,O,d,f,B⟩) ?_)
  ·refine λi=>JQ λo na nb out m ac bc L _ hi U=>AN λF=>?_;obtain⟨l2,-,O,d,f,B⟩:=U;dsimp only at O d f B;have W:=AO f;obtain⟨y,N,π,P⟩:=qJ (a:=b) (Ao (sub_lt W one_pos) O.hb);have sy:=jV π sb;rw[sub_add_cancel W]at sy;refine F ?_;dsimp only;apply Qk m (m-1);rfl;rfl
   intro g;refine wpS_bind (lM λst3 J=>wpS_bind (bL N (wpS_bind (JO C ((l2.trans J).k.trans hk) ga (gb y P) sa (λx hx=>hd x hx y P) (b:=0) (n:=na) (by rw[BL];exact O.ha) (sub_lt d one_pos) λt k1 k2 k3=>?_))))
   replace J:=l2.trans J
   have f2:∀z∈a.toList.take t,c z y=true:=λz H=>by
    obtain⟨j,hj⟩:=getElem?_of_mem H;rw[getElem?_take]at hj;split at hj;rename_i h;exact k2 j z h (by rw[BL];exact hj);cases hj
   dsimp only;generalize hg:na-t=g';apply tM (λt p=>Wh c a b p t nb/\n+2+i<=p.size/\(∀z∈a.toList.take t,c z y=true)/\1<=t) na out;rfl
   ·refine λt p Y=>AN λF=>?_;obtain⟨l,X,f2,d⟩:=Y;have K:=(l.symm.push sb W π f2).symm;obtain⟨x,R,S,T⟩:=qJ (a:=a) (Ao (sub_lt d one_pos) l.ha);have sx:=jV S sa;rw[sub_add_cancel d]at sx;have x5:n+2+i < (p.push y).size:=by rw[size_push];exact lt_succ_of_le X
    replace f:=Nat.le_sub_one_of_lt f
    refine F (wpS_bind (bL N (eQ (λe4=>wpS_pure ⟨J,.inr ⟨_,rfl,ls K e4⟩⟩) λe4=>?_)));generalize p.push y=p at K x5 ⊢;generalize nb-1=nb at K e4 f ⊢;refine wpS_bind (bL R (wpS_bind (JO C (J.k.trans hk) gb (ga x T) sb (λz H=>(hd x T z H).symm) (b:=0) (n:=nb) (by rw[BL];exact K.hb) (sub_lt f one_pos) λj j1 j2 j3=>?_)));have f4:∀z∈b.toList.take j,c z x=true:=λz H=>by
     obtain⟨v,hv⟩:=getElem?_of_mem H;rw[getElem?_take]at hv;split at hv;rename_i h;exact j2 v z h (by rw[BL];exact hv);cases hv
    dsimp only;generalize hg:nb-j=g'';apply tM (λj D1=>Wh c a b D1 t j/\n+2+i<D1.size/\(∀z∈b.toList.take j,c z x=true)/\2<=j) nb p;rfl
    ·intro j D1 Y;have σ:=Y.1.push sa d S Y.2.2.1;have x6:n+2+i+1<(D1.push x).size:=by rw[size_push];exact Nat.succ_lt_succ Y.2.1
     exact wpS_bind (bL R (eQ (λV1=>wpS_pure ⟨J,.inr ⟨_,rfl,dn σ (.inl V1)⟩⟩) λV1=>kL (wpS_pure ⟨J,.inl ⟨rfl,σ,pos_of_ne_zero V1,Y.2.2.2,gY (by lia) x6⟩⟩) (wpS_pure ⟨J,rfl,σ,pos_of_ne_zero V1,Y.2.2.2,AO x6⟩)))
    ·refine λhj0=>⟨K,x5,?_,lt_of_le_of_ne f (hR e4)⟩;rw[Nat.eq_zero_of_not_pos hj0]at hg;rw[Nat.le_antisymm j1 (Nat.le_of_sub_eq_zero hg)]at f4;exact f4
    ·intro key hj0;have mg4:Wh c a b (p++(b.extract j nb).reverse) t j:=(K.symm.to sb j1 λi u i1 i2 i3 z H=>by
      have:=j3 i u i1 i2 (by rw[BL];exact i3);exact(sx z H).elim (λh=>h▸this) λh=>C.tr h this).symm
     exact eQ (λe5=>wpS_pure ⟨J,.inr ⟨_,rfl,ls mg4 e5⟩⟩) λe5=>eQ (λV1=>wpS_pure ⟨J,.inr ⟨_,rfl,dn mg4 (.inr V1)⟩⟩) λV1=>key _ _ ⟨mg4,by rw[size_append];exact Ao x5 (le_add_right _ _),f4,lt_of_le_of_ne (pos_of_ne_zero V1) (hR e5)⟩
   ·refine λhk0=>⟨O,B,?_,d⟩;rw[Nat.eq_zero_of_not_pos hk0]at hg;rw[Nat.le_antisymm k1 (Nat.le_of_sub_eq_zero hg)]at f2;exact f2
   ·intro key hk0;have l:Wh c a b (out++(a.extract t na).reverse) t nb:=O.to sa k1 λi x i1 i2 i3 z H=>by
     have:=k3 i x i1 i2 (by rw[BL];exact i3);exact(sy z H).elim (λh=>h▸this) λh=>C.tr h this
    exact eQ (λI=>wpS_pure ⟨J,.inr ⟨_,rfl,dn l (.inl I)⟩⟩) λI=>key _ _ ⟨l,by rw[size_append];exact gY B (le_add_right _ _),f2,pos_of_ne_zero I⟩
  ·rintro⟨o,na,nb,out,m,ac,bc⟩ L ⟨l2,rfl,O,d,f,B⟩;have:=O.len;dsimp only at O d f B this;lia
  refine JQ λo na nb out m ac bc L U=>AN λF=>?_;obtain⟨l2,⟨rfl,O,d,f,B⟩|⟨r,rfl,hr⟩⟩:=U;exact F (wpS_bind (lM λst3 J=>wpS_pure ⟨l2.trans J,rfl,O,d,f,B⟩));exact F (wpS_pure ⟨l2,r,rfl,hr⟩)
 ·rintro⟨o,na,nb,out,m⟩ st1 ⟨l1,rfl,O,d,f,B⟩;have:=O.len;dsimp only at O d f B this;lia
 ·rintro⟨o,na,nb,out,m⟩ st1 ⟨l1,r,rfl,hr⟩;exact wpS_pure (q _ _ l1 hr)
def E8{b a:Z}(h:Q ⟨⟩ a):wpS M A E s (set a:StateT Z Sem PUnit) Q b:=by
 exact eH ⟨rfl,h⟩
theorem rF(o:Nat):∀ (m:List Keyed) (k:Nat) (a:Array Keyed),o+k+m.length<=a.size->((m.zipIdx k).foldl (λa (p:Keyed×Nat)=>a.setIfInBounds (o+p.2) p.1) a).toList=a.toList.take (o+k)++m++a.toList.drop (o+k+m.length)
 |[],k,a,h=>by simp
 | x::m,k,a,h=>by
   rw[List.zipIdx_cons,foldl_cons,rF o m (k+1) _ (by grind)];simp only[Array.toList_setIfInBounds,length_cons];have b:o+k<a.toList.length:=by grind
   rw[show o+(k+1)=o+k+1 by exact rfl,List.take_succ_eq_append_getElem (by simp_all),List.getElem_set_self,List.take_set_of_le (hF _),List.drop_set_of_lt (by lia)];simp[add_assoc,add_comm 1]
def _root_.List.drop_take_comm'{l:List Keyed}(h:j<=n):(l.take n).drop j=(l.drop j).take (n-j):=List.drop_take ..
def E9{a:SortSt}(C:Cm M A s κ G c)(B:PyProof.Rows.kindOf a=κ)(U:∀ x∈(arrOf a).toList,G x)(N:failedOf a=none)
  (O:(arrOf a).toList=p++(X++(Y++q))) (l:p.length=sa) (m:X.length=na) (e3:Y.length=nb) (e4:sb=sa+na) (hp:(pendingOf a)[i]?=some (sa,na,pa)) (π:(pendingOf a)[i+1]?=some (sb,nb,pb)) (h1:1<=na) (h2:1<=nb)
  (F:Af c X) (H:Af c Y) (hd:∀x∈X,∀y∈Y,c x y=true\/c y x=true)
  (k:∀(f:SortSt) σ,PyProof.Rows.kindOf f=κ->failedOf f=none->pendingOf f=((pendingOf a).setIfInBounds i (sa,na+nb,pa)).eraseIdxIfInBounds (i+1)->(arrOf f).toList=p++(σ++q)->σ.Perm (X++Y)->Af c σ->Q true f) :
  wpS M A E s (mergeAt' i) Q a:=by
 have P:∀x∈X,G x:=λx o=>U x (by rw[O];simp[o]);have R:∀x∈Y,G x:=λx o=>U x (by rw[O];simp[o]);subst l m e3 e4;have V1:((arrOf a).toList.drop p.length).take X.length=X:=by rw[O];simp
 have W:((arrOf a).toList.drop (p.length+X.length)).take Y.length=Y:=by rw[O,← append_assoc];simp[List.drop_append,take_append]
 refine wpS_bind (wpS_get ?_);rw[hp,π];dsimp only;refine wpS_bind (E8 ?_);obtain⟨y,b,rfl⟩:∃y b,Y=y::b:=by cases Y with|nil=>simp at h2|cons y b=>exact⟨y,b,rfl⟩
 have yY:∀z∈y::b,z=y\/c y z=true:=λz d=>(Az.mp d).imp id λh=>(Ew.mp H).1 z h;refine wpS_bind (bL (x:=y) ?_ ?_)
 ·have:(arrOf a).toList[p.length+X.length]?=some y:=by rw[O,← append_assoc,← AL];simp
  simpa using this
 refine wpS_bind (zZ C B V1 rfl P (R y Aa) F (λx o=>hd x o y Aa) h1 λj j1 S j3=>?_);dsimp only;have I:=List.pairwise_append.mp (show Af c (X.take j++X.drop j) by rw[take_append_drop];exact F);have w:∀x,c x y=true->∀z∈y::b,c x z=true:=λx h z d=>(yY z d).elim (λe=>e▸h) (C.tr h);have fin:∀σ:List Keyed,σ=X++(y::b)->Af c σ->Q true (SortSt.mk' (PyProof.Rows.kindOf a) (arrOf a) (((pendingOf a).setIfInBounds i (p.length,X.length+(y::b).length,pa)).eraseIdxIfInBounds (i+1)) (gallopOf a) (failedOf a)):=λσ e h=>k _ σ B N rfl (by rw[e,append_assoc];exact O) (by rw[e]) h;by_cases T:X.length-j=0;rw[gV (DL.mpr T)];refine wpS_pure (fin _ rfl (List.pairwise_append.mpr ⟨F,H,λx o z d=>w x (S x ?_) z d⟩));rw[Co (by grind)];exact o
 rw[a0m (by rw[DL];exact T)];obtain⟨x,o⟩:∃x,X[X.length-1]?=some x:=⟨X[X.length-1],oI (by lia)⟩;have xX:∀z∈X,z=x\/c z x=true:=λz d=>jV o F z (by rw[show X.length-1+1=X.length by exact sub_add_cancel h1,take_length];exact d);have mx:=An o;refine wpS_bind (bL (x:=x) ?_ ?_)
 ·have:(arrOf a).toList[p.length+(X.length-1)]?=some x:=by rw[O,Di (by simp),add_sub_cancel_left,BG (by lia)];exact o
  rw[show p.length+j+(X.length-j)-1=p.length+(X.length-1) by lia];simpa using this
 refine wpS_bind (zZ C B W rfl R (P x mx) H (λz d=>(hd x mx z d).symm) (by simp) λn n1 n2 n3=>?_);dsimp only;by_cases J:n=0;rw[gV (DL.mpr J)];subst J;exact wpS_pure (fin _ rfl (List.pairwise_append.mpr ⟨F,H,λz d u g=>(xX z d).elim (λe=>e▸n3 u g) λh=>C.tr h (n3 u g)⟩))
 rw[a0m (by rw[DL];exact J)];have K:=List.pairwise_append.mp (show Af c ((y::b).take n++(y::b).drop n) by rw[take_append_drop];exact H);have l:((arrOf a).extract (p.length+j) (p.length+X.length)).toList=X.drop j:=by
  rw[gZ,show p.length+X.length-(p.length+j)=X.length-j by lia,← drop_drop,← List.drop_take_comm' j1,V1]
 have m:((arrOf a).extract (p.length+X.length) (p.length+X.length+n)).toList=(y::b).take n:=by
  rw[gZ,add_sub_cancel_left,← W,take_take,Nat.min_eq_left n1]
 have L:((arrOf a).extract (p.length+j) (p.length+X.length)).size=X.length-j:=by rw[← Bz,l,Fd]
 have z2:((arrOf a).extract (p.length+X.length) (p.length+X.length+n)).size=n:=by rw[← Bz,m,BA];lia
 have q1:∀z∈X.drop j,G z:=λz d=>P z (mem_of_mem_drop d);have q2:∀z∈(y::b).take n,G z:=λz d=>R z (BH d);have q3:∀z∈X.drop j,∀u∈(y::b).take n,c z u=true\/c u z=true:=λz d u g=>hd z (mem_of_mem_drop d) u (BH g);have q4:∀u∈((y::b).take n).take 1,∀z∈X.drop j,c u z=true:=λu g z d=>by
  rw[take_take,Nat.min_eq_left (by lia)]at g;cases Ah.mp g;exact j3 z d
 have q5:∀z∈(X.drop j).drop (X.length-j-1),∀u∈(y::b).take n,c u z=true:=λz d u g=>by
  rw[drop_drop,Nat.sub_right_comm,Nat.add_sub_of_le (by grind),jF o,sub_add_cancel h1,drop_length]at d;cases Ah.mp d;exact n2 u g
 by_cases b3:X.length-j<=n
 case' pos=>
  rw[gV b3];refine wpS_bind (E5 C B (by rw[l];exact q1) (by rw[m];exact q2) (by rw[l];exact I.2.1) (by rw[m];exact K.1) (by rw[l,m];exact q3) (gY (pos_of_ne_zero T) (le_of_eq L.symm)) (gY (pos_of_ne_zero J) (le_of_eq z2.symm)) (by rw[l,m];exact q4) (by rw[L,l,m];exact q5) λr t l2 rs=>?_)
 case' neg=>
  rw[a0m b3];refine wpS_bind (E7 C B (by rw[l];exact q1) (by rw[m];exact q2) (by rw[l];exact I.2.1) (by rw[m];exact K.1) (by rw[l,m];exact q3) (gY (by lia) (le_of_eq L.symm)) (gY (by lia) (le_of_eq z2.symm)) (by rw[l,m];exact q4) (by rw[L,l,m];exact q5) λr t l2 rs=>?_)
 all_goals
  rw[l,m]at rs;have rl:r.toList.length=X.length-j+n:=by rw[rs.1.length_eq,AL,Fd,BA];lia
  have mr:∀u∈r.toList,u∈X.drop j\/u∈(y::b).take n:=λu g=>Ac.mp (rs.1.mem_iff.mp g);refine wpS_bind (wpS_modify (wpS_bind (wpS_get (wpS_pure ?_))));show Q (failedOf t).isNone _;rw[show(failedOf t).isNone=true by rw[l2.f];show(failedOf a).isNone=true;rw[N];rfl];refine k _ (X.take j++r.toList++(y::b).drop n) (l2.k.trans B) (l2.f.trans N) l2.p ?_ ?_ (List.pairwise_append.mpr ⟨List.pairwise_append.mpr ⟨I.1,rs.2,λu g v D1=>?_⟩,K.2.1,λu g v D1=>?_⟩)
  ·have:=rF (p.length+j) r.toList 0 (arrOf t) (by rw[l2.a];show _<=(arrOf a).size;rw[← Bz,O,rl];simp at n1 ⊢;grind);refine this.trans ?_;rw[l2.a];show(arrOf a).toList.take _++_++(arrOf a).toList.drop _=_;rw[rl,add_zero,show p.length+j+(X.length-j+n)=p.length+X.length+n by simp_all +arith,O];have t1:(p++(X++(y::b++q))).take (p.length+j)=p++X.take j:=by
    rw[take_append,Co (by simp),add_sub_cancel_left,take_append,show j-X.length=0 by simp[*]];simp
   have t2:(p++(X++(y::b++q))).drop (p.length+X.length+n)=(y::b).drop n++q:=by
    rw[← append_assoc,← AL,← drop_drop,List.drop_left,List.drop_append_of_le_length n1]
   rw[t1,t2];simp
  ·have:(X.take j++(X.drop j++(y::b).take n)++(y::b).drop n)=X++(y::b):=by
    rw[← append_assoc,take_append_drop,append_assoc,take_append_drop]
   exact((rs.1.append_left _).append_right _).trans (by rw[this])
  ·rcases mr v D1 with h|h;exact I.2.2 u g v h;exact w u (S u g) v (BH h)
  ·rcases Ac.mp g with h|h;exact w u (S u h) v (mem_of_mem_drop D1);rcases mr u h with h|h;exact(xX u (mem_of_mem_drop h)).elim (λe=>e▸n3 v D1) λe=>C.tr e (n3 v D1);exact K.2.2 u h v D1
def CP(c:Keyed->Keyed->Bool)(l:List Keyed):Prop:=l.Pairwise λx y=>c x y=true\/c y x=true
def CP.perm(h:CP c l)(p:l.Perm a):CP c a:=p.pairwise h λh=>h.symm
def CP.two{i j:Nat}(h:CP c l)(a:i<j)(b:l[i]?=some x)(d:l[j]?=some y):c x y=true\/c y x=true:=by
 obtain⟨e,rfl⟩:=sL.mp b;obtain⟨f,rfl⟩:=sL.mp d;exact List.pairwise_iff_getElem.mp h i j e f a
def mZ{a:Array Keyed}(h:a.toList=p++R)(i:Nat):a[p.length+i]?=R[i]?:=by
 rw[← Bc,h,Di (by lia),add_sub_cancel_left]
def nA{l:List Keyed}(h:i<l.length):∃x,l[i]?=some x/\x∈l:=⟨l[i],oI h,getElem_mem h⟩
def jH{l:List Keyed}(h:l[n]?=some x):l.take (n+1)=l.take n++[x]:=by
 obtain⟨a,rfl⟩:=sL.mp h;simp
def LA{l:List Keyed}(tr:∀{x y z},r x y->r y z->r x z)(f:1<=n)(H:(l.take n).Pairwise r)(b:l[n]?=some x)(d:l[n-1]?=some z)(h:r z x):(l.take (n+1)).Pairwise r:=by
 rw[jH b];obtain⟨m,rfl⟩:∃m,n=m+1:=⟨n-1,by simp[*]⟩;rw[Nat.add_sub_cancel]at d;refine List.pairwise_append.mpr ⟨H,pairwise_singleton _ _,λy a u c=>?_⟩;cases Ah.mp c;rw[jH d]at H a;rcases Ac.mp a with e|e;exact tr ((List.pairwise_append.mp H).2.2 y e z (Ah.mpr rfl)) h
 simp_all
def jI(u v:List Keyed)(j:Nat):(u++v)[u.length+j]?=v[j]?:=by
 rw[Di (le_add_right _ _),add_sub_cancel_left]
def F0{p R:List Keyed}(c:a.toList=p++R)(H:n<=R.length):(mirror a p.length (p.length+n) ((p.length+n-p.length) / 2)).toList=p++((R.take n).reverse++R.drop n):=by
 have b:(R.take n).length=n:=List.length_take_of_le H;apply Fc;intro k;rw[Bc,getElem?_mirror_all (by rw[← Bz,c,AL];exact add_le_add_left H _),← Bc,← Bc,c];rcases lt_or_ge k p.length with h|h;rw[a0m λe=>Nat.not_le_of_lt h e.1,BG h,BG h]
 obtain⟨j,rfl⟩:=exists_eq_add_of_le h;rw[jI,jI];rcases lt_or_ge j n with e|e;obtain⟨d,rfl⟩:=Nat.exists_eq_add_of_lt e;rw[gV ⟨h,Nat.add_lt_add_left e _⟩,show p.length+(p.length+(j+d+1))-1=p.length+(p.length+(j+d))from rfl,← add_assoc,Nat.add_add_add_comm,add_sub_cancel_left,jI,BG (by rw[length_reverse,b];exact e),List.getElem?_reverse (by rw[b];exact e),b,Nat.add_sub_cancel,add_sub_cancel_left,getElem?_take,gV (by lia)];rw[a0m λx=>Nat.not_le_of_lt x.2 (add_le_add_left e _)];obtain⟨d,rfl⟩:=exists_eq_add_of_le e;have:=jI (R.take n).reverse (R.drop n) d;rw[length_reverse,b]at this;rw[this,getElem?_drop]
def F3{x:Keyed}(H:a.toList=p++(t++(m++x::w))):(bubble a (p.length+(t.length+m.length)) (p.length+(t.length+m.length)-(p.length+t.length))).toList=p++(t++(x::(m++w))):=by
 rw[← append_assoc]at H ⊢;rw[← add_assoc,add_sub_cancel_left,← AL];generalize p++t=u at H ⊢;apply Fc;intro i;rw[Bc,getElem?_bubble (by rw[← Bz,H];simp) _ (Nat.le_add_left _ _),Nat.add_sub_cancel,← Bc,← Bc,← Bc,H];rcases lt_or_ge i u.length with h|h;rw[a0m (AF h),a0m λe=>Nat.lt_asymm h e.1,BG h,BG h]
 obtain⟨j,rfl⟩:=exists_eq_add_of_le h;rw[jI,jI,jI];cases j with
 | zero=>
   rw[gV (add_zero _)];exact jI m (x::w) 0
 | succ j=>
   rw[a0m (DN (Nat.lt_add_of_pos_right (succ_pos _))),show u.length+(j+1)-1=u.length+j from rfl,jI,EX];rcases lt_or_ge j m.length with e|e;rw[gV ⟨Nat.lt_add_of_pos_right (succ_pos _),add_le_add_left e _⟩,BG e,BG e];rw[a0m λy=>Nat.not_le_of_lt (Nat.le_of_add_le_add_left y.2) e];obtain⟨d,rfl⟩:=exists_eq_add_of_le e;exact(jI m (x::w) (d+1)).trans (jI m w d).symm
def F4{x:Keyed}(a:R[k]?=some x)(c:l<=k):∃t m w,R=t++(m++x::w)/\l=t.length/\k=t.length+m.length/\R.take l=t/\R.take k=t++m:=by
 obtain⟨d,rfl⟩:=exists_eq_add_of_le c;have f:=(sL.mp a).1;have b:(R.take l).length=l:=List.length_take_of_le (by lia);have e:((R.drop l).take d).length=d:=List.length_take_of_le (by rw[Fd];lia);refine⟨R.take l,(R.drop l).take d,R.drop (l+d+1),?_,b.symm,by rw[b,e],rfl,take_add⟩;rw[← append_assoc,← take_add,← jF a,take_append_drop]
def tO(h:1<=i):p+i-1=p+(i-1):=Nat.add_sub_assoc h p
def Qo{u:SortSt}(C:Cm M A s κ G c)(H:(arrOf u).toList=p++R)(g:∀ x∈R,G x)(B:CP c R)(I:1<=a)(t:a<=R.length)(w:Af c (R.take a))
  (j:∀i n x z (Q:ForInStep (Option (Option Nat)×Nat)->SortSt->Prop),(arrOf u)[p.length+n]?=some x->(arrOf u)[p.length+n-1]?=some z->G x->G z->(c x z=true->Q (.done (none,n)) u)->(c x z=false->Q (.yield (none,n+1)) u)->wpS M A E s (f i (none,n)) Q u)
  (q:∀n,a<=n->n<=R.length->Af c (R.take n)->(n=R.length\/∃x z,R[n]?=some x/\R[n-1]?=some z/\c x z=true)->Q (none,n) u):wpS M A E s (forIn [a:R.length] (none,a) f) Q u:=by
 refine wpS_forRange (λi (r:Option (Option Nat)×Nat) v=>u=v/\r=(none,i)/\Af c (R.take i)) ?_ ?_ ⟨rfl,rfl,w⟩;rintro i r v k l ⟨rfl,rfl,h⟩;obtain⟨x,b,m⟩:=nA l;obtain⟨z,d,o⟩:=nA (show i-1<R.length by lia);refine j i i x z _ (by rw[mZ H];exact b) (by rw[tO (by lia),mZ H];exact d) (g x m) (g z o) (λe=>q i k (by lia) h (.inr ⟨x,z,b,d,e⟩)) λe=>⟨rfl,rfl,LA (r:=λx y=>c x y=true) C.tr (by lia) h b d ?_⟩;exact(B.two (show i-1<i by lia) d b).resolve_right (by rw[e];decide)
 grind
def F5{st:SortSt}(C:Cm M A s κ G c)(d:PyProof.Rows.kindOf st=κ)(ha:(arrOf st).toList=p++R)(f:∀ x∈R,G x)(hD:CP c R)(h1:1<=R.length)
  (q:∀n (O:SortSt) g,1<=n->n<=R.length->PyProof.Rows.kindOf O=κ->pendingOf O=pendingOf st->failedOf O=failedOf st->(arrOf O).toList=p++g->g.Perm R->Af c (g.take n)->Q (some n) O):wpS M A E s (countRun' p.length R.length) Q st:=by
 refine wpS_bind (Qo C ha f hD (hF 1) h1 (by obtain⟨x,g,rfl⟩:∃x g,R=x::g:=(by cases R with|nil=>simp at h1|cons x g=>exact⟨x,g,rfl⟩);exact pairwise_singleton _ _) (λi n x z Q a b u gz v w=>?_) λn H B j L=>?_)
 ·refine wpS_bind (mH C d a b u gz ?_);dsimp only;cases e:c x z with
  |true=>exact wpS_pure (v e)
  |false=>exact wpS_pure (w e)
 dsimp only;by_cases D1:n=R.length;rw[gV (DL.mpr D1)];exact wpS_pure (q n st R H B d rfl rfl ha (.refl _) j)
 rw[a0m (by rw[DL];exact D1)];by_cases I:n > 1
 ·rw[gV I];obtain⟨x,a,o⟩:=nA (show 0 < R.length by assumption);obtain⟨z,b,t⟩:=nA (show n-1 < R.length by grind);refine wpS_bind (mH C d (x:=x) (y:=z) (by have:=mZ ha 0;rw[add_zero]at this;rw[this];exact a) (by rw[tO (by omega),mZ ha];exact b) (f x o) (f z t) ?_);have:c x z=true:=by
   obtain⟨W,N⟩:=sL.mp a;obtain⟨X,π⟩:=sL.mp b;have:=List.pairwise_iff_getElem.mp j 0 (n-1) (by simp;simp_all +arith) (by simp;grind) (by grind);simpa[N,π]using this
  rw[this];exact wpS_pure (q n st R H B d rfl rfl ha (.refl _) j)
 rw[a0m I];obtain rfl:n=1:=by lia
 refine wpS_bind (wpS_lift (Bx ⟨rfl,?_⟩));refine wpS_bind (wpS_mono (wpS_forRange (λi (r:Option (Option Nat)×Nat×Nat) O=>st=O/\r=(none,i,0)/\(R.take i).Pairwise (λx y=>c y x=true))
  (Q:=λr O=>st=O/\∃n,r=(none,n,0)/\2<=n/\n<=R.length/\(R.take n).Pairwise (λx y=>c y x=true)) ?_ ?_ ⟨rfl,rfl,?_⟩) ?_)
 ·rintro i r O B j ⟨rfl,rfl,k⟩;obtain⟨x,a,o⟩:=nA j;obtain⟨z,b,t⟩:=nA (show i-1 < R.length by grind);have J:(arrOf st)[p.length+i]? = some x:=by rw[mZ ha];exact a
  have K:(arrOf st)[p.length+i-1]?=some z:=by rw[tO (by lia),mZ ha];exact b
  refine wpS_bind (mH C d J K (f x o) (f z t) ?_);dsimp only;cases e:c x z with
  | true=>
    exact wpS_pure ⟨rfl,rfl,LA (r:=λx y=>c y x=true) (λh h'=>C.tr h' h) (by lia) k a b e⟩
  | false=>
    rw[a0m (by decide)];have P:c z x=true:=(hD.two (show i-1<i by grind) b a).resolve_right (by rw[e];decide);refine wpS_bind (mH C d K J (f z t) (f x o) ?_);rw[P];exact wpS_pure ⟨rfl,i,rfl,by omega,by lia,k⟩
 ·rintro r O ⟨rfl,rfl,k⟩;exact⟨rfl,_,rfl,by omega,by lia,k⟩
 ·obtain⟨x,z,a,b,e⟩:=L.resolve_left D1;exact LA (r:=λx y=>c y x=true) (λh h'=>C.tr h' h) (hF 1) (by rw[jH b];exact pairwise_singleton _ _) a b e
 rintro r O ⟨rfl,n,rfl,k,F,S⟩;dsimp only;refine wpS_bind (wpS_modify ?_);have l:=F0 ha F;have pm:((R.take n).reverse++R.drop n).Perm R:=by
  have:=(List.reverse_perm (R.take n)).append_right (R.drop n);rwa[take_append_drop]at this
 have Y:(R.take n).reverse.length=n:=by simp;lia
 have T:Af c (((R.take n).reverse++R.drop n).take n):=by
  rw[List.take_append_of_le_length (by simp[*]),Co (by simp[*])];exact List.pairwise_reverse.mpr S
 rw[← pm.length_eq]at F ⊢;refine wpS_bind (Qo C l (λx a=>f x (pm.mem_iff.mp a)) (hD.perm pm.symm) (by lia) F T (λi n x z Q a b u gz v w=>?_) λm σ U V1 _=>?_)
 ·refine wpS_bind (mH C d a b u gz ?_);dsimp only;cases e:c x z with
  |true=>exact wpS_pure (v e)
  |false=>exact wpS_pure (w e)
 ·exact wpS_pure (q m _ _ (by lia) (by rw[← pm.length_eq];exact U) d rfl rfl l pm V1)
def tP{st:SortSt}(C:Cm M A s κ G c)(S:PyProof.Rows.kindOf st=κ)(ha:(arrOf st).toList=p++R)(T:∀ x∈R,G x)(hD:CP c R)(h1:1<=ok)(h2:ok<=n)(hn:n<=R.length)(hs:Af c (R.take ok))
  (q:∀(O:SortSt) R',PyProof.Rows.kindOf O=κ->pendingOf O=pendingOf st->failedOf O=failedOf st->(arrOf O).toList=p++R'->R'.Perm R->Af c (R'.take n)->Q true O):wpS M A E s (binarySort' p.length n ok) Q st:=by
 refine wpS_bind (wpS_mono (wpS_forRange (λk (r:Option Bool×Unit) O=>r=(none,())/\PyProof.Rows.kindOf O=κ/\pendingOf O=pendingOf st/\failedOf O=failedOf st/\∃R',(arrOf O).toList=p++R'/\R'.Perm R/\Af c (R'.take k))
  (Q:=λr O=>r=(none,())/\PyProof.Rows.kindOf O=κ/\pendingOf O=pendingOf st/\failedOf O=failedOf st/\∃R',(arrOf O).toList=p++R'/\R'.Perm R/\Af c (R'.take n)) ?_ ?_ ⟨rfl,S,rfl,rfl,R,ha,.refl _,by rw[Nat.max_eq_left h1];exact hs⟩) ?_)
 ·rintro k r b h3 h4 ⟨rfl,j,H,I,a,a1,pm,s1⟩;have lR:=pm.length_eq;obtain⟨x,J,U⟩:=nA (show k < a.length by lia);have L:∀ x∈a,G x:=λx J=>T x (pm.mem_iff.mp J);refine wpS_bind (wpS_mono (wpS_forRange (λi (r:Option Bool×Nat×Nat) O=>b=O/\r.1=none/\r.2.1<=r.2.2/\r.2.2<=k/\r.2.2+i<=k+r.2.1/\(∀ z∈a.take r.2.1,c z x=true)/\(∀ z∈(a.take k).drop r.2.2,c x z=true))
   (Q:=λr O=>b=O/\r.1=none/\r.2.1<=k/\(∀z∈a.take r.2.1,c z x=true)/\(∀z∈(a.take k).drop r.2.1,c x z=true)) ?_ ?_ ⟨rfl,rfl,Ad _,hF _,by dsimp only;lia,λz f=>by simp at f,λz f=>by simp at f⟩) ?_)
  ·rintro i ⟨o,l,r⟩ K h5 h6 ⟨rfl,rfl,y,d,g,B,D1⟩;dsimp only at y d g B D1 ⊢;by_cases N:l ≥ r
   ·rw[gV N];obtain rfl:l=r:=by lia
    exact wpS_pure ⟨rfl,rfl,d,B,D1⟩
   rw[a0m N];obtain⟨z,f,V1⟩:=nA (show(l+r) / 2<a.length by lia);refine wpS_bind (mH C j (by rw[mZ a1];exact J) (by rw[mZ a1];exact f) (L x U) (L z V1) ?_);dsimp only;have tk:(a.take k)[(l+r) / 2]?=some z:=by rw[getElem?_take,gV (by lia)];exact f
   cases e:c x z with
   |true=>exact wpS_pure ⟨rfl,rfl,by dsimp only;lia,by dsimp only;lia,by dsimp only;lia,B,λu F=>(lL tk s1 u F).elim (λh=>h▸e) (C.tr e)⟩
   | false=>
     have π:c z x=true:=((hD.perm pm.symm).two (show(l+r) / 2<k by lia) f J).resolve_right (by rw[e];decide);refine wpS_pure ⟨rfl,rfl,by dsimp only;lia,by dsimp only;omega,by dsimp only;lia,λu F=>?_,D1⟩;have:=jV tk s1 u (by rw[take_take,Nat.min_eq_left (by lia)];exact F);exact this.elim (λh=>h▸π) λh=>C.tr h π
  ·rintro⟨o,l,r⟩ K ⟨rfl,rfl,y,d,g,B,D1⟩;dsimp only at y d g B D1;obtain rfl:l=r:=by lia
   exact⟨rfl,rfl,d,B,D1⟩
  rintro⟨o,l,r⟩ K ⟨rfl,rfl,y,d,g⟩;dsimp only at y d g ⊢;obtain⟨t,m,w,rfl,rfl,rfl,W,P⟩:=F4 J y;rw[W]at d;rw[P,List.drop_left]at g;rw[P]at s1;refine wpS_bind (wpS_modify (wpS_pure ⟨rfl,j,H,I,_,F3 a1,(append_left t List.perm_middle.symm).trans pm,?_⟩));rw[show t++x::(m++w)=(t++x::m)++w by simp,List.take_left' (by simp;rfl)];obtain⟨X,Y,σ⟩:=List.pairwise_append.mp s1;refine List.pairwise_append.mpr ⟨X,Ew.mpr ⟨g,Y⟩,λu F v hv=>?_⟩;rcases Az.mp hv with rfl|h;exact d u F;exact σ u F v h
 ·rintro r b ⟨rfl,j,H,I,a,a1,pm,s1⟩;rw[show max (max ok 1) n=n by simp[*]]at s1;exact⟨rfl,j,H,I,a,a1,pm,s1⟩
 rintro r b ⟨rfl,j,H,I,a,a1,pm,s1⟩;exact wpS_pure (q b a j H I a1 pm s1)
def Tl(c:Keyed->Keyed->Bool):Nat->List (Nat×Nat×Nat)->List Keyed->Prop
 |_,[],l=>l=[]
 |s,t::r,l=>t.1=s/\1<=t.2.1/\∃X Y,l=X++Y/\X.length=t.2.1/\Af c X/\Tl c (s+t.2.1) r Y
def Tl.app:Tl c s (L++k) l↔∃X Y,l=X++Y/\Tl c s L X/\Tl c (s+X.length) k Y:=by
 induction L generalizing s l with
 |nil=>exact⟨λh=>⟨[],l,rfl,rfl,by simp_all⟩,λz=>by obtain⟨X,Y,e,m,h⟩:=z;subst m;simp_all⟩
 | cons t L i=>
   constructor;rintro⟨d,f,X,Y,rfl,a,g,j⟩;obtain⟨U,v,rfl,b,n⟩:=i.mp j;exact⟨X++U,v,by simp,⟨d,f,X,U,rfl,a,g,b⟩,by rw[length_append,← add_assoc,a];exact n⟩;rintro⟨X,Y,rfl,⟨d,f,U,v,rfl,a,g,j⟩,b⟩;refine⟨d,f,U,v++Y,by simp,a,g,i.mpr ⟨v,Y,rfl,j,?_⟩⟩;rw[AL,← add_assoc,a]at b;exact b
def Tl.like(e:L.map (λt=>(t.1,t.2.1))=a.map (λt=>(t.1,t.2.1)))(h:Tl c s L l):Tl c s a l:=by
 induction L generalizing a s l with
 |nil=>cases a with|nil=>exact h|cons _ _=>cases e
 | cons t L i=>
   cases a with
   |nil=>cases e
   | cons u a=>
     obtain⟨d,f,X,Y,g,j,k,m⟩:=h;simp only[map_cons,List.cons.injEq,Prod.mk.injEq]at e;obtain⟨⟨n,b⟩,o⟩:=e;exact⟨n▸d,b▸f,X,Y,g,b▸j,k,b▸i o m⟩
def Tl.le(h:Tl c s L l):L.length<=l.length:=by
 induction L generalizing s l with
 |nil=>exact Ad _
 | cons t L i=>
   obtain⟨b,d,X,Y,e,f,g,a⟩:=h;have:=i a
   grind
structure Std(κ:SortKind)(c:Keyed->Keyed->Bool)(a₀:List Keyed)(st:SortSt)(D1 R:List Keyed):Prop where
 k:PyProof.Rows.kindOf st=κ
 f:failedOf st=none
 a:(arrOf st).toList=D1++R
 p:(D1++R).Perm a₀
 t:Tl c 0 (pendingOf st).toList D1
def Qp{k:SortSt}(C:Cm M A s κ G c)(F:∀ x∈f,G x)(hD:CP c f)(h:Std κ c f k D1 R)(hi:i+1 < (pendingOf k).size)
  (q:∀a j,Std κ c f a j R->(pendingOf a).size+1=(pendingOf k).size->j.length=D1.length->Q true a):wpS M A E s (mergeAt' i) Q k:=by
 obtain⟨L,b⟩:∃L,(pendingOf k).toList=L:=⟨_,rfl⟩;have H:(pendingOf k).size=L.length:=by rw[← b];rfl
 obtain⟨t,l,-⟩:∃t,L[i]?=some t/\True:=⟨L[i]'(by lia),oI (by lia),trivial⟩;obtain⟨u,m,-⟩:∃t,L[i+1]?=some t/\True:=⟨L[i+1]'(by simp_all),oI (by simp_all),trivial⟩;have e:L=L.take i++(t::u::L.drop (i+1+1)):=by
  conv=>lhs;rw[← take_append_drop i L]
  congr 1;obtain⟨I,J⟩:=sL.mp l;obtain⟨K,π⟩:=sL.mp m;rw[drop_eq_getElem_cons I,drop_eq_getElem_cons K,J,π]
 have n:(L.take i).length=i:=by simp;grind
 generalize L.take i=o at e n;generalize L.drop (i+1+1)=L2 at e;have r:=h.t;rw[b,e]at r;obtain⟨P,V1,S,T,U⟩:=Tl.app.mp r;obtain⟨a1,a2,X,W,rfl,a3,a4,v,w,Y,O,rfl,z,b4,d⟩:=U;subst S;have pw:CP c (P++(X++(Y++(O++R)))):=hD.perm (by have:=h.p.symm;simpa using this);obtain⟨sa,na,pa⟩:=t;obtain⟨sb,nb,pb⟩:=u;dsimp only at a1 a2 a3 v w z d;rw[BL]at a1 d v;refine E9 (sa:=sa) (na:=na) (nb:=nb) (sb:=sb) (pa:=pa) (pb:=pb) (p:=P) (q:=O++R) (X:=X) (Y:=Y) C h.k (λx g=>F x (h.p.mem_iff.mp (h.a▸g))) h.f (by rw[h.a];simp) a1.symm a3 z (by simp[*]) (by rw[← Array.getElem?_toList,b];exact l) (by rw[← Bc,b];exact m) a2 w a4 b4 (λx g y hy=>?_) λa N k1 k2 k3 k4 B k6=>?_;have:=(List.pairwise_append.mp (List.pairwise_append.mp pw).2.1).2.2 x g y (by simp[hy]);exact this;have lN:N.length=na+nb:=by rw[B.length_eq,AL];simp_all
 have pl:(pendingOf a).toList=o++((sa,na+nb,pa)::L2):=by
  rw[k3];have:((pendingOf k).setIfInBounds i (sa,na+nb,pa)).eraseIdxIfInBounds (i+1)=((pendingOf k).setIfInBounds i (sa,na+nb,pa)).eraseIdx (i+1) (by simpa using hi):=by
   rw[Array.eraseIdxIfInBounds,dif_pos]
  rw[this,Array.toList_eraseIdx,Array.toList_setIfInBounds,b,e,← n];simp[List.set_append_right,List.eraseIdx_append_of_length_le]
 refine q a (P++(N++O)) ⟨k1,k2,by rw[k4];simp,?_,?_⟩ ?_ ?_;refine List.Perm.trans ?_ h.p;simp only[append_assoc];exact append_left _ (by have:=B.append_right (O++R);simpa using this);rw[pl];exact Tl.app.mpr ⟨P,N++O,rfl,T,by simp[*],by dsimp only;lia,N,O,rfl,lN,k6,by dsimp only;rw[BL,← add_assoc];exact d⟩
 ·have:(pendingOf a).size=(o++((sa,na+nb,pa)::L2)).length:=by rw[← pl];rfl
  rw[this,H,e];simp;rfl
 ·simp;simp_all +arith
theorem _root_.List.map_modify_same{b c:Type}(g:b->c)(f:b->b)(h:∀a,g (f a)=g a):∀(l:List b) (i:Nat),(l.modify i f).map g=l.map g
 |[],_=>by simp
 |a::l,0=>by simp[h]
 |a::l,i+1=>by simp[List.map_modify_same g f h l i]
def wD[Decidable P](h:¬n<=1):(if P then n-2-1 else n-2)+1<n:=by split<;>omega
def F6{st:SortSt}(C:Cm M A s κ G c)(hk:PyProof.Rows.kindOf st=κ)(hp:pendingOf st=#[])(hf:failedOf st=none)(W:∀ x∈(arrOf st).toList,G x)(hD:CP c (arrOf st).toList)
  (q:∀a,failedOf a=none->(arrOf a).toList.Perm (arrOf st).toList->Af c (arrOf a).toList->Q () a):wpS M A E s sortRuns' Q st:=by
 obtain⟨N,hN⟩:∃N,(arrOf st).size=N:=⟨_,rfl⟩;have lz:(arrOf st).toList.length=N:=hN;have sz:∀{a f R},Std κ c (arrOf st).toList a f R->f.length+R.length=N:=λh=>by have:=h.p.length_eq;rw[AL]at this;simp[*]
 refine wpS_bind (wpS_get ?_);dsimp only;rw[hN];generalize (sortPriv% PySem.Builtin.minRun) N N 0=mr;refine wpS_bind (wpS_mono (wpS_forRange (λi (r:Option Unit×Nat) a=>r.1=none/\i<=r.2/\∃f R,Std κ c (arrOf st).toList a f R/\f.length=r.2)
  (Q:=λr a=>r.1=none/\∃f,Std κ c (arrOf st).toList a f []) ?_ ?_ ⟨rfl,hF _,[],(arrOf st).toList,⟨hk,hf,rfl,.refl _,by rw[hp];exact rfl⟩,rfl⟩) ?_)
 ·refine λi r y _ hi hh=>AN λσ=>?_;obtain⟨-,h1,f,R,g,K⟩:=hh;have e1:=sz g;have gR:∀ {B:List Keyed},B.Perm R->∀ x∈B,G x:=λh x hx=>W x (g.p.mem_iff.mp (Ac.mpr (.inr (h.mem_iff.mp hx))));have dR:∀ {B:List Keyed},B.Perm R->CP c B:=λh=>(List.pairwise_append.mp (hD.perm g.p.symm)).2.1.perm h.symm λh=>h.symm;refine σ ?_;generalize r.2=lo at h1 K ⊢;subst K;refine jG (λF=>?_) λF=>wpS_pure ⟨rfl,f,by rw[DX (l:=R) (by lia)]at g;exact g⟩;rw[show N-f.length=R.length by lia];refine wpS_bind (F5 C g.k g.a (gR (.refl _)) (dR (.refl _)) (by lia) λn v R21 n1 n2 π P S T z k6=>?_);dsimp only;have nx:∀ (b:SortSt) (p:List Keyed),PyProof.Rows.kindOf b=κ->pendingOf b=pendingOf y->failedOf b=failedOf y->(arrOf b).toList=f++p->p.Perm R->Std κ c (arrOf st).toList b f p:=λb p π P S T z=>
   ⟨π,S.trans g.f,T,(z.append_left f).trans g.p,by rw[P];exact g.t⟩
  apply E4 (λn b=>∃p,Std κ c (arrOf st).toList b f p/\1<=n/\n<=R.length/\p.Perm R/\Af c (p.take n)) n;rfl
  case n=>exact λb2=>⟨R21,nx v R21 π P S T z,n1,n2,z,k6⟩
  case k=>
   intro key b2;refine wpS_bind (wpS_lift (Bx ⟨rfl,?_⟩));refine wpS_bind (tP C π T (gR z) (dR z) n1 (by grind) (by rw[z.length_eq];exact Nat.min_le_left _ _) k6 λb p j1 j2 j3 j4 U j6=>?_);rw[a0m (by decide)];exact key _ b ⟨p,nx b p j1 (j2.trans P) (j3.trans S) j4 (U.trans z),by lia,Nat.min_le_left _ _,U.trans z,j6⟩
  ·refine λn b hP=>AN λσ=>?_;obtain⟨p,h4,m1,m2,U,j6⟩:=hP;refine σ (wpS_bind (wpS_get ?_));have pu:∀ (d j:SortSt) (O:List Keyed),Std κ c (arrOf st).toList d O p->O.length=f.length->PyProof.Rows.kindOf j=PyProof.Rows.kindOf d->failedOf j=failedOf d->arrOf j=arrOf d->(pendingOf j).toList.map (λt=>(t.1,t.2.1))=(pendingOf d).toList.map (λt=>(t.1,t.2.1))++[(f.length,n)] ->
     (none:Option Unit)=none/\i+1<=f.length+n/\∃D' B,Std κ c (arrOf st).toList j D' B/\D'.length=f.length+n:=λd j O w m H y2 V1 y4=>by
    have lt:(p.take n).length=n:=by rw[BA,U.length_eq];lia
    have ee:O++p.take n++p.drop n=O++p:=by rw[append_assoc,take_append_drop]
    refine⟨rfl,by lia,O++p.take n,p.drop n,⟨H.trans w.k,y2.trans w.f,by rw[V1,ee];exact w.a,by rw[ee];exact w.p,Tl.like (L:=(pendingOf d).toList++[(f.length,n,0)]) (by rw[y4,AH];rfl) (Tl.app.mpr ⟨O,p.take n,rfl,w.t,by dsimp only;lia,m1,p.take n,[],by simp,lt,j6,rfl⟩)⟩,by rw[length_append];simp[*]⟩
   cases e:(pendingOf b).back? with
   | none=>
     exact wpS_bind (wpS_modify (wpS_pure (pu b _ f h4 rfl rfl rfl rfl (by show((pendingOf b).push _).toList.map _=_;rw[Fb,AH];rfl))))
   | some t=>
     obtain⟨s1,n1,w1⟩:=t;dsimp only;refine wpS_bind (wpS_mono (wpS_forRange (λi (r:Option Unit×Unit) a=>r=(none,())/\∃O,Std κ c (arrOf st).toList a O p/\O.length=f.length)
      (Q:=λr a=>r=(none,())/\∃O,Std κ c (arrOf st).toList a O p/\O.length=f.length) ?_ ?_ ⟨rfl,f,h4,rfl⟩) ?_)
     ·rintro i r d-hi ⟨rfl,O,w,m⟩;refine wpS_bind (wpS_get ?_);by_cases b3:(pendingOf d).size > 1
      ·have z3:(pendingOf d).size-2+1<(pendingOf d).size:=by lia
       rw[gV b3,By (Nat.lt_of_succ_lt z3)];exact kL (wpS_pure ⟨rfl,O,w,m⟩) (wpS_bind (Qp C W hD w z3 λj D5 H _ V1=>by rw[a0m (by decide)];exact wpS_pure ⟨rfl,D5,H,V1.trans m⟩))
      ·rw[a0m b3];exact wpS_pure ⟨rfl,O,w,m⟩
     ·exact λr d h=>h
     ·rintro r d ⟨rfl,O,w,m⟩;refine wpS_bind (wpS_modify (wpS_bind (wpS_modify (wpS_pure (pu d _ O w m rfl rfl rfl ?_)))));show(((pendingOf d).modify _ _).push _).toList.map _=_;rw[Fb,AH,Array.toList_modify,List.map_modify_same (λt:Nat×Nat×Nat=>(t.1,t.2.1))];rfl;exact λt=>rfl
 ·rintro⟨o,lo⟩ y ⟨rfl,h1,f,R,g,K⟩;have e1:=sz g;dsimp only at h1 K;have:R=[]:=DX (by lia);subst this;exact⟨rfl,f,g⟩
 ·rintro⟨o,lo⟩ y ⟨rfl,f,g⟩;dsimp only;refine wpS_bind (wpS_mono (wpS_forRange (λi (r:Option Unit×Unit) a=>r=(none,())/\(pendingOf a).size+i<=N/\∃ f,Std κ c (arrOf st).toList a f [])
   (Q:=λr a=>r=(none,())/\(pendingOf a).size<=1/\∃f,Std κ c (arrOf st).toList a f []) ?_ ?_ ⟨rfl,by have h5:(pendingOf y).size<=f.length:=g.t.le;have h6:=sz g;rw[length_nil]at h6;simp_all,f,g⟩) ?_)
  ·rintro i r v-hi ⟨rfl,w,I,m⟩;refine wpS_bind (wpS_get ?_);exact jG (λF=>wpS_bind (Qp C W hD m (wD F) λj D5 H y2 V1=>by rw[a0m (by decide)];exact wpS_pure ⟨rfl,by lia,D5,H⟩)) λF=>wpS_pure ⟨rfl,F,I,m⟩
  ·rintro r v ⟨rfl,w,I,m⟩;exact⟨rfl,by simp_all +arith,I,m⟩
  ·rintro r v ⟨rfl,w,I,m⟩;refine wpS_pure (q v m.f (by rw[m.a];exact m.p) ?_);rw[m.a,Dp];have t:=m.t;have J:(pendingOf v).toList.length<=1:=w;cases e:(pendingOf v).toList with
   |nil=>rw[e]at t;have t:I=[]:=t;rw[t];exact .nil
   | cons u r=>
     rw[e]at t J;have:r=[]:=DX (by simpa using J);subst this;obtain⟨_,_,X,Y,rfl,_,sX,hY⟩:=t;have hY:Y=[]:=hY;rw[hY,Dp];exact sX
def F7(H:jT prog w s.heap a p)(d:jT prog w s.heap c o)(q:Q (AZ a c) s):wpAny (model prog w) A (keyLt' (tuples' b) (.ref p) (.ref o)) Q E s:=by
 obtain⟨k,l,r,e,_,f,g⟩:=H;obtain⟨m,n,N,h,_,i,j⟩:=d;refine kat_lt e f h i ?_;have:=m9 (b:=b) (A:=A) 0 g j q
 simp_all
noncomputable def wZ(prog:Program)(w:World)(h:Heap)(x:Keyed):List Int:=Classical.epsilon λk=>∃a,x.1=.ref a/\jT prog w h k a
def mI(e:x.1=.ref a)(t:jT prog w h k a):wZ prog w h x=k:=by
 obtain⟨d,b,c⟩:=Classical.epsilon_spec (p:=λk=>∃a,x.1=.ref a/\jT prog w h k a) ⟨k,a,e,t⟩;rw[e]at b;cases b;exact c.inj t
def F8:Cm (model prog w) A s (tuples' true) (λx=>∃ k a,x.1=.ref a/\jT prog w s.heap k a) (λx y=>AZ (wZ prog w s.heap x) (wZ prog w s.heap y)) where
 lt:=λ{x y E Q} ⟨k,a,e,t⟩ ⟨d,f,b,c⟩ q=>by
  rw[mI e t,mI b c]at q;rw[e,b];exact F7 t c q
 ir:=λx=>mX _
 tr:=JJ
def F9{r:List Value}{L:List Keyed}(T:fR prog w h N ks r.toArray)(u:ks.Nodup)(s:L.Perm (r.zip r))(t:L.Pairwise λx y=>AZ (wZ prog w h x) (wZ prog w h y)=true):fR prog w h N (oT ks) (L.map (·.2)).toArray:=by
 have q:ks.length=r.length:=by simpa using T.1
 have f:∀x∈L,∃a,x.2=.ref a/\jT prog w h (wZ prog w h x) a/\N a:=λx c=>by
  obtain⟨g,j⟩:=mem_zip_self (s.mem_iff.mp c);obtain⟨i,H,e⟩:=Dm j;obtain⟨k,a,_,b,d,l⟩:=T.2 i x.1 (by simp_all);exact⟨a,g▸b,by rw[mI b d];exact d,l⟩
 have n:(r.zip r).map (wZ prog w h)=ks:=by
  refine Fc λi=>?_;rw[Ab];by_cases H:i<r.length
  ·have o:(r.zip r)[i]?=some (r[i],r[i]):=by simp_all
   obtain⟨k,a,p,b,d,l⟩:=T.2 i r[i] (by simp);rw[o,p];exact Cn some (mI b d)
  simp_all
 have e:L.map (wZ prog w h)=oT ks:=vS (List.pairwise_map.mpr t) (eW ks) λx=>by
  rw[dL,← n,(s.map (wZ prog w h)).mem_iff]
 refine⟨by rw[← e];simp,λi v m=>?_⟩;rw[Cp,Ab]at m;obtain⟨x,c,rfl⟩:=Bg.mp m;obtain⟨a,g,j,b⟩:=f x (An c);exact⟨wZ prog w h x,a,by rw[← e,Ab,c];rfl,g,j,b⟩
def rG{O:List Value}{D1 n:Nat}(p:s.heap.get? D1=some (seqObj "list" O.toArray n))(hD:¬ N D1)(T:fR prog w s.heap N ks O.toArray)(hz:O.length<=sizeLine)(hn:ks.Nodup)(K:2<=O.length->∀ k∈ks,k≠[])
  (q:∀h' ws c,fR prog w h' N (oT ks) (toArray ws)->h'.get? D1=some (seqObj "list" (toArray ws) c)->(∀b ob,b≠D1->s.heap.get? b=some ob->h'.get? b=some ob)->P (.done (.ret .none)) {s with heap:=h'}) :
  wpAny (model prog w) A (Builtin.«list.sort» ⟨[.ref D1],[]⟩) P E s:=by
 have M:D1<s.heap.objs.size:=rN p;rw[list_sort_plain];refine dV (listItems_at p rfl (dV (listUpdate_at p rfl ?_ (by simpa using hz) (Ad _))));obtain⟨h,l⟩:∃h,(s.heap.update D1 (mapSeq λ_=>(#[]:Array Value))).get? D1=some (seqObj "list" #[] h):=⟨_,get?_update_seq p λ_=>#[]⟩;refine dV (seqEpoch_at l rfl (dV (wpAny_newTuple ?_ (by simpa using hz))));refine dV (wpAny_newList ?_ (Ad _));refine Ax ?_;have kept:∀b ob,b≠D1->s.heap.get? b=some ob->(((s.heap.update D1 (mapSeq λ_=>(#[]:Array Value))).push (seqObj "tuple" O.toArray 0)).push (seqObj "list" #[] 0)).get? b=some ob:=λb ob hb e=>sT _ (sT _ ((Dk _ _ (hR hb)).trans e));have f:(((s.heap.update D1 (mapSeq λ_=>(#[]:Array Value))).push (seqObj "tuple" O.toArray 0)).push (seqObj "list" #[] 0)).get? D1=some (seqObj "list" #[] h):=sT _ (sT _ l);show wpAny (model prog w) A _ P E {s with heap:=((s.heap.update D1 (mapSeq λ_=>(#[]:Array Value))).push (seqObj "tuple" O.toArray 0)).push (seqObj "list" #[] 0)};generalize ((s.heap.update D1 (mapSeq λ_=>(#[]:Array Value))).push (seqObj "tuple" O.toArray 0)).push (seqObj "list" #[] 0)=d at kept f ⊢;have m:fR prog w d N ks O.toArray:=T.stay λb ob hb e=>kept b ob (λz=>hD (z▸hb)) e;dsimp only;have hl:ks.length=O.length:=by simpa using T.1
 have pz:(O.toArray.zip O.toArray).toList=O.zip O:=by simp
 have fin:∀(L:List Keyed),L.Perm (O.zip O)->(L.Pairwise λx y=>AZ (wZ prog w d x) (wZ prog w d y)=true)->P (.done (.ret .none)) {s with heap:=d.update D1 (mapSeq λ_=>(L.map (·.2)).toArray)}:=λL pm so=>by
  obtain⟨r,t⟩:∃r,(d.update D1 (mapSeq λ_=>(L.map (·.2)).toArray)).get? D1=some (seqObj "list" (L.map (·.2)).toArray r):=⟨_,get?_update_seq f λ_=>(L.map (·.2)).toArray⟩;have kp:∀b ob,b≠D1->d.get? b=some ob->(d.update D1 (mapSeq λ_=>(L.map (·.2)).toArray)).get? b=some ob:=λb ob hb e=>(Dk _ _ (hR hb)).trans e;exact q _ _ r ((F9 m hn pm so).stay λb ob hb e=>kp b ob (λz=>hD (z▸hb)) e) t λb ob hb e=>kp b ob hb (kept b ob hb e)
 have π:∀{L:List Keyed},L.Perm (O.zip O)->(L.map (·.2)).length=O.length:=λpm=>by rw[eI,pm.length_eq];simp
 by_cases g:O.toArray.size<2
 ·rw[gV g,gV g];refine dV (eH ?_);rw[StateT.run_pure];refine dV (eH ?_);dsimp only;refine dV (seqEpoch_at f rfl ?_);have es:(arrOf (SortSt.mk' general' (O.toArray.zip O.toArray) #[] 7 none)).map (·.2)=((O.zip O).map (·.2)).toArray:=by
   show(O.toArray.zip O.toArray).map (·.2)=_;apply Array.toList_inj.mp;simp
  refine dV (listUpdate_at f rfl ?_ (Ad _) (by rw[es];simp;lia));simp only[bne_self_eq_false,false_eq_true,if_false];rw[es];refine eH (fin _ (.refl _) ?_);have:(O.zip O).length<2:=by simpa using g
  match R:O.zip O with
  |[]=>exact .nil
  |[x]=>exact pairwise_singleton _ _
  |_::_::_=>rw[R]at this;simp only[length_cons]at this;lia
 ·rw[a0m g,a0m g];have o:2<=O.length:=by simp at g;exact g
  refine dV (n8 (s:={s with heap:=d}) m (AO o) (K o) ?_);have C:Cm (model prog w) A {s with heap:=d} (tuples' true) _ _:=F8 (s:={s with heap:=d});have S:∀x∈O.zip O,∃k a,x.1=.ref a/\jT prog w d k a:=λx U=>by
   obtain⟨h,u⟩:=mem_zip_self U;obtain⟨i,hi,e⟩:=Dm u;obtain⟨k,a,_,v,V1,e5⟩:=m.2 i x.1 (by rw[Cp,oI hi,e]);exact⟨k,a,v,V1⟩
  have W:CP (λx y=>AZ (wZ prog w d x) (wZ prog w d y)) (O.zip O):=by
   refine List.pairwise_iff_getElem.mpr λi j hi hj B=>?_;have F:i<O.length:=by simpa using hi
   have G:j<O.length:=by simpa using hj
   obtain⟨H,a1,h,u,v,_⟩:=m.2 i O[i] (by rw[Cp];exact oI F);obtain⟨I,a2,X,Y,σ,_⟩:=m.2 j O[j] (by rw[Cp];exact oI G);dsimp only;rw[mI (x:=(O.zip O)[i]) (by simp[u]) v,mI (x:=(O.zip O)[j]) (by simp[Y]) σ];have ne:H≠I:=λz=>by
    subst z;obtain⟨g1,g2⟩:=sL.mp h;obtain⟨g3,g4⟩:=sL.mp X;exact List.pairwise_iff_getElem.mp (Dj.mp hn) i j g1 g3 B (g2.trans g4.symm)
   cases q1:AZ H I with
   |true=>exact .inl rfl
   | false=>cases q2:AZ I H with
     |true=>exact .inr rfl
     |false=>exact absurd (zQ q1 q2) ne
  have run:=F6 (E:=E) C (st:=SortSt.mk' (tuples' true) (O.toArray.zip O.toArray) #[] 7 none) (Q:=λ_ st'=>failedOf st'=none/\(arrOf st').toList.Perm (O.zip O)/\Af (λx y=>AZ (wZ prog w d x) (wZ prog w d y)) (arrOf st').toList) rfl rfl rfl (by show ∀x∈(O.toArray.zip O.toArray).toList,_;rw[pz];exact S) (by show CP _ (O.toArray.zip O.toArray).toList;rw[pz];exact W) λst' z1 J z3=>⟨z1,by have J:(arrOf st').toList.Perm (O.toArray.zip O.toArray).toList:=J;rwa[pz]at J,z3⟩;refine dV (Ck run ?_ λ_ _ e=>e);rintro⟨⟨⟩,st'⟩ s' ⟨rfl,hf,pm,so⟩;dsimp only at pm so ⊢;refine dV (seqEpoch_at f rfl ?_);have es:(arrOf st').map (·.2)=((arrOf st').toList.map (·.2)).toArray:=by apply Array.toList_inj.mp;simp
  rw[es];refine dV (listUpdate_at f rfl ?_ (Ad _) (by show(toArray _).size<=_;rw[CC,π pm];lia));rw[hf];simp only[bne_self_eq_false,false_eq_true,if_false];exact eH (fin _ pm so)
def wE(hh:A.handled=none)(X:CN prog w s.heap S (fU w) N ks o es ep t)(hN:∀ a,N a->a < s.heap.objs.size)(hz:es.size<=sizeLine)(hk:2<=es.size->∀ k∈ks,k≠[])(hm:∀ x,x∈ks↔x∈l)
  (q:∀h' tk D1 O c,s.heap.objs.size<=D1->h'.get? D1=some (seqObj "list" (toArray O) c)->fR prog w h' N (oT l) (toArray O)->(∀b ob,s.heap.get? b=some ob->h'.get? b=some ob)->Q (.ref D1) {s with heap:=h',toks:=tk}) :
  wpAny (model prog w) A (call (.builtin "sorted") [.ref S]) Q E s:=by
 have pm:=pE (w:=w) (S:=S) (ep:=ep) es;have G:(cL w S ep es).toList.length=es.size:=by have:=pm.length_eq;simpa using this
 have B:∀e∈(cL w S ep es).toList,∃k a,k∈ks/\e=(tupleKeyHash (intKind prog w) k,Value.ref a)/\jT prog w s.heap k a/\N a:=λe L=>by
  have:=pm.mem_iff.mp L;obtain⟨i,hi,ei⟩:=Array.getElem_of_mem (by simpa using this:e∈es);obtain⟨k,a,j,n,u,H⟩:=X.it i e (by rw[By hi,ei]);exact⟨k,a,An j,n,u,H⟩
 have M:∃ us:List (List Int),us.Perm ks/\us.length=es.size/\∀ (i:Nat) e,(cL w S ep es).toList[i]? = some e->∃ k a,us[i]? = some k/\e.2=Value.ref a/\jT prog w s.heap k a/\N a:=by
  have f:∀e:Int×Value,∃k:List Int,∀y a,e.2=Value.ref a->jT prog w s.heap y a->y=k:=λe=>by
   by_cases h:∃y a,e.2=Value.ref a/\jT prog w s.heap y a;obtain⟨y,a,j,n⟩:=h;refine⟨y,λk'' a' r π=>?_⟩;rw[j]at r;cases r;exact π.inj n;exact⟨[],λy a j n=>absurd ⟨y,a,j,n⟩ h⟩
  let g:Int×Value->List Int:=λe=>Classical.choose (f e)
  have σ:∀e k a,e.2=Value.ref a->jT prog w s.heap k a->k=g e:=λe k a=>Classical.choose_spec (f e) k a;have ge:es.toList.map g=ks:=by
   refine Fc λi=>?_;rw[Ab,Bc];by_cases hi:i<es.size;rw[By hi];obtain⟨k,a,j,n,u,_⟩:=X.it i es[i] (By hi);rw[j];show some (g es[i])=some k;rw[← σ es[i] k a (by rw[n]) u];rw[IZ (Ed hi),List.getElem?_eq_none (by rw[X.len];simp_all)];rfl
  refine⟨(cL w S ep es).toList.map g,?_,by rw[eI];exact G,λi e L=>?_⟩;have:=pm.map g;rw[ge]at this;exact this;obtain⟨k,a,j,n,u,H⟩:=B e (An L);refine⟨k,a,?_,by rw[n],u,H⟩;rw[Ab,L];show some (g e)=some k;rw[← σ e k a (by rw[n]) u]
 obtain⟨us,up,ul,ui⟩:=M;refine Calls.call_function_entry kind_sorted plain_sorted entry_sorted (args_sorted1 _) ?_;unfold Builtin.«sorted»;refine dV (m:=checkCount "sorted" 1 1 _) (eH ?_);refine dV (u1 (A:=A.in1) hh ⟨X.ob,X.ex,X.dt,X.tk,X.ful,X.ld,X.pl⟩ hz λj I p d=>?_);generalize J:(cL w S ep es).toList.map (·.2)=O;have P:O.length=es.size:=by rw[← J,eI];exact G
 have T1:fR prog w j N us O.toArray:=by
  refine⟨by rw[ul,CC];exact P.symm,λi v e=>?_⟩;rw[Cp,← J,Ab]at e;obtain⟨e',ee,rfl⟩:=Bg.mp e;obtain⟨k,a,r,n,u,H⟩:=ui i e' ee;exact⟨k,a,r,n,u.at λob R=>p a ob R,H⟩
 refine dV (wpAny_newList ?_ (by rw[P];exact hz));have K:(j.push (seqObj "list" O.toArray 0)).get? j.objs.size=some (seqObj "list" O.toArray 0):=Ak _ rfl;have up1:∀b ob,j.get? b=some ob->(j.push (seqObj "list" O.toArray 0)).get? b=some ob:=λb ob e=>sT _ e;have T:¬N j.objs.size:=λz=>absurd (hN _ z) (Fj.mpr (AO d));have T2:fR prog w (j.push (seqObj "list" O.toArray 0)) N us O.toArray:=T1.stay λb ob _ e=>up1 b ob e;have U:2<=O.length->∀k∈us,k≠[]:=λh k V1=>hk (by simp_all) k (up.mem_iff.mp V1);have nu:us.Nodup:=up.nodup_iff.mpr X.nd;refine dV (Ax (BX slot_list_sort ⟨_,K,rfl⟩ entry_list_sort (rG (s:={s with heap:=j.push (seqObj "list" O.toArray 0),toks:=I}) K T T2 (by rw[P];exact hz) nu U λn ws c T3 W C=>⟨_,rfl,?_⟩) (args_list_sort _)));refine eH ⟨_,rfl,?_⟩;have Y:oT us=oT l:=vS (eW us) (eW l) λx=>by rw[dL,dL,up.mem_iff];exact hm x
 rw[Y]at T3;exact q n I j.objs.size ws c (AO d) W T3 λb ob e=>C b ob (λz=>absurd (rN (z▸e)) (Fj.mpr (AO d))) (up1 b ob (p b ob e))
end
section
open PyProof.Rows Spec
theorem Qq(k:List Int):∀ l:List (List Int),(DD k l).length<=l.length+1
 |[]=>by simp[DD]
 | x::l=>by
   have:=Qq k l;unfold DD
   repeat' split
   all_goals simp_all
theorem kM:∀ l:List (List Int),(oT l).length<=l.length
 |[]=>by simp[oT]
 | x::l=>by
   have:=kM l;have:=Qq x (oT l);show(DD x (oT l)).length<=_
   grind
def wF:List V->Hp->VK->Prop:=λv H Q=>∃(p:Addr) (b:Bool) (d:List Addr) (c:List (List Int)),v=[.ref p]/\cY H p=some (b,d.map V.ref)/\d.length=c.length/\(∀(i:Nat) a k,d[i]?=some a->c[i]?=some k->H a=some (.tup (k.map V.int))) /\
 c.length<4000/\(2<=(oT c).length->∀k∈c,k≠[]) /\
 ∀r (q:List Addr),H r=none->q.length=(oT c).length->(∀(i:Nat) a k,q[i]?=some a->(oT c)[i]?=some k->H a=some (.tup (k.map V.int)))->Q (.ref r) (fI H r (.lst (q.map V.ref)))
def tQ(hc:X.calm=true)(hu:X.A.units+8 < cLine):∀ pins s Z H vs us Q,eD X pins Z H s->bF vs us->wF vs H Q ->
  wpAny (model X.prog X.w) X.A (call (.type "set") us) (λu s1=>wpAny (model X.prog X.w) X.A (call (.builtin "sorted") [u]) (EP X pins Z Q) X.xe s1) X.xe s:=by
 intro pins s Z H vs us Q I rv h;obtain⟨p,b,ps,ks,rfl,hH,hl,K,hn,L,q⟩:=h;obtain⟨u,rfl,ru⟩:=rv.one;cases ru;obtain⟨its,r,⟨M⟩⟩:=o3 I hc hH;have B:ps.length=its.length:=by simpa using r.length
 have O:∀a∈ps,a<s.heap.objs.size:=λa ha=>by
  obtain⟨i,hi,e⟩:=Dm ha;have n:i<ks.length:=by lia
  obtain⟨o,_,_,ho,_⟩:=mF I (K i a ks[i] (by rw[oI hi,e]) (oI n));exact rN ho
 have T0:fR X.prog X.w s.heap (· ∈ ps) ks its.toArray:=by
  refine⟨by rw[CC];lia,λi v e=>?_⟩;rw[Cp]at e;have hi:i<ps.length:=by rw[B];exact(sL.mp e).1
  have n:i<ks.length:=by simp_all
  obtain⟨v',e',π⟩:=r.get (i:=i) (x:=.ref ps[i]) (by rw[Ab,oI hi];rfl);rw[e]at e';cases e';cases π;exact⟨ks[i],ps[i],oI n,rfl,mF I (K i _ _ (oI hi) (oI n)),getElem_mem hi⟩
 have nS:¬s.heap.objs.size∈ps:=λz=>absurd (O _ z) (BI _);have nI:¬s.heap.objs.size+1∈ps:=λz=>absurd (O _ z) (Fj.mpr (Gb _));refine j8 M (λA' ha P=>k8 (prog:=X.prog) (w:=X.w) (led:=fU X.w) (N:=(· ∈ ps)) (ks:=ks) (CS P hu) nS nI (AF (GL _)) hn) (λh' hS C=>?_) λh' tk ⟨T1,us,X1,_,hm⟩ d=>?_;refine⟨T0.stay λc ob _ e=>C c ob e,[],⟨_,#[],0,_,hS,⟨rfl,rfl,rfl⟩,rfl,?_,?_,rfl,rfl,rfl,λi e he=>by simp at he,.nil⟩,hF _,λx=>by simp⟩;refine⟨⟨3,rfl⟩,hF _,rfl,λi j a b _ e=>by simp[SetTable.fresh]at e,λi j e=>by simp[SetTable.fresh]at e,rfl,by simp[SetTable.fresh],λi h e=>by simp at e⟩;simp[SetTable.fresh];obtain⟨o,es,ep,t,Y⟩:=X1;have y:∀x,x∈us↔x∈ks:=λx=>by
  rw[hm x,Co (by rw[CC];simp_all)]
 have pl:us.length=(oT ks).length:=((List.perm_ext_iff_of_nodup Y.nd (n9 (eW ks))).mpr λx=>by rw[y x,dL]).length_eq;have R:es.size=(oT ks).length:=by rw[← Y.len];exact pl
 have E:s.heap.objs.size<h'.objs.size:=rN Y.ob;have sl:(oT ks).length<=ks.length:=kM ks;have S:es.size<=sizeLine:=by rw[R,DK];lia
 refine wE (s:={s with heap:=h',toks:=tk}) (I.ok.hd hc) Y (λa ha=>CT (O a ha) E) S (λh2 k T=>L (by simp_all) k ((y k).mp T)) y λh2 U D1 vs c hD W σ m=>?_
 have hq:∃ A:List Addr,vs=A.map Value.ref/\A.length=(oT ks).length/\∀ (i:Nat) a k,A[i]? = some a->(oT ks)[i]? = some k->H a=some (.tup (k.map V.int)):=by
  have f:∀v∈vs,∃a,v=Value.ref a:=λv J=>by
   obtain⟨i,hi,e⟩:=Dm J;obtain⟨_,a,_,e2,_⟩:=σ.2 i v (by rw[Cp,oI hi,e]);exact⟨a,e2⟩
  have g:∀ vs:List Value,(∀ v∈vs,∃ a,v=Value.ref a)->∃ A:List Addr,vs=A.map Value.ref:=by
   intro vs
   induction vs with
   |nil=>intro _;exact⟨[],rfl⟩
   | cons v r ih=>
     intro J;obtain⟨a,rfl⟩:=J v Aa;obtain⟨A,rfl⟩:=ih λx hx=>J x (Am _ hx);exact⟨a::A,rfl⟩
  obtain⟨A,rfl⟩:=g vs f;have l1:A.length=(oT ks).length:=by have:=σ.1;simpa using this.symm
  refine⟨A,rfl,l1,λi a k ea ek=>?_⟩;obtain⟨k',a',e1,e2,e3,e4⟩:=σ.2 i (.ref a) (by rw[Cp,Ab,ea];rfl);rw[ek]at e1;cases e1;cases e2;obtain⟨j,hj,ej⟩:=Dm e4;have hj':j<ks.length:=by lia
  have F:=K j a ks[j] (by rw[oI hj,ej]) (oI hj');have t1:jT X.prog X.w h2 ks[j] a:=(mF I F).at λob hob=>m a ob (d a ob hob);rw[e3.inj t1];exact F
 obtain⟨A,rfl,ql,qh⟩:=hq;have G:s.heap.objs.size<=D1:=gY (AO E) hD;refine⟨.ref D1,fI H D1 (.lst (A.map V.ref)),?_,rfl,q D1 A (I.hok.fresh G) ql qh⟩;refine I.laid (t':=U) (λb ob e=>m b ob (d b ob e)) G ⟨by rw[eI,ql,DK];lia,A.map Value.ref,c,?_,W⟩;have vr:∀l:List Addr,bF (l.map V.ref) (l.map Value.ref):=by
  intro l
  induction l with
  |nil=>exact .nil
  |cons a r ih=>exact .cons rfl ih
 exact vr A
end
open Classical in
def hU:FN:=λb=>match b with
 |[d]=>(Ei d).bind λx=>(sV x.2).bind λa=>if a.length<4000/\(2<=(oT a).length->∀k∈a,k≠[])then some (.own (.lst ((oT a).map tI)))else none
 |_=>none
def wG:Dx wF hU:=by
 intro H G E Q y x e k;unfold hU at e;split at e
 ·obtain⟨⟨b,l⟩,h,e⟩:=aA e;obtain⟨B,c,e⟩:=aA e;dsimp only at c;split at e
  ·rename_i d;cases e;cases x with
   | cons a t=>
     cases t;obtain⟨p,C,rfl,j,f⟩:=KN a h;rw[Pl c]at f;obtain⟨A,rfl,m,n⟩:=Pn f;refine⟨p,b,A,B,rfl,j,m,n,d.1,d.2,λr z g o q=>?_⟩;have w:lX H (fI H r (.lst (z.map V.ref))):=aP g;exact k _ _ w ⟨r,rfl,g,_,aJ,Po o λi a s u v=>w _ _ (q i a s u v)⟩
  ·cases e
 ·cases e
theorem G0:dY (hU [.lst (ks.map tI)]) K=((ks.length<4000/\(2<=(oT ks).length->∀k∈ks,k≠[]))/\K (.own (.lst ((oT ks).map tI)))):=by
 show dY ((sV (ks.map tI)).bind _) K=_;rw[pF];show dY (if _ then _ else none) K=_;rw[aN];rfl
def G1:dY (hU [.tup (ks.map tI)]) K=((ks.length<4000/\(2<=(oT ks).length->∀k∈ks,k≠[]))/\K (.own (.lst ((oT ks).map tI)))):=by
 show dY ((sV (ks.map tI)).bind _) K=_;rw[pF];show dY (if _ then _ else none) K=_;rw[aN];rfl
section
open PyProof.Rows Spec
def Qr:List V->Hp->VK->Prop:=λv H Q=>∃(p:Addr) (b:Bool) (d:List Addr) (c:List (List Int)),v=[.ref p]/\cY H p=some (b,d.map V.ref)/\d.length=c.length/\(∀(i:Nat) a k,d[i]?=some a->c[i]?=some k->H a=some (.tup (k.map V.int))) /\
 c.length<4000/\c.Nodup/\(2<=c.length->∀k∈c,k≠[]) /\
 ∀r (q:List Addr),H r=none->q.length=(oT c).length->(∀(i:Nat) a k,q[i]?=some a->(oT c)[i]?=some k->H a=some (.tup (k.map V.int)))->Q (.ref r) (fI H r (.lst (q.map V.ref)))
theorem Qt:∀ d:List Value,(∀ v∈d,∃ a,v=Value.ref a)->∃ q:List Addr,d=q.map Value.ref
 |[],_=>⟨[],rfl⟩
 | v::r,b=>by
   obtain⟨a,rfl⟩:=b v Aa;obtain⟨q,rfl⟩:=Qt r λx c=>b x (Am _ c);exact⟨a::q,rfl⟩
def G2:kD X (.builtin "sorted") Qr:=by
 intro pins s Z H xs us Q I rv h;obtain⟨p,b,ps,ks,rfl,U,hl,F,hn,nd,G,q⟩:=h;obtain⟨u,rfl,ru⟩:=xG rv;cases ru;obtain⟨w,r,T,o,n,hT,g,hc,hd⟩:∃ (w:List Value),bF (ps.map V.ref) w/\∃ (T:String) (o:Obj) (n:Nat),(T="list"\/T="tuple")/\s.heap.get? p=some o/\o.cls=.type T/\o.data=.seq w.toArray n:=by
  cases b with
  | true=>
    obtain⟨w,y,pl,hz⟩:=I.list (gU U);obtain⟨o,g,hc,n,hd⟩:=pl.isList;exact⟨w,y,"list",o,n,.inl rfl,g,hc,hd⟩
  | false=>
    obtain⟨w,y,pl,hz⟩:=I.tuple (eO U);obtain⟨o,g,hc,n,hd⟩:=pl;exact⟨w,y,"tuple",o,n,.inr rfl,g,hc,hd⟩
 have A:ps.length=w.length:=by simpa using r.length
 have J:w.length<=sizeLine:=by rw[DK];lia
 have T0:fR X.prog X.w s.heap (· ∈ ps) ks w.toArray:=by
  refine⟨by rw[CC];lia,λi v e=>?_⟩;rw[Cp]at e;have hi:i<ps.length:=by rw[A];exact(sL.mp e).1
  have f:i<ks.length:=by simp_all
  obtain⟨v',W,K⟩:=r.get (i:=i) (x:=.ref ps[i]) (by rw[Ab,oI hi];rfl);rw[e]at W;cases W;cases K;exact⟨ks[i],ps[i],oI f,rfl,mF I (F i _ _ (oI hi) (oI f)),getElem_mem hi⟩
 refine Calls.call_function_entry kind_sorted plain_sorted entry_sorted (args_sorted1 _) ?_;unfold Builtin.«sorted»;refine dV (m:=checkCount "sorted" 1 1 _) (eH ?_);refine dV (wpAny_collect_seq p hT g hc hd (λd B=>?_) (by simp only[size_toArray];exact J));refine dV (wpAny_newList ?_ (by rw[show w.toArray.toList.length=w.length from by simp];exact J));have C:(d.push (seqObj "list" w.toArray.toList.toArray 0)).get? d.objs.size=some (seqObj "list" w.toArray 0):=by
  simpa using Ak (h:=d) (o:=seqObj "list" w.toArray.toList.toArray 0) rfl
 have E:eD X pins Z H {s with heap:=d}:=I.kept (t':=s.toks) B;have up1:∀b O,d.get? b=some O->(d.push (seqObj "list" w.toArray.toList.toArray 0)).get? b=some O:=λb O e=>sT _ e;have L:¬d.objs.size∈ps:=λz=>by
  obtain⟨i,hi,e⟩:=Dm z;have f:i<ks.length:=by lia
  obtain⟨o,_,_,g,_⟩:=mF E (F i _ ks[i] (by rw[oI hi,e]) (oI f));exact absurd (rN g) (BI _)
 have T1:fR X.prog X.w (d.push (seqObj "list" w.toArray.toList.toArray 0)) (· ∈ ps) ks w.toArray:=T0.stay λb O _ e=>up1 b O (B b O e);refine dV (Ax (BX slot_list_sort ⟨_,C,rfl⟩ entry_list_sort (rG (s:={s with heap:=d.push (seqObj "list" w.toArray.toList.toArray 0)}) C L T1 J nd (λh k M=>G (by simp_all) k M) λY ws c N π t=>⟨_,rfl,?_⟩) (args_list_sort _)));refine eH ⟨_,rfl,?_⟩;have keep:∀b O,d.get? b=some O->Y.get? b=some O:=λb O e=>t b O (λz=>absurd (rN (z▸e)) (BI _)) (up1 b O e);obtain⟨qs,rfl⟩:=Qt ws λv hv=>by
  obtain⟨i,hi,e⟩:=Dm hv;obtain⟨_,a,_,P,_⟩:=N.2 i v (by rw[Cp,oI hi,e]);exact⟨a,P⟩
 have σ:qs.length=(oT ks).length:=by have:=N.1;simpa using this.symm
 have qh:∀(i:Nat) a k,qs[i]?=some a->(oT ks)[i]?=some k->H a=some (.tup (k.map V.int)):=λi a k ea ek=>by
  obtain⟨k',a',e1,P,e3,e4⟩:=N.2 i (.ref a) (by rw[Cp,Ab,ea];rfl);rw[ek]at e1;cases e1;cases P;obtain⟨j,hj,ej⟩:=Dm e4;have R:j<ks.length:=by lia
  have D1:=F j a ks[j] (by rw[oI hj,ej]) (oI R);have t1:jT X.prog X.w Y ks[j] a:=(mF E D1).at λO S=>keep a O S;rw[e3.inj t1];exact D1
 have sl:(oT ks).length<=ks.length:=kM ks;refine⟨.ref d.objs.size,fI H d.objs.size (.lst (qs.map V.ref)),?_,rfl,q _ qs (E.hok.fresh (hF _)) σ qh⟩;refine E.laid (t':=s.toks) keep (hF _) ⟨by rw[eI,σ,DK];lia,qs.map Value.ref,c,?_,π⟩;have y:∀l:List Addr,bF (l.map V.ref) (l.map Value.ref):=by
  intro l
  induction l with
  |nil=>exact .nil
  |cons a r ih=>exact .cons rfl ih
 exact y qs
end
open Classical in
def HI:FN:=λb=>match b with
 |[d]=>(Ei d).bind λx=>(sV x.2).bind λa=>if a.length<4000/\a.Nodup/\(2<=a.length->∀k∈a,k≠[])then some (.own (.lst ((oT a).map tI)))else none
 |_=>none
def G3:Dx Qr HI:=by
 intro H G E Q y x e k;unfold HI at e;split at e
 ·obtain⟨⟨b,l⟩,h,e⟩:=aA e;obtain⟨B,d,e⟩:=aA e;dsimp only at d;split at e
  ·rename_i c;cases e;cases x with
   | cons a t=>
     cases t;obtain⟨p,C,rfl,j,f⟩:=KN a h;rw[Pl d]at f;obtain⟨A,rfl,m,n⟩:=Pn f;refine⟨p,b,A,B,rfl,j,m,n,c.1,c.2.1,c.2.2,λr z g o q=>?_⟩;have w:lX H (fI H r (.lst (z.map V.ref))):=aP g;exact k _ _ w ⟨r,rfl,g,_,aJ,Po o λi a s u v=>w _ _ (q i a s u v)⟩
  ·cases e
 ·cases e
def Qu:dY (HI [.lst (ks.map tI)]) K=((ks.length<4000/\ks.Nodup/\(2<=ks.length->∀k∈ks,k≠[]))/\K (.own (.lst ((oT ks).map tI)))):=by
 show dY ((sV (ks.map tI)).bind _) K=_;rw[pF];show dY (if _ then _ else none) K=_;rw[aN];rfl
def G4{Z:St}(I:eD X m Z H s)(h:H p=some (.frz o (.lst xs)))(A:X.H₀ p=none):eD X m Z (fI H p (.lst xs)) s:=by
 have t:∀{b:Addr} {u:HO},H b=some u->u≠.frz o (.lst xs)->b≠p:=λe n z=>by lia
 have N:∀b,H b=none->b≠p:=λb e z=>by lia
 have r:∀a x,cC X.prog X.w H s.heap a x->cC X.prog X.w (fI H p (.lst xs)) s.heap a x:=λa x k=>
  k.stay (λ_ _ _ e=>e) (λb e=>by rw[aG (t e nofun)];exact e) λb y e=>by rw[aG (t e nofun)];exact e
 have d:∀{b:Addr} {u:HO},X.H₀ b=some u->b≠p:=λe z=>by lia
 refine{I with base:=?_,free:=?_,freeC:=?_,pin:=?_,hok:=?_}
 ·exact⟨I.base.keep,I.base.slot,λb O q n g=>by
    have:=I.base.free b O q n g;rw[aG (N b this)];exact this,I.base.there,λb xs e=>by rw[aG (d e)];exact I.base.tups b xs e,λb O x e=>by rw[aG (d e)];exact I.base.frzs b O x e,λb w e=>by rw[aG (d e)];exact I.base.tbls b w e⟩
 ·rw[aG (N _ I.free)];exact I.free
 ·intro x c e;rw[aG (N _ (I.freeC x c e))];exact I.freeC x c e
 ·intro q i;obtain⟨j,f,l⟩:=I.pin q i;exact⟨j,by rw[aG (N _ f)];exact f,l⟩
 ·intro a x e;by_cases v:a=p;subst v;rw[aJ]at e;cases e;exact r a _ (I.hok a _ h).2;rw[aG v]at e;exact r a x (I.hok a x e)
def G5(ok:dX g H Z a)(h:RT c Z λb d=>∀f,dX g f d a->hC Z a H d a f->Q b f):CG g c a H Q:=by
 obtain⟨⟨b,d⟩,e,k⟩:=bQ.mp h;exact⟨Z,ok,b,d,e,k⟩
def G6{Q:V->Hp->Prop}(ok:dX i H Z d)(h:RE r Z λx f=>∀v g,dX i g f d->gN i g f d x v->hC Z d H f d g->Q v g):AY i r d H Q:=by
 obtain⟨⟨x,f⟩,e,k⟩:=bQ.mp h;exact⟨Z,ok,x,f,e,λv g a b c _=>k v g a b c⟩
def II{D:AQ}(ok:dX b H Z a)(h:RS r Z λo=>Hl b E Z a H o D):Bb b E r D a H:=by
 obtain⟨o,e,k⟩:=bQ.mp h;exact⟨Z,ok,o,e,k⟩
def BF.keep(h:BF H p a)(k:∀o,H p=some o->b p=some o):BF b p a:=h.imp (k _) λh=>⟨k _ h.1,h.2⟩
theorem BF.some(h:BF H p k):∃o,H p=some o/\Fz o:=h.elim (λh=>⟨_,h,True.intro⟩) λh=>⟨_,h.1,True.intro⟩
def BF.isD(h:BF H p k):Hb H p:=h.elim (λh=>.inr (.inl ⟨_,.inl h⟩)) λh=>.inl ⟨_,.inl h.1⟩
def G7{D:AQ}(hne:row≠g)(h:Bb Γ E (Gz g row ri rk ra) D σV H) :
  CU (EB KJ (gM g)) (CU (Fo (EI Γ ri) (gM row) (xE (Ef K "list" oG (Lu (pY g) (AY Γ rk) (Kt Ge)) (BW Γ ra)))) (Kh (Lz (pY g)))) D σV H:=by
 refine AN λN=>?_;obtain⟨Z,ok,o,e,k⟩:=h;unfold Gz at e;split at e
 case isFalse=>cases e
 rename_i hg;obtain⟨⟨O,l,n⟩,e1,e⟩:=aA e;dsimp only at e;split at e
 case isFalse=>cases e
 rename_i hz;obtain⟨rfl,Q,hz⟩:=hz;obtain⟨⟨acc,A⟩,e2,e⟩:=aA e;cases e;refine N ?_;intro p hp;have gl:g<σV.length:=by rw[← ok.len];exact(sL.mp hg).1
 have h0:=ok.dom p hp;have okP:eR Z g=true:=by unfold eR;rw[hg]
 have sm:lX H (fI H p (.dT [])):=aP hp;have ok1:dX Γ (fI H p (.dT [])) (Z.set g (some SG)) (σV.set g (some (.ref p))):=(ok.same sm).putOwn okP ⟨_,[],aJ,⟨rfl,rfl⟩,.nil⟩ (Qj ok hp) h0;have st1:hC Z σV H (Z.set g (some SG)) (σV.set g (some (.ref p))) (fI H p (.dT [])):=(hC.same sm).put okP .own (.inr ⟨rfl,λq e=>by cases e;exact hp⟩);have vg:(σV.set g (some (.ref p)))[g]?=some (some (.ref p)):=by rw[Bo gl]
 unfold gM CU;dsimp only;generalize σV.set g (some (.ref p))=f at ok1 st1 vg ⊢;refine⟨_,ok1,O,none,n,e1,λJ G P oka sta itd stay=>?_⟩;have mp:iU n f p:=⟨g,SG,Q,rfl,vg⟩;have dta:BF G p []:=by
  obtain⟨v,ev,rv⟩:=oka.rel g SG Q;rw[vg]at ev;cases ev;obtain⟨_,q,u,ws,hu,du,_⟩:=rv;cases q;cases u with
  |dK kvs=>exact .inr ⟨by rw[hu,List.map_eq_nil_iff.mp du.1.symm],rfl⟩
  |dT kvs=>exact .inl (by rw[hu,List.map_eq_nil_iff.mp du.1.symm])
  |dM kvs=>cases du.1
  |_=>exact du.elim
 have hid0:Cu Γ (n.set g none) f p:=⟨λZ1=>by
  obtain⟨i,s,h1,h2,h3⟩:=Z1;rcases aT h1 with⟨z,I,_⟩|⟨z,I⟩;cases I;exact oka.dis g i SG s p (hR z) Q I rfl h2 vg h3,h0⟩
 have gl1:g<n.length:=(sL.mp Q).1;refine⟨λi m σV2 R=>m=O.length-i/\i<=O.length/\∃c a2 kvs ls,Gy row rk ra (O.drop i) a2 c=some (acc,A)/\dX Γ R c σV2/\hC n f G (c.set g (some SG)) σV2 R/\σV2[g]?=some (some (.ref p))/\BF R p kvs/\Ay R i a2 kvs ls/\p∉ls/\(∀q,q=p\/q∈ls->Cu Γ c σV2 q)/\(∀q∈ls,G q=none)/\a2.length<=i,
  ⟨_,rfl,Ad _,n.set g none,[],[],[],by simpa using e2,oka.forget,by rw[List.set_set,D9 Q];exact .refl,vg,dta,.nil,by simp,λq hq=>by rcases hq with rfl|hq;exact hid0;simp at hq,by simp,hF _⟩,?_⟩
 refine λi m σV2 R hh=>AN λN=>?_;obtain⟨rfl,hi,c,a2,kvs,ls,ef,ok2,st2,vg2,dt2,gr,pn,hq,hla,al⟩:=hh;have hP:P R:=stay _ σV2 R st2;by_cases S:i<O.length
 ·have ei:O[i]? = some O[i]:=oI S;refine N (.inr ⟨itd.go R i _ hP ei,λσV3 Y=>∃ m',m' < O.length-i/\m'=O.length-(i+1)/\i+1<=O.length/\∃ c a2 kvs ls,Gy row rk ra (O.drop (i+1)) a2 c=some (acc,A)/\dX Γ Y c σV3/\hC n f G (c.set g (some SG)) σV3 Y/\σV3[g]? = some (some (.ref p))/\BF Y p kvs/\Ay Y (i+1) a2 kvs ls/\p∉ls/\(∀ q,q=p\/q∈ls->Cu Γ c σV3 q)/\(∀ q∈ls,G q=none)/\a2.length<=i+1,λσ' H' q=>q,λy Y hy=>AN λN=>?_⟩);obtain⟨T,ry⟩:=itd.yld R i _ y Y hP ei hy;rw[drop_eq_getElem_cons S]at ef;obtain⟨σ3,eg,ef1⟩:=aA ef;obtain⟨⟨xk,x⟩,ek,ef2⟩:=aA ef1;obtain⟨F,U,ef3⟩:=aA ef2;obtain⟨⟨ys,σ5⟩,ea,ef4⟩:=aA ef3;obtain⟨ds,evs,ef5⟩:=aA ef4;obtain⟨vd,σ,ef6⟩:=aA ef5;clear ef ef1 ef2 ef3 ef4 ef5;dsimp only at U ea evs ef6;unfold gX at eg;split at eg
  case isFalse=>cases eg
  rename_i okr;cases eg;have okr':eR (c.set g (some SG)) row=true:=by unfold eR;rw[sU (hR hne)];exact okr
  have M:=(ok2.same T).put okr ry;have st3:=(st2.trans (.same T)).put (v:=y) (d:=O[i]) okr' .val (.inl rfl);rw[List.set_comm _ _ (hR hne)]at st3;have B:(σV2.set row (some y))[g]?=some (some (.ref p)):=by rw[sU hne];exact vg2
  have hq3:∀q,q=p\/q∈ls->Cu Γ (c.set row (some ⟨.val,O[i]⟩)) (σV2.set row (some y)) q:=λq h=>⟨λZ1=>by
   obtain⟨j,s,h1,h2,h3⟩:=Z1;rcases aT h1 with⟨z,I,_⟩|⟨z,I⟩;cases I;exact h2 rfl;exact(hq q h).nv ⟨j,s,I,h2,by rw[sU (hR z)]at h3;exact h3⟩,(hq q h).h0⟩
  have gl2:g<(c.set row (some ⟨.val,O[i]⟩)).length:=by rw[M.len];exact(sL.mp B).1
  refine N ?_;unfold xE;dsimp only;generalize σV2.set row (some y)=σV3 at M st3 B hq3 ⊢;generalize c.set row (some ⟨.val,O[i]⟩)=σ3 at M st3 hq3 ek gl2;have gr3:Ay Y i a2 kvs ls:=gr.keep (.same T) λl _ o e=>T l o e;have dt3:BF Y p kvs:=dt2.keep λo e=>T p o e;refine⟨.ref p,B,p,rfl,dt3.isD,σ3,M,xk,x,ek,λvk H4 X rk4 st4 f4=>⟨Ad _,λl π=>?_⟩⟩;have kp4:∀ q,q=p\/q∈ls->∀ o,Y q=some o->H4 q=some o:=λq h o e=>((hq3 q h).step st4 e).2;have hq4:∀ q,q=p\/q∈ls->Cu Γ x σV3 q:=λq h=>by
   have:∃o,Y q=some o:=by
    rcases h with rfl|h;obtain⟨o,e,_⟩:=dt3.some;exact⟨o,e⟩;obtain⟨xs,e⟩:=gr3.soft q h;exact⟨_,e⟩
   obtain⟨o,e⟩:=this;exact((hq3 q h).step st4 e).1
  have st4':hC n f G (x.set g (some SG)) σV3 H4:=st3.trans (st4.wide gl2 (by rw[X.len,M.len]) B B);have ext4:=st4.ext M;have gr4:Ay H4 i a2 kvs ls:=gr3.keep ext4 λl π=>kp4 l (.inr π);have dt4:BF H4 p kvs:=dt3.keep (kp4 p (.inl rfl));refine AN λN=>?_;obtain⟨b,rfl,hb⟩:∃ b,vk=.ref b/\H4 b=some (.tup (F.map kV)):=by
   unfold IG at U;split at U
   ·have rk4:Rp H4 (.tup _) vk:=rk4;cases rk4 with
    |tup h r=>rw[tJ U]at r;rw[Qd r]at h;exact⟨_,rfl,h⟩
   ·cases U
  have lp:l≠p:=λz=>by obtain⟨o,e,_⟩:=dt4.some;rw[z,e]at π;cases π
  have lls:l∉ls:=λz=>by obtain⟨xs,e⟩:=gr4.soft l z;rw[e]at π;cases π
  have s5:lX H4 (fI H4 l (.lst [])):=aP π;have hidl:Cu Γ x σV3 l:=⟨Qj X π,X.dom l π⟩;have hal:G l=none:=st4'.dom l π;have gr5:Ay (fI H4 l (.lst [])) i a2 kvs ls:=gr4.keep (.same s5) λq _ o e=>s5 q o e;have dt5:BF (fI H4 l (.lst [])) p kvs:=dt4.keep λo e=>s5 p o e;have st5:hC n f G (x.set g (some SG)) σV3 (fI H4 l (.lst [])):=st4'.hid (.inl hal)
  have fin:∀ (H6:Hp) (a6:Ca) (w:List (List Key×V)) (C:List Addr) (v:V),dX Γ H6 x σV3->hC n f G (x.set g (some SG)) σV3 H6->BF H6 p w->Ay H6 i a6 w C->p∉C->(∀ q,q=p\/q∈C->Cu Γ x σV3 q)->(∀ q∈C,G q=none)->nJ w F=some v->wY F vd a6=wY F vd a2->a6.length<=i+1 ->
    Ig K "list" v H6/\BW Γ ra σV3 H6 λxs H7=>oG v xs H7 λ_ H8=>∃m',m' < O.length-i/\m'=O.length-(i+1)/\i+1<=O.length/\∃c a2 kvs ls,Gy row rk ra (O.drop (i+1)) a2 c=some (acc,A)/\dX Γ H8 c σV3/\hC n f G (c.set g (some SG)) σV3 H8/\σV3[g]?=some (some (.ref p))/\BF H8 p kvs/\Ay H8 (i+1) a2 kvs ls/\p∉ls/\(∀q,q=p\/q∈ls->Cu Γ c σV3 q)/\(∀q∈ls,G q=none)/\a2.length<=i+1:=by
   intro H6 a6 w C v ok6 st6 dt6 gr6 pn6 hq6 hla6 hv eg6 al6;refine AN λN=>?_;obtain⟨l6,xs6,rfl,m6,hl6,hx6,_⟩:=gr6.app (d:=vd) (y:=.non) hv;refine N ⟨.inl ⟨rfl,xs6,Bd.of hl6⟩,x,ok6,ys,σ5,ea,λus H7 ok7 r7 st7 f7=>AN λN=>?_⟩;have ry7:=lC r7 evs;obtain⟨y7,rfl,r1⟩:∃ y7,us=[y7]/\Rp H7 vd y7:=by
    unfold Qi at σ;split at σ
    ·cases σ;cases ry7 with
     |cons a t=>cases t;exact⟨_,rfl,a⟩
    ·cases σ
   have kp7:∀ q,q=p\/q∈C->∀ o,H6 q=some o->H7 q=some o:=λq h o e=>((hq6 q h).step st7 e).2;have hq7:∀ q,q=p\/q∈C->Cu Γ σ5 σV3 q:=λq h=>by
    have:∃o,H6 q=some o:=by
     rcases h with rfl|h;obtain⟨o,e,_⟩:=dt6.some;exact⟨o,e⟩;obtain⟨xs,e⟩:=gr6.soft q h;exact⟨_,e⟩
    obtain⟨o,e⟩:=this;exact((hq6 q h).step st7 e).1
   have gr7:Ay H7 i a6 w C:=gr6.keep (st7.ext ok6) λl π=>kp7 l (.inr π);have dt7:BF H7 p w:=dt6.keep (kp7 p (.inl rfl));obtain⟨l7,xs7,q7,m7,hl7,hx7,app⟩:=gr7.app (d:=vd) (y:=y7) hv;cases q7;have sf:FJ H7 l6:=.inr ⟨_,hl7,True.intro⟩;have lp7:l6≠p:=λz=>pn6 (z▸m7);have gl4:g<x.length:=by rw[ok6.len];exact(sL.mp B).1
   refine N ⟨l6,xs7,y7,rfl,rfl,hl7,CS hx7 (Ao (CT S hz) (by decide)),_,by grind,rfl,S,σ5,wY F vd a6,w,C,?_,ok7.hid (hq7 l6 (.inr m7)) sf,(st6.trans (st7.wide gl4 (by rw[ok7.len,ok6.len]) B B)).hid (.inl (hla6 l6 m7)),B,dt7.keep λo e=>by rw[aG (hR lp7)];exact e,app (r1.mono sf.ext) sf.ext,pn6,hq7,hla6,?_⟩;rw[eg6];exact ef6;have:=(app (r1.mono sf.ext) sf.ext).len;have:=gr7.len;lia
  refine N ⟨kvs,F,b,dt5,rfl,s5 b _ hb,?_,λv hv=>?_,λhv=>?_⟩;have:=gr4.len;exact CS (by simp[*]) (Ao (CT S hz) (by decide));exact fin _ a2 kvs ls v (X.same s5) st5 dt5 gr5 pn hq4 hla hv rfl (le_succ_of_le al);have sp:FJ (fI H4 l (.lst [])) p:=.inr dt5.some;have kl:∀q∈ls++[l],q≠p:=λq h z=>by
   rcases Ac.mp h with h|h;exact pn (z▸h);exact lp (by rw[← Ah.mp h];exact z)
  refine fin _ (a2++[(F,[])]) (kvs++[(F,.ref l)]) (ls++[l]) (.ref l) ((X.same s5).hid (hq4 p (.inl rfl)) sp) (st5.hid (.inr mp)) (.inl aJ) ((gr5.more aJ lls).keep sp.ext λq h o e=>by rw[aG (kl q h)];exact e) (λz=>kl p z rfl) (λq h=>?_) (λq h=>?_) (Qg hv) (wB (by rw[← gr4.keys];exact Qe hv)) (by rw[AL];exact Nat.succ_le_succ al);rcases h with h|h;exact hq4 q (.inl h);rcases Ac.mp h with h|h;exact hq4 q (.inr h);cases Ah.mp h;exact hidl;rcases Ac.mp h with h|h;exact hla q h;cases Ah.mp h;exact hal
 ·have e0:i=O.length:=by lia
  subst e0;rw[drop_length]at ef;cases ef;refine N (.inl ⟨itd.stop R hP,_,vg2,D8 gr.soft gr.nodup λH' k1 k2=>?_⟩);have gL:∀a,a∈ls->Cu Γ A σV2 a/\FJ R a:=λa h=>by obtain⟨xs,e⟩:=gr.soft a h;exact⟨hq a (.inr h),.inr ⟨_,e,True.intro⟩⟩
  have ex:=tH (L:=(· ∈ ls)) (λa h=>(gL a h).2) k1;have ok':dX Γ H' (A.set g none) σV2:=(ok2.hids (L:=(· ∈ ls)) gL k1).forget;have st':hC n f G (A.set g (some SG)) σV2 H':=st2.hids (L:=(· ∈ ls)) (λa h=>⟨.inl (hla a h),by obtain⟨xs,e⟩:=gr.soft a h;obtain⟨o,e'⟩:=k2 a h xs e;rw[e'];exact λz=>nomatch z⟩) k1;have st'':hC Z σV H (A.set g none) σV2 H':=by
   have:=(st1.trans sta).trans st';rw[show A.set g (some SG)=(A.set g none).set g (some SG) by rw[List.set_set]]at this;refine this.drop hg λs z=>?_;rcases aT z with⟨_,I,_⟩|⟨z1,_⟩;cases I;exact z1 rfl
  refine k (.ref p) σV2 H' ok' ⟨p,rfl,?_,λ⟨j,s,h1,h2,h3⟩=>?_,h0⟩ st''
  ·have rp:=gr.rps ex k2;have dt':BF H' p kvs:=dt2.keep λo e=>by rw[k1 p pn];exact e
   have kk:acc.map (λp=>PySem.D.tup (p.1.map oN))=kvs.map λkv=>PySem.D.tup (kv.1.map oN):=by
    have:=Cn (List.map λl:List Key=>PySem.D.tup (l.map oN)) gr.keys;simpa[map_map,Function.comp_def]using this.symm
   rcases dt' with e|⟨e,rfl⟩;exact⟨_,_,e,⟨kk,rfl⟩,rp⟩;refine⟨_,[],e,⟨kk,rfl⟩,rp⟩
  ·rcases aT h1 with⟨_,I,_⟩|⟨_,I⟩;cases I;exact(hq p (.inl rfl)).nv ⟨j,s,I,h2,h3⟩
def G8(d:row≠g)(m:PS X a (EB KJ (gM g)))
  (i:∀k,PS X b (Fo (EI k r) (gM row) (xE (Ef K "list" oG (Lu (pY g) (AY k e) (Kt Ge)) (BW k f))))) (j:PS X c (Kh (Lz (pY g)))):CI E X [a,b,c] (Gz g row r e f):=
 .mk λk=>Hc (eZ m (eZ (i k) (kB j))) λD l H h=>G7 d h
noncomputable def Df:D->Option Tk
 |.str x=>some (.s x)
 |.tup [a,b]=>(Df a).bind λx=>(Df b).bind λy=>some (.p x y)
 |_=>none
def G9(h:Rp H d v)(e:Df d=some k):d=nL k/\xD H k v:=by
 induction k generalizing d v with
 | s x=>
   cases d with
   |str y=>cases e;cases h;exact⟨rfl,rfl⟩
   | tup l=>
     cases l with
     |nil=>cases e
     | cons a l=>
       cases l with
       |nil=>cases e
       | cons b l=>
         cases l with
         | nil=>
           obtain⟨x,c,e⟩:=aA (o:=Df a) e;obtain⟨y,f,e⟩:=aA e;cases e
         |cons=>cases e
   |_=>cases e
 | p i j t q=>
   cases d with
   |str y=>cases e
   | tup l=>
     cases l with
     |nil=>cases e
     | cons a l=>
       cases l with
       |nil=>cases e
       | cons b l=>
         cases l with
         | nil=>
           obtain⟨x,c,e⟩:=aA (o:=Df a) e;obtain⟨y,f,e⟩:=aA e;cases e;cases h with
           | tup h r=>
             cases r with
             | cons g r=>
               cases r with
               | cons m r=>
                 cases r;obtain⟨rfl,n⟩:=t g c;obtain⟨rfl,o⟩:=q m f;exact⟨rfl,_,_,_,rfl,h,n,o⟩
         |cons=>cases e
   |_=>cases e
theorem wH:∀k:Tk,Df (nL k)=some k
 |.s x=>rfl
 |.p a b=>by show (Df (nL a)).bind _=_;rw[wH a];show (Df (nL b)).bind _=_;rw[wH b];rfl
noncomputable def IJ:List D->Option (List Tk)
 |[]=>some []
 |d::r=>(Df d).bind λk=>(IJ r).bind λl=>some (k::l)
theorem LB:∀l:List Tk,IJ (l.map nL)=some l
 |[]=>rfl
 |k::r=>by rw[BJ,IJ,wH,LB r];rfl
def wI:List D->Option (List Tk)
 |.non::r=>IJ r
 |k=>(iD k).map λl=>l.map .s
noncomputable def GB:List Tk->List D->Tk->Option D
 |j::a,v::b,k=>if j=k then some v else GB a b k
 |_,_,_=>none
def Qv(h:Jp u ks w)(r:Rps H n w)(e:wI ks=some J)(o:J.isEmpty=false):∃ j,(u=.dM j\/∃ l,u=.dK (rE l)/\j=FH l)/\J=j.map (·.1)/\Rps H n (j.map (·.2)):=by
 cases u with
 | dM j=>
   obtain⟨rfl,rfl⟩:=h;have b:IJ (j.map λa=>nL a.1)=some J:=e;rw[show j.map (λa=>nL a.1)=(j.map (·.1)).map nL by simp,LB]at b
   simp_all
 | dK j=>
   obtain⟨rfl,rfl⟩:=h;have b:(iD (j.map λa=>oN a.1)).map (λl=>l.map Tk.s)=some J:=by
    cases j with
    |nil=>exact e
    |cons p t=>obtain⟨k,v⟩:=p;cases k<;>exact e
   obtain⟨z,c,rfl⟩:=Bg.mp b;have d:∀ (j:List (Key×V)) (z:List Str),iD (j.map λa=>oN a.1)=some z->∃ l:List (Str×V),j=rE l/\z=l.map (·.1):=by
    intro j
    induction j with
    |nil=>intro z e;cases e;exact⟨[],rfl,rfl⟩
    | cons p t f=>
      intro z e;obtain⟨k,v⟩:=p;cases k with
      |inl i=>cases e
      | inr x=>
        obtain⟨l,c,g⟩:=aA (show(iD (t.map λa=>oN a.1)).bind (λl=>some (x::l))=some z from e);cases g;obtain⟨m,rfl,rfl⟩:=f l c;exact⟨(x,v)::m,rfl,rfl⟩
   obtain⟨l,rfl,rfl⟩:=d j z c;refine⟨FH l,.inr ⟨l,rfl,rfl⟩,by simp[FH],?_⟩;rw[show(FH l).map (·.2)=(rE l).map (·.2) by simp[FH,rE]];exact r
 | dT j=>
   obtain⟨rfl,rfl⟩:=h;cases j with
   |nil=>cases e;cases o
   |cons p t=>cases e
 |_=>exact h.elim
theorem tR:∀ {b:List (Tk×V)} {c:List D},Rps H c (b.map (·.2))->(GB (b.map (·.1)) c k=none/\FI b k=none)\/∃ d v,GB (b.map (·.1)) c k=some d/\FI b k=some v/\Rp H d v
 |[],_,.nil=>.inl ⟨rfl,rfl⟩
 | p::b,_,.cons a t=>by
   show((if p.1=k then _ else _)=_/\(if p.1=k then _ else _)=_)\/∃d v,(if p.1=k then _ else _)=_/\(if p.1=k then _ else _)=_/\_;by_cases e:p.1=k
   ·simp_all
   ·simp only[if_neg e];exact tR t
def JR(a:List Tk):Bool:=a.all λj=>j.ok
def Qw{k:List (Tk×V)}(h:JR (k.map (·.1))=true):∀p∈k,p.1.ok=true:=λp a=>HX.mp h _ (sY.mpr ⟨p,a,rfl⟩)
def Em:F2:=λd e=>match d with
 |.dic b v=>(Df e).bind λk=>(wI b).bind λa=>if(k.ok&&JR a && !a.isEmpty)=true then(GB a v k).map .val else none
 |_=>none
def Qx(h:AX H e y)(q:Df e=some k):e=nL k/\xD H k y:=by
 rcases h with h|⟨p,rfl,h⟩;exact G9 h q;cases e with
 |lst l|dic a v=>cases q
 |_=>exact h.elim
def H9:rY PY Em:=by
 intro H d e x y Q C g h b k;unfold Em at b;split at b
 ·obtain⟨j,i,b⟩:=aA b;obtain⟨A,m,b⟩:=aA b;split at b
  ·rename_i hc;obtain⟨v,c,n⟩:=Bg.mp b;cases n;rw[BZ,BZ]at hc;obtain⟨a,u,E,rfl,f,o,p⟩:=Lx g;obtain⟨B,q,rfl,r⟩:=Qv o p m (by simp_all);rcases tR (k:=j) r with⟨z,_⟩|⟨d,w,z,s,t⟩
   ·simp_all
   ·rw[z]at c;cases c;refine⟨a,B,j,w,rfl,?_,(Qx h i).2,hc.1.1,Qw hc.1.2,s,k _ _ (.refl _) t⟩;rcases q with rfl|⟨l,rfl,e⟩;exact .inl f;exact .inr ⟨l,f,e⟩
  lia
 lia
def I0(e:X.A.units+64<cLine)(H:GE X a c)(hb:GE X b d)(h:KI b):GE X (.Subscript a b pos) (aI Em c d):=.mk λf=>Bk (B4 e (H.to f) (hb.to f) h) λ_ _ _=>lB H9
def IK(e x:D):D->Option D
 |.dic b v=>(Df e).bind λk=>(wI b).bind λa=>if(k.ok&&JR a && !a.isEmpty&&(GB a v k).isNone&&decide (a.length<4000))=true then some (.dic (.non::(a++[k]).map nL) (v++[x]))else none
 |_=>none
noncomputable def IL(k:Nat)(Z:Sg):Bool:=match Z[k]? with
 |some (some s)=>decide (s.m≠.val)
 |_=>false
def IM(k:Nat)(c f:DE):DS:=λZ=>(f Z).bind λx=>match x.1 with
 |.val d=>if IL k x.2=true then(c x.2).bind λy=>(rd y.2 y.1).bind λe=>(CH (λa _=>(IK e d a).map λb=>(b,.non)) k [] y.2).bind λz=>some (.nx z.2)else none
 |_=>none
def I3(h:∀ Γ,PS X st (EB (AY Γ L) (Kl (pY k) (AY Γ A) PZ))):GS E X st (IM k A L):=.mk λΓ=>CF (h Γ) λD σV H Z1=>by
 obtain⟨Z,ok,o,e,π⟩:=Z1;obtain⟨⟨x,c⟩,P,e⟩:=aA e;refine⟨Z,ok,x,c,P,λv H1 i Q B f1=>?_⟩;cases x with
 |own d|slot d=>cases e
 | val d=>
   have f:(if IL k c=true then(A c).bind λy=>(rd y.2 y.1).bind λe=>(CH (λa _=>(IK e d a).map λb=>(b,.non)) k [] y.2).bind λz=>some (.nx z.2)else none)=some o:=e;split at f
   ·rename_i hn;obtain⟨⟨y,C⟩,R,f⟩:=aA f;obtain⟨di,S,f⟩:=aA f;obtain⟨⟨z,T⟩,U,f⟩:=aA f;cases f;obtain⟨s0,F,G⟩:∃ s0,c[k]? = some (some s0)/\s0.m≠.val:=by
     unfold IL at hn;split at hn
     ·simp_all
     ·cases hn
    obtain⟨p,ep,ow⟩:=i.ownAt F G;obtain⟨s,d',y',hs,hm,V,rfl,rfl⟩:=fT U;obtain⟨b,g,W⟩:=Bg.mp V;cases W;refine⟨_,ep,c,i,y,C,R,λvi Y n σ q f2=>?_⟩;obtain⟨p',r,t⟩:=n.ownAt hs (gO hm);rw[ep]at r;cases r;have rv:Rp Y d v:=Rp.mono (q.ext i) Q;obtain⟨m,sd⟩:=s;cases sd with
    | dic ks vs=>
      obtain⟨j,g1,g⟩:=aA g;obtain⟨js,g2,g⟩:=aA g;split at g
      ·rename_i hc;cases g;rw[BZ,BZ,BZ,BZ,Ep]at hc;have I:=t;obtain⟨u,ws,M,h2,h3⟩:=t;obtain⟨O,hu,rfl,N⟩:=Qv h2 h3 g2 (by simpa using hc.1.1.2);have tk:=(Qx (σ.vw n S) g1).2;rcases tR (k:=j) N with⟨_,z⟩|⟨dd,w,z,_⟩
       ·refine⟨p,O,j,rfl,?_,tk,hc.1.1.1.1,Qw hc.1.1.1.2,z,by simpa using hc.2,?_⟩;rcases hu with rfl|⟨l,rfl,e⟩;exact .inl M;exact .inr ⟨l,M,e⟩;have ex:=cM.ext (o':=.dM (O++[(j,v)])) I;obtain⟨J,K⟩:=n.write (d':=.dic (.non::(O.map (·.1)++[j]).map nL) (vs++[d])) (o':=.dM (O++[(j,v)])) hs hm ep ⟨_,(O++[(j,v)]).map (·.2),aJ,⟨by simp,rfl⟩,by rw[map_append];exact(N.append (.cons rv .nil)).mono ex⟩;exact π _ _ J ((B.trans q).trans K)
       simp_all
      ·cases g
    |_=>cases g
   ·cases f
noncomputable abbrev qP(q:Str×List Str):D:=.tup [.str q.1,.tup (q.2.map D.str)]
noncomputable abbrev qD(q:List (Str×List Str)):D:=.tup (q.map qP)
def J0{c:Type}{v:List c}{x y:c}(h:2=v.length)(d:v[0]?=some x)(H:v[1]?=some y):v=[x,y]:=by
 match v,h with
 |[a,b],_=>simp_all
def Qy(h:CJ a)(hb:CJ b):CJ (FD t a b):=λZ Q d w q=>bJ q λx q=>by
 dsimp only at q ⊢;split at q;rename_i c;rw[gV c];exact h _ _ _ w q;rename_i c;rw[a0m c];exact hb _ _ _ w q
def FO(a:List Str)(t:List (List Str)):Prop:=1<=t.length/\t.length<=6/\∀l∈t,(1<=l.length/\l.length<=10)/\l.Nodup/\∀z∈l,z∈a
noncomputable abbrev qK(t:List (List Str)):D:=.lst (t.map λl=>.tup (l.map D.str))
def GC:MC:=λA K=>∃(a b:Int) (e:List Str),A=[⟨.par,.lst [.int a,.int b]⟩,⟨.val,.lst (e.map D.str)⟩]/\e.length=6/\e.Nodup/\(∀z∈e,dJ (.str z)=true)/\∀t c d,FO e t->K (.own (qK t)) [⟨.par,.lst [.int c,.int d]⟩,⟨.val,.lst (e.map D.str)⟩]
def LC:HF GC:=λA K j w ⟨a,b,z,e,c,d,f,q⟩=>⟨a,b,z,e,c,d,f,λt g i h=>w _ _ (q t g i h)⟩
def iG:DS:=(aW (bC 2 (aI gP (aI wX (dC (.int 7919)) (aC 1)) (dC (.int 11))))
 (aW (jW (cT (aI Ej (aC 1) (hB jQ (aB (aC 0) aF)))) (bC 2 (aI hQ (aC 0) (aC 1))) (jW (cT (aI CM (hB jQ (aB (aC 0) aF)) (dC (.int 0)))) (bC 2 (aI gP (aC 2) (aI wX (aI CL (aI hQ (aC 0) (aI CL (aC 1) (hB jQ (aB (aC 0) aF)))) (dC (.int 2147483629))) (dC (.int 69623))))) dZ))
 (aW (bC 3 (aI gP (aI CL (aI gP (aI wX (aI CL (aC 2) (dC (.int 2147483629))) (dC (.int 48271))) (aI wX (dC (.int 40692)) (aC 1))) (dC (.int 2147483629))) (dC (.int 1))))
 (fQ (iB (aB (kN (aI wX (aC 2) (hB Gq (aB (aI Jz (aC 2) (aI Jy (dC (.int 10)) (dC (.int 18)))) aF)))) (aB (kN (aC 3)) aF)))))))
def eX:PySem.Aa4:=iV 4 iG
def gC:DS:=(aW (jW (cT (aI CM (aI hQ (aC 0) (dC (.int 0))) (dC (.int 0)))) (aW (bC 2 (aI CL (aI hQ (aC 0) (dC (.int 0))) (aC 1)))
 (aW (Gs 0 (dC (.int 0)) (aI Hv (aI hQ (aC 0) (dC (.int 0))) (aC 1)))
 (fQ (aC 2)))) dZ)
 (aW (bC 3 (aI CL (aI wX (aI hQ (aC 0) (dC (.int 1))) (dC (.int 69623))) (dC (.int 2147483647))))
 (aW (Gs 0 (dC (.int 1)) (aI gP (aI CL (aI gP (aI wX (aC 3) (dC (.int 48271))) (dC (.int 30103))) (dC (.int 2147483629))) (dC (.int 1))))
 (fQ (aI CL (aI Hv (aI gP (aI wX (aC 3) (dC (.int 2147483647))) (aI hQ (aC 0) (dC (.int 1)))) (dC (.int 8191))) (aC 1))))))
def aD:PySem.Aa4:=iV 4 gC
def fD:DS:=(aW (bC 2 (dC (.str "abcdefghijklmnopqrstuvwxyz")))
 (aW (bC 3 (CV (Hy "") (bV [12] (uY (aB (aE 2 aD (aB (aC 0) (aB (dC (.int 5)) aF))) aF)) (gX 12) eU (aI hQ (aC 2) (aE 2 aD (aB (aC 0) (aB (dC (.int 26)) aF)))))))
 (aW (bC 4 (aE 2 aD (aB (aC 0) (aB (aI gP (hB jQ (aB (aC 3) aF)) (dC (.int 1))) aF))))
 (aW (bC 5 (aE 2 aD (aB (aC 0) (aB (dC (.int 26)) aF))))
 (aW (bC 6 (aE 2 aD (aB (aC 0) (aB (dC (.int 4)) aF))))
 (aW (jW (cT (aI (Av false) (aC 6) (dC (.int 2)))) (aW (EH (dI 3 (aL (gX 7) (aL (gX 8) (aL (gX 9) eN)))) (kN (Ci (Ci (aC 2) (dP (aE 2 aD (aB (aC 0) (aB (dC (.int 24)) aF)))) yF) yF (dP (dC (.int 3))))))
 (aW (bC 10 (iB (aB (kN (aC 7)) (aB (kN (aI gP (aC 7) (aC 8))) (aB (kN (aC 8)) (aB (kN (aI gP (aC 8) (aC 9))) aF))))))
 (fQ (Ci (aI gP (aC 10) (iB (aB (kN (aC 9)) (aB (kN (aI gP (aC 7) (aC 9))) (aB (kN (aI gP (aI gP (aC 7) (aC 8)) (aC 9))) (aB (kN (aI gP (aC 9) (aC 8))) aF)))))) yF (dP (aC 1)))))) dZ)
 (aW (bC 11 (iB aF))
 (aW (mS (uY (aB (aC 1) aF)) (gX 12)
 (aW (bC 13 (aI gP (aI gP (Ci (aC 3) yF (dP (aC 4))) (aI hQ (aC 2) (aI CL (aI gP (aC 5) (aI wX (dC (.int 5)) (aC 12))) (dC (.int 26))))) (Ci (aC 3) (dP (aC 4)) yF)))
 (fP (eM "list" 11 vD (aB (kN (aI gP (aC 13) (aI wX (dC (.str "z")) (hB Gq (aB (Hj (aI (Av false) (aC 6) (dC (.int 1))) (aI (Av false) (aI CL (aC 12) (dC (.int 2))) (dC (.int 1)))) aF))))) aF)))))
 (aW (bC 14 (iB (aB (dC (.str "table")) (aB (dC (.str "tree")) (aB (dC (.str "none")) (aB (dC (.str "answer")) (aB (dC (.str "levels")) (aB (dC (.str "looks")) aF))))))))
 (aW (bC 14 (aI gP (aC 14) (iB (aB (dC (.str "at")) (aB (dC (.str "count")) (aB (dC (.str "ears")) (aB (dC (.str "cover")) (aB (dC (.str "place")) aF))))))))
 (aW (bC 13 (aI hQ (aC 14) (aE 2 aD (aB (aC 0) (aB (dC (.int 11)) aF)))))
 (aW (jW (DR (cT (aI (Av false) (aE 2 aD (aB (aC 0) (aB (dC (.int 4)) aF))) (dC (.int 0)))) (cT (aI (Bq true) (aC 13) (aC 11)))) (Gs 11 (aE 2 aD (aB (aC 0) (aB (aC 1) aF))) (kN (aC 13))) dZ)
 (fQ (aC 11))))))))))))))
def cW:PySem.Aa4:=iV 15 fD
def hV:DS:=(aW (bC 2 (hB oV (aB (aC 1) aF)))
 (aW (bC 3 (iB aF))
 (aW (oR (cT (aI CM (hB jQ (aB (aC 2) aF)) (dC (.int 0))))
 (fP (eM "list" 3 vD (aB (kN (eM "list" 2 oW (aB (kN (aE 2 aD (aB (aC 0) (aB (hB jQ (aB (aC 2) aF)) aF)))) aF))) aF))))
 (fQ (aC 3)))))
def aR:PySem.Aa4:=iV 4 hV
def bM:DS:=(fQ (hB lE (aB (Ci (aE 2 aR (aB (aC 0) (aB (aC 1) aF))) yF (dP (aC 2))) aF)))
def aM:PySem.Aa4:=iV 3 bM
def bY:DS:=(aW (bC 2 (Ci (aC 1) yF (dP (aI gP (dC (.int 1)) (aE 2 aD (aB (aC 0) (aB (dC (.int 6)) aF)))))))
 (aW (bC 3 (iB aF))
 (aW (mS (uY (aB (aI gP (dC (.int 1)) (aE 2 aD (aB (aC 0) (aB (dC (.int 6)) aF)))) aF)) (gX 4)
 (fP (eM "list" 3 vD (aB (kN (aE 3 aM (aB (aC 0) (aB (aC 2) (aB (aI gP (dC (.int 1)) (aE 2 aD (aB (aC 0) (aB (hB oU (aB (dC (.int 4)) (aB (hB jQ (aB (aC 2) aF)) aF))) aF)))) aF))))) aF))))
 (fQ (aC 3)))))
def bD:PySem.Aa4:=iV 5 bY
def bZ:DS:=(aW (bC 2 (hB oV (aB (Ci (aC 1) yF (dP (dC (.int 6)))) aF)))
 (aW (bC 3 (iB aF))
 (aW (mS (uY (aB (aI gP (dC (.int 1)) (aE 2 aD (aB (aC 0) (aB (dC (.int 6)) aF)))) aF)) (gX 4)
 (aW (bC 5 (iB aF))
 (aW (jW (cT (aI CM (aC 4) (dC (.int 0)))) (aW (bC 6 (aI hQ (aC 3) (aE 2 aD (aB (aC 0) (aB (aC 4) aF)))))
 (bC 5 (hB oV (aB (aE 3 aM (aB (aC 0) (aB (aC 6) (aB (aE 2 aD (aB (aC 0) (aB (aI gP (hB oU (aB (dC (.int 3)) (aB (hB jQ (aB (aC 6) aF)) aF))) (dC (.int 1))) aF))) aF)))) aF)))) dZ)
 (aW (mS (uY (aB (aE 2 aD (aB (aC 0) (aB (aI Hr (dC (.int 5)) (hB jQ (aB (aC 5) aF))) aF))) aF)) (gX 7)
 (jW (cT (aI CM (hB jQ (aB (aC 2) aF)) (dC (.int 0)))) (fP (eM "list" 5 vD (aB (kN (uU "list" 2 Gr)) aF))) dZ))
 (aW (jW (cT (aI (Av false) (hB jQ (aB (aC 5) aF)) (dC (.int 0)))) (bC 5 (Hk (cT (aI (Av false) (aC 4) (dC (.int 0)))) (iB (aB (aI hQ (aC 1) (dC (.int 0))) aF)) (iB (aB (aI hQ (aI hQ (aC 3) (dC (.int 0))) (dC (.int 0))) aF)))) dZ)
 (aW (jW (DR (cT (aI (Bq false) (aI hQ (aC 1) (dC (.int 0))) (aC 5))) (cT (aI (Bq false) (aI hQ (aC 1) (dC (.int 0))) (aC 2)))) (fP (eM "list" 2 Iu (aB (aI hQ (aC 1) (dC (.int 0))) aF))) dZ)
 (fP (eM "list" 3 vD (aB (hB lE (aB (aE 2 aR (aB (aC 0) (aB (aC 5) aF))) aF)) aF)))))))))
 (fQ (aC 3)))))
def bE:PySem.Aa4:=iV 8 bZ
def cA:MS:=(zU (RS (Iq 2 3 (aB (kN (aE 2 cW (aB (aC 0) (aB (dC (.int 6)) aF)))) (aB (kN (aE 2 cW (aB (aC 0) (aB (dC (.int 6)) aF)))) aF))))
 (zU (RS (jW (cT (aI (Av false) (aE 2 aD (aB (aC 0) (aB (dC (.int 4)) aF))) (dC (.int 0)))) (bC 3 (kN (aE 2 aR (aB (aC 0) (aB (aC 2) aF))))) dZ))
 (zU (RS (bC 4 (kN (aC 1))))
 (zU (RS (jW (cT (aI (Av false) (aC 1) (dC (.int 3)))) (bC 4 (aE 2 aD (aB (aC 0) (aB (dC (.int 3)) aF)))) dZ))
 (zU (FD (cT (aI (Av false) (aC 4) (dC (.int 0)))) (RS (bC 5 (aE 2 bD (aB (aC 0) (aB (aC 2) aF))))) (FD (cT (aI (Av false) (aC 4) (dC (.int 1)))) (RS (bC 5 (aE 2 bE (aB (aC 0) (aB (aC 2) aF))))) (vU 5 2 GC (aB (aC 0) (aB (aC 2) aF)))))
 (RS (fQ (hB HB (aB (aC 3) (aB (aC 5) aF))))))))))
def dG:MC:=Hq 6 cA
def cH:CJ cA:=(jE jD (jE jD (jE jD (jE jD (jE (Qy jD (Qy jD (sZ LC))) jD)))))
def cZ:DS:=(aW (bC 1 (iB aF))
 (aW (mS (Al (aC 0)) (dI 2 (aL (gX 2) (aL (gX 3) eN)))
 (fP (pZ "list" 1 EK (aB (bV [4] (Al (aC 3)) (gX 4) (cT (aI (Bq true) (aC 4) (aC 1))) (kN (aC 4))) aF))))
 (fQ (aC 1))))
def cO:PySem.Aa4:=iV 5 cZ
def fE:DS:=(aW (bC 2 (aE 2 aD (aB (aC 0) (aB (aC 1) aF))))
 (aW (jW (cT (aI (Av false) (aC 1) (dC (.int 12)))) (fQ (aI hQ (iB (aB (dC (.int 0)) (aB (dC (.int 1)) (aB (dC (.int 2)) (aB (dC (.int 10)) (aB (dC (.int 11)) (aB (dC (.int 12)) (aB (dC (.int 21)) (aB (dC (.int 101)) (aB (dC (.int 111)) (aB (dC (.int 112)) (aB (dC (.int 121)) (aB (dC (.int 211)) aF))))))))))))) (aC 2))) dZ)
 (fQ (aC 2))))
def cE:PySem.Aa4:=iV 3 fE
def fF:DS:=(aW (bC 3 (aE 1 cO (aB (aC 1) aF)))
 (aW (bC 4 (aI hQ (iB (aB (dC (.int 2)) (aB (dC (.int 3)) (aB (dC (.int 5)) (aB (dC (.int 12)) (aB (dC (.int 1000)) aF)))))) (aE 2 aD (aB (aC 0) (aB (dC (.int 5)) aF)))))
 (aW (bC 5 (bV [14] (uY (aB (aE 2 aD (aB (aC 0) (aB (dC (.int 6)) aF))) aF)) (gX 14) eU (kN (bV [15] (Al (aC 3)) (gX 15) eU (kN (aE 2 cE (aB (aC 0) (aB (aC 4) aF))))))))
 (aW (bC 6 (aI hQ (aI hQ (iB (aB (kN (iB (aB (dC (.int 40)) (aB (dC (.int 40)) (aB (dC (.int 14)) (aB (dC (.int 7)) (aB (dC (.int 4)) (aB (dC (.int 3)) aF)))))))) (aB (kN (iB (aB (dC (.int 40)) (aB (dC (.int 17)) (aB (dC (.int 6)) (aB (dC (.int 4)) (aB (dC (.int 3)) (aB (dC (.int 2)) aF)))))))) aF))) (hB Gq (aB (aI Ej (aC 2) (dC (.int 2000))) aF))) (aI Hr (hB jQ (aB (aC 1) aF)) (dC (.int 1)))))
 (aW (bC 7 (kN (aC 2)))
 (aW (bC 8 (Hj (aI CM (aC 2) (dC (.int 0))) (aI (Av false) (aE 2 aD (aB (aC 0) (aB (dC (.int 2)) aF))) (dC (.int 0)))))
 (aW (bC 9 (iB aF))
 (aW (mS (Al (aC 1)) (dI 2 (aL (gX 10) (aL (gX 11) eN)))
 (aW (bC 12 (dC (.int 40)))
 (aW (jW (cT (aI CM (aC 2) (dC (.int 0)))) (bC 12 (hB oU (aB (dC (.int 40)) (aB (aC 7) aF)))) dZ)
 (aW (jW (Hf (aC 8)) (bC 12 (hB oU (aB (aC 12) (aB (aC 6) aF)))) dZ)
 (aW (bC 13 (bV [16] (Al (aC 5)) (gX 16) eU (hB lE (aB (bV [15] (Al (aC 11)) (gX 15) eU (aI hQ (aC 16) (eM "list" 3 JK (aB (aC 15) aF)))) aF))))
 (aW (jW (cT (aI (Av false) (aE 2 aD (aB (aC 0) (aB (dC (.int 6)) aF))) (dC (.int 0)))) (bC 13 (iB aF)) dZ)
 (aW (mS (uY (aB (aE 2 aD (aB (aC 0) (aB (aI hQ (iB (aB (kN (aI gP (aC 12) (dC (.int 1)))) (aB (kN (aI gP (hB oU (aB (aC 12) (aB (dC (.int 5)) aF))) (dC (.int 1)))) aF))) (aE 2 aD (aB (aC 0) (aB (dC (.int 2)) aF)))) aF))) aF)) (gX 14)
 (fP (eM "list" 13 vD (aB (hB lE (aB (bV [15] (Al (aC 11)) (gX 15) eU (kN (aE 2 cE (aB (aC 0) (aB (aC 4) aF))))) aF)) aF))))
 (aW (bC 13 (Ci (hB hU (aB (aC 13) aF)) yF (dP (aC 12))))
 (aW (fP (eM "list" 9 vD (aB (hB lE (aB (aC 13) aF)) aF)))
 (bC 7 (aI Hv (aC 7) (hB Ht (aB (dC (.int 1)) (aB (hB jQ (aB (aC 13) aF)) aF))))))))))))))
 (fQ (hB lE (aB (aC 9) aF)))))))))))
def eE:PySem.Aa4:=iV 17 fF
def cB:DS:=(fQ (bV [2] (Al (aI hQ (aC 0) (dC (.int 0)))) (gX 2) (cT (aI (Bq false) (aC 2) (aI hQ (aC 1) (dC (.int 0))))) (kN (aC 2))))
def bR:PySem.Aa4:=iV 3 cB
def jJ:DS:=(fQ (hB lE (aB (bV [2] (Al (aC 1)) (gX 2) eU (aI hQ (aC 0) (aC 2))) aF)))
def dQ:PySem.Aa4:=iV 3 jJ
def cP:DS:=(fQ (bV [2] (Al (aC 1)) (gX 2) eU (kN (HE IC (aC 0) (aC 2)))))
def bA:PySem.Aa4:=iV 3 cP
def iH:DS:=(aW (bC 3 (aE 2 bA (aB (aI hQ (aC 0) (dC (.int 0))) (aB (aC 1) aF))))
 (aW (bC 4 (aE 2 bA (aB (aI hQ (aC 0) (dC (.int 0))) (aB (aC 2) aF))))
 (Gz 5 6 (Al (aI hQ (aC 0) (dC (.int 1)))) (aE 2 dQ (aB (aC 6) (aB (aC 3) aF))) (aB (kN (aE 2 dQ (aB (aC 6) (aB (aC 4) aF)))) aF))))
def gD:PySem.Aa4:=iV 7 iH
def gF:DS:=(fQ (xW (aB (hB lE (aB (aC 0) aF)) (aB (hB lE (aB (hB hU (aB (aC 1) aF)) aF)) aF))))
def dS:PySem.Aa4:=iV 2 gF
def jK:DS:=(aW (bC 2 (aE 2 bR (aB (aC 0) (aB (aC 1) aF))))
 (aW (bC 3 (bV [8] (Al (aI hQ (aC 1) (dC (.int 0)))) (gX 8) (cT (aI (Bq true) (aC 8) (aI hQ (aC 0) (dC (.int 0))))) (kN (aC 8))))
 (aW (bC 4 (aE 3 gD (aB (aC 1) (aB (aC 2) (aB (aC 3) aF)))))
 (aW (bC 5 (aE 2 bA (aB (aI hQ (aC 0) (dC (.int 0))) (aB (aC 2) aF))))
 (aW (bC 6 (iB aF))
 (aW (mS (Al (aI hQ (aC 0) (dC (.int 1)))) (gX 7)
 (fP (pZ "list" 6 EK (aB (bV [9] (Al (HH (aC 4) (aE 2 dQ (aB (aC 7) (aB (aC 5) aF))) (iB aF))) (gX 9) eU (kN (aI gP (aC 7) (aC 9)))) aF))))
 (fQ (aE 2 dS (aB (aI gP (aI hQ (aC 0) (dC (.int 0))) (hB lE (aB (aC 3) aF))) (aB (aC 6) aF))))))))))
def fX:PySem.Aa4:=iV 10 jK
def eF:DS:=(aW (bC 1 (xW (aB (xW aF) (aB (xW (aB (xW aF) aF)) aF))))
 (aW (mS (Al (aC 0)) (gX 2)
 (bC 1 (aE 2 fX (aB (aC 1) (aB (aC 2) aF)))))
 (fQ (aC 1))))
def dA:PySem.Aa4:=iV 3 eF
def fG:DS:=(fQ (bV [2,3] (Gx (aB (aC 0) (aB (aC 1) aF))) (dI 2 (aL (gX 2) (aL (gX 3) eN))) eU (xW (aB (aI hQ (aC 2) (dC (.int 1))) (aB (kN (aC 3)) aF)))))
def cX:PySem.Aa4:=iV 4 fG
def iI:DS:=(fQ (aI hQ (aE 1 dA (aB (aE 2 cX (aB (aC 0) (aB (aC 1) aF))) aF)) (dC (.int 1))))
def dN:PySem.Aa4:=iV 2 iI
def eG:DS:=(aW (bC 3 (iB aF))
 (aW (mS (Al (aE 2 aR (aB (aC 0) (aB (hB HC (aB (hB jQ (aB (aC 1) aF)) aF)) aF)))) (gX 4)
 (aW (EH (dI 2 (aL (gX 5) (aL (gX 6) eN))) (aI hQ (aC 1) (aC 4)))
 (aW (bC 7 (aE 2 aR (aB (aC 0) (aB (hB HC (aB (hB jQ (aB (aC 6) aF)) aF)) aF))))
 (aW (bC 8 (hB HI (aB (bV [9] (Al (aI hQ (aC 2) (aC 4))) (gX 9) eU (hB lE (aB (bV [10] (Al (aC 7)) (gX 10) eU (aI hQ (aC 9) (aC 10))) aF))) aF)))
 (fP (eM "list" 3 vD (aB (xW (aB (xW (aB (kN (aC 5)) (aB (hB lE (aB (bV [10] (Al (aC 7)) (gX 10) eU (aI hQ (aC 6) (aC 10))) aF)) aF))) (aB (hB lE (aB (aC 8) aF)) aF))) aF)))))))
 (fQ (xW (aB (hB lE (aB (bV [11] (Al (aC 3)) (gX 11) eU (aI hQ (aC 11) (dC (.int 0)))) aF)) (aB (hB lE (aB (bV [11] (Al (aC 3)) (gX 11) eU (aI hQ (aC 11) (dC (.int 1)))) aF)) aF))))))
def dB:PySem.Aa4:=iV 12 eG
def gG:DS:=(aW (bC 2 (aE 2 aR (aB (aC 0) (aB (aC 1) aF))))
 (aW (oR (cT (aI CM (hB jQ (aB (aC 2) aF)) (dC (.int 1))))
 (aW (bC 3 (eM "list" 2 oW (aB (kN (aE 2 aD (aB (aC 0) (aB (hB jQ (aB (aC 2) aF)) aF)))) aF)))
 (aW (bC 4 (eM "list" 2 oW (aB (kN (aE 2 aD (aB (aC 0) (aB (hB jQ (aB (aC 2) aF)) aF)))) aF)))
 (fP (eM "list" 2 vD (aB (xW (aB (kN (aC 3)) (aB (kN (aC 4)) aF))) aF))))))
 (fQ (aI hQ (aC 2) (dC (.int 0))))))
def fH:PySem.Aa4:=iV 5 gG
def gH:DS:=(fQ (bV [1,2] (Al (aC 0)) (dI 2 (aL (gX 1) (aL (gX 2) eN))) eU (kN (aC 1))))
def fJ:PySem.Aa4:=iV 3 gH
def cQ:DS:=(fQ (hB wA (aB (aE 1 fJ (aB (aC 0) aF)) (aB (aE 2 cX (aB (aC 0) (aB (aC 1) aF))) aF))))
def cI:PySem.Aa4:=iV 2 cQ
def gJ:DS:=(aW (bC 1 (iB aF))
 (aW (bC 2 (iB (aB (kN (aC 0)) aF)))
 (aW (oR (Hf (aC 2))
 (aW (bC 3 (uU "list" 2 Gr))
 (jW (Hi (cT (CV (Fw "str") (aC 3)))) (aW (fP (eM "list" 1 vD (aB (kN (aC 3)) aF)))
 (fP (pZ "list" 2 EK (aB (iB (aB (aI hQ (aC 3) (dC (.int 0))) (aB (aI hQ (aC 3) (dC (.int 1))) aF))) aF)))) dZ)))
 (fQ (Iv Iw (aB (aC 1) aF))))))
def fK:PySem.Aa4:=iV 4 gJ
def wJ:DS:=(aW (bC 2 (aE 2 bA (aB (aI hQ (aC 0) (dC (.int 0))) (aB (aC 1) aF))))
 (fQ (aE 2 dS (aB (aC 1) (aB (bV [3] (Al (aI hQ (aC 0) (dC (.int 1)))) (gX 3) eU (kN (aE 2 dQ (aB (aC 3) (aB (aC 2) aF))))) aF)))))
def pI:PySem.Aa4:=iV 4 wJ
def eJ:DS:=(aW (bC 1 (iB aF))
 (aW (mS (Al (aC 0)) (dI 2 (aL (gX 2) (aL (gX 3) eN)))
 (fP (pZ "list" 1 EK (aB (bV [4] (Al (aC 3)) (gX 4) (cT (aI (Bq true) (aC 4) (aC 1))) (kN (aC 4))) aF))))
 (fQ (hB lE (aB (aC 1) aF)))))
def bW:PySem.Aa4:=iV 5 eJ
def iJ:DS:=(aW (bC 3 (aE 2 cI (aB (aC 0) (aB (aC 1) aF))))
 (aW (bC 4 (iB aF))
 (aW (mS (Al (aE 1 fK (aB (aC 2) aF))) (gX 5)
 (aW (IM 3 (aC 5) (kN (aE 2 fX (aB (aI Em (aC 3) (aI hQ (aC 5) (dC (.int 0)))) (aB (aI Em (aC 3) (aI hQ (aC 5) (dC (.int 1)))) aF)))))
 (fP (eM "list" 4 vD (aB (hB jQ (aB (aI hQ (aI Em (aC 3) (aC 5)) (dC (.int 1))) aF)) aF)))))
 (fQ (xW (aB (aI hQ (aE 2 pI (aB (aI Em (aC 3) (aC 2)) (aB (aE 1 bW (aB (aC 0) aF)) aF))) (dC (.int 1))) (aB (hB lE (aB (aC 4) aF)) aF)))))))
def eY:PySem.Aa4:=iV 6 iJ
def cR(r:PySem.Aa4):DS:=(aW (jW (cT (CV (Fw "str") (aC 0))) (fQ (iB aF)) dZ)
 (fQ (aI gP (aI gP (aE 1 r (aB (aI hQ (aC 0) (dC (.int 0))) aF)) (aE 1 r (aB (aI hQ (aC 0) (dC (.int 1))) aF))) (iB (aB (kN (aC 0)) aF)))))
def cD:Nat->PySem.Aa4
 |0=>λ_=>none
 |n+1=>iV 1 (cR (cD n))
def iQ:PySem.Aa4:=cD 7
def cF(r:PySem.Aa4):DS:=(aW (jW (cT (CV (Fw "str") (aC 0))) (fQ (iB (aB (kN (aC 0)) aF))) dZ)
 (fQ (aI gP (aE 1 r (aB (aI hQ (aC 0) (dC (.int 0))) aF)) (aE 1 r (aB (aI hQ (aC 0) (dC (.int 1))) aF)))))
def bS:Nat->PySem.Aa4
 |0=>λ_=>none
 |n+1=>iV 1 (cF (bS n))
def iA:PySem.Aa4:=bS 7
def fL:DS:=(fQ (hB lE (aB (bV [3,4] (Gx (aB (aC 0) (aB (aC 1) aF))) (dI 2 (aL (gX 3) (aL (gX 4) eN))) (cT (aI (Bq false) (aI hQ (aC 3) (dC (.int 0))) (aC 2))) (kN (aC 4))) aF)))
def eK:PySem.Aa4:=iV 5 fL
def eL:DS:=(fQ (aE 3 eK (aB (aC 0) (aB (aC 1) (aB (aC 2) aF)))))
def dD:PySem.Aa4:=iV 3 eL
def pJ:DS:=(fQ (hB lE (aB (bV [2] (Al (aC 0)) (gX 2) (cT (aI (Bq false) (aI hQ (aC 2) (dC (.int 0))) (aC 1))) (kN (aC 2))) aF)))
def lP:PySem.Aa4:=iV 3 pJ
def bT:DS:=(aW (bC 4 (kN (aE 1 iQ (aB (aC 2) aF))))
 (aW (jW (cT (aI (Av true) (hB jQ (aB (aC 3) aF)) (hB jQ (aB (aC 4) aF)))) (fQ (dC (.bl false))) dZ)
 (aW (mS (Gx (aB (aC 4) (aB (aC 3) aF))) (dI 2 (aL (gX 5) (aL (gX 6) eN)))
 (aW (bC 7 (hB lE (aB (aE 1 iA (aB (aC 5) aF)) aF)))
 (jW (cT (aI (Av true) (hB jQ (aB (aE 2 dN (aB (aE 2 lP (aB (aC 0) (aB (aC 7) aF))) (aB (aE 3 dD (aB (aC 0) (aB (aC 1) (aB (aC 7) aF)))) aF))) aF)) (aC 6))) (fQ (dC (.bl false))) dZ)))
 (fQ (dC (.bl true))))))
def bN:PySem.Aa4:=iV 8 bT
def gK:DS:=(aW (bC 3 (aE 1 bW (aB (aC 1) aF)))
 (aW (bC 4 (bV [5] (Al (aE 1 bW (aB (aC 0) aF))) (gX 5) eU (kN (HE IC (aC 3) (aC 5)))))
 (fQ (hB lE (aB (hB HI (aB (bV [6] (Al (aC 2)) (gX 6) eU (hB lE (aB (bV [7] (Al (aC 4)) (gX 7) eU (aI hQ (aC 6) (aC 7))) aF))) aF)) aF)))))
def fM:PySem.Aa4:=iV 8 gK
def rH:MS:=(zU (RS (bC 1 (aE 2 eX (aB (aC 0) (aB (dC (.int 0)) aF)))))
 (zU (vU 2 2 dG (aB (aC 1) (aB (dC (.int 3)) aF)))
 (RS (aW (bC 3 (aE 3 eE (aB (aC 1) (aB (aC 2) (aB (dC (.int 3000)) aF)))))
 (aW (bC 4 (bV [13,14] (Al (aC 2)) (dI 2 (aL (gX 13) (aL (gX 14) eN))) eU (kN (aC 13))))
 (aW (bC 5 (aE 2 dN (aB (aC 2) (aB (aC 3) aF))))
 (aW (EH (dI 2 (aL (gX 6) (aL (gX 7) eN))) (kN (aE 3 dB (aB (aC 1) (aB (aC 2) (aB (aC 3) aF))))))
 (aW (mS (uY (aB (dC (.int 1)) (aB (hB Ht (aB (dC (.int 3)) (aB (hB oU (aB (dC (.int 5)) (aB (hB jQ (aB (aC 0) aF)) aF))) aF))) aF))) (gX 8)
 (aW (bC 9 (aE 2 fH (aB (aE 2 eX (aB (aC 0) (aB (aC 8) aF))) (aB (aC 4) aF))))
 (aW (EH (dI 2 (aL (gX 10) (aL (gX 11) eN))) (kN (aE 3 eY (aB (aC 2) (aB (aC 3) (aB (aC 9) aF))))))
 (aW (jW (Hg (cT (aI (Av true) (aC 10) (aC 5))) (Hi (cT (aE 4 bN (aB (aC 2) (aB (aC 3) (aB (aC 9) (aB (aC 11) aF)))))))) (fQ (dC (.bl false))) dZ)
 (aW (bC 12 (aE 3 eY (aB (aC 6) (aB (aC 7) (aB (aC 9) aF)))))
 (jW (Hg (cT (aI (Av true) (aE 3 fM (aB (aC 2) (aB (aC 6) (aB (aI hQ (aC 12) (dC (.int 0))) aF)))) (aC 5))) (cT (aI (Av true) (aI hQ (aC 12) (dC (.int 1))) (aC 11)))) (fQ (dC (.bl false))) dZ))))))
 (fQ (aI (Av false) (aE 2 dN (aB (aC 2) (aB (aC 3) aF))) (aC 5)))))))))))
def pK:MC:=Hq 15 rH
def LD:CJ rH:=(jE jD (jE (sZ (tE cH)) jD))
def Tx(z:Str):Prop:=z.length<=100/\∀c∈z.cps.toList,c<128
theorem J1:SK (.str z) l hi K=(z.length<=sizeLine/\K (.val (.str (slice z l hi)))):=by
 show dY (if _ then _ else none) K=_;rw[aN];rfl
theorem J3:dY (wX (.str z) (.int i)) K=((z.length<=1000/\0<=i/\i<=1000)/\K (.val (.str (Txt.mul z i)))):=by
 unfold wX;rw[aN];rfl
theorem J4:jX [i] Z a=a.set i (Z[i]?.getD none):=rfl
def J5:(ofString "abcdefghijklmnopqrstuvwxyz").cps.toList.length=26:=rfl
def FP(z:Str):z.length=z.cps.toList.length:=rfl
def pL(x y:Str):(x++y).cps.toList=x.cps.toList++y.cps.toList:=by show(x.cps++y.cps).toList=_;simp
theorem pM(x y:Str):(x++y).length=x.length+y.length:=by rw[FP,FP,FP,pL,AL]
def As(z:Str):Prop:=∀c∈z.cps.toList,c<128
def LF(a:As x)(b:As y):As (x++y):=by
 intro c hc;rw[pL]at hc;rcases Ac.mp hc with h|h;exact a c h;exact b c h
def Qz(h:As z)(l hi:Option Int):As (slice z l hi):=by
 intro c hc;unfold slice at hc;split at hc;exact h c hc;simp only[List.mem_filterMap]at hc;obtain⟨i,_,hi⟩:=hc;exact h c (Array.mem_toList_iff.mpr (Array.mem_of_getElem? hi))
theorem slice_le(z:Str)(l hi:Option Int):(slice z l hi).length<=z.length:=Txt.slice_le z l hi
def tS(h:As z):dJ (.str z)=true:=by
 unfold dJ;rw[BZ];refine⟨?_,rfl⟩;show PyData.strOk z=true;unfold PyData.strOk;rw[← Array.all_toList,HX];intro c hc;have:=h c hc
 lia
def QB(d:D)(l:List D):dJ d=true->dJ (.lst l)=true->(iX d).depth<=59->dJ (.lst (d::l))=true:=by
 intro a b e;obtain⟨h,f⟩:=bX a;obtain⟨A,c⟩:=bX b;unfold dJ;rw[BZ,Ep];have g:(iX (.lst (d::l))).canLay0=((iX d).canLay0&&(iX (.lst l)).canLay0):=rfl;refine⟨by simp_all,?_⟩;simp only[iX,toPys,depth,depthAll]at c ⊢;lia
theorem tU:∀{b:List Str},(∀z∈b,As z)->dJ (.lst (b.map D.str))=true
 |[],_=>rfl
 |z::r,h=>QB _ _ (tS (h z Aa)) (tU λy a=>h y (Am _ a)) (by show depth (.str z)<=59;simp[depth])
theorem J6:dY (oQ (.tup l)) K=K l:=rfl
theorem QC:dY (oQ (.lst l)) K=K l:=rfl
theorem J7:bG [i] Z=Z.set i none:=rfl
theorem J8:bG [i,j] Z=(Z.set i none).set j none:=rfl
theorem J9:jX [i,j] Z a=(a.set i (Z[i]?.getD none)).set j (Z[j]?.getD none):=rfl
theorem K0:bG [i,j,k] Z=((Z.set i none).set j none).set k none:=rfl
theorem K1:jX [i,j,k] Z a=((a.set i (Z[i]?.getD none)).set j (Z[j]?.getD none)).set k (Z[k]?.getD none):=rfl
theorem K2:dY (Av true (.int i) (.int j)) K=K (.val (.bl (!decide (i=j)))):=rfl
noncomputable def ov(b:Bool)(d:D):Option Sl:=if b=true then some ⟨.val,d⟩else none
theorem wK{r:Sg}:PySem.PK 0 (ov b d::r) s K=K (some s::r):=by cases b<;>rfl
theorem K3:dY (EK (.lst l) [.lst m]) K=(l.length+m.length<=sizeLine/\K (.lst (l++m),.non)):=by
 unfold EK;rw[aN];rfl
theorem K4:FC b Q (.nx Z)=b Z Q:=rfl
theorem K5:dY (HB [.lst l,.lst m]) K=K (.val (.tup (HA l m))):=rfl
theorem K6{r:Sg}:lendO (some 0) (some ⟨.own,d⟩::r)=some ⟨.lent,d⟩::r:=rfl
theorem K7{r:Sg}:lendO (some 0) (some ⟨.par,d⟩::r)=some ⟨.lent,d⟩::r:=rfl
theorem K8{r:Sg}:lendO (some 0) (some ⟨.lent,d⟩::r)=some ⟨.lent,d⟩::r:=rfl
theorem K9{r:Sg}:lendO (some (i+1)) (o::r)=o::lendO (some i) r:=by
 show lend (i+1) (o::r)=o::lend i r;unfold lend;rw[EX];generalize r[i]?=x
 match x with
 |none|some none|some (some ⟨.own,_⟩)|some (some ⟨.par,_⟩)|some (some ⟨.val,_⟩)|some (some ⟨.lent,_⟩)=>rfl
theorem L1{a r:Sg}:uC (some 0) (some ⟨.own,e⟩::a) (some ⟨m,d⟩::r)=some ⟨.own,d⟩::r:=rfl
theorem L3{a r:Sg}:uC (some 0) (some ⟨.par,e⟩::a) (some ⟨m,d⟩::r)=some ⟨.par,d⟩::r:=rfl
theorem L4{a r:Sg}:uC (some 0) (some ⟨.lent,e⟩::a) (some ⟨m,d⟩::r)=some ⟨m,d⟩::r:=rfl
theorem L5{a r:Sg}:uC (some (i+1)) (o::a) (O::r)=O::uC (some i) a r:=by
 show Dz (i+1) (o::a) (O::r)=O::Dz i a r;unfold Dz;rw[EX,EX];generalize a[i]?=x;generalize r[i]?=y
 match x,y with
 |none,_|some none,_|some (some _),none|some (some _),some none|some (some ⟨.own,_⟩),some (some _)|some (some ⟨.par,_⟩),some (some _)|some (some ⟨.val,_⟩),some (some _)|some (some ⟨.lent,_⟩),some (some _)=>rfl
theorem L6:uZ (some i) Z (.nx a)=.nx (uC (some i) Z a):=rfl
theorem L7{c:List Str}:dY (wA [.lst (c.map D.str),.lst m]) K=((c.length=m.length/\c.length<4000/\c.Nodup)/\K (.own (.dic (c.map D.str) m))):=by
 show dY ((iD (c.map D.str)).bind _) K=_;rw[iE];show dY (if _ then _ else none) K=_;rw[aN];rfl
noncomputable def wo(o:Option (List D)):Option Sl:=o.map λl=>⟨.own,.lst l⟩
theorem L8{r:Sg}:PySem.PK 0 (wo o::r) s K=K (some s::r):=by cases o<;>rfl
theorem L9:dY (Jr (.bl b)) K=K b:=rfl
local macro_rules | `(tactic|walk_at"dx")=>do
 let l:=("L7 z9 nT K5 K4 K3 wK QC J6 J1 J3 XO Ox Oy Oz OA XP XR XS XT OB XU OC OD XW XY yH yI Yb Yc yJ yK yL Yd Ye OE Yf Yg Yh Yi Yj yM vH qW Yk yN Yl Ym OG Yn Yo Yp g7 OH OI vI yO yP yQ Yq Yr Ys Yt Yu Yv Yw Yx Lb sH nO sI Yy yR YJ YK YL YN YO YP YQ zK OM YS yZ nQ pB f6 YY zA zC YZ Za Zb Zc Zd Ze Zf Zg Zh Zi zD zE zF Zj Zk zG sJ Zl Zm Zn Zo Zp Zq Zr Zs aY Zt Zu Zv Zw YA YB YD YE YF YG yS yT yU YH YI reduceIte sW zT XX K2 XZ Ya ZR ZS ZT OQ ZU ZV ZW L8 L9 YM zB zH YC zS q0 G0 zI XQ".splitOn " ").toArray.map fun s=>Lean.mkIdent s.toName
 let m:=("K0 K1 J7 J8 J9 Zx Zy Zz ON ZA Int.reducePow Int.reduceNeg Int.reduceLT Int.reduceLE Nat.reducePow Nat.reduceLT Int.reduceToNat Nat.reduceLeDiff ZG K7 L3 L6 ZC ZE ZF yV yW yX J4 List.getElem?_cons_succ List.getElem?_cons_zero Option.getD_some List.set_cons_zero List.set_cons_succ eC Fv Nat.reduceEqDiff decide_false List.length_cons List.length_nil Nat.reduceAdd Nat.zero_add true_and and_true and_self Bool.not_false Bool.not_true Bool.false_eq_true Bool.true_and Bool.and_true Bool.or_false decide_eq_true_eq K6 K9 L1 L5 K8 L4".splitOn " ").toArray.map fun s=>Lean.mkIdent s.toName
 `(tactic|simp only[$[↓$l:ident],*,$[$m:ident],*])
def sl2:(2<=sizeLine):=by decide
def aO(h:0<m)(c:m<18446744073709551616)(k:∀d e f,0<=d->d<m->K (.val (.int d)) [⟨.par,.lst [.int e,.int f]⟩,⟨.val,.int m⟩]):CK aD [⟨.par,.lst [.int a,.int b]⟩,⟨.val,.int m⟩] K:=by
 unfold aD;rw[aZ];show RS gC [_,_,none,none] _;unfold gC;walk_at"dx";rw[ON h c];split;exact⟨h,True.intro,k _ _ _ (emod_nonneg _ (by lia)) (HW _ h)⟩;exact⟨h,k _ _ _ (emod_nonneg _ (by lia)) (HW _ h)⟩
def QD{ns:List Int}(H:0<=i)(h:i<(ns.length:Int)):∃c,atI (ns.map D.int) i=some (.int c):=by
 obtain⟨c,hc⟩:=Jn (ys:=ns) H h;exact⟨c,by rw[xP,hc];rfl⟩
def QE{ns:List Int}(h:0<=n)(H:n<1000)(k:∀a b,K (.own (.lst [.int a,.int b])) [⟨.val,.lst (ns.map D.int)⟩,⟨.val,.int n⟩]):CK eX [⟨.val,.lst (ns.map D.int)⟩,⟨.val,.int n⟩] K:=by
 unfold eX;rw[aZ];show RS iG [_,_,none,none] _;unfold iG;walk_at"dx";split;obtain⟨c,hc⟩:=QD (ns:=ns) h (by simp_all);rw[hc];walk_at"dx";exact⟨sl2,k _ _⟩;split;rename_i hc;refine⟨hc,?_⟩;obtain⟨c,hc⟩:=QD (ns:=ns) (i:=n % ((ns.map D.int).length:Int)) (emod_nonneg _ (by lia)) (by have:=HW n hc;simp_all);rw[hc];walk_at"dx";exact⟨sl2,k _ _⟩;exact⟨sl2,k _ _⟩
def hW(h:(qA l n)[i]?=some d):i<n/\d=.int (l+i):=by
 unfold qA at h;cases e:(range n)[i]? with
 |none=>simp_all
 | some k=>
   obtain⟨H,a⟩:=sL.mp e;rw[Ey]at H
   simp_all
def cS(l:Int)(n:Nat):(qA l n).length=n:=by simp[qA]
def LG{c:a}(h:atI l i=some c):c∈l:=by
 obtain⟨j,_,b⟩:=aA h;exact An b
def LH(b:0<=d)(H:d < (l.length:Int))(a:d < 9223372036854775808)(k:∀ y r,(y::r).Perm l->r.length+1=l.length->K (.lst r,y)):dY (oW (.lst l) [.int d]) K:=by
 obtain⟨n,rfl⟩:∃n:Nat,d=n:=⟨d.toNat,by lia⟩;have h:n<l.length:=by simp_all
 unfold oW;dsimp only;rw[gV ⟨by simp,by simp[*]⟩];have e:AM l.length (n:Int)=some n:=by
  unfold AM
  simp_all
 rw[e];show dY ((l[n]?).map _) K;rw[oI h];exact k _ _ (zP l n h) (by grind)
def lQ(P:Sg->Prop)(H:RS a Z λo=>∃c,o=.nx c/\P c)(d:∀c,P c->RS b c Q):RS (aW a b) Z Q:=by
 rw[OF];refine bJ H ?_;rintro o ⟨c,rfl,h⟩;exact d c h
def hX(H:m=.par/\t=.lst xs\/m=.val/\t=.lst xs\/m=.val/\t=.tup xs)(o:xs.length<=1000)(k:∀ Y c e,Y.Perm xs->K (.own (.lst Y)) [⟨.par,.lst [.int c,.int e]⟩,⟨m,t⟩]) :
  CK aR [⟨.par,.lst [.int a,.int b]⟩,⟨m,t⟩] K:=by
 unfold aR;rw[aZ];show RS _ [_,_,none,none] _;unfold hV;refine lQ (λq=>q=[some ⟨.par,.lst [.int a,.int b]⟩,some ⟨m,t⟩,some ⟨.own,.lst xs⟩,none]) ?_ ?_
 ·rcases H with⟨rfl,rfl⟩ | ⟨rfl,rfl⟩ | ⟨rfl,rfl⟩
  all_goals
   walk_at"dx";exact⟨_,rfl,rfl⟩
 ·rintro _ rfl;walk_at"dx";refine⟨Ad _,?_⟩;refine mB (λm q=>∃c e L found,m=L.length/\L.length<=xs.length/\found.length+L.length=xs.length/\(found++L).Perm xs/\q=[some ⟨.par,.lst [.int c,.int e]⟩,some _,some ⟨.own,.lst L⟩,some ⟨.own,.lst found⟩]) xs.length (by lia) ⟨a,b,xs,[],rfl,hF _,by simp,.refl _,rfl⟩ ?_;rintro m q ⟨c,e,L,found,rfl,h,i,g,rfl⟩;walk_at"dx";split;refine aO (by simp_all) (by lia) λd A j l p=>?_;walk_at"dx";refine LH l (by simp_all) (by lia) λy r f n=>?_;refine⟨Ao (by lia:found.length<1001) (by decide),.inl ⟨_,r.length,.inl rfl,le_of_eq n,A,j,r,found++[y],rfl,by lia,by grind,?_,rfl⟩⟩;rw[append_assoc];exact(append_left found f).trans g
  rcases H with⟨rfl,rfl⟩|⟨rfl,rfl⟩|⟨rfl,rfl⟩<;>(simp_all;exact k _ _ _ g)
theorem QF:∀ (d:List Str),(∀ z∈d,z.length<=1)->(d.map (·.length)).sum<=d.length
 |[],_=>by simp
 | z::r,h=>by
   have b:=h z Aa;have c:=QF r λy a=>h y (Am _ a)
   grind
def M0(a:0<=e)(b:e<26):∃c,atI (ofString "abcdefghijklmnopqrstuvwxyz").cps.toList e=some c/\c<128:=by
 obtain⟨c,hc⟩:=Jn (ys:=(ofString "abcdefghijklmnopqrstuvwxyz").cps.toList) a (by exact b);exact⟨c,hc,VS c (LG hc)⟩
def JS(h:c<128):As ⟨#[c]⟩:=by
 intro x a
 simp_all
def M3:∀n:_root_.Fin 24,((ofString "abcdefghijklmnopqrstuvwxyz").cps.toList.drop n).take 3=[97+(n:Nat),98+(n:Nat),99+(n:Nat)]:=by decide
def M4(h:0<=k)(H:k < 24):∃ (z:Str) (p q r:Nat),slice (slice (ofString "abcdefghijklmnopqrstuvwxyz") (some k) none) none (some 3)=z/\z.length=3/\jZ z=[.str ⟨#[p]⟩,.str ⟨#[q]⟩,.str ⟨#[r]⟩]/\(p < 128/\q < 128/\r < 128)/\p < q/\q < r:=by
 have d:(ofString "abcdefghijklmnopqrstuvwxyz").length=26:=rfl;have b:=qQ (x:=ofString "abcdefghijklmnopqrstuvwxyz") h (by lia);have f:(slice (ofString "abcdefghijklmnopqrstuvwxyz") (some k) none).length=26-k.toNat:=by
  rw[FP,b,Fd,J5]
 have c:=Nx (x:=slice (ofString "abcdefghijklmnopqrstuvwxyz") (some k) none) (j:=3) (by decide) (by lia);rw[b]at c;have e:=M3 ⟨k.toNat,by simp[*]⟩;have a:(slice (slice (ofString "abcdefghijklmnopqrstuvwxyz") (some k) none) none (some 3)).cps.toList=[97+k.toNat,98+k.toNat,99+k.toNat]:=c.trans e;generalize slice (slice (ofString "abcdefghijklmnopqrstuvwxyz") (some k) none) none (some 3)=z at a;exact⟨z,_,_,_,rfl,by rw[FP,a];rfl,by unfold jZ;rw[a];rfl,⟨by lia,by lia,by lia⟩,by simp,by simp⟩
def LI(h:c<128):Tx ⟨#[c]⟩:=⟨by show 1<=100;decide,JS h⟩
def JT(h:x.length<=m/\As x)(a:y.length<=n/\As y):(x++y).length<=m+n/\As (x++y):=⟨by rw[pM];exact Nat.add_le_add h.1 a.1,LF h.2 a.2⟩
theorem LJ(c:Nat):Str.length ⟨#[c]⟩=1:=rfl
def M5(H:0<=e)(h:e<11):∃z:Str,atI ([D.str "table",D.str "tree",D.str "none",D.str "answer",D.str "levels",D.str "looks"]++[D.str "at",D.str "count",D.str "ears",D.str "cover",D.str "place"]) e=some (.str z)/\Tx z:=by
 have:e=0\/e=1\/e=2\/e=3\/e=4\/e=5\/e=6\/e=7\/e=8\/e=9\/e=10:=by lia
 rcases this with rfl|rfl|rfl|rfl|rfl|rfl|rfl|rfl|rfl|rfl|rfl<;>exact⟨_,rfl,by unfold Tx;decide⟩
def M6(y:List Str)(j:Nat)(z:Str):(y.map D.str).set j (.str z)=(y.set j z).map D.str:=by simp
def M7{n:Nat}{k:Int}(H:0<=k)(h:k < n)(q:∀ j,j < n->K j):dY (AM n k) K:=by
 obtain⟨m,rfl⟩:∃m:Nat,k=m:=⟨k.toNat,by lia⟩;have e:AM n (m:Int)=some m:=by
  unfold AM
  simp_all
 rw[e];exact q m (by simp_all)
def LK(h:m=0\/m=1):(Txt.mul "z" m).length<=1/\As (Txt.mul "z" m):=by
 rcases h with rfl|rfl;exact⟨by decide,by unfold As;decide⟩;exact⟨by decide,by unfold As;decide⟩
def QG(p:Prop)[Decidable p]:(if p then(1:Int)else 0)=0\/(if p then(1:Int)else 0)=1:=by lia
def M8(a:0<=e)(b:e<26):atI (ofString "abcdefghijklmnopqrstuvwxyz").cps.toList e=some (97+e.toNat):=by
 have h:∀n:_root_.Fin 26,atI (ofString "abcdefghijklmnopqrstuvwxyz").cps.toList ((n:Nat):Int)=some (97+(n:Nat)):=by decide
 have:=h ⟨e.toNat,by simp[*]⟩
 grind
theorem M9{Y:List Str}(h:∀(i j:Nat) y,i<j->Y[i]?=some y->Y[j]?=some y->False):Y.Nodup:=by
 rw[Dj,List.pairwise_iff_getElem];intro i j H b a z;exact h i j Y[i] a (oI H) (by simp_all)
def wL{a:List Str}(H:As z)(h:∀ z∈a,As z)(k:K (.val (.bl (if neg=true then !a.contains z else a.contains z)))):dY (Bq neg (.str z) (.lst (a.map D.str))) K:=by
 show dY (if _ then _ else none) K;rw[aN];refine⟨⟨tS H,tU h⟩,?_⟩;have e:((a.map D.str).any λy=>CW y (.str z))=a.contains z:=by
  rw[List.any_map,List.contains_eq_any_beq];congr 1;funext y;show(y==z)=(z==y)
  lia
 rw[e];exact k
def N0{a:Type}{l:List a}{z:a}(h:l.Nodup)(d:z∉l):(l.set j z).Nodup:=by
 rw[Dj,List.pairwise_iff_getElem]at h ⊢;intro i k H b c;rw[Ds]at H b
 grind
def QH(k:∀ (O:List Str) E F,O.length=6->O.Nodup->(∀ z∈O,Tx z)->K (.own (.lst (O.map D.str))) [⟨.par,.lst [.int E,.int F]⟩,⟨.val,.int 6⟩]) :
  CK cW [⟨.par,.lst [.int a,.int b]⟩,⟨.val,.int 6⟩] K:=by
 unfold cW;rw[aZ];show RS fD [_,_,none,none,none,none,none,none,none,none,none,none,none,none,none] _;unfold fD;walk_at"dx";refine aO (by decide) (by decide) λn a1 b1 n0 n5=>?_;walk_at"dx";refine⟨by lia,by rw[cS];exact gY (by lia:n.toNat<=5) (by decide),?_⟩;refine iF _ _ (λi acc τ=>i<=4/\∃(O:List Str) (E F:Int),acc=O.map D.str/\O.length=i/\(∀z∈O,z.length<=1/\As z)/\τ=[some ⟨.par,.lst [.int E,.int F]⟩,some ⟨.val,.int 6⟩,some ⟨.val,.str "abcdefghijklmnopqrstuvwxyz"⟩,none,none,none,none,none,none,none,none,none,none,none,none]) ⟨Ad _,[],a1,b1,rfl,rfl,by simp,rfl⟩ ?_ ?_;rintro i d acc τ hd ⟨_,O,E,F,rfl,hl,f,rfl⟩;obtain⟨hi,rfl⟩:=hW hd;walk_at"dx";refine aO (by decide) (by decide) λe a2 b2 L M=>?_;walk_at"dx";refine⟨by decide,?_⟩;obtain⟨c,hc,N⟩:=M0 L M;rw[hc];walk_at"dx";refine⟨_,rfl,by lia,O++[⟨#[c]⟩],a2,b2,by rw[AH];rfl,by rw[AL,hl];rfl,?_,rfl⟩;intro z π;rcases Ac.mp π with h|h;exact f z h;rw[Ah]at h;subst h;exact⟨hF 1,JS N⟩;rintro acc τ ⟨h5,O,E,F,rfl,hl,f,rfl⟩;have hs:=QF O λz h=>(f z h).1;rw[ZI];refine⟨by simp only[show(ofString "").length=0 by decide];lia,?_⟩;have I:=xT (m:=128) (sep:=ofString "") (by decide) O λz h=>(f z h).2;have s:(Txt.join (ofString "") O).length<=4:=by
  refine gY (Vi _ _) ?_;simp only[show(ofString "").length=0 by decide];lia
 revert I s;generalize Txt.join (ofString "") O=x;intro I s;have G:x.length<=sizeLine:=gY s (by decide);walk_at"dx";rw[g0 G];walk_at"dx";refine aO (by simp) (by lia) λo a2 b2 P k11=>?_;walk_at"dx";refine aO (by lia) (by lia) λv a3 b3 k20 k21=>?_;walk_at"dx";refine aO (by lia) (by lia) λk3 a4 b4 k30 k31=>?_;walk_at"dx";split
 ·refine aO (by lia) (by lia) λk4 a5 b5 A B=>?_;walk_at "dx";obtain⟨z,p,q,r,e,Q,es,⟨R,S,T⟩,pq,qr⟩:=M4 A B;rw[e,es];refine⟨by decide,gY (slice_le _ _ _) (by decide),Q,?_⟩;walk_at "dx";simp only[pM,LJ];refine⟨by decide,by decide,by decide,by decide,by decide,by decide,by decide,by decide,by decide,?_⟩;have tp:=LI R;have tq:=LI S;have tr:=LI T;have l1:∀ {c:Nat},c < 128->Str.length ⟨#[c]⟩<=1/\As ⟨#[c]⟩:=λh=>⟨hF 1,JS h⟩;have J:∀ {x:Str} {n:Nat},n<=100->x.length<=n/\As x->Tx x:=λhn h=>⟨gY h.1 hn,h.2⟩;refine k [⟨#[p]⟩,⟨#[p]⟩++⟨#[q]⟩,⟨#[q]⟩,⟨#[q]⟩++⟨#[r]⟩,⟨#[r]⟩,⟨#[p]⟩++⟨#[r]⟩] _ _ rfl ?_ ?_
  ·have C:∀x y:Nat,(⟨#[x]⟩:Str)++⟨#[y]⟩=⟨#[x,y]⟩:=λ_ _=>rfl;have n1:p≠q:=AF pq;have n2:q≠r:=by lia
   have n3:p≠r:=by lia
   rw[C,C,C];simp[n1,n2,n3,Ne.symm n1,Ne.symm n2,Ne.symm n3]
  intro z f;simp only[mem_cons,not_mem_nil,or_false]at f;rcases f with rfl|rfl|rfl|rfl|rfl|rfl;exact tp;exact J (by decide) (JT (l1 R) (l1 S));exact tq;exact J (by decide) (JT (l1 S) (l1 T));exact tr;exact J (by decide) (JT (l1 R) (l1 T))
 ·refine⟨Ad _,?_⟩;refine eV (λi τ=>i<=6/\∃ (ys:List Str) (b:Bool) (d e:D),ys.length=i/\(∀ (j:Nat) y,ys[j]? = some y->Tx y/\∃ t,y.cps.toList=(slice x none (some o)).cps.toList++(97+((v+5*(j:Int)) % 26).toNat)::t)/\τ=[some ⟨.par,.lst [.int a4,.int b4]⟩,some ⟨.val,.int 6⟩,some ⟨.val,.str "abcdefghijklmnopqrstuvwxyz"⟩,some ⟨.val,.str x⟩,some ⟨.val,.int o⟩,some ⟨.val,.int v⟩,some ⟨.val,.int k3⟩,none,none,none,none,some ⟨.own,.lst (ys.map D.str)⟩,ov b d,ov b e,none]) ⟨Ad _,[],false,.non,.non,rfl,by simp,rfl⟩ ?_ ?_
  ·rintro i d τ hd ⟨_,ys,b0,d0,L,g,l,rfl⟩;obtain⟨hi,rfl⟩:=hW hd;have hc:=M8 (e:=(v+5*(0+(i:Int))) % 26) (emod_nonneg _ (by decide)) (HW _ (by decide));have N:97+((v+5*(0+(i:Int))) % 26).toNat < 128:=by
    have:=HW (v+5*(0+(i:Int))) (b:=26) (by decide);grind
   have l1:=slice_le x none (some o);have l2:=slice_le x (some o) none;have g1:=Qz (z:=x) I none (some o);have g2:=Qz (z:=x) I (some o) none;have sl:100<=sizeLine:=by decide
   have done:∀(w:Str) (m:Int) ,(w.length<=5/\As w)->(m=0\/m=1)->Tx (w++Txt.mul "z" m):=λw m U hm=>by
    have:=JT U (LK hm);exact⟨by lia,this.2⟩
   have fin:∀ m:Int,(m=0\/m=1)->∀ (j:Nat) y,(ys++[slice x none (some o)++⟨#[97+((v+5*(0+(i:Int))) % 26).toNat]⟩++slice x (some o) none++Txt.mul "z" m])[j]? = some y->Tx y/\∃ t,y.cps.toList=(slice x none (some o)).cps.toList++(97+((v+5*(j:Int)) % 26).toNat)::t:=λm ht j y h=>by
    by_cases hj:j<ys.length;rw[BG hj]at h;exact l j y h;have V:j=i:=by
     have:=(sL.mp h).1;rw[AL,List.length_singleton]at this;lia
    subst V;rw[Di (le_of_eq g),g,Nat.sub_self]at h;obtain rfl:=Ap h;refine⟨done _ _ ⟨?_,LF (LF g1 (JS N)) g2⟩ ht,(slice x (some o) none).cps.toList++(Txt.mul "z" m).cps.toList,?_⟩;rw[pM,pM,LJ,FP,FP,Nx P (by lia),qQ (by lia) (by lia),BA,Fd];rw[FP]at s;grind;rw[pL,pL,pL,zero_add];simp
   walk_at"dx";rw[hc];walk_at"dx";have z1:=LK (QG ((0+(i:Int)) % 2=1));have z0:=LK (m:=0) (.inl rfl);have W:=QG ((0+(i:Int)) % 2=1);simp only[pM,LJ];revert W z1;generalize (if(0+(i:Int)) % 2=1 then(1:Int)else 0)=zz;intro z1 W;refine⟨G,by decide,by lia,by omega,by lia,?_⟩;have H:(List.map D.str ys).length<sizeLine:=by rw[eI];lia
   split;exact⟨⟨by decide,by lia,by lia⟩,by lia,H,_,.inl rfl,by lia,ys++[_],true,_,_,by rw[AL,g];rfl,fin _ W,by rw[AH];rfl⟩;exact⟨by decide,by lia,H,_,.inl rfl,by lia,ys++[_],true,_,_,by rw[AL,g];rfl,fin 0 (.inl rfl),by rw[AH];rfl⟩
  ·rintro τ ⟨_,ys,b0,d0,L,g,l,rfl⟩;rw[cS]at g;have hn:ys.Nodup:=M9 λi j y hij h1 h2=>by
    obtain⟨_,t1,M⟩:=l i y h1;obtain⟨_,J,C⟩:=l j y h2;rw[M]at C;have e3:=(List.cons.inj (List.append_cancel_left C)).1;have hj:=(sL.mp h2).1;rw[g]at hj;have h6:j<6:=by omega
    grind
   have u:∀z∈ys,Tx z:=λz f=>by
    obtain⟨j,hj⟩:=List.mem_iff_getElem?.mp f;exact(l j z hj).1
   have X:∀z∈ys,As z:=λz h=>(u z h).2;walk_at"dx";refine⟨by decide,by decide,by decide,aO (by lia) (by lia) λk4 a5 b5 A B=>?_⟩;obtain⟨w,U,tw⟩:=M5 A B;walk_at"dx";rw[U];walk_at"dx";refine aO (by lia) (by lia) λk5 a6 b6 k50 k51=>?_;walk_at"dx";split
   ·refine wL tw.2 X ?_;walk_at "dx";split
    ·rename_i Y;have nw:w∉ys:=by simpa using Y
     refine aO (by lia) (by lia) λk6 a7 b7 σ k61=>?_;walk_at"dx";refine M7 σ (by rw[eI,g];omega) λj hj=>?_;rw[M6];refine k _ _ _ (by rw[Ds,g]) (N0 hn nw) λz f=>?_;rcases List.mem_or_eq_of_mem_set f with h|h;exact u z h;exact h▸tw
    ·exact k _ _ _ g hn u
   ·exact k _ _ _ g hn u
def LL{a:Type}{l:List a}(f:a->D)(H:0<=i)(h:i<(l.length:Int)):∃c,atI (l.map f) i=some (f c)/\c∈l:=by
 obtain⟨c,hc⟩:=Jn (ys:=l) H h;exact⟨c,by rw[xP,hc];rfl,LG hc⟩
def QI(h:RT r Z Q)(w:∀b c,Q b c->a b c):RT r Z a:=bJ h λx=>w x.1 x.2
def QJ(h:RE r Z Q)(w:∀b c,Q b c->a b c):RE r Z a:=bJ h λx=>w x.1 x.2
def aU{m:Type}{g:D->Sg->Option Sg}(f:m->D)(u:m->D)(xs:List m)(l:Sg)(q:a=l)
  (w:∀x∈xs,dY (g (u x) l) λc=>RT t c λb h=>b=true/\RE e h λr j=>r=.val (f x)/\bG O j=l) (k:K (xs.map f,l)):dY (zJ O g t e (xs.map u) a) K:=by
 subst q;refine iF _ _ (λi A v=>A=(xs.take i).map f/\v=a) ⟨rfl,rfl⟩ ?_ ?_;rintro i d A v H ⟨rfl,rfl⟩;rw[Ab]at H;obtain⟨x,o,rfl⟩:=Bg.mp H;refine bJ (w x (An o)) λc s=>QI s λb h n=>?_;obtain⟨rfl,n⟩:=n;rw[gV rfl];refine QJ n λr j p=>?_;exact⟨_,p.1,by rw[GP,o,AH];rfl,p.2⟩
 grind
def dU{n:Type}{g:D->Sg->Option Sg}(p:n->Bool)(f:n->D)(u:n->D)(xs:List n)(j:Sg)(o:a=j)
  (C:∀x∈xs,dY (g (u x) j) λl=>RT t l λb c=>b=p x/\bG O c=j/\RE e c λr m=>r=.val (f x)/\bG O m=j) (k:K ((xs.filter p).map f,j)):dY (zJ O g t e (xs.map u) a) K:=by
 subst o;refine iF _ _ (λi B A=>B=((xs.take i).filter p).map f/\A=a) ⟨rfl,rfl⟩ ?_ ?_
 ·rintro i d B A H ⟨rfl,rfl⟩;rw[Ab]at H;obtain⟨x,q,rfl⟩:=Bg.mp H;refine bJ (C x (An q)) λl v=>QI v λb c s=>?_;obtain⟨rfl,s,w⟩:=s;have o:(xs.take (i+1)).filter p=(xs.take i).filter p++(if p x=true then[x]else[]):=by
   rw[GP,q,List.filter_append];cases h:p x<;>simp[h]
  by_cases y:p x=true
  ·rw[gV y];refine QJ w λr m z=>?_
   simp_all
  simp_all
 simp_all
def kO{a:Type}{f:a->D}{l:List a}{i:Nat}(h:(l.map f)[i]?=some d):∃y,l[i]?=some y/\d=f y:=by
 rw[Ab]at h;obtain⟨y,e,rfl⟩:=Bg.mp h
 simp_all
def N2{a:Type}{l:List a}{y:a}(h:l[i]?=some y):l.take i++[y]=l.take (i+1):=by
 rw[GP,h];rfl
noncomputable def bB(Q:List (Str×List Str)):List Str:=Q.foldl (λa q=>a++q.2.filter λc=>!a.contains c) []
def N3(Q:List (Str×List Str))(q:Str×List Str):bB (Q++[q])=bB Q++q.2.filter λc=>!(bB Q).contains c:=by
 unfold bB;rw[List.foldl_append];rfl
def Qn(Q:List (Str×List Str)):Prop:=Q.length<=100/\∀q∈Q,Tx q.1/\q.2.length<=100/\∀z∈q.2,Tx z
def jL(h:z∈bB Q):∃ q∈Q,z∈q.2:=by
 have a:∀ (l:List (Str×List Str)) (A:List Str),z∈l.foldl (λA q=>A++q.2.filter λc=>!A.contains c) A->z∈A\/∃ q∈l,z∈q.2:=by
  intro l
  induction l with
  |nil=>intro A h;exact .inl h
  | cons q r b=>
    intro A h;rcases b _ h with h|⟨d,e,f⟩;rcases Ac.mp h with h|h;exact .inl h;exact .inr ⟨q,Aa,(List.mem_filter.mp h).1⟩;exact .inr ⟨d,Am _ e,f⟩
 rcases a Q [] h with h|h;cases h;exact h
def wM(h:∀ q∈qs,q.2.length<=n):(bB qs).length<=qs.length*n:=by
 have a:∀ (l:List (Str×List Str)) (A:List Str),(∀ q∈l,q.2.length<=n)->(l.foldl (λA q=>A++q.2.filter λc=>!A.contains c) A).length<=A.length+l.length*n:=by
  intro l
  induction l with
  |nil=>intro A _;simp
  | cons q r b=>
    intro A h;have d:=b (A++q.2.filter λc=>!A.contains c) λx e=>h x (Am _ e);have f:=h q Aa;have g:=length_filter_le (λc=>!A.contains c) q.2;rw[AL]at d;rw[foldl_cons,Fe,Nat.succ_mul];lia
 have:=a qs [] h;rw[length_nil,BL]at this;exact this
def fY{a:Type}{l:List a}{y:a}(h:l[i]?=some y):l.take (i+1)=l.take i++[y]:=(N2 h).symm
def pN(l:Qn qs)(k:∀ a b e f,Q (.nx [some ⟨.val,qD qs⟩,some ⟨.own,.lst ((bB qs).map D.str)⟩,ov a e,ov b f,none])) :
  dY (Iz (dI 2 (aL (gX 2) (aL (gX 3) eN))) (fP (pZ "list" 1 EK (aB (bV [4] (Al (aC 3)) (gX 4) (cT (aI (Bq true) (aC 4) (aC 1))) (kN (aC 4))) aF))) (qs.map qP) [some ⟨.val,qD qs⟩,some ⟨.own,.lst []⟩,none,none,none]) Q:=by
 have u:20000<=sizeLine:=by decide
 have r:∀i,∀z∈bB (qs.take i),As z:=λi z s=>by
  obtain⟨q,m,o⟩:=jL s;exact((l.2 q (BH m)).2.2 z o).2
 have t:∀i,(bB (qs.take i)).length<=10000:=λi=>by
  have m:=wM (qs:=qs.take i) (n:=100) λq h=>(l.2 q (BH h)).2.1;have o:=l.1
  grind
 refine eV (λi p=>∃a b e f,p=[_,some ⟨.own,.lst ((bB (qs.take i)).map D.str)⟩,ov a e,ov b f,none]) ⟨false,false,.non,.non,rfl⟩ ?_ ?_
 ·rintro i d p H ⟨a,b,e,f,rfl⟩;obtain⟨q,g,rfl⟩:=kO H;have j:=l.2 q (An g);walk_at "dx";refine⟨gY (by rw[eI];exact j.2.1) (by decide),dU (λc=>!(bB (qs.take i)).contains c) D.str D.str q.2 [_,_,_,_,none] rfl (λc hc=>?_) ?_⟩;walk_at "dx";refine wL (j.2.2 c hc).2 (r i) ?_;rfl;walk_at "dx";refine⟨by
   rw[eI,eI];have m:=t i;have o:=length_filter_le (λc=>!(bB (qs.take i)).contains c) q.2
   lia,_,.inl rfl,true,true,.str q.1,.tup (q.2.map D.str),?_⟩
  rw[fY g,N3,AH];rfl
 ·rintro p ⟨a,b,e,f,rfl⟩;rw[eI,take_length];exact k a b e f
def N4(a:Qn q)(k:K (.own (.lst ((bB q).map D.str))) [⟨.val,qD q⟩]):CK cO [⟨.val,qD q⟩] K:=by
 unfold cO;rw[aZ];show RS cZ [_,none,none,none,none] _;unfold cZ;walk_at"dx";refine⟨Ad _,pN a λb c d e=>?_⟩;exact k
def mJ(a:Qn q)(k:K (.val (.tup ((bB q).map D.str))) [⟨.val,qD q⟩]):CK bW [⟨.val,qD q⟩] K:=by
 unfold bW;rw[aZ];show RS eJ [_,none,none,none,none] _;unfold eJ;walk_at"dx";refine⟨Ad _,pN a λb c d e=>?_⟩;exact k
def rJ(l:List D)(h:0<=n):Gp l none (some n)=l.take n.toNat:=by
 obtain⟨k,rfl⟩:=Int.eq_ofNat_of_zero_le h;unfold Gp;rw[PySem.sIx_none,PySem.sIx_nat,drop_zero,Nat.sub_zero,toNat_natCast];simp
def LM(h:m=.par/\t=.lst xs\/m=.val/\t=.lst xs\/m=.val/\t=.tup xs)(e:xs.length<=1000)(H:0<=n)
  (k:∀(y:List D) c d,y.Perm xs->K (.val (.tup (y.take n.toNat))) [⟨.par,.lst [.int c,.int d]⟩,⟨m,t⟩,⟨.val,.int n⟩]):CK aM [⟨.par,.lst [.int a,.int b]⟩,⟨m,t⟩,⟨.val,.int n⟩] K:=by
 unfold aM;rw[aZ];show RS bM [_,_,_] _;unfold bM;rcases h with⟨rfl,rfl⟩|⟨rfl,rfl⟩|⟨rfl,rfl⟩
 all_goals
  walk_at"dx";refine hX (by simp) e λy c d f=>?_;walk_at"dx";rw[rJ _ H];exact k y c d f
def iK{d:Type}{f:d->D}{z:List d}(h:Y.Perm (z.map f)):∃ l:List d,Y=l.map f/\l.Perm z:=by
 generalize c:z.map f=w at h
 induction h generalizing z with
 |nil=>exact⟨[],rfl,by cases z with|nil=>exact .nil|cons a r=>cases c⟩
 | cons x h i=>
   cases z with
   |nil=>cases c
   | cons a r=>
     cases c;obtain⟨l,rfl,p⟩:=i rfl;exact⟨a::l,rfl,p.cons a⟩
 | swap x y l=>
   match z,c with
   |a::b::r,c=>cases c;exact⟨b::a::r,rfl,.swap ..⟩
 | trans j k m I=>
   obtain⟨n,rfl,e⟩:=I c;obtain⟨L,rfl,g⟩:=m rfl;exact⟨L,rfl,g.trans e⟩
def iL(h:y.Perm (z.map D.str)):∃l:List Str,y=l.map D.str/\l.Perm z:=iK h
def Cs(a l:List Str):Prop:=(1<=l.length/\l.length<=10)/\l.Nodup/\∀z∈l,z∈a
noncomputable abbrev tT(l:List Str):D:=.tup (l.map D.str)
def wN(t:List (List Str))(l:List Str):qK (t++[l])=.lst ((t.map λl=>.tup (l.map D.str))++[.tup (l.map D.str)]):=by simp
def N5(w:I.length=6)(nd:I.Nodup)(k:∀ T c e,FO I T->K (.own (qK T)) [⟨.par,.lst [.int c,.int e]⟩,⟨.val,.lst (I.map D.str)⟩]) :
  CK bD [⟨.par,.lst [.int a,.int b]⟩,⟨.val,.lst (I.map D.str)⟩] K:=by
 unfold bD;rw[aZ];show RS bY [_,_,none,none,none] _;unfold bY;walk_at"dx";refine aO (by decide) (by decide) λf a1 x y A=>?_;walk_at"dx";rw[rJ _ (by lia),← Ee];have M:(I.take (1+f).toNat).length=(1+f).toNat:=by grind
 have J:(I.take (1+f).toNat).Nodup:=nd.sublist (take_sublist _ _);have L:∀z∈I.take (1+f).toNat,z∈I:=λz j=>BH j;generalize I.take (1+f).toNat=g at M J L ⊢;refine⟨Ad _,?_⟩;refine aO (by decide) (by decide) λB U r C E=>?_;walk_at"dx";refine⟨⟨by lia,by lia⟩,eV (λi m=>∃c e n o T,m=[some ⟨.par,.lst [.int c,.int e]⟩,some ⟨.val,.lst (I.map D.str)⟩,some ⟨.own,.lst (g.map D.str)⟩,some ⟨.own,qK T⟩,ov n o]/\T.length=i/\∀l∈T,Cs I l) ⟨U,r,false,.non,[],rfl,rfl,λl h=>nomatch h⟩ ?_ ?_⟩;rintro i d m N ⟨c,e,n,o,T,rfl,p,hc⟩;obtain⟨hi,rfl⟩:=hW N;walk_at"dx";refine aO (by rw[eI];lia) (by lia) λs a5 F G H=>?_;walk_at"dx";refine LM (.inl ⟨rfl,rfl⟩) (by rw[eI];(simp_all;omega)) (by lia) λY Q t u=>?_;walk_at"dx";obtain⟨l,rfl,q⟩:=iL u;refine⟨CS (by rw[eI];grind:_<=6) (by decide),_,.inl rfl,Q,t,true,.int (0+(i:Int)),T++[l.take (1+s).toNat],?_,by simp[p],λv O=>?_⟩;rw[wN,Ee];rfl;rcases Ac.mp O with h|h;exact hc v h;rw[Ah.mp h];have:=q.length_eq;refine⟨by rw[BA];lia,(q.nodup_iff.mpr J).sublist (take_sublist _ _),λz j=>L z (q.mem_iff.mp (BH j))⟩;rintro m ⟨c,e,n,o,T,rfl,p,hc⟩;rw[cS]at p;walk_at"dx";exact k T c e ⟨by lia,by grind,hc⟩
def QK{ts:List (List Str)}(H:0<=i)(h:i<(ts.length:Int)):∃l,atI (ts.map λl=>D.tup (l.map D.str)) i=some (tT l)/\l∈ts:=LL _ H h
structure Ea(zs lf:List Str)(ts:List (List Str)):Prop where
 nd:lf.Nodup
 sub:∀z∈lf,z∈zs
 cs:∀l∈ts,Cs zs l
 apart:∀l∈ts,∀c∈l,c∉lf
structure Ow(zs lf own:List Str):Prop where
 nd:own.Nodup
 sub:∀z∈own,z∈zs
 apart:∀c∈own,c∉lf
def Ea.less(h:Ea e L t)(nd:a.Nodup)(s:∀z∈a,z∈L):Ea e a t:=⟨nd,λz b=>h.sub z (s z b),h.cs,λl d c hc z=>h.apart l d c hc (s c z)⟩
def N6:dY (Gr (.lst ((l++[z]).map D.str)) []) K=K (.lst (l.map D.str),.str z):=by
 show dY ((((l++[z]).map D.str)[((l++[z]).map D.str).length-1]?).map _) K=_;simp[dY,List.dropLast_append]
def LN:DS:=(mS (uY (aB (aE 2 aD (aB (aC 0) (aB (aI Hr (dC (.int 5)) (hB jQ (aB (aC 5) aF))) aF))) aF)) (gX 7)
 (jW (cT (aI CM (hB jQ (aB (aC 2) aF)) (dC (.int 0)))) (fP (eM "list" 5 vD (aB (kN (uU "list" 2 Gr)) aF))) dZ))
def LO:DS:=(jW (cT (aI (Av false) (hB jQ (aB (aC 5) aF)) (dC (.int 0)))) (bC 5 (Hk (cT (aI (Av false) (aC 4) (dC (.int 0)))) (iB (aB (aI hQ (aC 1) (dC (.int 0))) aF)) (iB (aB (aI hQ (aI hQ (aC 3) (dC (.int 0))) (dC (.int 0))) aF)))) dZ)
def LP:DS:=(aW (jW (DR (cT (aI (Bq false) (aI hQ (aC 1) (dC (.int 0))) (aC 5))) (cT (aI (Bq false) (aI hQ (aC 1) (dC (.int 0))) (aC 2)))) (fP (eM "list" 2 Iu (aB (aI hQ (aC 1) (dC (.int 0))) aF))) dZ)
 (fP (eM "list" 3 vD (aB (hB lE (aB (aE 2 aR (aB (aC 0) (aB (aC 5) aF))) aF)) aF))))
noncomputable abbrev eS(a b:Int)(z l:List Str)(t:List (List Str))(c d e s:Option Sl):Sg:=[some ⟨.par,.lst [.int a,.int b]⟩,some ⟨.val,.lst (z.map D.str)⟩,some ⟨.own,.lst (l.map D.str)⟩,some ⟨.own,qK t⟩,c,d,e,s]
def N7{Q:Sg->Prop}(l:Ea G L T)(j:Ow G L own)(C:own.length<=4)
  (k:∀x A c O f g,Ea G c T->Ow G c O->O.length<=10->Q (eS x A G c T p (some ⟨.own,.lst (O.map D.str)⟩) q (ov f g))):RS LN (eS a b G L T p (some ⟨.own,.lst (own.map D.str)⟩) q (ov t u)) λo=>∃n,o=.nx n/\Q n:=by
 unfold LN eS;walk_at"dx";refine aO (by rw[eI];lia) (by lia) λE J v F B=>?_;walk_at"dx";rw[eI]at B;refine⟨⟨by lia,by lia⟩,eV (λi n=>∃c O f g,n=eS J v G c T p (some ⟨.own,.lst (O.map D.str)⟩) q (ov f g)/\Ea G c T/\Ow G c O/\O.length<=own.length+i) ⟨L,own,t,u,rfl,l,j,hF _⟩ ?_ ?_⟩
 ·rintro i d n M ⟨c,O,f,g,rfl,l,j,m⟩;obtain⟨Y,rfl⟩:=hW M;unfold eS;walk_at "dx";rcases List.eq_nil_or_concat c with rfl | ⟨w,z,rfl⟩
  ·rw[a0m (by simp)]
   try walk_at"dx"
   exact⟨_,.inl rfl,[],O,true,_,rfl,l,j,le_succ_of_le m⟩
  ·rw[concat_eq_append,gV (by simp)]
   try walk_at"dx"
   rw[N6];walk_at"dx";rw[concat_eq_append]at l j;have N:=List.nodup_append.mp l.nd;have r:z∉w:=λh=>N.2.2 z h z (by simp) rfl;refine⟨CS (by rw[eI];lia:_<=20) (by decide),_,.inl rfl,w,O++[z],true,.int (0+(i:Int)),by simp[ov],l.less N.1 (λz r=>by simp[r]),⟨?_,?_,?_⟩,by simp;exact lt_succ_of_le m⟩;exact List.nodup_append.mpr ⟨j.nd,by simp,λa U b I e=>j.apart a U (by rw[mem_singleton]at I;subst I;rw[e];simp)⟩;intro y s;rcases Ac.mp s with h|h;exact j.sub y h;exact l.sub y (by simp[List.mem_singleton.mp h]);intro y s h;rcases Ac.mp s with H | H;exact j.apart y H (by simp[h]);rw[Ah.mp H]at h;exact r h
 ·rintro n ⟨c,O,f,g,rfl,l,j,m⟩;rw[cS]at m;exact⟨_,rfl,k J v c O f g l j (by lia)⟩
def N8{j L own:List Str}(n:∀ z∈d::j,As z)(g:Ea (d::j) L T)(y:own.Nodup)(O:∀ z∈own,z∈d::j)(o:∀ c∈own,c≠d->c∉L)(m:1<=own.length/\own.length<=10)(A:T.length<=6)
  (k:∀t u f l,Ea (d::j) f (T++[l])->Q (.nx (eS t u (d::j) f (T++[l]) r (some ⟨.own,.lst (own.map D.str)⟩) s E))):RS LP (eS a b (d::j) L T r (some ⟨.own,.lst (own.map D.str)⟩) s E) Q:=by
 unfold LP;refine lQ (λx=>∃f,x=eS a b (d::j) f T r (some ⟨.own,.lst (own.map D.str)⟩) s E/\Ea (d::j) f T/\∀c∈own,c∉f) ?_ ?_
 ·have C:d∉own\/d∉L->∀ c∈own,c∉L:=λh c hc m=>by
   by_cases e:c=d;subst e;rcases h with h|h;exact h hc;exact h m;exact o c hc e m
  unfold eS;rw[BJ];walk_at"dx";refine wL (n d (by simp)) (λz i=>n z (O z i)) ?_;walk_at"dx";by_cases v:own.contains d=true
  ·rw[v];walk_at "dx";refine wL (n d (by simp)) (λz i=>n z (g.sub z i)) ?_;walk_at "dx";by_cases p:L.contains d=true
   ·rw[p];walk_at"dx";rw[ZN];have i:d∈L:=by simpa using p
    refine⟨⟨i,g.nd⟩,_,rfl,L.erase d,rfl,g.less (g.nd.erase d) (λz i=>List.mem_of_mem_erase i),λc hc m=>?_⟩;by_cases e:c=d;subst e;exact(List.Nodup.mem_erase_iff g.nd).mp m |>.1 rfl;exact o c hc e (List.mem_of_mem_erase m)
   ·rw[show L.contains d=false by simpa using p];walk_at"dx";exact⟨_,rfl,L,rfl,g,C (.inr (by simpa using p))⟩
  ·rw[show own.contains d=false by simpa using v];walk_at"dx";exact⟨_,rfl,L,rfl,g,C (.inl (by simpa using v))⟩
 ·rintro x ⟨f,rfl,g,o⟩;unfold eS;walk_at"dx";refine hX (by first|exact .inl ⟨rfl,rfl⟩|exact .inr (.inl ⟨rfl,rfl⟩)) (by rw[eI];lia) λY t u B=>?_;walk_at"dx";obtain⟨l,rfl,q⟩:=iL B;have:=q.length_eq;refine⟨CS (by rw[eI];exact A:_<=6) (by decide),?_⟩;rw[← wN];refine k t u f l ⟨g.nd,g.sub,λw H=>?_,λw H=>?_⟩
  ·rcases Ac.mp H with h|h;exact g.cs w h;rw[Ah.mp h];exact⟨by simp[*],q.nodup_iff.mpr y,λz i=>O z (q.mem_iff.mp i)⟩
  ·rcases Ac.mp H with h|h;exact g.apart w h;rw[Ah.mp h];exact λc hc=>o c (q.mem_iff.mp hc)
def LQ(P:Sg->Prop)(H:RS a Z λo=>∃b,o=.nx b/\P b)(c:∀b,P b->K (.nx b)):RS a Z K:=bJ H λo z=>by obtain⟨b,e,h⟩:=z;simp_all
def N9{i:Nat}{Q:Sg->Prop}(hi:ts.length=i)(m:Ea (d::f) L ts)(g:Ow (d::f) L own)(p:own.length<=10)
  (k:∀(O:List Str),O.Nodup->(∀z∈O,z∈d::f)->(∀c∈O,c≠d->c∉L)->(1<=O.length/\O.length<=10)->Q (eS a b (d::f) L ts (some ⟨.val,.int (0+(i:Int))⟩) (some ⟨.own,.lst (O.map D.str)⟩) j u)):RS LO (eS a b (d::f) L ts (some ⟨.val,.int (0+(i:Int))⟩) (some ⟨.own,.lst (own.map D.str)⟩) j u) λo=>∃n,o=.nx n/\Q n:=by
 unfold LO eS;walk_at"dx";rw[eI];by_cases h:own=[]
 ·subst h;rw[gV (by simp)]
  try walk_at"dx"
  by_cases w:i=0
  ·subst w;rw[gV (by simp),BJ]
   try walk_at"dx"
   refine⟨by decide,?_⟩
   try walk_at"dx"
   exact⟨_,rfl,k [d] (by simp) (by simp) (λc hc e=>absurd (Ah.mp hc) e) (by simp)⟩
  ·rw[a0m (by simp[*])]
   try walk_at"dx"
   obtain⟨l,q,H⟩:=QK (ts:=ts) (i:=0) (by decide) (by lia);rw[q,aY];walk_at"dx";obtain⟨⟨v,_⟩,x,s⟩:=m.cs l H;cases l with
   |nil=>simp at v
   | cons c r=>
     rw[BJ];walk_at"dx";refine⟨by decide,?_⟩
     try walk_at"dx"
     exact⟨_,rfl,k [c] (by simp) (by simpa using s c (by simp)) (λt hc _=>by rw[List.mem_singleton.mp hc];exact m.apart _ H c (by simp)) (by simp)⟩
 ·rw[a0m (by have:=List.length_pos_iff.mpr h;lia)]
  try walk_at"dx"
  exact⟨_,rfl,k own g.nd g.sub (λc hc _=>g.apart c hc) ⟨List.length_pos_iff.mpr h,p⟩⟩
def LR:DS:=(jW (cT (aI CM (aC 4) (dC (.int 0)))) (aW (bC 6 (aI hQ (aC 3) (aE 2 aD (aB (aC 0) (aB (aC 4) aF)))))
 (bC 5 (hB oV (aB (aE 3 aM (aB (aC 0) (aB (aC 6) (aB (aE 2 aD (aB (aC 0) (aB (aI gP (hB oU (aB (dC (.int 3)) (aB (hB jQ (aB (aC 6) aF)) aF))) (dC (.int 1))) aF))) aF)))) aF)))) dZ)
def O0{i:Nat}{Q:Sg->Prop}(hi:ts.length=i)(E:i<=6)(m:Ea J L ts)
  (k:∀p q own d e,Ow J L own->own.length<=4->Q (eS p q J L ts (some ⟨.val,.int (0+(i:Int))⟩) (some ⟨.own,.lst (own.map D.str)⟩) (ov d e) s7)):RS LR (eS a b J L ts (some ⟨.val,.int (0+(i:Int))⟩) (some ⟨.own,.lst []⟩) (ov g j) s7) λo=>∃n,o=.nx n/\Q n:=by
 unfold LR eS;walk_at"dx";by_cases U:i=0;rw[a0m (by simp[*])];exact⟨_,rfl,k a b [] g j ⟨.nil,(λz h=>nomatch h),(λz h=>nomatch h)⟩ (by simp)⟩;rw[gV (by lia)];refine aO (by lia) (by lia) λr a1 F s G=>?_;walk_at"dx";obtain⟨l,t,M⟩:=QK (ts:=ts) (i:=r) s (by simp_all);rw[t,aY];walk_at"dx";obtain⟨⟨T,u⟩,N,v⟩:=m.cs l M;refine aO (by lia) (by lia) λw a2 H x I=>?_;walk_at"dx";refine LM (.inr (.inr ⟨rfl,rfl⟩)) (by grind) x λY O y A=>?_;obtain⟨B,rfl,f⟩:=iL A;rw[← Ee];exact⟨_,rfl,k O y (B.take w.toNat) true _ ⟨(f.nodup_iff.mpr N).sublist (take_sublist _ _),λz C=>v z (f.mem_iff.mp (BH C)),λc hc=>m.apart l M c (f.mem_iff.mp (BH hc))⟩ (by grind)⟩
def O1(Q:zs.length=6)(nd:zs.Nodup)(R:∀ z∈zs,As z)(k:∀ ts u v,FO zs ts->K (.own (qK ts)) [⟨.par,.lst [.int u,.int v]⟩,⟨.val,.lst (zs.map D.str)⟩]) :
  CK bE [⟨.par,.lst [.int a,.int b]⟩,⟨.val,.lst (zs.map D.str)⟩] K:=by
 unfold bE;rw[aZ];show RS bZ [_,_,none,none,none,none,none,none] _;rw[show bZ=(aW (bC 2 (hB oV (aB (Ci (aC 1) yF (dP (dC (.int 6)))) aF))) (aW (bC 3 (iB aF)) (aW (mS (uY (aB (aI gP (dC (.int 1)) (aE 2 aD (aB (aC 0) (aB (dC (.int 6)) aF)))) aF)) (gX 4) (aW (bC 5 (iB aF)) (aW LR (aW LN (aW LO LP))))) (fQ (aC 3)))))from rfl];obtain⟨j,o,rfl⟩:∃j o,zs=j::o:=by cases zs with|nil=>cases Q|cons z r=>exact⟨z,r,rfl⟩
 walk_at"dx";rw[rJ _ (by decide),Co (by rw[eI,Q];decide)];refine⟨Ad _,aO (by decide) (by decide) λV a1 S W X=>?_⟩;walk_at"dx";refine⟨⟨by lia,by lia⟩,eV (λi τ=>∃u v lf ts C E F G H w x,τ=eS u v (j::o) lf ts (ov C E) (fo F) (ov G H) (ov w x)/\ts.length=i/\Ea (j::o) lf ts) ⟨a1,S,j::o,[],false,.non,none,false,.non,false,.non,rfl,rfl,nd,λz h=>h,(λl h=>nomatch h),(λl h=>nomatch h)⟩ ?_ ?_⟩
 ·rintro i d τ hd ⟨u,v,lf,ts,C,E,F,G,H,w,x,rfl,hi,A⟩;obtain⟨T,rfl⟩:=hW hd;unfold eS;walk_at "dx";refine⟨Ad _,?_⟩;refine LQ (λτ=>∃ a2 B own f g,Ow (j::o) lf own/\own.length<=4/\τ=eS a2 B (j::o) lf ts (some ⟨.val,.int (0+(i:Int))⟩) (some ⟨.own,.lst (own.map D.str)⟩) (ov f g) (ov w x))
   (O0 (s7:=ov w x) hi (by lia) A λa2 B own f g I J=>⟨a2,B,own,f,g,I,J,rfl⟩) ?_
  rintro τ ⟨a2,B,own,f,g,I,J,rfl⟩;rw[qW,vH];refine LQ (λτ=>∃a3 y e Y m n,Ea (j::o) e ts/\Ow (j::o) e Y/\Y.length<=10/\τ=eS a3 y (j::o) e ts (some ⟨.val,.int (0+(i:Int))⟩) (some ⟨.own,.lst (Y.map D.str)⟩) (ov f g) (ov m n))
   (N7 A I J λa3 y e Y m n p q s=>⟨a3,y,e,Y,m,n,p,q,s,rfl⟩) ?_
  rintro τ ⟨a3,y,e,Y,m,n,p,q,s,rfl⟩;rw[qW,vH];refine LQ (λτ=>∃(O:List Str),O.Nodup/\(∀z∈O,z∈j::o)/\(∀c∈O,c≠j->c∉e)/\(1<=O.length/\O.length<=10)/\τ=eS a3 y (j::o) e ts (some ⟨.val,.int (0+(i:Int))⟩) (some ⟨.own,.lst (O.map D.str)⟩) (ov f g) (ov m n))
   (N9 hi p q s λO L M N π=>⟨O,L,M,N,π,rfl⟩) ?_
  rintro τ ⟨O,L,M,N,π,rfl⟩;rw[qW];refine N8 R p L M N π (by grind) λa4 U t l P=>?_;refine⟨_,.inl rfl,a4,U,t,ts++[l],true,.int (0+(i:Int)),some (true,.lst (O.map D.str)),f,g,m,n,rfl,by simp[hi],P⟩
 ·rintro τ ⟨u,v,lf,ts,C,E,F,G,H,w,x,rfl,hi,A⟩;rw[cS]at hi;unfold eS;walk_at"dx";exact k ts u v ⟨by lia,by (simp_all;omega),A.cs⟩
def LS:DS:=(bC 2 (aI gP (dC (.int 3)) (aE 2 aD (aB (aC 0) (aB (dC (.int 4)) aF)))))
def LU:DS:=(bC 3 (Ci (aC 1) yF (dP (aC 2))))
def LV:DS:=(bC 4 (bV [7] (uY (aB (aC 2) aF)) (gX 7) eU (kN (iB (aB (kN (aI hQ (aC 3) (aC 7))) (aB (kN (aI hQ (aC 3) (aI CL (aI gP (aC 7) (dC (.int 1))) (aC 2)))) aF))))))
def LW:DS:=(jW (DR (cT (aI Ej (aC 2) (dC (.int 6)))) (cT (aI (Av false) (aE 2 aD (aB (aC 0) (aB (dC (.int 2)) aF))) (dC (.int 0))))) (bC 4 (bV [5] (Al (aC 3)) (gX 5) eU (kN (bV [8] (Al (aC 3)) (gX 8) (cT (aI (Av true) (aC 8) (aC 5))) (kN (aC 8)))))) dZ)
def LX:DS:=(jW (DR (cT (aI Ej (aC 2) (dC (.int 6)))) (cT (aI (Av false) (aE 2 aD (aB (aC 0) (aB (dC (.int 2)) aF))) (dC (.int 0))))) (aW (bC 5 (aI hQ (aC 4) (aE 2 aD (aB (aC 0) (aB (aC 2) aF))))) (fP (eM "list" 4 vD (aB (kN (hB oV (aB (aE 3 aM (aB (aC 0) (aB (aC 5) (aB (aI gP (dC (.int 1)) (aE 2 aD (aB (aC 0) (aB (dC (.int 2)) aF)))) aF)))) aF))) aF)))) dZ)
def pO:DS:=(fQ (bV [6] (Al (aE 2 aR (aB (aC 0) (aB (aC 4) aF)))) (gX 6) eU (hB lE (aB (aE 2 aR (aB (aC 0) (aB (aC 6) aF))) aF))))
def JU:DT:=(DR (cT (aI Ej (aC 2) (dC (.int 6)))) (DR (cT (aI Ej (hB jQ (aB (aI hQ (aC 4) (dC (.int 0))) aF)) (dC (.int 4)))) (cT (aI (Av false) (aE 2 aD (aB (aC 0) (aB (dC (.int 2)) aF))) (dC (.int 0))))))
def wO:DE:=(Ci (aC 4) yF (dP (aI gP (dC (.int 1)) (aE 2 aD (aB (aC 0) (aB (dC (.int 2)) aF))))))
def cC.ex(x:cC P w H h a o):∃u,h.get? a=some u:=by
 induction o with
 |lst b=>obtain⟨_,_,_,_,e⟩:=x;exact⟨_,e⟩
 |tup b=>obtain⟨_,_,_,⟨_,e,_⟩,_⟩:=x;exact⟨_,e⟩
 |dK k|dT k|dM k=>obtain⟨_,_,_,_,_,_,_,e,_⟩:=x;exact⟨_,e⟩
 |set S n=>obtain⟨_,_,_,_,e,_⟩:=x;exact⟨_,e⟩
 |ins C j c=>obtain⟨_,_,_,e,_⟩:=x;exact⟨_,e⟩
 |own p=>exact x
 |xd c=>obtain⟨_,⟨_,_,_,e,_⟩,_⟩:=x;exact⟨_,e⟩
 |rng l i=>obtain⟨_,_,_,e⟩:=x;exact⟨_,e⟩
 |frz O u=>exact⟨_,x.1⟩
 |tbl g|met f y=>exact⟨_,x⟩
 |ext d=>exact x.2.1
open Classical in
noncomputable def FR(S:Addr->Prop)(H:Hp):Hp:=λb=>if S b then H b else none
open Classical in
noncomputable def Eo(S:Addr->Prop)(H a:Hp):Hp:=λb=>if S b\/H b=none then a b else H b
def O2(F:Au P w K mg base Dw k f fd ps sp')
  (h:∀O H Q E,sp O H Q E->∃S:Addr->Prop,(∀a o,S a->H a=some o->(∃xs,o=.lst xs)\/∃ob xs,o=.frz ob (.lst xs))/\sp' O (FR S H) (λv i=>(∀a,¬S a->H a≠none->i a=none)->Q v (Eo S H i)) E):Au P w K mg base Dw k f fd ps sp:=by
 refine⟨λO H Q E q=>by obtain⟨S,_,q⟩:=h O H Q E q;exact F.len _ _ _ _ q,λA Y s H args us O Q E G d hb I hs=>?_⟩;obtain⟨S,hS,q⟩:=h O H Q E hs;have rs:∀{b},S b->FR S H b=H b:=λz=>gV z;have t:∀{b},¬S b->FR S H b=none:=λz=>a0m z;have l:∀{b},H b=none->FR S H b=none:=λ{b} z=>by
  by_cases y:S b;rw[rs y,z];exact t y
 refine GF (F.run A Y s (FR S H) args us O _ E G ⟨d.frames,d.mod,λb o e=>⟨(d.bs b o e).1,l (d.bs b o e).2⟩,d.bsz,d.funs,λb z=>l (d.frf b z),λa o e=>?_,d.bare⟩ hb I q) λr s' c=>?_
 ·by_cases y:S a;rw[rs y]at e;have x:=d.hok a o e;rcases hS a o y e with⟨xs,rfl⟩|⟨ob,xs,rfl⟩;exact x;exact x;rw[t y]at e;cases e
 ·cases r with
  |error e=>exact c
  |ok J=>
  cases J with
  | ret u=>
    obtain⟨v,i,L,M,j,N,π,R⟩:=c;have m:∀a,¬S a->H a≠none->i a=none:=λa y n=>by
     obtain⟨o,e⟩:=Option.ne_none_iff_exists'.mp n;obtain⟨u,T⟩:=(d.hok a o e).ex;exact j.free a u T (t y) (λz=>nomatch z)
    have B:∀{b},S b\/H b=none->Eo S H i b=i b:=λz=>gV z;have p:∀{b o},¬S b->H b=some o->Eo S H i b=some o:=λ{b o} y e=>(a0m (λz=>z.elim y λn=>by rw[n]at e;cases e)).trans e;have D1:∀{b o},i b=some o->Eo S H i b=some o:=λ{b o} e=>by grind
    have nt:∀{b xs},H b=some (.tup xs)->¬S b:=λ{b xs} e y=>by rcases hS b _ y e with⟨_,z⟩|⟨_,_,z⟩<;>cases z
    have no:∀{b c},H b=some (.own c)->¬S b:=λ{b c} e y=>by rcases hS b _ y e with⟨_,z⟩|⟨_,_,z⟩<;>cases z
    have nb:∀{b ps},H b=some (.tbl ps)->¬S b:=λ{b ps} e y=>by rcases hS b _ y e with⟨_,z⟩|⟨_,_,z⟩<;>cases z
    refine⟨v,Eo S H i,L,M,⟨λb o e n=>j.keep b o e (l n),λb o e n=>j.slot b o e (l n),λb o e n x=>?_,j.there,λb xs e=>p (nt e) e,λb o u e=>?_,λb ps e=>⟨#[],by rw[p (nb e) e];simp⟩⟩,λa o e=>?_,π,R m⟩;rw[B (.inr n)];exact j.free b o e (l n) x;by_cases y:S b;rw[B (.inl y)];exact j.frzs b o u (by rw[rs y];exact e);exact p y e
    ·by_cases z:S a\/H a=none;rw[B z]at e;exact(N a o e).stay (λb u _ e=>e) (λb e=>D1 e) λb xs e=>D1 e;have C:H a=some o:=(a0m z:Eo S H i a=H a).symm.trans e;have U:¬S a:=λy=>z (.inl y);have kp:∀b u,¬S b->H b≠none->s.heap.get? b=some u->s'.heap.get? b=some u:=λb u y n g=>j.keep b u g (t y) (λfr=>n (d.frf b fr)) (λz=>nomatch z);refine(d.hok a o C).stay (λb u hb g=>?_) (λb e=>p (no e) e) λb xs e=>p (nt e) e;rcases hb with rfl|hb;exact kp _ u U (λz=>by rw[z]at C;cases C) g;exact kp b u (no hb) (λz=>by rw[z]at hb;cases hb) g
  |_=>exact c
def JV(H₀:Hp):V->List V->Hp->VK->Prop:=λx v H Q=>∃l o a y,x=.ref l/\v=[y]/\H l=some (.frz o (.lst a))/\H₀ l=none/\a.length<sizeLine/\∀O,Q .non (fI H l (.frz O (.lst (a++[y]))))
def O3:Gg X "list.append" (JV X.H₀):=by
 intro m s Z H x t v U Q I b c h;obtain⟨l,o,n,y,rfl,rfl,d,e,f,q⟩:=h;refine thn (oH m s Z _ _ _ v U (λv r=>v=.non/\r=fI H l (.lst (n++[y]))) (G4 I d e) b c ⟨l,n,y,rfl,rfl,aJ,f,rfl,MB⟩) λu A z=>?_;obtain⟨w,r,g,i,j,k⟩:=z;subst j k;obtain⟨O,a⟩:=xV g (p:=l) aJ True.intro;rw[MB]at a;exact⟨.non,_,a,i,q O⟩
noncomputable abbrev AG(l:List Str):D:=.lst (l.map D.str)
def O4(a:dJ (.str x)=true)(b:dJ (.str y)=true)(k:K (.val (.bl (!decide (x=y))))):dY (Av true (.str x) (.str y)) K:=by
 have h:CW (.str x) (.str y)=decide (x=y):=rfl;show dY (if _ then _ else none) K;rw[aN,h];exact⟨⟨a,b⟩,k⟩
structure ER(rg:List Str)(n:Nat)(Ls:List (List Str)):Prop where
 n:n<=Ls.length
 m:Ls.length<=6
 l:∀l∈Ls,(1<=l.length/\l.length<=5)/\l.Nodup/\∀z∈l,z∈rg
 d:Ls[0]? ≠ Ls[1]?
def O5(d:3<=n)(f:n<=6)(a:rg.length=n)(nd:rg.Nodup):ER rg n ((range n).map λk=>[rg.getD k "",rg.getD ((k+1) % n) ""]):=by
 have N:∀i j,i<n->j<n->i≠j->rg.getD i ""≠rg.getD j "":=λi j m H h e=>by
  rw[DZ,DZ,oI (by simp[*]),oI (by simp[*])]at e;exact h ((getElem_inj nd).mp e)
 refine⟨by simp,by simp_all,λl a=>?_,?_⟩
 ·obtain⟨k,g,rfl⟩:=sY.mp a;have b:(k+1) % n < n:=mod_lt _ (by lia);have c:k≠(k+1) % n:=λe=>by
   rcases lt_or_ge (k+1) n with h|h;rw[Nat.mod_eq_of_lt h]at e;lia;have:k+1=n:=by lia
   rw[this,Nat.mod_self]at e;lia
  simp_all
 ·rw[Ab,Ab,List.getElem?_range (by lia),List.getElem?_range (by lia)];intro e;have:=(List.cons.inj (Ap e)).1;exact N 0 1 (by lia) (by lia) (by decide) this
def O6{l:List Str}(nd:l.Nodup)(b:x∈l):(l.filter λz=>!decide (z=x)).length+1=l.length:=by
 induction l with
 |nil=>grind
 | cons a l i=>
   obtain⟨N,n⟩:=Dq.mp nd;by_cases e:a=x;subst e;rw[List.filter_cons_of_neg (by simp),List.filter_eq_self.mpr λz c=>by simp;exact λe=>N (e▸c)];rfl;rw[List.filter_cons_of_pos (by simp_all),Fe,Fe,i n ((Az.mp b).resolve_left λz=>e z.symm)]
def O7(c:3<=n)(d:n<=5)(a:r.length=n)(nd:r.Nodup):ER r n (r.map λx=>r.filter λz=>!decide (z=x)):=by
 refine⟨by simp[a],by grind,λl a=>?_,λe=>?_⟩
 ·obtain⟨x,b,rfl⟩:=sY.mp a;have:=O6 nd b
  grind
 ·have h:r[0]?=some r[0]:=oI (by lia);have f:r[1]?=some r[1]:=oI (by lia);have:r[1]∈r.filter λz=>!decide (z=r[0]):=List.mem_filter.mpr ⟨getElem_mem _,by simp;exact λe=>absurd ((getElem_inj nd).mp e) (by decide)⟩
  simp_all
def ER.snoc{n:Nat}(h:ER r n L)(f:3<=n)(a:L.length<=5)(b:1<=C.length/\C.length<=5)(c:C.Nodup)(e:∀z∈C,z∈r):ER r n (L++[C]):=by
 have:=h.n;refine⟨by grind,by simp_all,λl a=>?_,?_⟩;rcases Ac.mp a with z|z;exact h.l l z;rw[Ah.mp z];exact⟨b,c,e⟩;rw[BG (by lia),BG (by lia)];exact h.d
abbrev LY(K:W.Frag)(H:Hp)(a:Gm):TS:=CU (Bb a Ex.no LS) (CU (Bb a Ex.no LU) (CU (Bb a Ex.no LV) (CU (Bb a Ex.no LW) (CU (Bb a Ex.no LX)
 (CU (Ki (CG a JU) (Fo (Ik K (AY a wO)) (gM 6) (xE (Ef K "list" (JV H) (pY 6) (GX (EC Ij (pY 1) (pY 2)) Ge)))) Kg) (Bb a Ex.no pO))))))
def QL{r:List Str}{j:Int}{n:Nat}(e:j=n)(h:n<r.length):atI (r.map D.str) j=some (.str (r.getD n "")):=by
 unfold atI AM
 simp_all
def QN{D:AQ}(ok:dX g H Z f)(P:Sg->Prop)(h:RS r Z λo=>∃a,o=.nx a/\P a)(k:∀a c d,P a->dX g d a c->t D c d):CU (Bb g Ex.no r) t D f H:=
 II ok (bJ h λo z=>by obtain⟨a,e,p⟩:=z;subst e;exact λc d b _=>k a c d p b)
abbrev FU(a b:Int)(z r:List Str)(m:Int)(L:List (List Str))(c:Option Sl):Sg:=[some ⟨.par,.lst [.int a,.int b]⟩,some ⟨.val,AG z⟩,some ⟨.val,.int m⟩,some ⟨.own,AG r⟩,some ⟨.own,.lst (L.map AG)⟩,c,none,none,none]
def O8{p q:Addr}(Γ:Gm)(ok:dX Γ H [some ⟨.par,.lst [.int a0,.int T]⟩,some ⟨.val,AG zs⟩,none,none,none,none,none,none,none] σV)(U:zs.length=6)(V:zs.Nodup)(J:∀ z∈zs,dJ (.str z)=true)
  (k:∀a b rg m O c σV' H',dX Γ H' (FU a b zs rg m O c) σV'->3<=m->m<=6->rg=zs.take m.toNat->ER rg m.toNat O->(c=none\/∃d,c=some ⟨.val,d⟩)->CU (Ki (CG Γ JU) (Fo (Ik K (AY Γ wO)) (gM 6) (xE (Ef K "list" (JV Γ.H₀) (pY 6) (GX (EC Ij (pY 1) (pY 2)) Ge)))) Kg) (Bb Γ Ex.no pO) En σV' H'):LY K Γ.H₀ Γ En σV H:=by
 refine II ok ?_;unfold LS;walk_at"dx";refine aO (by decide) (by decide) λd a1 X d0 d1=>?_;walk_at"dx";refine λL H1 j _=>II j ?_;unfold LU;walk_at"dx";rw[rJ _ (by lia),← Ee];refine λM H2 o _=>?_;have r:3<=3+d:=by lia
 have s:3+d<=6:=by lia
 generalize 3+d=m at *;have e:(zs.take m.toNat).length=m.toNat:=by rw[BA,U];simp[*]
 have N:(zs.take m.toNat).Nodup:=V.sublist (take_sublist _ _);have π:∀z∈zs.take m.toNat,z∈zs:=λz h=>BH h;generalize t:zs.take m.toNat=rg at *;refine II o ?_;unfold LV;walk_at"dx";have u:m.toNat<=6:=by simp[*]
 refine⟨⟨by lia,by lia⟩,by rw[cS];exact gY u (by decide),?_⟩;refine aU (λk=>AG [rg.getD k "",rg.getD ((k+1) % m.toNat) ""]) (λk:Nat=>D.int (0+(k:Int))) (range m.toNat) _ rfl (λk P=>?_) ?_
 ·have P:=Cq.mp P;have Y:((0:Int)+k+1) % m=((k+1) % m.toNat:Nat):=by rw[Int.natCast_emod,Int.toNat_of_nonneg (by lia)];simp
  walk_at"dx";rw[QL (n:=k) (by lia) (by simp[*]),QL Y (by rw[e];exact mod_lt _ (by lia))];exact⟨by grind,by decide,rfl⟩
 ·walk_at "dx";rw[show(range m.toNat).map (λk=>AG [rg.getD k "",rg.getD ((k+1) % m.toNat) ""])=((range m.toNat).map λk=>[rg.getD k "",rg.getD ((k+1) % m.toNat) ""]).map AG by rw[map_map];rfl];have S:=O5 (rg:=rg) (n:=m.toNat) (by lia) (by lia) e N;have Sl:((range m.toNat).map λk=>[rg.getD k "",rg.getD ((k+1) % m.toNat) ""]).length=m.toNat:=by simp
  generalize (range m.toNat).map (λk=>[rg.getD k "",rg.getD ((k+1) % m.toNat) ""])=O at S Sl ⊢;refine λQ H3 v _=>QN v (λg=>∃a b O,g=FU a b zs rg m O none/\ER rg m.toNat O/\O.length=m.toNat) ?_ ?_
  ·unfold LW;walk_at "dx";split
   ·refine aO (by decide) (by decide) λσ a2 f w y=>?_;walk_at"dx";split
    ·refine⟨gY (by rw[eI,e];exact u) (by decide),aU (λx=>AG (rg.filter λz=>!decide (z=x))) D.str rg [some ⟨.par,.lst [.int a2,.int f]⟩,some ⟨.val,AG zs⟩,some ⟨.val,.int m⟩,some ⟨.lent,AG rg⟩,some ⟨.own,.lst (O.map AG)⟩,none,none,none,none] rfl (λx hx=>?_) ?_⟩;walk_at"dx";refine⟨gY (by rw[eI,e];exact u) (by decide),dU (λz=>!decide (z=x)) D.str D.str rg [some ⟨.par,.lst [.int a2,.int f]⟩,some ⟨.val,AG zs⟩,some ⟨.val,.int m⟩,some ⟨.lent,AG rg⟩,some ⟨.own,.lst (O.map AG)⟩,some ⟨.val,.str x⟩,none,none,none] rfl (λz A=>?_) ?_⟩;walk_at"dx";refine O4 (J z (π z A)) (J x (π x hx)) ?_;walk_at"dx";walk_at"dx";walk_at"dx";exact⟨_,rfl,a2,f,rg.map λx=>rg.filter λz=>!decide (z=x),by unfold FU;rw[map_map];rfl,O7 (by lia) (by lia) e N,by rw[eI,e]⟩
    ·exact⟨_,rfl,a2,f,O,rfl,S,Sl⟩
   ·exact⟨_,rfl,a1,X,O,rfl,S,Sl⟩
  ·rintro g R H4 ⟨a2,f,O,rfl,S,Sl⟩ B;refine QN B (λg=>∃a b O c,g=FU a b zs rg m O c/\ER rg m.toNat O/\(c=none\/∃d,c=some ⟨.val,d⟩)) ?_ ?_
   ·unfold LX;walk_at"dx";split;rename_i hm;refine aO (by decide) (by decide) λσ a3 C w y=>?_;walk_at"dx";split;refine aO (by lia) (by lia) λd4 a4 b4 E d41=>?_;walk_at"dx";obtain⟨l,hl,F⟩:=LL AG (l:=O) E (by lia);rw[hl];walk_at"dx";obtain⟨l1,l2,l3⟩:=S.l l F;refine aO (by decide) (by decide) λd5 a5 b5 d50 d51=>?_;walk_at"dx";refine LM (.inr (.inl ⟨rfl,rfl⟩)) (by rw[eI];lia) (by lia) λys a6 b6 yp=>?_;obtain⟨cs,rfl,G⟩:=iL yp;walk_at"dx";rw[← Ee];have hc:=G.length_eq;refine⟨CS (by rw[eI];exact S.m:_<=6) (by decide),_,rfl,a6,b6,O++[cs.take (1+d5).toNat],_,by unfold FU;rw[AH];rfl,S.snoc (by lia) (by lia) ?_ ((G.nodup_iff.mpr l2).sublist (take_sublist _ _)) λz A=>l3 z (G.mem_iff.mp (BH A)),.inr ⟨_,rfl⟩⟩;rw[BA];lia;exact⟨_,rfl,a3,C,O,none,rfl,S,.inl rfl⟩;exact⟨_,rfl,a2,f,O,none,rfl,S,.inl rfl⟩
   ·rintro g i H5 ⟨a3,C,O,c,rfl,S,ho⟩ I;exact k a3 C rg m O c i H5 I r s t.symm S ho
def O9(ok:dX f H Z d)(a:σ'.length=Z.length)(h:∀(i:Nat) s,σ'[i]?=some (some s)->Z[i]?=some (some s)):dX f H σ' d:=
 ⟨λi s e=>ok.rel i s (h i s e),λi j s t p n b c=>ok.dis i j s t p n (h i s b) (h j t c),λi s p e=>ok.own i s p (h i s e),λi s p e=>ok.par i s p (h i s e),ok.keep,ok.dom,a.trans ok.len⟩
def QO(ok:dX O H [some ⟨.par,.lst [.int a,.int b]⟩,none,none,none,some ⟨.own,.lst (Ls.map AG)⟩,none,none,none,none] N)(g:FO Q Ls)
  (k:∀T c e v J G L,FO Q T->dX O L (some ⟨.par,.lst [.int c,.int e]⟩::J) G->gN O L (some ⟨.par,.lst [.int c,.int e]⟩::J) G (.own (qK T)) v->En.rt v L):Bb O Ex.no pO En N H:=by
 refine II ok ?_;unfold pO;walk_at"dx";refine hX (xs:=Ls.map AG) (.inl ⟨rfl,rfl⟩) (by rw[eI];have:=g.2.1;lia) λY a1 q j=>?_;obtain⟨B,rfl,U⟩:=iK j;have C:=U.length_eq;have l6:=g.2.1;walk_at"dx";refine⟨gY (by rw[eI];simp[*]:_<=6) (by decide),?_⟩;refine iF _ _ (λi I M=>∃(T:List (List Str)) (c e:Int),I=T.map (λl=>.tup (l.map D.str))/\T.length=i/\(∀l∈T,(1<=l.length/\l.length<=10)/\l.Nodup/\∀z∈l,z∈Q)/\M=[some ⟨.par,.lst [.int c,.int e]⟩,none,none,none,some ⟨.own,.lst (Ls.map AG)⟩,none,none,none,none]) ⟨[],a1,q,rfl,rfl,(λl h=>nomatch h),rfl⟩ ?_ ?_;rintro i d I M hd ⟨T,c,e,rfl,m,f,rfl⟩;obtain⟨l,n,rfl⟩:=kO hd;obtain⟨r,s,t⟩:=g.2.2 l (U.mem_iff.mp (An n));walk_at"dx";refine hX (xs:=l.map D.str) (.inr (.inl ⟨rfl,rfl⟩)) (by grind) λY a2 u j=>?_;obtain⟨cs,rfl,o⟩:=iK j;refine⟨_,rfl,T++[cs],a2,u,by rw[AH];rfl,by rw[AL,m];rfl,λx w=>?_,rfl⟩;rcases Ac.mp w with h|h;exact f x h;rw[Ah.mp h];exact⟨by rw[o.length_eq];exact r,o.nodup_iff.mpr s,λz y=>t z (o.mem_iff.mp y)⟩;rintro I M ⟨T,c,e,rfl,m,f,rfl⟩;rw[eI]at m;have E:=g.1;walk_at"dx";exact λv G L p A _=>k T c e v _ G L ⟨by simp[*],by simp[*],f⟩ p A
def tV{a b:List Str}(h:a.map V.str=b.map V.str):a=b:=List.map_inj_right (λx y e=>by injection e) |>.mp h
def P0{s:List (List Str)}(h:∀ (a:Addr) (o:Obj) (l:List Str),H a=some (.frz o (.lst (l.map V.str)))->∃ (O:Obj) (b:List Str),H' a=some (.frz O (.lst (b.map V.str)))/\(b=l\/b=l++[z])):∀ {xs:List V},Rps H (s.map AG) xs->∃ L:List (List Str),Rps H' (L.map AG) xs/\L.length=s.length/\∀ b∈L,∃ l∈s,b=l\/b=l++[z]:=by
 induction s with
 |nil=>intro xs r;cases r;exact⟨[],.nil,rfl,λl h=>nomatch h⟩
 | cons l s i=>
   intro xs r;cases r with
   | cons e f=>
     obtain⟨g,j,k,p⟩:=i f;cases e with
     | lst c m=>
       rw[m.strs_inv]at c;obtain⟨O,b,n,q⟩:=h _ _ _ c;refine⟨b::g,.cons (.lst n (rX b)) j,by simp[k],λx d=>?_⟩;rcases Az.mp d with rfl|d
       ·simp_all
       simp_all
def P1{L:List (List Str)}{j:Nat}(r:Rps H (L.map AG) xs)(e:xs[j]?=some x):∃l a o,L[j]?=some l/\x=.ref a/\H a=some (.frz o (.lst (l.map V.str))):=by
 have h:j<L.length:=by have:=r.length;rw[eI]at this;rw[this];exact(sL.mp e).1
 obtain⟨y,b,c⟩:=r.get (i:=j) (d:=AG L[j]) (by simp_all);rw[e]at b;cases b;cases c with
 | lst f g=>
   rw[g.strs_inv]at f;exact⟨L[j],_,_,oI h,rfl,f⟩
def P2(ok:dX Γ H (FU a b zs rg m Ls o5) σV)(m3:3<=m)(m6:m < 6)(π:rg=zs.take m.toNat)(S:ER rg m.toNat Ls)(z6:zs.length=6)(zn:zs.Nodup)
  (hq:Γ.H₀ q=some (.frz ob (.lst (zs.map V.str)))) (hpq:¬Γ.pr q) (hd:∀x,Γ.H₀ x≠none->x=p\/x=q) (hpr:∀x,Γ.pr x->x=p)
  (k:∀a b (P:List (List Str)) σV' H',dX Γ H' [some ⟨.par,.lst [.int a,.int b]⟩,none,none,none,some ⟨.own,.lst (P.map AG)⟩,none,none,none,none] σV'->FO zs P->En.nx σV' H') :
  Fo (Ik K (AY Γ wO)) (gM 6) (xE (Ef K "list" (JV Γ.H₀) (pY 6) (GX (EC Ij (pY 1) (pY 2)) Ge))) En σV H:=by
 refine G6 ok ?_;unfold wO;walk_at"dx";refine aO (by decide) (by decide) λd a1 Q d0 d1=>?_;walk_at"dx";rw[rJ _ (by lia),← Ee];intro v H2 r r2 _;obtain⟨c,rfl,⟨O,c1,c2⟩,c3,c4⟩:=r2;obtain⟨v1,q1,q2⟩:=r.rel 1 _ rfl;obtain⟨v2,n1,n2⟩:=r.rel 2 _ rfl;cases n2;obtain⟨v4,s1,s2⟩:=r.rel 4 _ rfl;obtain⟨s,rfl,xs,s3,s4⟩:=s2;obtain⟨v0,p1,p2⟩:=r.rel 0 _ rfl;obtain⟨p',rfl,ys,p3,p4⟩:=p2;obtain rfl:p'=p:=hpr _ (r.par 0 _ p' rfl rfl p1);cases q2 with
 |@lst _ qa _ qo q3 q4=>
 rw[q4.strs_inv]at q3;have lk:∀l∈Ls,(1<=l.length/\l.length<=5)/\l.Nodup/\∀z∈l,z∈rg:=S.l;obtain⟨z,hz⟩:∃z,zs[m.toNat]?=some z:=⟨_,oI (by simp[*])⟩;have zr:z∉rg:=λh=>by
  rw[π]at h;obtain⟨i,hi,e⟩:=Dm h;obtain⟨hm,f⟩:=sL.mp hz;rw[List.getElem_take,← f]at e;have:=(getElem_inj zn).mp e;rw[BA]at hi;lia
 have zz:z∈zs:=An hz;have qk:=r.keep q _ hq hpq;have F1:∀(x:Addr) (o:Obj) (l:List Str),H2 x=some (.frz o (.lst (l.map V.str)))->l.length<=5->Γ.H₀ x=none:=λx o l e h5=>AN λn=>by
  rcases hd x n with rfl|rfl;rw[p3]at e;cases e;rw[qk]at e;injection e with e;injection e with _ e;injection e with e
  rw[← tV e]at h5;lia
 have N:O.length<=2:=by have:=c2.length;rw[eI,BA]at this;grind
 have B:∀(j:Nat) x,O[j]?=some x->∃l w o,Ls[j]?=some l/\l∈Ls/\x=.ref w/\H2 w=some (.frz o (.lst (l.map V.str))):=λj x e=>by
  obtain⟨l,w,o,A,E,J⟩:=P1 c2 e;rw[getElem?_take]at A;split at A;exact⟨l,w,o,A,An A,E,J⟩;cases A
 have dis:∀(i j:Nat) w,O[i]?=some (.ref w)->O[j]?=some (.ref w)->i=j:=λi j w D f=>by
  obtain⟨l,w1,o,A,_,E,J⟩:=B i _ D;obtain⟨l',w2,o',R,_,h2',T⟩:=B j _ f;cases E;cases h2';rw[J]at T;injection T with e;injection e with _ e;injection e with e
  have:=tV e;subst this;have hi:=(sL.mp D).1;have hj:=(sL.mp f).1;have:=S.d
  match i,j,hi,hj with
  |0,0,_,_ | 1,1,_,_=>rfl
  |0,1,_,_ | 1,0,_,_=>rw[A,R]at this;exact absurd rfl this
  |i+2,_,h,_|_,j+2,_,h=>lia
 have nf:∀(j:Nat) w o,O[j]?=some (.ref w)->H2 w≠some (.lst o):=λj w o D f=>by
  obtain⟨_,_,_,_,_,e,h⟩:=B j _ D;cases e;rw[f]at h;cases h
 refine .inl ⟨O,Nk c1,λi n τ H'=>n=O.length-i/\i<=O.length/\(∀j,j≠6->τ[j]?=σV[j]?)/\τ.length=σV.length/\(∀w,(∀j,j<i->O[j]? ≠ some (.ref w))->H' w=H2 w)/\∀j w,j<i->O[j]?=some (.ref w)->∃o l,Ls[j]?=some l/\H' w=some (.frz o (.lst ((l++[z]).map V.str))),⟨_,rfl,Ad _,λ_ _=>rfl,rfl,λ_ _=>rfl,λj w h=>absurd h (Dr _)⟩,?_⟩;rintro i n τ H' ⟨rfl,hi,A,h0,E,J⟩;have L:∀w o,H2 w=some (.lst o)->H' w=some (.lst o):=λw o e=>by rw[E w λj _ f=>nf j w o f e];exact e
 have qo:∀j:Nat,O[j]? ≠ some (V.ref qa):=λj e=>by
  obtain⟨l,w,o,_,hm,D,f⟩:=B j _ e;cases D;rw[q3]at f;injection f with f;injection f with _ f;injection f with f
  have:=((lk l hm).1).2;rw[← tV f]at this;lia
 rcases lt_or_ge i O.length with U|M
 ·have F:O[i]?=some O[i]:=oI U;refine .inr ⟨⟨O,_,.of (L c _ c1),F⟩,λσ' H''=>σ'=τ.set 6 (some O[i])/\∃l w o,Ls[i]?=some l/\O[i]=.ref w/\H''=fI H' w (.frz o (.lst ((l++[z]).map V.str))),?_,?_⟩;rintro σ' H'' ⟨rfl,l,w,o,D,f,rfl⟩;refine⟨_,by grind,rfl,U,λj hj=>by rw[sU (hR hj)];exact A j hj,by rw[Ds];exact h0,λy I=>?_,λj y hj ey=>?_⟩;rw[aG λz=>I i (GL _) (by rw[F,f,z])];exact E y λj hj=>I j (lt_succ_of_lt hj);by_cases z:j=i;subst z;rw[F,f]at ey;cases ey;exact⟨o,l,D,aJ⟩;rw[aG λe=>z (dis j i y ey (by rw[F,f,e]))];exact J j y (by grind) ey;rintro x H'' ⟨rfl,hx⟩;have ex:=hx O (.of (L c _ c1));rw[F]at ex;cases ex;obtain⟨l,w,o,D,hm,f,C⟩:=B i _ F;have e4:H'' w=some (.frz o (.lst (l.map V.str))):=by rw[E w λj hj e=>AF hj (dis j i w e (by rw[F,f]))];exact C
  have g:∀j,j≠6->(τ.set 6 (some O[i]))[j]?=σV[j]?:=λj hj=>by rw[sU (hR hj)];exact A j hj
  have l9:=r.len;refine⟨O[i],by rw[Bo (by rw[h0,← l9];show 6<9;decide)],?_,_,(g 1 (by decide)).trans q1,_,(g 2 (by decide)).trans n1,.str z,?_,w,o,l.map V.str,.str z,f,rfl,e4,F1 w o l C (lk l hm).1.2,?_,λo'=>⟨rfl,l,w,o',D,f,by rw[AH];rfl⟩⟩;rw[f];exact .inl ⟨rfl,_,.inl (.inr ⟨o,e4⟩)⟩;show((cY H'' qa).bind λq=>atI q.2 m)=_;rw[nH (by rw[E qa λj _=>qo j];exact q3)];show atI (zs.map V.str) m=_;unfold atI AM;rw[gV (by lia),gV (by rw[eI];simp[*])];show(zs.map V.str)[_]?=_;rw[Ab,hz];rfl;rw[eI];exact CS (lk l hm).1.2 (by decide)
 ·refine .inl ⟨⟨O,.of (L c _ c1),M⟩,?_⟩;obtain⟨Lt,t1,t2,t3⟩:=P0 (H':=H') (z:=z) (λw o l e=>by
   by_cases X:∃j:Nat,O[j]?=some (V.ref w)
   ·obtain⟨j,hj⟩:=X;obtain⟨l',w',o',D,_,f,C⟩:=B j _ hj;cases f;rw[e]at C;injection C with C;injection C with _ C;injection C with C
    obtain⟨o2,l2,f1,f2⟩:=J j w (Ao (sL.mp hj).1 M) hj;rw[D]at f1;cases f1;exact⟨o2,_,f2,.inr (by rw[tV C])⟩
   ·exact⟨o,l,by rw[E w λj _ e=>X ⟨j,e⟩];exact e,.inl rfl⟩) s4
  have n1:=S.n;have n6:=S.m;have G:∀(i:Nat) t,([some ⟨.par,.lst [.int a1,.int Q]⟩,none,none,none,some ⟨.own,.lst (Lt.map AG)⟩,none,none,none,none]:Sg)[i]?=some (some t)->∃t',(FU a1 Q zs rg m Ls o5)[i]?=some (some t')/\t'.m=t.m/\i≠6:=λi t e=>by
   match i,e with
   |0,e | 4,e=>cases e;exact⟨_,rfl,rfl,by decide⟩
   |1,e | 2,e | 3,e | 5,e | 6,e | 7,e | 8,e=>cases e
  refine k a1 Q Lt τ H' ⟨?_,?_,?_,?_,?_,?_,?_⟩ ⟨by lia,by simp[*],λl L=>?_⟩
  ·intro i t e
   match i,e with
   |0,e=>cases e;exact⟨_,(A 0 (by decide)).trans p1,_,rfl,ys,L _ _ p3,by rw[Rps.ints_inv (ns:=[a1,Q]) p4];exact lA [a1,Q]⟩
   |4,e=>cases e;exact⟨_,(A 4 (by decide)).trans s1,s,rfl,xs,L s _ s3,t1⟩
   |1,e | 2,e | 3,e | 5,e | 6,e | 7,e | 8,e=>cases e
  ·intro i j t u w n F ej m m' e e';obtain⟨t',Y,N,σ⟩:=G i t F;obtain⟨u',y1,y2,y3⟩:=G j u ej;exact r.dis i j t' u' w n Y y1 (by rw[N];exact m) (by rw[y2];exact m') ((A i σ).symm.trans e) ((A j y3).symm.trans e')
  ·intro i t w e m v;obtain⟨t',Y,N,σ⟩:=G i t e;exact r.own i t' w Y (N.trans m) ((A i σ).symm.trans v)
  ·intro i t w e m v;obtain⟨t',Y,N,σ⟩:=G i t e;exact r.par i t' w Y (N.trans m) ((A i σ).symm.trans v)
  ·intro w o e n;rw[E w λj _ f=>by
    obtain⟨l,w',o',_,hm,C,e4⟩:=B j _ f;cases C;rw[F1 w o' l e4 (lk l hm).1.2]at e;cases e]
   exact r.keep w o e n
  ·intro w e;by_cases X:∃j:Nat,O[j]?=some (V.ref w);obtain⟨j,hj⟩:=X;obtain⟨o2,l2,f1,f2⟩:=J j w (Ao (sL.mp hj).1 M) hj;rw[f2]at e;cases e;exact r.dom w (by rw[← E w λj _ e=>X ⟨j,e⟩];exact e)
  ·rw[h0];exact r.len
  ·obtain⟨l0,hm,e⟩:=t3 l L;obtain⟨⟨k1,k2⟩,k3,k4⟩:=lk l0 hm;have sub:∀y∈l0,y∈zs:=λy I=>by have:=k4 y I;rw[π]at this;exact BH this
   rcases e with rfl|rfl;exact⟨⟨k1,by lia⟩,k3,sub⟩;refine⟨by simp;lia,List.nodup_append.mpr ⟨k3,by simp,λx hx y I e=>?_⟩,λy I=>?_⟩;rw[Ah.mp I]at e;exact zr (k4 z (e▸hx));rcases Ac.mp I with h|h;exact sub y h;rw[Ah.mp h];exact zz
def P4(ok:dX O H [some ⟨.par,.lst [.int a0,.int B]⟩,some ⟨.val,AG zs⟩,none,none,none,none,none,none,none] σV)(r:zs.length=6)(s:zs.Nodup)(C:∀ z∈zs,dJ (.str z)=true)
  (D:O.H₀ q=some (.frz ob (.lst (zs.map V.str)))) (d:¬O.pr q) (hd:∀x,O.H₀ x≠none->x=p\/x=q) (f:∀x,O.pr x->x=p)
  (k:∀ts u w v σ' n H',FO zs ts->dX O H' (some ⟨.par,.lst [.int u,.int w]⟩::σ') n->gN O H' (some ⟨.par,.lst [.int u,.int w]⟩::σ') n (.own (qK ts)) v->En.rt v H'):LY K O.H₀ O En σV H:=by
 refine O8 (p:=p) (q:=q) O ok r s C λa b rg m Ls E n H' g F L h S M=>?_;have n1:=S.n;have N:=S.m;have skip:∀ a b n H',dX O H' (FU a b zs rg m Ls E) n->Bb O Ex.no pO En n H':=λa b n H' ok=>QO (Ls:=Ls) (O9 (σ':=[some ⟨.par,.lst [.int a,.int b]⟩,none,none,none,some ⟨.own,.lst (Ls.map AG)⟩,none,none,none,none]) ok rfl λi t e=>by
   match i,e with
   |0,e | 4,e=>exact e
   |1,e | 2,e | 3,e | 5,e | 6,e | 7,e=>cases e
   | 8,e=>cases e) ⟨by lia,by lia,λl j=>by
     obtain⟨⟨π,P⟩,Q,R⟩:=S.l l j
     grind⟩ k
 refine G5 g ?_;unfold JU;walk_at"dx";split
 ·rename_i hm;obtain⟨l,j,_⟩:=LL AG (l:=Ls) (i:=0) (by decide) (by lia);rw[j];walk_at"dx";split;refine aO (by decide) (by decide) λT a2 U G I=>?_;walk_at"dx";intro y c _;split;exact P2 (En:={En with nx:=Bb O Ex.no pO En}) c F (by simpa using hm) h S r s D d hd f λa b X A Y o J=>QO o J k;exact skip _ _ _ _ c;intro y c _;exact skip _ _ _ _ c
 ·intro y c _;exact skip _ _ _ _ c
def P5(vs:List V)(H:Hp)(Q:PySem.VK)(E:XK)(h:DB 2 GC vs H Q E):∃ S:Addr->Prop,(∀ a o,S a->H a=some o->(∃ xs,o=.lst xs)\/∃ ob xs,o=.frz ob (.lst xs))/\(∃ p q,vs=[.ref p,.ref q]/\∀ x,FR S H x≠none->x=p\/x=q)/\DB 2 GC vs (FR S H) (λv d=>(∀ a,¬ S a->H a≠none->d a=none)->Q v (Eo S H d)) E:=by
 obtain⟨as,g,Y,a,b,zs,rfl,G,I,J,q⟩:=h;obtain⟨σ,K,p,rfl,xs,C,L⟩:=g.rel 0 _ rfl;obtain⟨v1,M,N⟩:=g.rel 1 _ rfl;obtain rfl:=J0 g.len K M;have m:Rp H (.lst (zs.map D.str)) v1:=N;cases m with
 |@lst _ c ys ob F π=>
 have O:∀{b},b=p\/b=c->FR (λx=>x=p\/x=c) H b=H b:=λz=>gV z;refine⟨λx=>x=p\/x=c,λx o z e=>?_,⟨p,c,rfl,λx n=>AN λz=>n (a0m z)⟩,_,⟨rfl,λi s e=>?_,g.dis,g.own⟩,rfl,a,b,zs,rfl,G,I,J,λts t u P v d po R j=>q ts t u P v _ ⟨λi s e mt=>?_,λx o e n=>?_,λx e=>?_⟩ ?_⟩;rcases z with rfl|rfl;rw[C]at e;cases e;exact .inl ⟨_,rfl⟩;rw[F]at e;cases e;exact .inr ⟨_,_,rfl⟩
 ·match i,e with
  |0,e=>cases e;exact⟨_,rfl,p,rfl,xs,(O (.inl rfl)).trans C,by rw[Rps.ints_inv (ns:=[a,b]) L];exact lA [a,b]⟩
  |1,e=>cases e;exact⟨_,rfl,.lst ((O (.inr rfl)).trans F) (by rw[π.strs_inv];exact rX zs)⟩
 all_goals
  have l:∀{y},(y=p\/y=c)\/H y=none->Eo (λx=>x=p\/x=c) H d y=d y:=λz=>gV z
 ·match i,e with
  | 0,e=>
    cases e;obtain⟨s',w,T,f2,U,W⟩:=po.rel 0 _ rfl rfl;cases T;cases U;obtain⟨p',X,f,k,A⟩:=W;cases X;exact⟨_,_,rfl,rfl,rfl,p,rfl,f,(l (.inl (.inl rfl))).trans k,by rw[Rps.ints_inv (ns:=[t,u]) A];exact lA [t,u]⟩
  |1,e=>cases e;cases mt
 ·by_cases z:x=p\/x=c;rw[l (.inl z)];exact po.fr x o ((O z).trans e) n;exact(a0m (λy=>y.elim z λn=>by rw[n]at e;cases e)).trans e
 ·by_cases z:(x=p\/x=c)\/H x=none;rw[l z]at e;rcases z with z|z;exact(O z).symm.trans (po.dom x e);exact z;exact(a0m z:Eo (λx=>x=p\/x=c) H d x=H x).symm.trans e
 ·obtain⟨r,rfl,n,f,k,A⟩:=R;have B:∀ {y o},d y=some o->Eo (λx=>x=p\/x=c) H d y=some o:=λ{y o} e=>by
   by_cases z:(y=p\/y=c)\/H y=none;rw[l z,e]
   simp_all
  refine⟨r,rfl,AN λz=>?_,f,B k,A.mono ⟨λ_ _ e=>B e,λ_ _ _ e=>B e⟩⟩;by_cases y:r=p\/r=c;rw[O y]at n;exact z n;rw[j r y z]at k;cases k
def P6(f:BE H [⟨.par,.lst [.int a,.int b]⟩,⟨.val,AG k⟩] [.ref p,.ref q]):dX ⟨H,λx=>x=p⟩ H [some ⟨.par,.lst [.int a,.int b]⟩,some ⟨.val,AG k⟩,none,none,none,none,none,none,none] [some (.ref p),some (.ref q),none,none,none,none,none,none,none]:=by
 have c:∀(i:Nat) s,([some ⟨.par,.lst [.int a,.int b]⟩,some ⟨.val,AG k⟩,none,none,none,none,none,none,none]:Sg)[i]?=some (some s)->i=0/\s.m=.par\/i=1/\s.m=.val:=λi s e=>by
  match i,e with
  |0,e | 1,e=>cases e;simp
  |2,e | 3,e | 4,e | 5,e | 6,e | 7,e | 8,e=>cases e
 refine⟨λi s e=>?_,λi j s t w n g h m M _ _=>?_,λi s w e m _=>?_,λi s w e m v=>?_,λ_ _ e _=>e,λ_ e=>e,rfl⟩;rcases c i s e with⟨rfl,_⟩|⟨rfl,_⟩;cases e;obtain⟨v,d,r⟩:=f.rel 0 _ rfl;cases d;exact⟨_,rfl,r⟩;cases e;obtain⟨v,d,r⟩:=f.rel 1 _ rfl;cases d;exact⟨_,rfl,r⟩
 ·rcases c i s g with⟨rfl,_⟩ | ⟨rfl,z⟩
  ·rcases c j t h with⟨rfl,_⟩|⟨rfl,z⟩
   ·simp_all
   simp_all
  ·rw[z]at m;cases m
 ·rcases c i s e with⟨_,z⟩|⟨_,z⟩<;>(simp_all)
 ·rcases c i s e with⟨rfl,_⟩|⟨_,z⟩
  ·simp_all
  lia
def wP{u:Sg}(ok:dX ⟨H,λx=>x=p⟩ y (some ⟨.par,.lst [.int d,.int f]⟩::u) t)(r:gN ⟨H,λx=>x=p⟩ y (some ⟨.par,.lst [.int d,.int f]⟩::u) t (.own (qK T)) v) :
  Bm [⟨.par,.lst [.int a,.int b]⟩,⟨.val,AG zs⟩] [.ref p,.ref q] H [⟨.par,.lst [.int d,.int f]⟩,⟨.val,AG zs⟩] y/\uR H y (.own (qK T)) v:=by
 obtain⟨w,rfl,g,_,j⟩:=r;obtain⟨l,k,x,rfl,h⟩:=ok.rel 0 _ rfl;obtain rfl:x=p:=ok.par 0 _ x rfl rfl k;refine⟨⟨λi s e m=>?_,λc o e n=>ok.keep c o e λz=>n ⟨0,_,rfl,rfl,by rw[z];rfl⟩,ok.dom⟩,w,rfl,j,g⟩
 match i,e with
 |0,e=>cases e;exact⟨_,_,rfl,rfl,rfl,_,rfl,h⟩
 |1,e=>cases e;cases m
def cN{r:PySem.Aa4}(i:Nat)(h:tb[i]? = some f)(T:Txt X.K X.mg a)(F:Fk X.prog X.w X.K X.mg X.base a i k (Aj n r))(c:Ae k X.A)(d:Gl X f.n)(m:GA X (e::E) b)
  (H:(f.n==("__debug__":Str))=false:=by decide) (g:starEach (e::E) X.env=(false,eval e X.env)::starEach E X.env:=by rfl) (j:(backTo pos (starEach E X.env)).any (·.1)=false:=by rfl):GE X (.Call (.Name f.n p) (e::E) [] pos) (aE n r b):=
 WT λl=>xH F c d (T.m i f h) (T.F i f h).kp (bn T i f h) .nil Kw (gA m l) H g j
def P7:Dy [i] (gM i) (gX i):=bI (by simp)
def QP:Dy [i,j] (oM K 2 (nY (gM i) (nY (gM j) Fn))) (dI 2 (aL (gX i) (aL (gX j) eN))):=iY (aV (bI (by simp)) (aV (bI (by simp)) fZ))
def P8:Dy [k,i,j] (oM K 2 (nY (oM L 2 (nY (gM i) (nY (gM j) Fn))) (nY (gM k) Fn))) (dI 2 (aL (dI 2 (aL (gX i) (aL (gX j) eN))) (aL (gX k) eN))):=iY (aV (iY (aV (bI (by simp)) (aV (bI (by simp)) fZ))) (aV (bI (by simp)) fZ))
set_option hygiene false in
open Lean in
def QQ(l:List Syntax):MacroM Syntax:=do
 let p:=fun(l:List Syntax)=>match l with
  |[]=>Syntax.missing
  |[x]=>x
  |h::r=>(Syntax.mkApp ⟨h⟩ (r.map fun x=>⟨x⟩).toArray).raw
 match l with
 |.atom _ "λ"::r=>return(←`(fun Γ=>$(⟨p r⟩))).raw
 |.atom _ "λ1"::r=>return(←`(fun _=>$(⟨p r⟩))).raw
 |.atom _ "λ2"::r=>return(←`(fun _ _=>$(⟨p r⟩))).raw
 |.atom _ "λ4"::r=>return(←`(fun _ _ _ _=>$(⟨p r⟩))).raw
 |[.atom _ ":",x,v]=>return mkNode ``Parser.Term.namedArgument #[mkAtom "(",x,mkAtom ":=",v,mkAtom ")"]
 |_=>return p l
open Lean in
def P9(z:List (String×Term))(t:String):MacroM Syntax:=do
 if let some x:=z.lookup t then return x.raw
 let c:=t.toList.headD ' '
 let u:=String.ofList (t.toList.drop 1)
 if c=='λ'||c==':' then return mkAtom t
 if c=='\'' then return(Syntax.mkStrLit u).raw
 if c=='.' then return mkNode ``Parser.Term.dotIdent #[mkAtom ".",mkIdent u.toName]
 if c=='@' then return mkNode ``Parser.Term.explicit #[mkAtom "@",mkIdent u.toName]
 if c.isDigit then return(Syntax.mkNumLit t).raw
 return(mkIdent t.toName).raw
open Lean in
def QR(z:List (String×Term))(s:String):MacroM Term:=do
 let mut w:List (List Syntax):=[[]]
 for t in((((s.replace "(" " ( ").replace ")" " ) ").replace "[" " [ ").replace "]" " ] ").splitOn " " do
  if t=="" then continue
  if t=="("||t=="[" then w:=[]::w
  else if t==")"||t=="]" then
   let l:=(w.headD []).reverse
   let x←if t==")" then QQ l else do
    let y:Array Term:=(l.map fun x=>⟨x⟩).toArray
    pure (←`([$y,*])).raw
   let r:=w.drop 1
   w:=(x::r.headD [])::r.drop 1
  else
   let x←P9 z t
   w:=(x::w.headD [])::w.drop 1
 return ⟨←QQ (w.headD []).reverse⟩
set_option hygiene false in
local macro_rules | `(tactic|walk_at"k")=>do
 let z:=[("_",←`(_)),("?",←`(?_)),("%Q",←`(⟨rfl,rfl,rfl,rfl⟩)),("%O",←`(by first|exact .inl rfl|exact .inr rfl)),("%N",←`(T.o _ (by decide +kernel))),("%H",←`(hr.mono (by decide))),("%U",←`(by with_unfolding_all rfl)),("%X",←`(by kernel_rfl)),("%R",←`(by rfl)),("%D",←`(by decide))]
 let r:="GA _ _(aB _ _)~Wr ? ?|GE _ _(aC _)~VW(pv _)|GA _ _ aF~Wq|GE _ _(dC(.int _))~VX|CI _ _ _(aW _ _)~NX ? ?|CI _ _[_]_~NW ?|GE _ _(kN _)~Wo ?|GE _ _(aI hQ _ _)~Xi ? ?(λ2 rfl)|GE _ _(aI gP _ _)~qT Xd Xe ? ?|GE _ _(iB _)~Wt ?|GS _ _ _(fQ _)~Wz ?|GI _ _ _(Al _)~WH K %R ?|GS _ _ _(jW _ _ _)~WA ? ? ?|CI _ _[]_~Ww|GE _ _(hB jQ _)~oP Xj(λ kS Va %R %N c6(gA ? Γ))|GE _ _(dC(.str _))~VZ|Eh _[]_~WQ|GE _ _(bV _ _(gX _)_ _)~yA(bI %D)(λ xM(Il _ %X)(gI ? Γ)(λ4(aX nd rfl %O %O))(eB %D)(λ4 ?)(λ4 gE ? Γ))|GS _ _ _(fP _)~Wy ?|GE _ _(hB lE _)~oP Xu(λ oC Vm %R %N qY(gA ? Γ))|GE _ _(aI wX _ _)~qT Xf Xg ? ?|GE _ _(aI CL _ _)~qT Tp WY ? ?|GT _ _(cT(aI(Av false)_ _))~oO(Oq hr.units)(KU(: neg false))? ?(mM _)|GO _ _(dP _)~Xo ?|GO _ _ yF~Xn|GE _ _(Ci _ _ _)~Xp ? ? ?|GE _ _(eM _ _ _ _)~sA Xw(λ mR K %R EY F.slot_list_append F.type_list_append oH(pv _)(gA ? Γ))|GI _ _ _(uY _)~WI(λ Td %R %N(gA ? Γ))PySem.cO8|GT _ _(cT(aI CM _ _))~oO MV Og ? ?(mM _)|GE _ _(xW _)~Ws ?|GE _ _(hB oU _)~oP Xr(λ kS(TR %R)%R %N c8(gA ? Γ))|GM _ _ _(zU _ _)~Pw ? ?|GT _ _(cT(aI(Bq false)_ _))~oO(Ot hr.units)(KX(: neg false))? ? %U|EN _ _ _(RS _)~u5 ?|GE _ _(hB Gq _)~oP Xs(λ oC TU %R %N ZZ(gA ? Γ))|GE _ _(aI Hv _ _)~qT XC XD ? ?|GS _ _ _(Gs _ _ _)~XB(λ Je(gE ? Γ)(MI(pv _)(gE ? Γ)UA))|GE _ _(aI(Av false)_ _)~uT(Oq hr.units)(KU(: neg false))? ?(mM _)|GT _ _(cT(aI(Bq true)_ _))~oO(XG hr.units)(KX(: neg true))? ? %U|GE _ _(hB oV _)~oP Xt(λ oC Vl %R %N oZ(gA ? Γ))|GS _ _ _(mS _(gX _)_)~vA P7(λ oA Ff rfl(gI ? Γ)(aX nd rfl %O)(Hw ? Γ))|GM _ _ _(RS _)~u4 ?|Eh _[_]_~WR ?|GE _(.BoolOp _[_]_)_~Wj ?|GE _ _(Hj _ _)~Wk ? ?|GW _(.BoolOp .And[_]_)_~Wd ?|GW _ _(DR _ _)~Wf ? ?|GT _(.BoolOp _ _ _)_~GW.gt ?|GE _ _(aI Hr _ _)~qT Tn WX ? ?|GE _ _(Hk _ _ _)~Wl ? ? ?|GM _ _[_]_~u6 ?|EN _ _ _(FD _ _ _)~u7 ? ? ?|GE _ _(pZ _ _ _ _)~Wu Xy(λ mR K %R EY F.slot_list_extend F.type_list_extend Xx(pv _)(gA ? Γ))|GS _ _ _(mS _(dI _(aL(gX _)(aL(gX _)eN)))_)~vA QP(λ oA Ff rfl(gI ? Γ)(dF(: n 2)K rfl rfl(aS(aX nd rfl %O)(aS(aX nd rfl %O)fN)))(Hw ? Γ))|GS _ _ _(bC _(bV _ _(gX _)_ _))~qU(bI %D)(λ qO nd rfl rfl(Il _ %X)(gI ? Γ)(λ4(aX nd rfl %O %O))(eB %D)(λ4 ?)(λ4 gE ? Γ)rfl)|GE _ _(aI CM _ _)~uT MV Og ? ?(mM _)|GT _ _(cT(aI Ej _ _))~oO MU Of ? ?(mM _)|GE _ _(aI Jy _ _)~qT Ts WZ ? ?|GE _ _(aI Jz _ _)~uT Tv Xa ? ?(mM _)|GE _ _(CV(Hy _)_)~ZH(: sep ')K(λ mR K %R F.plainAttrs_str F.slot_str_join F.type_str_join(ZL K %R)MF(gA ? Γ))|GS _ _ _(EH(dI _(aL(gX 7)(aL(gX 8)(aL(gX 9)eN))))_)~Oa(: own[7 8 9])(iY(aV(bI %D)(aV(bI %D)(aV(bI %D)fZ))))(λ Je(gE ? Γ)(dF(: n 3)K rfl rfl(aS(aX nd rfl %O)(aS(aX nd rfl %O)(aS(aX nd rfl %O)fN)))))|GE _ _(eM _ _ _ _)~sA XA(λ mR K %R EY F.slot_list_pop F.type_list_pop UI(pv _)(gA ? Γ))|GS _ _ _(oR _ _)~WN(λ SX Ff(gT ? Γ)(Hw ? Γ))|GE _ _(uU _ _ _)~Wv Xz(VJ K %R EY F.slot_list_pop F.type_list_pop UH(pv _))|GE _ _(eM _ _ _ _)~sA ZM(λ mR K %R EY F.slot_list_remove F.type_list_remove Vr(pv _)(gA ? Γ))|GS _ _ _(Iq _ _ _)~WD(: j 3)(λ SW(: j 3)rfl nd rfl rfl %D rfl rfl(gA ? Γ)rfl)|GE _ _(hB HB _)~oP B9(λ rW(: T 'tuple)(: U 'zip)(B8 rfl)%R %N qY %R %N sM(gA ? Γ))|GE _ _(aI Ej _ _)~uT MU Of ? ?(mM _)|GE _ _(eM _ _ _ _)~sA u3(λ mR K %R EY F.slot_list_index F.type_list_index u2(pv _)(gA ? Γ))|GE _ _(hB Ht _)~oP Xq(λ kS(TQ %R)%R %N c7(gA ? Γ))|GI _ _ _(Gx _)~z8(λ x9 %R %N sM(gA ? Γ))|GE _ _(bV _ _(dI _(aL(gX _)(aL(gX _)eN)))_ _)~yA(iY(aV(bI %D)(aV(bI %D)fZ)))(λ xM(Il _ %X)(gI ? Γ)(λ4(dF(: n 2)K rfl rfl(aS(aX nd rfl %O %O)(aS(aX nd rfl %O %O)fN))))(kZ(dO(eB %D)(dO(eB %D)kX cV)cV))(λ4 ?)(λ4 gE ? Γ))|GE _ _(aI(Bq false)_ _)~uT(Ot hr.units)(KX(: neg false))? ? %U|GT _ _(Hf _)~Wc ?(λ1 rfl)|GS _ _ _(bC _ _)~e7 nd rfl %O ?|GS _ _ _(mS _(dI _(aL(dI _ _)_))_)~vA P8(λ oA Ff rfl(gI ? Γ)(dF(: n 2)K rfl rfl(aS(dF(: n 2)K rfl rfl(aS(aX nd rfl %O)(aS(aX nd rfl %O)fN)))(aS(aX nd rfl %O)fN)))(Hw ? Γ))|GT _ _(cT(aI(Av true)_ _))~oO(XF hr.units)(KU(: neg true))? ?(mM _)|GE _ _(dC(.bl _))~VY|GE _ _(CV(Fw _)_)~XI(: c 'str)K %D(λ kS(XH K %R)%R %N oY(rM(gE ? Γ)(rM(Sw(: v(.ty 'str))%R %N d3 rfl)Jh)))|GW _(.BoolOp .Or[_]_)_~We ?|GW _ _(Hg _ _)~Wg ? ?|GS _ _ _(bC _(bV _ _(dI _(aL(gX _)(aL(gX _)eN)))_ _))~qU(iY(aV(bI %D)(aV(bI %D)fZ)))(λ qO nd rfl rfl(Il _ %X)(gI ? Γ)(λ4(dF(: n 2)K rfl rfl(aS(aX nd rfl %O %O)(aS(aX nd rfl %O %O)fN))))(kZ(dO(eB %D)(dO(eB %D)kX cV)cV))(λ4 ?)(λ4 gE ? Γ)rfl)|GE _ _(bV _ _(dI _(aL(gX _)(aL(dI _(aL(gX _)(aL(gX _)eN)))eN)))_ _)~yA(iY(aV(bI %D)(aV(iY(aV(bI %D)(aV(bI %D)fZ)))fZ)))(λ xM(Il _ %X)(gI ? Γ)(λ4(dF(: n 2)K rfl rfl(aS(aX nd rfl %O %O)(aS(dF(: n 2)K rfl rfl(aS(aX nd rfl %O %O)(aS(aX nd rfl %O %O)fN)))fN))))(kZ(dO(eB %D)(dO(kZ(dO(eB %D)(dO(eB %D)kX cV)cV))kX(v8(rC cV(rC cV v7))))cV))(λ4 ?)(λ4 gE ? Γ))|GS _ _ _(mS _(dI _(aL(gX 11)(aL(dI _(aL(gX 12)(aL(gX 13)eN)))eN)))_)~vA(: own[11 12 13])(iY(aV(bI %D)(aV(iY(aV(bI %D)(aV(bI %D)fZ)))fZ)))(λ oA Ff rfl(gI ? Γ)(dF(: n 2)K rfl rfl(aS(aX nd rfl %O)(aS(dF(: n 2)K rfl rfl(aS(aX nd rfl %O)(aS(aX nd rfl %O)fN)))fN)))(Hw ? Γ))|GT _ _(cT(aI _ _ _))~oO(op_niT(Kx hr))pur_niT ? ? %U|GT _ _(Hi _)~Wi ?|GE _ _(Iv Iw _)~ZP ZQ(λ rW(: T 'list)(: U 'reversed)(VE rfl)%R %N oZ %R %N sK(gA ? Γ))|GI _ _ _(uY _)~WJ(λ Te %R %N(gA ? Γ))eD4|GS _ _ _(mS _(dI _(aL(gX 9)(aL(gX 10)(aL(gX 11)eN))))_)~vA(: own[9 10 11])(iY(aV(bI %D)(aV(bI %D)(aV(bI %D)fZ))))(λ oA Ff rfl(gI ? Γ)(dF(: n 3)K rfl rfl(aS(aX nd rfl %O)(aS(aX nd rfl %O)(aS(aX nd rfl %O)fN))))(Hw ? Γ))|GE _ _(CV _ _)~Wa Tu Xb ?|GE _ _(hB hU _)~oP wG(λ o1(: id 'sorted)(: U 'set)(tQ rfl(q9 hr))%R %N pA %R %N c9(gA ? Γ))|GE _ _(HE _ _ _)~p6 s9(λ o8 F.slot_tuple_index F.type_tuple_index r8(gE ? Γ)(gA ? Γ))|BB _[_]_~kB(xF(mR K %R EY F.slot_list_append F.type_list_append oH(C4(Kx hr)(pv _)(gE ? Γ)(MX Jh)%Q)(gA ? Γ)))|CI _ _ _(Gz _ _ _ _ _)~G8(: K K)(: g 5)(: row 6)%D(Jf nd rfl %O VQ)(λ oA Ff rfl(gI ? Γ)(aX nd rfl %O)?)(MH(D7(pv _)))|GE _ _(hB HI _)~oP G3(λ kS G2 %R %N pA(gA ? Γ))|GE _ _(HH _ _ _)~D6(Kx hr)? ? ? %Q|GE _ _(aE _ aD _)~cN 1 rfl T(Cb T)%H %R ?|GE _ _(aE _ aR _)~cN 3 rfl T(BN T)%H %R ?|GE _ _(aE _ bA _)~cN 14 rfl T(BQ T)%H %R ?|GE _ _(aE _ dQ _)~cN 13 rfl T(Dg T)%H %R ?|GE _ _(aE _ bW _)~cN 27 rfl T(Bu T)%H %R ?|GE _ _(aE _ dN _)~cN 20 rfl T(Cy T)%H %R ?|GE _ _(aE _ aM _)~cN 4 rfl T(AD T)%H %R ?|GE _ _(aE _ cW _)~cN 2 rfl T(BM T)%H %R ?|GE _ _(aE _ cE _)~cN 10 rfl T(BO T)%H %R ?|GE _ _(aE _ dS _)~cN 16 rfl T(Cc T)%H %R ?|GE _ _(aE _ fX _)~cN 17 rfl T(Dh T)%H %R ?|GE _ _(aE _ cX _)~cN 19 rfl T(BR T)%H %R ?|GE _ _(aE _ eX _)~cN 0 rfl T(Cv T)%H %R ?|GE _ _(aE _ eY _)~cN 28 rfl T(Cz T)%H %R ?|GE _ _(aE _ bD _)~cN 5 rfl T(AU T)%H %R ?|GE _ _(aE _ bE _)~cN 6 rfl T(AV T)%H %R ?|EN _ _ _(vU _ _ _ _)~Px LC(λ Jf nd rfl %O(xH(@AI P w K mg base a T)%H %R(T.m 7 _ rfl)(Eg.kp(T.F 7 _ rfl))(bn T 7 _ rfl).nil Kw(gA ? Γ)))|GE _ _(aE _ cO _)~cN 9 rfl T(Bn T)%H %R ?|GE _ _(aE _ bR _)~cN 12 rfl T(AW T)%H %R ?|GE _ _(aE _ gD _)~cN 15 rfl T(Cw T)%H %R ?|GE _ _(aE _ dA _)~cN 18 rfl T(Bs T)%H %R ?|GE _ _(aE _ fJ _)~cN 23 rfl T(Ce T)%H %R ?|GE _ _(aE _ cI _)~cN 24 rfl T(Bj T)%H %R ?|GE _ _(aE _ fK _)~cN 25 rfl T(Cf T)%H %R ?|GE _ _(aE _ pI _)~cN 26 rfl T(GD T)%H %R ?|GE _ _(aE _ eK _)~cN 31 rfl T(BU T)%H %R ?|GE _ _(aE _ iQ _)~cN 29 rfl T(BS T)%H %R ?|GE _ _(aE _ iA _)~cN 30 rfl T(Bv T)%H %R ?|GE _ _(aE _ lP _)~cN 33 rfl T(ES T)%H %R ?|GE _ _(aE _ dD _)~cN 32 rfl T(Bw T)%H %R ?|EN _ _ _(vU _ _ _ _)~Px(tE cH)(λ Jf nd rfl %O(xH(@Bi P w K mg base a T)%H %R(T.m 8 _ rfl)(Eg.kp(T.F 8 _ rfl))(bn T 8 _ rfl).nil Kw(gA ? Γ)))|GE _ _(aE _ eE _)~cN 11 rfl T(BP T)%H %R ?|GE _ _(aE _ dB _)~cN 21 rfl T(Bt T)%H %R ?|GE _ _(aE _ fH _)~cN 22 rfl T(Cd T)%H %R ?|GE _ _(aE _ bN _)~cN 34 rfl T(AJ T)%H %R ?|GE _ _(aE _ fM _)~cN 35 rfl T(Cg T)%H %R ?|GE _ _(aI Em _ _)~I0 hr.units ? ?(λ2 rfl)|GE _ _(hB HC _)~oP d9(λ rW(: T 'list)(: U 'range)(VR rfl)%R %N oZ %R %N boot_range(gA ? Γ))|GS _ _ _(EH(dI _(aL(gX _)(aL(gX _)eN)))_)~Oa QP(λ Je(gE ? Γ)(dF(: n 2)K rfl rfl(aS(aX nd rfl %O)(aS(aX nd rfl %O)fN))))|GE _ _(hB wA _)~oP B7(λ rW(: T 'dict)(: U 'zip)(B6 rfl)%R %N ZY %R %N sM(gA ? Γ))|GS _ _ _(IM _ _ _)~I3(λ Je(gE ? Γ)(MI(pv _)(gE ? Γ)(B5 hr.units)))|GE _ _(aE _(bS _)_)~cN 30 rfl T ih hr %R ?|GE _ _(aE _(cD _)_)~cN 29 rfl T ih hr %R ?|GT _ _(cT _)~Wb ?".splitOn "|"
 let p←r.mapM fun r=>QR z ((r.splitOn "~").headD "")
 let q←r.mapM fun r=>QR z ((r.splitOn "~").getD 1 "")
 let p:=p.toArray
 let q:=q.toArray
 `(tactic|(try first|refine NX ?_ ?_|refine NW ?_|refine Pw ?_ ?_)<;>repeat' first $[| (with_reducible show $p);refine $q]*)
def Cv(T:Txt K mg a):Fk P w K mg base a 0 1 (Aj 2 eX):=by
 refine aQ (T.F 0 _ rfl) (sc 0 _ rfl) (by decide) iG (λcdv A outer s H E hr=>?_);have nd:=(sc 0 _ rfl).nd;unfold iG;walk_at"k"
def Cb(T:Txt K mg a):Fk P w K mg base a 1 1 (Aj 2 aD):=by
 refine aQ (T.F 1 _ rfl) (sc 1 _ rfl) (by decide) gC (λcdv A outer s H E hr=>?_);have nd:=(sc 1 _ rfl).nd;unfold gC;walk_at"k"
def BM(T:Txt K mg a):Fk P w K mg base a 2 2 (Aj 2 cW):=by
 refine aQ (T.F 2 _ rfl) (sc 2 _ rfl) (by decide) fD (λcdv A outer s H E hr=>?_);have nd:=(sc 2 _ rfl).nd;unfold fD;walk_at"k"
def BN(T:Txt K mg a):Fk P w K mg base a 3 2 (Aj 2 aR):=by
 refine aQ (T.F 3 _ rfl) (sc 3 _ rfl) (by decide) hV (λcdv A outer s H E hr=>?_);have nd:=(sc 3 _ rfl).nd;unfold hV;walk_at"k"
def AD(T:Txt K mg a):Fk P w K mg base a 4 3 (Aj 3 aM):=by
 refine aQ (T.F 4 _ rfl) (sc 4 _ rfl) (by decide) bM (λcdv A outer s H E hr=>?_);have nd:=(sc 4 _ rfl).nd;unfold bM;walk_at"k"
def AU(T:Txt K mg a):Fk P w K mg base a 5 4 (Aj 2 bD):=by
 refine aQ (T.F 5 _ rfl) (sc 5 _ rfl) (by decide) bY (λcdv A outer s H E hr=>?_);have nd:=(sc 5 _ rfl).nd;unfold bY;walk_at"k"
def AV(T:Txt K mg a):Fk P w K mg base a 6 4 (Aj 2 bE):=by
 refine aQ (T.F 6 _ rfl) (sc 6 _ rfl) (by decide) bZ (λcdv A outer s H E hr=>?_);have nd:=(sc 6 _ rfl).nd;unfold bZ;walk_at"k"
def AI{P:Program}{w:World}{K:W.Frag}{mg:Str->Option Value}{base:Heap}{a:Iy}(T:Txt K mg a):Fk P w K mg base a 7 4 (DB 2 GC):=by
 refine O2 (sp':=λvs H Q E=>(∃p q,vs=[.ref p,.ref q]/\∀x,H x≠none->x=p\/x=q)/\DB 2 GC vs H Q E) ?_ P5;refine(T.F 7 _ rfl).ok (sc 7 _ rfl) (λvs H Q E h=>by obtain⟨⟨p,q,rfl,_⟩,_⟩:=h;rfl) (λcdv A outer s H vs Q E hr h=>?_);have nd:=(sc 7 _ rfl).nd;obtain⟨⟨p,q,rfl,hd⟩,as,ao,hl,a0,b0,zs,rfl,z6,zn,zc,k⟩:=h;have hq:∃ob,H q=some (.frz ob (.lst (zs.map V.str))):=by
  obtain⟨v,e,r⟩:=ao.rel 1 _ rfl;cases e;cases (show Rp H (.lst (zs.map D.str)) (.ref q)from r)with
  |lst h1 h2=>rw[h2.strs_inv]at h1;exact⟨_,h1⟩
 obtain⟨ob,hq⟩:=hq;have hpq:q≠p:=λz=>by
  obtain⟨v,e,x,e',ys,h1,_⟩:=ao.rel 0 _ rfl;cases e;cases e';rw[← z,hq]at h1;cases h1
 refine⟨LY K H ⟨H,λx=>x=p⟩,eZ (GS.to ?_ _) (eZ (GS.to ?_ _) (eZ (GS.to ?_ _) (eZ (GS.to ?_ _) (eZ (GS.to ?_ _)
  (eZ (Kj (gT ?_ _) (kB (oA Ff rfl (ND K (by rfl) (gE ?_ _)) (aX (i:=6) nd rfl (by first|exact .inl rfl|exact .inr rfl)) (kB (xF (mR K (by rfl) EY F.slot_list_append F.type_list_append O3 (pv 6) (rM (Nb Nl (pv 1) (pv 2) (λ_ _=>rfl)) Jh)))))) MG) (kB (GS.to ?_ _))))))),P4 (P6 ao) z6 zn zc hq hpq hd (λ_ h=>h) λts a' b' v σ' σV' H' ht ok r=>k ts a' b' ht v H' (wP ok r).1 (wP (a:=a0) (b:=b0) (q:=q) (zs:=zs) ok r).2⟩
 ·unfold LS;walk_at"k"
 ·unfold LU;walk_at"k"
 ·unfold LV;walk_at"k"
 ·unfold LW;walk_at"k"
 ·unfold LX;walk_at"k"
 ·unfold JU;walk_at"k"
 ·unfold wO;walk_at"k"
 ·unfold pO;walk_at"k"
def Bi{P:Program}{w:World}{K:W.Frag}{mg:Str->Option Value}{base:Heap}{a:Iy}(T:Txt K mg a):Fk P w K mg base a 8 5 (DB 2 dG):=by
 refine yB (T.F 8 _ rfl) (sc 8 _ rfl) (by decide) cA cH (λcdv A outer s H E hr=>GM.to ?_);have nd:=(sc 8 _ rfl).nd;unfold cA;walk_at"k"
def Bn(T:Txt K mg a):Fk P w K mg base a 9 1 (Aj 1 cO):=by
 refine aQ (T.F 9 _ rfl) (sc 9 _ rfl) (by decide) cZ (λcdv A outer s H E hr=>?_);have nd:=(sc 9 _ rfl).nd;unfold cZ;walk_at"k"
def BO(T:Txt K mg a):Fk P w K mg base a 10 2 (Aj 2 cE):=by
 refine aQ (T.F 10 _ rfl) (sc 10 _ rfl) (by decide) fE (λcdv A outer s H E hr=>?_);have nd:=(sc 10 _ rfl).nd;unfold fE;walk_at"k"
def BP(T:Txt K mg a):Fk P w K mg base a 11 3 (Aj 3 eE):=by
 refine aQ (T.F 11 _ rfl) (sc 11 _ rfl) (by decide) fF (λcdv A outer s H E hr=>?_);have nd:=(sc 11 _ rfl).nd;unfold fF;walk_at"k"
def AW(T:Txt K mg a):Fk P w K mg base a 12 1 (Aj 2 bR):=by
 refine aQ (T.F 12 _ rfl) (sc 12 _ rfl) (by decide) cB (λcdv A outer s H E hr=>?_);have nd:=(sc 12 _ rfl).nd;unfold cB;walk_at"k"
def Dg(T:Txt K mg a):Fk P w K mg base a 13 1 (Aj 2 dQ):=by
 refine aQ (T.F 13 _ rfl) (sc 13 _ rfl) (by decide) jJ (λcdv A outer s H E hr=>?_);have nd:=(sc 13 _ rfl).nd;unfold jJ;walk_at"k"
def BQ(T:Txt K mg a):Fk P w K mg base a 14 1 (Aj 2 bA):=by
 refine aQ (T.F 14 _ rfl) (sc 14 _ rfl) (by decide) cP (λcdv A outer s H E hr=>?_);have nd:=(sc 14 _ rfl).nd;unfold cP;walk_at"k"
def Cw(T:Txt K mg a):Fk P w K mg base a 15 2 (Aj 3 gD):=by
 refine aQ (T.F 15 _ rfl) (sc 15 _ rfl) (by decide) iH (λcdv A outer s H E hr=>?_);have nd:=(sc 15 _ rfl).nd;unfold iH;walk_at"k"
def Cc(T:Txt K mg a):Fk P w K mg base a 16 1 (Aj 2 dS):=by
 refine aQ (T.F 16 _ rfl) (sc 16 _ rfl) (by decide) gF (λcdv A outer s H E hr=>?_);have nd:=(sc 16 _ rfl).nd;unfold gF;walk_at"k"
def Dh(T:Txt K mg a):Fk P w K mg base a 17 3 (Aj 2 fX):=by
 refine aQ (T.F 17 _ rfl) (sc 17 _ rfl) (by decide) jK (λcdv A outer s H E hr=>?_);have nd:=(sc 17 _ rfl).nd;unfold jK;walk_at"k"
def Bs(T:Txt K mg a):Fk P w K mg base a 18 4 (Aj 1 dA):=by
 refine aQ (T.F 18 _ rfl) (sc 18 _ rfl) (by decide) eF (λcdv A outer s H E hr=>?_);have nd:=(sc 18 _ rfl).nd;unfold eF;walk_at"k"
def BR(T:Txt K mg a):Fk P w K mg base a 19 1 (Aj 2 cX):=by
 refine aQ (T.F 19 _ rfl) (sc 19 _ rfl) (by decide) fG (λcdv A outer s H E hr=>?_);have nd:=(sc 19 _ rfl).nd;unfold fG;walk_at"k"
def Cy(T:Txt K mg a):Fk P w K mg base a 20 5 (Aj 2 dN):=by
 refine aQ (T.F 20 _ rfl) (sc 20 _ rfl) (by decide) iI (λcdv A outer s H E hr=>?_);have nd:=(sc 20 _ rfl).nd;unfold iI;walk_at"k"
def Bt(T:Txt K mg a):Fk P w K mg base a 21 3 (Aj 3 dB):=by
 refine aQ (T.F 21 _ rfl) (sc 21 _ rfl) (by decide) eG (λcdv A outer s H E hr=>?_);have nd:=(sc 21 _ rfl).nd;unfold eG;walk_at"k"
def Cd(T:Txt K mg a):Fk P w K mg base a 22 3 (Aj 2 fH):=by
 refine aQ (T.F 22 _ rfl) (sc 22 _ rfl) (by decide) gG (λcdv A outer s H E hr=>?_);have nd:=(sc 22 _ rfl).nd;unfold gG;walk_at"k"
def Ce(T:Txt K mg a):Fk P w K mg base a 23 1 (Aj 1 fJ):=by
 refine aQ (T.F 23 _ rfl) (sc 23 _ rfl) (by decide) gH (λcdv A outer s H E hr=>?_);have nd:=(sc 23 _ rfl).nd;unfold gH;walk_at"k"
def Bj(T:Txt K mg a):Fk P w K mg base a 24 2 (Aj 2 cI):=by
 refine aQ (T.F 24 _ rfl) (sc 24 _ rfl) (by decide) cQ (λcdv A outer s H E hr=>?_);have nd:=(sc 24 _ rfl).nd;unfold cQ;walk_at"k"
def Cf(T:Txt K mg a):Fk P w K mg base a 25 1 (Aj 1 fK):=by
 refine aQ (T.F 25 _ rfl) (sc 25 _ rfl) (by decide) gJ (λcdv A outer s H E hr=>?_);have nd:=(sc 25 _ rfl).nd;unfold gJ;walk_at"k"
def GD(T:Txt K mg a):Fk P w K mg base a 26 2 (Aj 2 pI):=by
 refine aQ (T.F 26 _ rfl) (sc 26 _ rfl) (by decide) wJ (λcdv A outer s H E hr=>?_);have nd:=(sc 26 _ rfl).nd;unfold wJ;walk_at"k"
def Bu(T:Txt K mg a):Fk P w K mg base a 27 1 (Aj 1 bW):=by
 refine aQ (T.F 27 _ rfl) (sc 27 _ rfl) (by decide) eJ (λcdv A outer s H E hr=>?_);have nd:=(sc 27 _ rfl).nd;unfold eJ;walk_at"k"
def Cz(T:Txt K mg a):Fk P w K mg base a 28 4 (Aj 3 eY):=by
 refine aQ (T.F 28 _ rfl) (sc 28 _ rfl) (by decide) iJ (λcdv A outer s H E hr=>?_);have nd:=(sc 28 _ rfl).nd;unfold iJ;walk_at"k"
def pP(T:Txt K mg a)(n:Nat):Fk P w K mg base a 29 (n+0) (Aj 1 (cD n)):=by
 induction n with
 |zero=>exact⟨(λ_ _ _ _ ⟨_,_,_,_,_,h,_⟩=>nomatch h),(λ_ _ _ _ _ _ _ _ _ _ _ _ _ ⟨_,_,_,_,_,h,_⟩=>nomatch h)⟩
 | succ n ih=>
   refine aQ (T.F 29 _ rfl) (sc 29 _ rfl) (by decide) (cR (cD n)) (λcdv A outer s H E hr=>?_);have nd:=(sc 29 _ rfl).nd;unfold cR;walk_at"k"
def BS(T:Txt K mg a):Fk P w K mg base a 29 8 (Aj 1 iQ):=(pP T 7).mono (by decide)
def nF(T:Txt K mg a)(n:Nat):Fk P w K mg base a 30 (n+0) (Aj 1 (bS n)):=by
 induction n with
 |zero=>exact⟨(λ_ _ _ _ ⟨_,_,_,_,_,h,_⟩=>nomatch h),(λ_ _ _ _ _ _ _ _ _ _ _ _ _ ⟨_,_,_,_,_,h,_⟩=>nomatch h)⟩
 | succ n ih=>
   refine aQ (T.F 30 _ rfl) (sc 30 _ rfl) (by decide) (cF (bS n)) (λcdv A outer s H E hr=>?_);have nd:=(sc 30 _ rfl).nd;unfold cF;walk_at"k"
def Bv(T:Txt K mg a):Fk P w K mg base a 30 8 (Aj 1 iA):=(nF T 7).mono (by decide)
def BU(T:Txt K mg a):Fk P w K mg base a 31 1 (Aj 3 eK):=by
 refine aQ (T.F 31 _ rfl) (sc 31 _ rfl) (by decide) fL (λcdv A outer s H E hr=>?_);have nd:=(sc 31 _ rfl).nd;unfold fL;walk_at"k"
def Bw(T:Txt K mg a):Fk P w K mg base a 32 2 (Aj 3 dD):=by
 refine aQ (T.F 32 _ rfl) (sc 32 _ rfl) (by decide) eL (λcdv A outer s H E hr=>?_);have nd:=(sc 32 _ rfl).nd;unfold eL;walk_at"k"
def ES(T:Txt K mg a):Fk P w K mg base a 33 1 (Aj 2 lP):=by
 refine aQ (T.F 33 _ rfl) (sc 33 _ rfl) (by decide) pJ (λcdv A outer s H E hr=>?_);have nd:=(sc 33 _ rfl).nd;unfold pJ;walk_at"k"
def AJ(T:Txt K mg a):Fk P w K mg base a 34 9 (Aj 4 bN):=by
 refine aQ (T.F 34 _ rfl) (sc 34 _ rfl) (by decide) bT (λcdv A outer s H E hr=>?_);have nd:=(sc 34 _ rfl).nd;unfold bT;walk_at"k"
def Cg(T:Txt K mg a):Fk P w K mg base a 35 2 (Aj 3 fM):=by
 refine aQ (T.F 35 _ rfl) (sc 35 _ rfl) (by decide) gK (λcdv A outer s H E hr=>?_);have nd:=(sc 35 _ rfl).nd;unfold gK;walk_at"k"
def Q0(T:Txt K mg a):Fk P w K mg base a 36 10 (DB 1 pK):=by
 refine yB (T.F 36 _ rfl) (sc 36 _ rfl) (by decide) rH LD (λcdv A outer s H E hr=>GM.to ?_);have nd:=(sc 36 _ rfl).nd;unfold rH;walk_at"k"
def QU(h:Hx a K o):Oe a K o:=by
 cases o with
 |nx Z=>exact h
 |rt r Z=>exact bQ.mp h
 |bk Z|ct Z|ex c f Z=>exact h
def QV(H:HF C)(h:RA d Z λr a=>AK a r λe=>(e.length=n/\eC r=true)/\C e λy A=>BK r A a λb=>PtK i y b λc=>Q (.nx c)):vU i n C d Z Q:=
 bJ h λx h=>bJ h λe h=>⟨h.1,H _ _ _ (λy A q=>by rw[Ld h.1.2];exact q) h.2⟩
structure Qc(qs:List (Str×List Str)):Prop where
 l1:1<=qs.length
 l6:qs.length<=6
 qn:Qn qs
 cd:∀q∈qs,q.2.Nodup
 ne:∀q∈qs,q.2≠[]
 cs:∃cs:List Str,cs.length=6/\∀q∈qs,∀z∈q.2,z∈cs
 nn:(qs.map Prod.fst).Nodup
theorem QW{a b:Type}:∀{l:List a} {m:List b},((l.zip m).map Prod.fst).Sublist l
 |[],_|_::_,[]=>by simp
 |x::l,y::m=>by exact QW.cons_cons x
def LZ(n:List Str)(t:List (List Str)):D.tup (HA (n.map D.str) (t.map λl=>.tup (l.map D.str)))=qD (n.zip t):=by
 unfold HA;rw[List.zip_map,map_map];rfl
def Ma{j n:List Str}(c:j.length=6)(f:∀ z∈j,Tx z)(d:n.length=6)(k:∀ z∈n,Tx z)(N:n.Nodup)(h:FO j t):Qc (n.zip t):=by
 have b:(n.zip t).length=t.length:=by rw[length_zip,d];have:=h.2.1;simp[*]
 have H:∀q∈n.zip t,q.1∈n/\q.2∈t:=λq a=>of_mem_zip a;refine⟨by rw[b];exact h.1,by rw[b];exact h.2.1,⟨by grind,λq a=>?_⟩,λq a=>(h.2.2 _ (H q a).2).2.1,λq a e=>?_,⟨j,c,λq a=>(h.2.2 _ (H q a).2).2.2⟩,N.sublist QW⟩
 ·obtain⟨⟨L,l⟩,g,i⟩:=h.2.2 _ (H q a).2
  grind
 ·have:=(h.2.2 _ (H q a).2).1.1
  simp_all
def Q1(k:∀ Q c d,Qc Q->K (.val (qD Q)) [⟨.par,.lst [.int c,.int d]⟩,⟨.val,.int 3⟩]):dG [⟨.par,.lst [.int a,.int b]⟩,⟨.val,.int 3⟩] K:=by
 unfold dG Hq;refine cH _ _ _ (λo h=>QU h) ?_;show cA [_,_,none,none,none,none] _;unfold cA;show RS _ _ (FC _ _);walk_at "dx";refine QH λC J r e i f=>?_;walk_at "dx";refine QH λN I s j B A=>?_;walk_at "dx";have G:∀ (N:List Str) (c d:Int),N.length=6->(∀ z∈N,Tx z)->N.Nodup->zU (RS (bC 4 (kN (aC 1)))) (zU (RS (jW (cT (aI (Av false) (aC 1) (dC (.int 3)))) (bC 4 (aE 2 aD (aB (aC 0) (aB (dC (.int 3)) aF)))) dZ))
   (zU (FD (cT (aI (Av false) (aC 4) (dC (.int 0)))) (RS (bC 5 (aE 2 bD (aB (aC 0) (aB (aC 2) aF))))) (FD (cT (aI (Av false) (aC 4) (dC (.int 1)))) (RS (bC 5 (aE 2 bE (aB (aC 0) (aB (aC 2) aF))))) (vU 5 2 GC (aB (aC 0) (aB (aC 2) aF)))))
   (RS (fQ (hB HB (aB (aC 3) (aB (aC 5) aF))))))) [some ⟨.par,.lst [.int c,.int d]⟩,some ⟨.val,.int 3⟩,some ⟨.val,.lst (C.map D.str)⟩,some ⟨.val,.lst (N.map D.str)⟩,none,none] (Hx [⟨.par,.lst [.int a,.int b]⟩,⟨.val,.int 3⟩] K):=by
  intro N c d j A B;show RS _ _ (FC _ _);walk_at"dx";show RS _ _ (FC _ _);walk_at"dx";refine aO (by decide) (by decide) λy E n t u=>?_;walk_at"dx";unfold zU FD;walk_at"dx";split;refine N5 e i λT c d h=>?_;walk_at"dx";rw[LZ];exact k _ _ _ (Ma e f j A B h);split;refine O1 e i (λz g=>(f z g).2) λT c d h=>?_;walk_at"dx";rw[LZ];exact k _ _ _ (Ma e f j A B h);refine QV LC ?_;walk_at"dx";refine⟨E,n,C,rfl,e,i,λz g=>tS (f z g).2,λT c d h=>?_⟩;walk_at"dx";rw[LZ];exact k _ _ _ (Ma e f j A B h)
 refine⟨⟨rfl,rfl,by decide⟩,?_⟩;show RS _ _ (FC _ _);walk_at"dx";refine aO (by decide) (by decide) λv E n w x=>?_;walk_at"dx";split;refine hX (.inr (.inl ⟨rfl,rfl⟩)) (by rw[eI];simp[*]) λY H p q=>?_;obtain⟨l,rfl,m⟩:=iL q;walk_at"dx";exact G l H p (by rw[m.length_eq];exact e) (λz g=>f z (m.mem_iff.mp g)) (m.nodup_iff.mpr i)
 simp_all
def JW{l:List a}(h:j < l.length):atI l (j:Int)=l[j]?:=by
 unfold atI;have e:AM l.length (j:Int)=some j:=by
  unfold AM
  simp_all
 simp_all
def Q2(H:0<=e)(h:e<12):∃v:Int,atI [D.int 0,D.int 1,D.int 2,D.int 10,D.int 11,D.int 12,D.int 21,D.int 101,D.int 111,D.int 112,D.int 121,D.int 211] e=some (.int v)/\0<=v/\v<1000:=by
 obtain⟨c,hc⟩:=Jn (ys:=[(0:Int),1,2,10,11,12,21,101,111,112,121,211]) H h;exact⟨c,by have:=xP (f:=D.int) (ys:=[(0:Int),1,2,10,11,12,21,101,111,112,121,211]) (i:=e);rw[hc]at this;exact this,(by decide:∀c∈[(0:Int),1,2,10,11,12,21,101,111,112,121,211],0<=c/\c<1000) c (LG hc)⟩
def Q3(h:0<m)(l:m<=1000)(k:∀v g i,0<=v/\v<1000->K (.val (.int v)) [⟨.par,.lst [.int g,.int i]⟩,⟨.val,.int m⟩]):CK cE [⟨.par,.lst [.int a,.int b]⟩,⟨.val,.int m⟩] K:=by
 unfold cE;rw[aZ];show RS fE [_,_,none] _;unfold fE;walk_at"dx";refine aO h (by lia) λd A c f n=>?_;walk_at"dx";split;obtain⟨v,j,H⟩:=Q2 (e:=d) f (by simp_all);refine⟨by decide,?_⟩;rw[j];exact k v A c H;exact k d A c ⟨f,by lia⟩
def Q4(H:0<=e)(h:e<5):∃m:Int,atI [D.int 2,D.int 3,D.int 5,D.int 12,D.int 1000] e=some (.int m)/\0<m/\m<=1000:=by
 have:e=0\/e=1\/e=2\/e=3\/e=4:=by lia
 rcases this with rfl|rfl|rfl|rfl|rfl<;>exact⟨_,rfl,by decide,by decide⟩
def Q5{a:Int}{n:Nat}(b:a=3000\/a=300)(H:1<=n)(h:n<=6):∃(l:List D) (m:Int),atI [D.lst [D.int 40,D.int 40,D.int 14,D.int 7,D.int 4,D.int 3],D.lst [D.int 40,D.int 17,D.int 6,D.int 4,D.int 3,D.int 2]] (if a<2000 then 1 else 0)=some (.lst l)/\atI l ((n:Int)-1)=some (.int m)/\0<=m/\m<=40:=by
 have:n=1\/n=2\/n=3\/n=4\/n=5\/n=6:=by lia
 rcases b with rfl|rfl<;>rcases this with rfl|rfl|rfl|rfl|rfl|rfl<;>exact⟨_,_,rfl,rfl,by decide,by decide⟩
def pQ(b:q∈Q)(h:z∈q.2):z∈bB Q:=by
 have a:∀ (l:List (Str×List Str)) (A:List Str),(z∈A\/∃ q∈l,z∈q.2)->z∈l.foldl (λA q=>A++q.2.filter λc=>!A.contains c) A:=by
  intro l
  induction l with
  | nil=>
    simp
  | cons p r d=>
    grind
 exact a Q [] (.inr ⟨q,b,h⟩)
def Mb(h:∀k∈ks,k.length=n)(g:2<=(oT ks).length):∀k∈ks,k≠[]:=by
 rintro k i rfl;have d:n=0:=(h [] i).symm;have f:=eW ks
 match e:oT ks,g with
 | a::b::r,_=>
   rw[e]at f;have c:=(Ew.mp f).1 b Aa;have j:=h a ((dL ks a).mp (by simp_all));have H:=h b ((dL ks b).mp (by rw[e];simp));rw[DX (j.trans d),DX (H.trans d)]at c;cases c
noncomputable abbrev lI(v:List Int):D:=.lst (v.map D.int)
abbrev Vb(a:List Int):Prop:=∀v∈a,0<=v/\v<1000
def drawn{y:Type}{f:y->D}{l:List y}(z:0 < m)(A:m<=1000)(k:∀ (G:List Int) p q,G.length=l.length->Vb G->K (G.map D.int,[some ⟨.par,.lst [.int p,.int q]⟩,N,M,r,some ⟨.val,.int m⟩,s,t,L,u,w,c,e,g,j,n,none,o])) :
  dY (zJ [15] (gX 15) eU (kN (aE 2 cE (aB (aC 0) (aB (aC 4) aF)))) (l.map f) [some ⟨.par,.lst [.int a,.int b]⟩,N,M,r,some ⟨.val,.int m⟩,s,t,L,u,w,c,e,g,j,n,none,o]) K:=by
 refine iF _ _ (λi H I=>∃(G:List Int) (p q:Int),H=G.map D.int/\G.length=i/\Vb G/\I=[some ⟨.par,.lst [.int p,.int q]⟩,N,M,r,some ⟨.val,.int m⟩,s,t,L,u,w,c,e,g,j,n,none,o]) ⟨[],a,b,rfl,rfl,(λ_ h=>nomatch h),rfl⟩ ?_ ?_;rintro i d H I Q ⟨G,p,q,rfl,B,J,rfl⟩;walk_at"dx";refine Q3 z A λv O C E=>?_;walk_at"dx";exact⟨_,rfl,G++[v],O,C,by simp,by simp_all,λx F=>(Ac.mp F).elim (J x) λh=>Ah.mp h▸E,rfl⟩;rintro H I ⟨G,p,q,rfl,B,J,rfl⟩;exact k G p q (by simp_all) J
def Q6(a:0<=L/\L<=40)(h:0<=e)(H:e<2):∃c:Int,atI [D.int (L+1),D.int ((if 5<L then 5 else L)+1)] e=some (.int c)/\0<c/\c<=41:=by
 have:e=0\/e=1:=by lia
 rcases this with rfl|rfl;exact⟨_,rfl,by lia,Int.lt_of_le_of_lt a.2 h⟩;exact⟨_,rfl,by lia,by lia⟩
noncomputable abbrev hT(ks:List (List Int)):D:=.tup (ks.map tI)
noncomputable abbrev hD(h:List (List (List Int))):D:=.tup (h.map hT)
noncomputable def pm(h:List (List (List Int))):Nat:=(h.map λk=>max 1 k.length).prod
def QX:pm (h++[k])=pm h*max 1 k.length:=by unfold pm;simp
abbrev QY(Q:List (Str×List Str))(h:List (List (List Int))):Prop:=∀(i:Nat) q k,Q[i]?=some q->h[i]?=some k->(∀r∈k,r.length=q.2.length/\Vb r)/\DF k/\k.length<=40
def Hh(q:List (Str×List Str))(h:List (List (List Int)))(r:Int):Prop:=QY q h/\(pm h:Int)*r<=3000/\1<=r
structure Ho(qs:List (Str×List Str))(hs:List (List (List Int))):Prop where
 l:hs.length=qs.length
 w:QY qs hs
 p:pm hs<=3000
def Q7(h:c<=3000)(H:1<=c):Hh Q [] c:=⟨λi q k _ e=>by simp at e,by show((1:Nat):Int)*c<=3000;simp[*],H⟩
def Hh.nx(h:Hh Q H v)(p:H.length=i)(g:Q[i]? = some q)(k:∀ r∈ks,r.length=q.2.length/\Vb r)(b:DF ks)(c:ks.length<=40)(d:(ks.length:Int)<=v):Hh Q (H++[ks]) (v / (if(ks.length:Int) > 1 then(ks.length:Int)else 1)):=by
 obtain⟨l,m,s⟩:=h;rw[show(if(ks.length:Int) > 1 then(ks.length:Int)else 1)=((max 1 ks.length:Nat):Int) by split<;>lia];have t:1<=max 1 ks.length:=Nat.le_max_left _ _;have u:((max 1 ks.length:Nat):Int)<=v:=by lia
 refine⟨λj n e f a=>?_,?_,(Int.le_ediv_iff_mul_le (by simp_all +arith)).mpr (by simp_all)⟩
 ·rcases lt_or_ge j H.length with w | w;rw[BG w]at a;exact l j n e f a;rw[Di w]at a;have o:j-H.length=0:=by
   rcases Nat.eq_zero_or_pos (j-H.length)with z|z;exact z;rw[List.getElem?_eq_none (by simp;exact z)]at a;cases a
  rw[o]at a;cases a;have:j=i:=by grind
  rw[this,g]at f;cases f;exact⟨k,b,c⟩
 ·rw[QX,Int.natCast_mul,Int.mul_assoc];exact Int.le_trans (Int.mul_le_mul_of_nonneg_left (Int.mul_comm _ _▸Int.ediv_mul_le _ (by lia)) (by lia)) m
def QZ{a:Type}{l:List a}{f:a->Nat}(h:Vb v):Vb (l.map λc=>v.getD (f c) 0):=by
 intro x b;obtain⟨c,_,rfl⟩:=sY.mp b;rw[DZ];cases e:v[f c]? with
 |none=>simp
 |some y=>exact h y (An e)
noncomputable abbrev oL(ks:List (List Int)):Option Sl:=some ⟨.own,.lst (ks.map tI)⟩
abbrev hS(d:Int)(Q:List (Str×List Str))(m:Int)(c:List (List Int))(e r:Int)(f:Bool)(h:List (List (List Int)))(q:Str×List Str)(v:Md)(a b L:Int)(s t u:Option Sl):Sg:=[some ⟨.par,.lst [.int a,.int b]⟩,some ⟨.val,qD Q⟩,some ⟨.val,.int d⟩,some ⟨.own,.lst ((bB Q).map D.str)⟩,some ⟨.val,.int m⟩,some ⟨v,.lst (c.map lI)⟩,some ⟨.val,.int e⟩,some ⟨.val,.int r⟩,some ⟨.val,.bl f⟩,some ⟨.own,.lst (h.map hT)⟩,some ⟨.val,.str q.1⟩,some ⟨.val,.tup (q.2.map D.str)⟩,some ⟨.val,.int L⟩,s,t,none,u]
def Q8(hce:o=3000\/o=300)(x:Qc qs)(k:∀ (hs:List (List (List Int))) J M,Ho qs hs->K (.val (hD hs)) [⟨.par,.lst [.int J,.int M]⟩,⟨.val,qD qs⟩,⟨.val,.int o⟩]) :
  CK eE [⟨.par,.lst [.int a,.int b]⟩,⟨.val,qD qs⟩,⟨.val,.int o⟩] K:=by
 have sl:10000<=sizeLine:=by decide
 unfold eE;rw[aZ];show RS fF [_,_,_,none,none,none,none,none,none,none,none,none,none,none,none,none,none] _;unfold fF;walk_at"dx";refine N4 x.qn ?_;have hcl:(bB qs).length<=600:=by
  have h1:=wM (qs:=qs) (n:=100) λq h=>(x.qn.2 q h).2.1;have h2:=Nat.mul_le_mul_right 100 x.l6;exact gY h1 h2
 walk_at"dx";refine⟨by decide,aO (by decide) (by decide) λn a1 b1 n0 n5=>?_⟩;obtain⟨m,hm,m0,m1⟩:=Q4 n0 n5;walk_at"dx";rw[hm];walk_at"dx";refine aO (by decide) (by decide) λn2 a2 b2 n20 n21=>?_;walk_at"dx";refine⟨by lia,by rw[cS];exact gY (by lia:n2.toNat<=6) (by decide),?_⟩;refine iF _ _ (λi acc τ=>i<=6/\∃(vss:List (List Int)) (J M:Int),acc=vss.map lI/\vss.length=i/\(∀vs∈vss,vs.length=(bB qs).length/\Vb vs)/\τ=[some ⟨.par,.lst [.int J,.int M]⟩,_,_,_,_,none,none,none,none,none,none,none,none,none,none,none,none]) ⟨Ad _,[],a2,b2,rfl,rfl,by simp,rfl⟩ ?_ ?_;rintro i d acc τ hd ⟨_,vss,J,M,rfl,hl,σ,rfl⟩;obtain⟨hi,rfl⟩:=hW hd;walk_at"dx";refine⟨by rw[eI];lia,drawn m0 m1 λvs a3 b3 u z=>?_⟩;walk_at"dx";refine⟨_,rfl,by lia,vss++[vs],a3,b3,by rw[AH];rfl,by rw[AL,hl];rfl,?_,rfl⟩;intro y hy;rcases Ac.mp hy with h|h;exact σ y h;rw[Ah.mp h];exact⟨u,z⟩;rintro acc τ ⟨_,vss,J,M,rfl,hl,σ,rfl⟩;rw[cS]at hl;have lq:(qs.map qP).length=qs.length:=eI _;walk_at"dx";rw[lq];obtain⟨el,s,he1,hev,ev0,ev1⟩:=Q5 hce x.l1 x.l6;have c0:o > 0:=by lia
 rw[he1];walk_at"dx";rw[hev];walk_at"dx";rw[gV c0];refine⟨by decide,by decide,by decide,aO (by decide) (by decide) λn3 a3 b3 n30 n31=>?_⟩;walk_at"dx";generalize decide (n3=0)=be;refine⟨Ad _,?_⟩;refine eV (λi τ=>i<=6/\∃(hs:List (List (List Int))) (a b O:Int) (A B C e:Bool) (E F G f:D) (l:Option (List D)),0<=O/\hs.length=i/\Hh qs hs O/\τ=[some ⟨.par,.lst [.int a,.int b]⟩,some ⟨.val,qD qs⟩,some ⟨.val,.int o⟩,some ⟨.own,.lst ((bB qs).map D.str)⟩,some ⟨.val,.int m⟩,some ⟨.own,.lst (vss.map lI)⟩,some ⟨.val,.int s⟩,some ⟨.val,.int O⟩,some ⟨.val,.bl be⟩,some ⟨.own,.lst (hs.map hT)⟩,ov A E,ov B F,ov C G,wo l,ov e f,none,none]) ⟨Ad _,[],a3,b3,o,false,false,false,false,.non,.non,.non,.non,none,by lia,rfl,Q7 (by lia) (by assumption),rfl⟩ ?_ ?_
 ·rintro i d τ hd ⟨_,hs,a,b,O,A,B,C,e,E,F,G,f,l,r0,v,t,rfl⟩;obtain⟨q,H,rfl⟩:=kO hd;have hil:i<qs.length:=(sL.mp H).1;have N:=An H;have hqq:=x.qn.2 q N;have hq6:=x.l6;simp only[sH,nO,sI,Lb,vI,wK,OH,OI,length_cons,length_nil,Nat.reduceAdd,true_and];refine lQ (λτ=>τ=(hS o qs m vss s O be hs q .own a b 40 (wo l) (ov e f) none)) ?_ ?_;walk_at"dx";exact⟨_,rfl,rfl⟩
  rintro τ rfl;refine lQ (λτ=>∃L:Int,(0<=L/\L<=40/\L<=O)/\τ=(hS o qs m vss s O be hs q .own a b L (wo l) (ov e f) none)) ?_ ?_;walk_at"dx";rw[gV c0];refine⟨_,rfl,_,?_,rfl⟩;split<;>lia
  rintro τ ⟨L0,π,rfl⟩;refine lQ (λτ=>∃L:Int,(0<=L/\L<=40/\L<=O)/\τ=(hS o qs m vss s O be hs q .own a b L (wo l) (ov e f) none)) ?_ ?_;walk_at"dx";split;refine⟨_,rfl,_,?_,rfl⟩;split<;>lia;exact⟨_,rfl,_,π,rfl⟩
  rintro τ ⟨L,hL,rfl⟩;clear π;have hcq:(q.2.map D.str).length=q.2.length:=eI _;refine lQ (λτ=>∃ks:List (List Int),ks.length<=5/\(∀r∈ks,r.length=q.2.length/\Vb r)/\τ=(hS o qs m vss s O be hs q .own a b L (oL ks) (ov e f) none)) ?_ ?_
  ·simp only[↓OG,↓OE,↓nQ,↓OM,↓Ox,↓Oy,↓Oz,↓OA,↓OB,↓QC,↓OD,↓OC];walk_at"dx";refine⟨by rw[eI];lia,aU (λvs=>tI (q.2.map λc=>vs.getD ((bB qs).idxOf c) 0)) lI vss (hS o qs m vss s O be hs q .lent a b L (wo l) (ov e f) none) rfl (λvs I=>?_) ?_⟩;walk_at"dx";refine⟨by lia,aU (λc=>.int (vs.getD ((bB qs).idxOf c) 0)) D.str q.2 (hS o qs m vss s O be hs q .lent a b L (wo l) (ov e f) (some ⟨.val,lI vs⟩)) rfl (λc hc=>?_) ?_⟩;walk_at"dx";have P:=pQ N hc;refine⟨P,?_⟩;have hix:=List.idxOf_lt_length_iff.mpr P;have u:=(σ vs I).1;rw[JW (by rw[eI];simp[*]),Ab,oI (by simp[*]),DZ,oI (by simp[*])];rfl;walk_at"dx";show hJ.val (.tup _)=hJ.val (.tup ((q.2.map _).map D.int));rw[map_map];rfl;show PySem.PtK 13 (.own (.lst _)) (hS o qs m vss s O be hs q .own a b L (wo l) (ov e f) none) _;walk_at"dx";refine⟨_,rfl,vss.map λvs=>q.2.map λc=>vs.getD ((bB qs).idxOf c) 0,by rw[eI];lia,?_,by unfold hS oL;rw[map_map];rfl⟩;intro r w;obtain⟨vs,I,rfl⟩:=sY.mp w;exact⟨eI _,QZ (σ vs I).2⟩
  rintro τ ⟨ks0,Q,R,rfl⟩;refine lQ (λτ=>∃(ks:List (List Int)) (a b:Int),ks.length<=5/\(∀r∈ks,r.length=q.2.length/\Vb r)/\τ=(hS o qs m vss s O be hs q .own a b L (oL ks) (ov e f) none)) ?_ ?_;walk_at"dx";refine aO (by decide) (by decide) λn4 a4 b4 n40 n41=>?_;walk_at"dx";split;exact⟨Ad _,_,rfl,[],a4,b4,Ad _,(λr h=>nomatch h),rfl⟩;exact⟨_,rfl,ks0,a4,b4,Q,R,rfl⟩
  rintro τ ⟨ks1,a5,b5,S,T,rfl⟩;clear Q R;refine lQ (λτ=>∃(ks:List (List Int)) (a b:Int) (e:Bool) (f:D),ks.length<=45/\(∀r∈ks,r.length=q.2.length/\Vb r)/\τ=(hS o qs m vss s O be hs q .own a b L (oL ks) (ov e f) none)) ?_ ?_
  ·walk_at"dx";refine⟨by decide,aO (by decide) (by decide) λn6 a7 b7 n60 n61=>?_⟩;obtain⟨c,hc,c0,c1⟩:=Q6 ⟨hL.1,hL.2.1⟩ n60 n61;walk_at"dx";rw[hc];walk_at"dx";refine aO c0 (by lia) λn7 a8 b8 n70 n71=>?_;walk_at"dx";refine⟨by lia,?_⟩;refine eV (λj τ=>j<=40/\∃(ks:List (List Int)) (a b:Int) (e:Bool) (f:D),ks.length<=5+j/\(∀r∈ks,r.length=q.2.length/\Vb r)/\τ=(hS o qs m vss s O be hs q .own a b L (oL ks) (ov e f) none)) ⟨Ad _,ks1,a8,b8,e,f,S,T,rfl⟩ ?_ ?_;rintro j d τ hd ⟨_,ks,a,b,e,f,hk,w,rfl⟩;obtain⟨hj,rfl⟩:=hW hd;walk_at"dx";refine⟨by lia,drawn m0 m1 λvs a9 b9 u z=>?_⟩;walk_at"dx";refine⟨by rw[eI];lia,_,.inl rfl,by lia,ks++[vs],a9,b9,true,_,by rw[AL];simp;exact lt_succ_of_le hk,?_,by unfold hS oL;rw[AH];rfl⟩;intro y hy;rcases Ac.mp hy with h|h;exact w y h;rw[Ah.mp h];exact⟨u,z⟩;rintro τ ⟨hj,ks,a,b,e,f,hk,w,rfl⟩;exact⟨_,rfl,ks,a,b,e,f,by lia,w,rfl⟩
  rintro τ ⟨p,a6,b6,U,V,hk2,W,rfl⟩;clear S T;have hsl:=kM p;walk_at"dx";refine⟨⟨by lia,Mb λr w=>(W r w).1⟩,?_⟩;rw[rJ _ hL.1,← Ee];have hl3:((oT p).take L.toNat).length<=L.toNat:=by rw[BA];exact Nat.min_le_left _ _
  have X:∀r∈(oT p).take L.toNat,r.length=q.2.length/\Vb r:=λr w=>W r ((dL p r).mp (BH w));have Y:DF ((oT p).take L.toNat):=List.Pairwise.sublist (take_sublist _ _) (eW p);generalize (oT p).take L.toNat=g at hl3 X Y ⊢;have l3:(g.map tI).length=g.length:=eI _;rw[l3];have nx:=t.nx v H X Y (by lia) (show(g.length:Int)<=O by grind);have hc:0<(if(g.length:Int) > 1 then(g.length:Int)else 1)/\(if(g.length:Int) > 1 then(g.length:Int)else 1)<=100:=by split<;>lia
  revert hc nx;generalize (if(g.length:Int) > 1 then(g.length:Int)else 1)=c;intro nx hc;refine⟨by rw[eI];lia,⟨hc.1,by lia⟩,_,.inl rfl,by lia,hs++[g],a6,b6,O / c,true,true,true,U,_,_,_,V,some (g.map tI),Int.ediv_nonneg r0 (Int.le_of_lt hc.1),by rw[AL,v];rfl,nx,by rw[AH];rfl⟩
 ·rintro τ ⟨h6,hs,a,b,O,A,B,C,e,E,F,G,f,l,r0,v,t,rfl⟩;walk_at"dx";exact k hs a b ⟨v.trans (eI _),t.1,by have h:=Int.le_trans (Int.mul_le_mul_of_nonneg_left t.2.2 (Int.natCast_nonneg _)) t.2.1;lia⟩
def Q9(h:ks.length<4000/\(2<=(oT ks).length->∀k∈ks,k≠[]))(k:K (.own (.lst ((oT ks).map tI)))):dY (hU [.tup (ks.map tI)]) K:=by rw[G1];exact⟨h,k⟩
noncomputable def pk(c s:List Str)(row:List Int):List Int:=s.map λz=>row.getD (c.idxOf z) 0
def Mc{row:List Int}(h:n<row.length):atI (row.map D.int) (n:Int)=some (.int (row.getD n 0)):=by
 unfold atI AM
 simp_all
def wQ{a:Type}{l:List a}(h:l.length<=100):l.length<=sizeLine:=gY h (by decide)
def Me{c:List Str}(h:z∈c):c.idxOf z<c.length:=List.idxOf_lt_length_of_mem h
def Ra(c s:List Str)(row:List Int):tI (pk c s row)=.tup (s.map λz=>.int (row.getD (c.idxOf z) 0)):=by
 unfold tI pk;rw[map_map];rfl
def R0{c s:List Str}(h:∀ z∈s,z∈c)(a:s.length<=100)(k:K (.own (.lst (s.map λz=>.int (c.idxOf z:Nat)))) [⟨.val,.tup (c.map D.str)⟩,⟨.val,.tup (s.map D.str)⟩]) :
  CK bA [⟨.val,.tup (c.map D.str)⟩,⟨.val,.tup (s.map D.str)⟩] K:=by
 unfold bA;rw[aZ];show RS cP [_,_,none] _;unfold cP;walk_at"dx";refine⟨wQ (by simp_all),aU (λz=>.int (c.idxOf z:Nat)) D.str s [_,_,none] rfl (λz b=>?_) k⟩;walk_at"dx"
 simp_all
def Rb{c:List Str}(H:(m=.par\/m=.val)/\r=.lst (ks.map tI)\/m=.val/\r=.tup (ks.map tI))(h:ks.length<4000/\(2<=(oT ks).length->∀k∈ks,k≠[]))
   (k:K (.val (.tup [.tup (c.map D.str),.tup ((oT ks).map tI)])) [⟨.val,.tup (c.map D.str)⟩,⟨m,r⟩]):CK dS [⟨.val,.tup (c.map D.str)⟩,⟨m,r⟩] K:=by
 unfold dS;rw[aZ];show RS gF [_,_] _;unfold gF;rcases H with⟨rfl|rfl,rfl⟩|⟨rfl,rfl⟩;walk_at"dx";exact⟨h,sl2,k⟩;walk_at"dx";exact⟨h,sl2,k⟩;walk_at"dx";refine Q9 h ?_;exact⟨sl2,k⟩
def lS(a:row.length=C.length)(h:∀ z∈s,z∈C)(c:s.length<=100)(k:K (.val (tI (pk C s row))) [⟨.val,tI row⟩,⟨.par,.lst (s.map λz=>.int (C.idxOf z:Nat))⟩]) :
  CK dQ [⟨.val,tI row⟩,⟨.par,.lst (s.map λz=>.int (C.idxOf z:Nat))⟩] K:=by
 unfold dQ;rw[aZ];show RS jJ [_,_,none] _;unfold jJ;walk_at"dx";refine⟨wQ (by simp_all),aU (λz=>.int (row.getD (C.idxOf z) 0)) (λz=>.int (C.idxOf z:Nat)) s [_,_,none] rfl (λz b=>?_) ?_⟩;walk_at"dx";rw[Mc (by rw[a];exact Me (h z b))];rfl;rw[Ra]at k;exact k
def tW(h:dJ d=true)(k:K (.val (.bl (!neg)))):dY (Av neg d d) K:=by
 have e:CW d d=true:=SeqAt.eqv_refl _ (bX h).1;show dY (if _ then _ else none) K;rw[aN,e];refine⟨⟨h,h⟩,?_⟩;cases neg<;>exact k
theorem Mf(H:m<=59):∀ (l:List D),(∀ d∈l,dJ d=true/\(iX d).depth<=m)->(dJ (.tup l)=true/\dJ (.lst l)=true)/\(iX (.tup l)).depth<=m+1
 |[],_=>⟨⟨rfl,rfl⟩,by simp[iX,toPys,depth,depthAll]⟩
 | d::r,h=>by
   obtain⟨⟨a,b⟩,c⟩:=Mf H r λx e=>h x (Am _ e);obtain⟨p,q⟩:=h d Aa;obtain⟨k,i⟩:=bX p;obtain⟨A,j⟩:=bX a;have f:(iX (.tup (d::r))).canLay0=((iX d).canLay0&&(iX (.tup r)).canLay0):=by
    simp only[iX,toPys,canLay0,canLayAll0]
   have g:(iX (.tup (d::r))).depth<=m+1:=by
    simp only[iX,toPys,depth,depthAll]at c ⊢;lia
   refine⟨⟨?_,QB d r p b (gY q H)⟩,g⟩;unfold dJ;rw[BZ,Ep,f,k,A];exact⟨rfl,by lia⟩
def Rc(k:List Int):dJ (tI k)=true/\(iX (tI k)).depth<=1:=by
 obtain⟨⟨a,_⟩,b⟩:=Mf (m:=0) (by decide) (k.map D.int) λd h=>by
  obtain⟨i,_,rfl⟩:=sY.mp h;exact⟨rfl,hF 0⟩
 exact⟨a,b⟩
def Mh(ks:List (List Int)):dJ (.tup (ks.map tI))=true/\dJ (.lst (ks.map tI))=true:=
 (Mf (m:=1) (by decide) (ks.map tI) λd h=>by
  obtain⟨i,_,rfl⟩:=sY.mp h;exact Rc i).1
def HJ{K:a->Prop}(e:o=some x)(k:K x):dY o K:=bQ.mpr ⟨x,e,k⟩
def R1(H:Z[g]?=some none)(h:RI r (Z.set g (some SG)) λI l k=>l=none/\k[g]?=some (some SG)/\I.length<4000/\dY (Gy row a b I [] (k.set g none)) λy=>Q (.rt (.own (FL y.1)) (y.2.set g none))):RS (Gz g row r a b) Z Q:=by
 obtain⟨x,e,d,f,i,c⟩:=bQ.mp h;obtain⟨y,j,q⟩:=bQ.mp c;refine HJ (x:=.rt (.own (FL y.1)) (y.2.set g none)) ?_ q;unfold Gz
 simp_all
theorem Rf{h:Type}(u:h->D)(f:h->List Key)(v:h->D)(P:Sg->Prop):∀ (xs:List h) (C:Ca) (b:Sg),P b ->
  (∀x∈xs,∀b,P b->dY (gX row (u x) b) λc=>RE i c λr g=>IG r=some (f x)/\RA l g λE d=>vals E=some [v x]/\P d)->(∀b,P b->K (xs.foldl (λa x=>wY (f x) (v x) a) C,b))->dY (Gy row i l (xs.map u) C b) K
 |[],C,b,j,_,k=>HJ rfl (k b j)
 | x::xs,C,b,j,H,k=>by
   obtain⟨c,m,n⟩:=bQ.mp (H x Aa b j);obtain⟨⟨r,g⟩,o,p,s⟩:=bQ.mp n;obtain⟨⟨E,d⟩,t,w,A⟩:=bQ.mp s;obtain⟨z,e,q⟩:=bQ.mp (Rf (K:=K) u f v P xs (wY (f x) (v x) C) d A (λy B=>H y (Am _ B)) k);refine HJ (x:=z) ?_ q;show(gX row (u x) b).bind _=some z;rw[m];show(i c).bind _=some z;rw[o];show(IG r).bind _=some z;rw[p];rw[t];show(vals E).bind _=some z;rw[w];exact e
noncomputable def lk:Ca->List Key->Option (List D)
 |[],_=>none
 |p::r,k=>if p.1=k then some p.2 else lk r k
theorem lT:∀ k:List Key,qI (k.map oN)=some k
 |[]=>rfl
 | x::r=>by
   show(Lw (oN x)).bind _=_;have e:Lw (oN x)=some x:=by cases x<;>rfl
   rw[e];rw[lT r];rfl
theorem Rg(k:List Key):∀ a:Ca,IF (a.map λp=>.tup (p.1.map oN)) (a.map λp=>.lst p.2) k=some ((lk a k).map .lst)
 |[]=>rfl
 | p::r=>by
   show(qI (p.1.map oN)).bind _=some ((if p.1=k then some p.2 else lk r k).map D.lst);rw[lT];show(if p.1=k then _ else _)=_;by_cases e:p.1=k
   ·simp_all
   ·rw[a0m e,a0m e];exact Rg k r
theorem Rh(k j:List Key)(v:D):∀ a:Ca,lk (wY k v a) j=if k=j then some ((lk a k).getD []++[v])else lk a j
 |[]=>rfl
 | p::r=>by
   show lk (if p.1=k then _ else _) j=_;by_cases e:p.1=k
   ·rw[gV e];show(if p.1=j then _ else _)=_;by_cases z:k=j
    ·rw[gV (e.trans z),gV z];show _=some ((if p.1=k then some p.2 else _).getD []++[v])
     simp_all
    ·rw[a0m (λq=>z (e.symm.trans q)),a0m z];show _=(if p.1=j then _ else _)
     simp_all
   ·rw[a0m e];show(if p.1=j then _ else _)=_;rw[Rh k j v r];show _=if k=j then some ((if p.1=k then some p.2 else lk r k).getD []++[v])else(if p.1=j then _ else _)
    by_cases z:k=j
    ·simp_all
    simp_all
theorem Ri{b:Type}(f:b->List Key)(v:b->D)(k:List Key):∀ (xs:List b) (A:Ca),((lk (xs.foldl (λa x=>wY (f x) (v x) a) A) k).getD []=(lk A k).getD []++(xs.filter λx=>decide (f x=k)).map v) /\
  ((lk (xs.foldl (λa x=>wY (f x) (v x) a) A) k).isSome=((lk A k).isSome||xs.any λx=>decide (f x=k)))
 |[],A=>by simp
 | x::xs,A=>by
   obtain⟨c,d⟩:=Ri f v k xs (wY (f x) (v x) A);rw[foldl_cons,c,d,Rh];by_cases e:f x=k;simp[e]
   simp_all
noncomputable abbrev tD(c:List Str)(ks:List (List Int)):D:=.tup [.tup (c.map D.str),.tup (ks.map tI)]
def Rj{a:List Str}(H:As z)(h:∀ z∈a,As z)(k:K (.val (.bl (if neg=true then !a.contains z else a.contains z)))):dY (Bq neg (.str z) (.tup (a.map D.str))) K:=by
 show dY (if _ then _ else none) K;rw[aN];refine⟨⟨tS H,tU h⟩,?_⟩;have e:((a.map D.str).any λy=>CW y (.str z))=a.contains z:=by
  rw[List.any_map,List.contains_eq_any_beq];congr 1;funext y;show(y==z)=(z==y)
  lia
 rw[e];exact k
def mK{c so:List Str}(h:∀ z∈so,z∈c)(a:so.length<=100)(k:K (.own (.lst (so.map λz=>.int (c.idxOf z:Nat)))) [⟨.val,.tup (c.map D.str)⟩,⟨.par,.lst (so.map D.str)⟩]) :
  CK bA [⟨.val,.tup (c.map D.str)⟩,⟨.par,.lst (so.map D.str)⟩] K:=by
 unfold bA;rw[aZ];show RS cP [_,_,none] _;unfold cP;walk_at"dx";refine⟨wQ (by simp_all),aU (λz=>.int (c.idxOf z:Nat)) D.str so [_,_,none] rfl (λz b=>?_) ?_⟩
 ·walk_at"dx"
  simp_all
 ·exact k
noncomputable def cmn(c d:List Str):List Str:=c.filter λz=>d.contains z
noncomputable def mor(c d:List Str):List Str:=d.filter λz=>!c.contains z
def Mi:∀z∈cmn c d,z∈c:=λz h=>(List.mem_filter.mp h).1
def Rk:∀z∈cmn c d,z∈d:=λz h=>by simpa using(List.mem_filter.mp h).2
def Mj:∀z∈mor c d,z∈d:=λz h=>(List.mem_filter.mp h).1
def R4(hc:c.length<=20)(T:∀ z∈c,Tx z)(t:∀ z∈d,Tx z)(k:K (.own (.lst ((cmn c d).map D.str))) [⟨.val,tD c ks⟩,⟨.val,tD d a⟩]) :
  CK bR [⟨.val,tD c ks⟩,⟨.val,tD d a⟩] K:=by
 unfold bR;rw[aZ];show RS cB [_,_,none] _;unfold cB;walk_at"dx";refine⟨wQ (by grind),dU (λz=>d.contains z) D.str D.str c [_,_,none] rfl (λz b=>?_) k⟩;walk_at"dx";refine Rj (T z b).2 (λz h=>(t z h).2) ?_;rfl
def R5(l:List Int):IG (.val (tI l))=some (l.map Sum.inl):=by
 show qI (l.map D.int)=_;have:l.map D.int=(l.map (Sum.inl:Int->Key)).map oN:=by rw[map_map];rfl
 rw[this,lT]
def JX(c s m:List Str)(ks:List (List Int)):Ca:=ks.foldl (λa x=>wY ((pk c s x).map Sum.inl) (tI (pk c m x)) a) []
def R6(c:∀ y∈ks,y.length=C.length)(g:ks.length<=3600)(h:∀ z∈so,z∈C)(H:∀ z∈mo,z∈C)(s:so.length<=100)(e:mo.length<=100)
  (k:K (.own (FL (JX C so mo ks))) [⟨.val,tD C ks⟩,⟨.par,.lst (so.map D.str)⟩,⟨.par,.lst (mo.map D.str)⟩]) :
  CK gD [⟨.val,tD C ks⟩,⟨.par,.lst (so.map D.str)⟩,⟨.par,.lst (mo.map D.str)⟩] K:=by
 unfold gD;rw[aZ];show RS iH [_,_,_,none,none,none,none] _;unfold iH;walk_at"dx";refine mK h s ?_;walk_at"dx";refine mK H e ?_;walk_at"dx";refine R1 rfl ?_;walk_at"dx";refine⟨by rw[eI];lia,Rf tI (λx=>(pk C so x).map Sum.inl) (λx=>tI (pk C mo x)) (λa=>∃b d,a=[_,_,_,_,_,none,ov b d]) ks [] _ ⟨false,.non,rfl⟩ ?_ ?_⟩;rintro x f a ⟨b,d,rfl⟩;walk_at"dx";refine lS (c x f) h s ?_;walk_at"dx";refine⟨R5 _,lS (c x f) H e ?_⟩;exact⟨rfl,true,_,rfl⟩;rintro a ⟨b,d,rfl⟩;exact k
def R7{a:Type}{l:List a}(h:l.length<=3600):l.length<=sizeLine:=gY h (by decide)
def R8(h:r=.tup l\/r=.lst l):oQ r=some l:=by rcases h with rfl|rfl<;>rfl
def R9{ks:List (List Int)}(a:r=.tup (ks.map tI)\/r=.lst (ks.map tI))(d:∀ y∈ks,y.length=C.length)(h:∀ z∈so,z∈C)(c:so.length<=100)(e:ks.length<=3600)
   (k:K (.val (tD so (oT (ks.map (pk C so))))) [⟨.val,.tup [.tup (C.map D.str),r]⟩,⟨.val,.tup (so.map D.str)⟩]) :
  CK pI [⟨.val,.tup [.tup (C.map D.str),r]⟩,⟨.val,.tup (so.map D.str)⟩] K:=by
 unfold pI;rw[aZ];show RS wJ [_,_,none,none] _;unfold wJ;walk_at"dx";refine R0 h c ?_;walk_at"dx";rw[R8 a];refine⟨R7 (by simp_all),aU (λy=>tI (pk C so y)) tI ks [_,_,_,none] rfl (λy b=>?_) ?_⟩;walk_at"dx";refine lS (d y b) h c ?_;walk_at"dx";walk_at"dx";refine Rb (ks:=ks.map (pk C so)) (.inl ⟨.inl rfl,by simp⟩) ⟨by grind,Mb (n:=so.length) λy b=>?_⟩ ?_;obtain⟨x,_,rfl⟩:=sY.mp b;exact eI ..;exact k
def kP(c d:List Str)(a:List (List Int))(row:List Int):List (List Int):=(a.filter λf=>decide (pk d (cmn c d) f=pk c (cmn c d) row)).map λf=>row++pk d (mor c d) f
def jn(c d:List Str)(ks a:List (List Int)):List (List Int):=ks.flatMap (kP c d a)
def pR:(kP c d a row).length<=a.length:=by
 unfold kP;rw[eI];exact length_filter_le _ _
theorem nX{a b:Type}{f:a->List b}(h:∀ x,(f x).length<=n):∀ l:List a,(l.flatMap f).length<=l.length*n
 |[]=>by simp
 | x::l=>by
   have:=nX h l;have:=h x;rw[List.flatMap_cons,AL,Fe,Nat.succ_mul];lia
def S0(h:ks.length*a.length<=3600):(jn cs ds ks a).length<=ks.length*a.length:=nX (f:=kP cs ds a) (λx=>pR) ks
def Rl(c:∀y∈ks,y.length=C.length):∀y∈jn C h ks b,y.length=C.length+(mor C h).length:=λy d=>by
 obtain⟨a,e,g⟩:=List.mem_flatMap.mp d;obtain⟨f,_,rfl⟩:=sY.mp g;rw[AL,c a e];simp[pk]
def S1(h:ks.length*a.length<=3600)(b:∀y∈ks,y.length=cs.length):(jn cs ds ks a).length<4000/\(2<=(oT (jn cs ds ks a)).length->∀k∈jn cs ds ks a,k≠[]):=
 ⟨by have:=S0 (cs:=cs) (ds:=ds) h;lia,Mb (Rl b)⟩
def S2(A:Ca)(h:RE g Z λx b=>RD b x λj=>Ly j=true/\RE i b λy c=>RE f c λz a=>z=.own (.lst [])/\RD a x λd=>RD a y λe=>∃ l,d=FL A/\e=tI l/\∀ v,(v=.val (.lst ((lk A (l.map Sum.inl)).getD []))\/v=.own (.lst ((lk A (l.map Sum.inl)).getD [])))->Q v a):RE (HH g i f) Z Q:=by
 obtain⟨⟨x,b⟩,m,h⟩:=bQ.mp h;obtain⟨j,n,H,h⟩:=bQ.mp h;obtain⟨⟨y,c⟩,o,h⟩:=bQ.mp h;obtain⟨⟨z,a⟩,p,q,h⟩:=bQ.mp h;obtain⟨d,r,h⟩:=bQ.mp h;obtain⟨e,s,l,rfl,rfl,k⟩:=bQ.mp h;have t:JN (FL A) (tI l)=some ((lk A (l.map Sum.inl)).map D.lst):=by
  show(qI (l.map D.int)).bind _=_;have:l.map D.int=(l.map (Sum.inl:Int->Key)).map oN:=by rw[map_map];rfl
  rw[this,lT];exact Rg _ A
 have u:HH g i f Z=some ((match (lk A (l.map Sum.inl)).map D.lst with|some v=>.val v|none=>z),a):=by
  unfold HH;rw[m];show(rd b x).bind _=_;rw[n];show(if Ly j=true then _ else none)=_;rw[gV H,o];show(f c).bind _=_;rw[p];show(rd a x).bind _=_;rw[r];rw[s];show(JN (FL A) (tI l)).bind _=_;rw[t];rfl
 refine HJ u (k _ ?_);subst q;cases w:lk A (l.map Sum.inl)with
 |none|some v=>simp
def S3{a b:List Int}:a.map (Sum.inl:Int->Key)=b.map Sum.inl↔a=b:=List.map_inj_right λx y h=>by simp_all
def S4:((lk (JX d (cmn c d) (mor c d) a) ((pk c (cmn c d) row).map Sum.inl)).getD [])=(a.filter λf=>decide (pk d (cmn c d) f=pk c (cmn c d) row)).map λf=>tI (pk d (mor c d) f):=by
 have:=(Ri (λx=>(pk d (cmn c d) x).map Sum.inl) (λx=>tI (pk d (mor c d) x)) ((pk c (cmn c d) row).map Sum.inl) a []).1;rw[show lk [] ((pk c (cmn c d) row).map Sum.inl)=none from rfl]at this;refine this.trans ?_;simp only[getD_none,nil_append];congr 1;exact List.filter_congr λf _=>by rw[Bool.eq_iff_iff,Ep,Ep,S3]
def wR(hc:C.length<=20)(H:t.length<=20)(w:∀ z∈C,Tx z)(T:∀ z∈t,Tx z)(n:ks.length<=3600)(hj:a.length<=3600)(G:ks.length*a.length<=3600)(c:∀ y∈ks,y.length=C.length)(E:∀ y∈a,y.length=t.length)
  (k:K (.val (tD (C++mor C t) (oT (jn C t ks a)))) [⟨.val,tD C ks⟩,⟨.val,tD t a⟩]) :
  CK fX [⟨.val,tD C ks⟩,⟨.val,tD t a⟩] K:=by
 have M:(cmn C t).length<=20:=gY (length_filter_le _ _) hc;have o:(mor C t).length<=20:=gY (length_filter_le _ _) H;have I:10000<=sizeLine:=by decide
 unfold fX;rw[aZ];show RS jK [_,_,none,none,none,none,none,none,none,none] _;unfold jK;walk_at"dx";refine R4 hc w T ?_;walk_at"dx";refine⟨wQ (by rw[eI];lia),dU (λz=>!C.contains z) D.str D.str t [_,_,_,none,none,none,none,none,none,none] rfl (λz m=>?_) ?_⟩;walk_at"dx";refine Rj (T z m).2 (λz h=>(w z h).2) ?_;walk_at"dx"
 walk_at"dx";refine R6 (so:=cmn C t) (mo:=mor C t) E hj Rk Mj (by lia) (by lia) ?_;walk_at"dx";refine mK (so:=cmn C t) Mi (by lia) ?_;walk_at"dx";refine⟨Ad _,eV (λi e=>∃b d,e=[_,_,some ⟨.own,.lst ((cmn C t).map D.str)⟩,some ⟨.own,.lst ((mor C t).map D.str)⟩,some ⟨.own,FL (JX t (cmn C t) (mor C t) a)⟩,some ⟨.own,.lst ((cmn C t).map λz=>.int (C.idxOf z:Nat))⟩,some ⟨.own,.lst (((ks.take i).flatMap (kP C t a)).map tI)⟩,ov b d,none,none]) ⟨false,.non,rfl⟩ ?_ ?_⟩
 ·rintro i d e H ⟨b,L,rfl⟩;rw[Ab]at H;obtain⟨u,g,rfl⟩:=Bg.mp H;have j:=An g;have p:((ks.take i).flatMap (kP C t a)).length<=3600:=by
   have q:=nX (f:=kP C t a) (λx=>pR) (ks.take i);have r:(ks.take i).length*a.length<=ks.length*a.length:=Nat.mul_le_mul_right _ (List.length_take_le' _ _);grind
  have B:(ks.take (i+1)).flatMap (kP C t a)=(ks.take i).flatMap (kP C t a)++kP C t a u:=by rw[GP,g,List.flatMap_append];simp
  walk_at"dx";refine S2 (JX t (cmn C t) (mor C t) a) ?_;walk_at"dx";refine⟨rfl,lS (c u j) Mi (by lia) ?_⟩;walk_at"dx";refine⟨Ad _,_,rfl,λv l=>?_⟩;rw[S4]at l;have J:=length_filter_le (λf=>decide (pk t (cmn C t) f=pk C (cmn C t) u)) a;rcases l with rfl|rfl
  all_goals
   walk_at"dx";refine⟨by rw[eI];lia,aU (λf=>tI (u++pk t (mor C t) f)) (λf=>tI (pk t (mor C t) f)) _ [_,_,_,_,_,_,_,_,none,none] rfl (λf s=>?_) ?_⟩;walk_at"dx";refine⟨?_,by rw[← AH]⟩;rw[eI,eI,c u j];simp[pk];lia;walk_at"dx";refine⟨by rw[eI,eI];lia,_,.inl rfl,true,tI u,?_⟩;rw[B,AH];unfold kP;rw[map_map];rfl
 ·rintro A ⟨b,d,rfl⟩;rw[eI,take_length];walk_at"dx";refine⟨by rw[eI,eI];lia,?_⟩;rw[← AH];refine Rb (.inl ⟨.inl rfl,rfl⟩) (S1 G c) ?_;walk_at"dx";exact k
abbrev Tw:=List Str×List (List Int)
noncomputable abbrev CA(t:Tw):D:=tD t.1 t.2
def DH(x t:Tw):Tw:=(x.1++mor x.1 t.1,oT (jn x.1 t.1 x.2 t.2))
def aj(t:List Tw):Tw:=t.foldl DH ([],[[]])
def Rm:aj (T++[t])=DH (aj T) t:=by unfold aj;rw[List.foldl_append];rfl
structure JY(x t:Tw):Prop where
 c:x.1.length<=20
 d:t.1.length<=20
 tc:∀z∈x.1,Tx z
 td:∀z∈t.1,Tx z
 k:x.2.length<=3600
 j:t.2.length<=3600
 m:x.2.length*t.2.length<=3600
 r:∀y∈x.2,y.length=x.1.length
 s:∀y∈t.2,y.length=t.1.length
def wS(h:∀(i:Nat) t,T[i]?=some t->JY (aj (T.take i)) t)(k:K (.val (CA (aj T))) [⟨.par,.lst (T.map CA)⟩]):CK dA [⟨.par,.lst (T.map CA)⟩] K:=by
 unfold dA;rw[aZ];show RS eF [_,none,none] _;unfold eF;walk_at"dx";refine⟨by decide,by decide,by decide,by decide,?_⟩;refine eV (λi a=>∃b e,a=[some ⟨.lent,.lst (T.map CA)⟩,some ⟨.val,CA (aj (T.take i))⟩,ov b e]) ⟨false,.non,rfl⟩ ?_ ?_;rintro i d a H ⟨b,e,rfl⟩;obtain⟨t,f,rfl⟩:=kO H;have o:=h i t f;walk_at"dx";refine wR o.c o.d o.tc o.td o.k o.j o.m o.r o.s ?_;walk_at"dx";exact⟨_,.inl rfl,true,_,by rw[fY f,Rm];rfl⟩;rintro a ⟨b,e,rfl⟩;rw[eI,take_length];walk_at"dx";exact k
theorem lU{a b:Type}{f:a->D}{g:b->D}:∀ {l:List a} {m:List b},uD (l.map f) (m.map g)=(l.zip m).map λp=>D.tup [f p.1,g p.2]
 |[],_|_::_,[]=>rfl
 | x::l,y::m=>by
   show D.tup [f x,g y]::uD (l.map f) (m.map g)=_;rw[lU];rfl
noncomputable def twL(q:List (Str×List Str))(h:List (List (List Int))):List Tw:=(q.zip h).map λp=>(p.1.2,p.2)
def wT(a:h.length=q.length)(b:q.length<=6)(k:K (.own (.lst ((twL q h).map CA))) [⟨.val,qD q⟩,⟨.val,hD h⟩]):CK cX [⟨.val,qD q⟩,⟨.val,hD h⟩] K:=by
 unfold cX;rw[aZ];show RS fG [_,_,none,none] _;unfold fG;walk_at"dx";refine⟨by rw[eI,eI,a],?_⟩;rw[lU];refine⟨gY (by rw[eI,length_zip];simp_all:_<=6) (by decide),aU (λp:(Str×List Str)×List (List Int)=>CA (p.1.2,p.2)) _ (q.zip h) [_,_,none,none] rfl (λp c=>?_) ?_⟩;obtain⟨⟨n,o⟩,d⟩:=p;walk_at"dx";exact sl2;rw[show(q.zip h).map (λp:(Str×List Str)×List (List Int)=>CA (p.1.2,p.2))=(twL q h).map CA by unfold twL;rw[map_map];rfl];exact k
def mL(a:H.length=q.length)(b:q.length<=6)(h:∀(i:Nat) t,(twL q H)[i]?=some t->JY (aj ((twL q H).take i)) t)(k:K (.val (.tup ((aj (twL q H)).2.map tI))) [⟨.val,qD q⟩,⟨.val,hD H⟩]):CK dN [⟨.val,qD q⟩,⟨.val,hD H⟩] K:=by
 unfold dN;rw[aZ];show RS iI [_,_] _;unfold iI;walk_at"dx";refine wT a b ?_;walk_at"dx";refine wS h ?_;walk_at"dx";exact k
noncomputable def lvT:Tk->List Str
 |.s z=>[z]
 |.p a b=>(lvT a)++(lvT b)
noncomputable def prT:Tk->List Tk
 |.s _=>[]
 |.p a b=>(prT a)++(prT b)++[.p a b]
theorem kQ:∀t:Tk,1<=(lvT t).length
 |.s _=>hF _
 |.p a b=>by have:=kQ a;simp only[lvT,length_append];lia
theorem wU:∀t:Tk,t.dep<(lvT t).length
 |.s _=>one_pos
 |.p a b=>by have:=wU a;have:=wU b;have:=kQ a;have:=kQ b;simp only[lvT,Tk.dep,length_append];lia
theorem kR:∀t:Tk,(prT t).length+1=(lvT t).length
 |.s _=>rfl
 |.p a b=>by have:=kR a;have:=kR b;simp only[lvT,prT,length_append,List.length_singleton];lia
def Ml:dY (Fw "str" (.str z)) K=K (.val (.bl true)):=rfl
def Mm:dY (Fw "str" (.tup l)) K=K (.val (.bl false)):=rfl
def S5:∀ {n:Nat} {K:hJ->List Sl->Prop},t.dep < n->(lvT t).length<=6->K (.own (.lst ((lvT t).map D.str))) [⟨.val,(nL t)⟩]->CK (bS n) [⟨.val,(nL t)⟩] K:=by
 induction t with
 | s z=>
   intro n K h c k;cases n with
   |zero=>exact absurd h (Dr _)
   | succ n=>
     unfold bS;rw[aZ];show RS (cF _) [_] _;unfold cF nL;walk_at"dx";rw[Ml];walk_at"dx";exact⟨by decide,k⟩
 | p a b d H=>
   intro n K h c k;cases n with
   |zero=>exact absurd h (Dr _)
   | succ n=>
     simp only[Tk.dep]at h;simp only[lvT,length_append]at c;unfold bS;rw[aZ];show RS (cF _) [_] _;unfold cF nL;walk_at"dx";rw[Mm];walk_at"dx";refine d (by lia) (by lia) ?_;walk_at"dx";refine H (by lia) (by lia) ?_;walk_at"dx";rw[← AH];exact⟨by rw[eI,eI];exact gY (by omega:_<=6) (by decide),k⟩
def S6:∀ {n:Nat} {K:hJ->List Sl->Prop},t.dep < n->(lvT t).length<=6->K (.own (.lst ((prT t).map nL))) [⟨.val,(nL t)⟩]->CK (cD n) [⟨.val,(nL t)⟩] K:=by
 induction t with
 | s z=>
   intro n K h c k;cases n with
   |zero=>exact absurd h (Dr _)
   | succ n=>
     unfold cD;rw[aZ];show RS (cR _) [_] _;unfold cR nL;walk_at"dx";rw[Ml];walk_at"dx";exact⟨by decide,k⟩
 | p a b d H=>
   intro n K h c k;cases n with
   |zero=>exact absurd h (Dr _)
   | succ n=>
     simp only[Tk.dep]at h;simp only[lvT,length_append]at c;have L:=kR a;have l:=kR b;unfold cD;rw[aZ];show RS (cR _) [_] _;unfold cR nL;walk_at"dx";rw[Mm];walk_at"dx";refine d (by lia) (by lia) ?_;walk_at"dx";refine H (by lia) (by lia) ?_;walk_at"dx";rw[← AH];have e:((prT a)++(prT b)).map nL++[D.tup [(nL a),(nL b)]]=(prT (.p a b)).map nL:=by simp only[prT,map_append];rfl
     rw[e];exact⟨by rw[eI,eI];exact gY (by lia:_<=12) (by decide),by decide,by rw[eI,AL];exact gY (by lia:_<=12) (by decide),k⟩
noncomputable def CQ:Tk->Nat
 |.s _=>1
 |.p a b=>(CQ a)+(CQ b)+1
noncomputable def ET(w:List Tk):Nat:=(w.map CQ).sum
def pS:ET (w++[t])=ET w+(CQ t):=by
 unfold ET;rw[AH,List.sum_append];simp
theorem Mn:∀t:Tk,(CQ t)+1=2*(lvT t).length
 |.s _=>rfl
 |.p a b=>by have:=Mn a;have:=Mn b;simp only[CQ,lvT,length_append];lia
def S7(t:Tk):1<=(CQ t):=by cases t<;>simp[CQ]
def S8(w:List Tk):w.length<=ET w:=by
 unfold ET
 induction w with
 |nil=>exact hF _
 |cons t r h=>have:=S7 t;simp only[map_cons,List.sum_cons,length_cons];lia
def S9:dY (Gr (.lst (l++[x])) []) K=K (.lst l,x):=by
 show dY (((l++[x])[(l++[x]).length-1]?).map _) K=_;simp[dY,List.dropLast_append]
def T4:dY (Jr (.lst l)) K=K (!l.isEmpty):=rfl
def HL(w:List Tk):List Tk:=(w.reverse.map λt=>(prT t).reverse).flatten
def tX:HL (w++[t])=(prT t).reverse++HL w:=by unfold HL;simp
def T5(c:(lvT t).length<=6)(k:K (.own (.lst ((prT t).map nL))) [⟨.val,(nL t)⟩]):CK fK [⟨.val,(nL t)⟩] K:=by
 unfold fK;rw[aZ];show RS gJ [_,none,none,none] _;unfold gJ;walk_at"dx";have C:=Mn t;have e:=kR t;refine⟨by decide,by decide,?_⟩;refine mB (λm h=>m<=11/\∃(w g:List Tk) (b:Bool) (d:D),m=ET w/\g++HL w=(prT t).reverse/\h=[some ⟨.val,(nL t)⟩,some ⟨.own,.lst (g.map nL)⟩,some ⟨.own,.lst (w.map nL)⟩,ov b d]) (CQ t) (by lia) ⟨by lia,[t],[],false,.non,by simp[ET],by simp[HL],rfl⟩ ?_;rintro m h ⟨H,w,g,b,d,rfl,a,rfl⟩;have i:g.length<=6:=by have:=Cn List.length a;rw[AL,length_reverse]at this;lia
 walk_at"dx";rw[T4];rcases List.eq_nil_or_concat w with rfl|⟨w,x,rfl⟩;rw[a0m (by simp)];rw[show g=(prT t).reverse by simpa[HL]using a,← List.map_reverse,List.reverse_reverse];exact k;simp only[concat_eq_append]at *;rw[tX]at a;rw[pS]at H ⊢;rw[gV (by simp),AH,BJ,map_nil,S9];have f:=S8 w;cases x with
 | s z=>
   rw[show nL (.s z)=D.str z from rfl,Ml];walk_at"dx";exact .inl ⟨_,ET w,.inl rfl,by simp only[CQ];lia,by lia,w,g,true,.str z,rfl,a,rfl⟩
 | p x y=>
   rw[show nL (.p x y)=D.tup [(nL x),(nL y)]from rfl,Mm];walk_at"dx";refine⟨by rw[eI];exact CS i (by decide),by decide,by rw[eI];exact gY (by lia:_<=13) (by decide),.inl ⟨_,ET w+(CQ x)+(CQ y),.inl rfl,by simp only[CQ];lia,by simp only[CQ]at H;lia,w++[x]++[y],g++[.p x y],true,.tup [(nL x),(nL y)],by rw[pS,pS],?_,?_⟩⟩;rw[tX,tX,← a];simp[prT,append_assoc];simp only[map_append,map_cons,map_nil,append_assoc];rfl
def CB(t:List Tk):List Str:=(t.map lvT).flatten
def Rn(h:t.Perm u):(CB t).Perm (CB u):=(h.map _).flatten
def T6(a:List Str):CB (a.map Tk.s)=a:=by
 unfold CB
 induction a with
 |nil=>rfl
 |cons z r h=>simpa[lvT]using h
def Ro(h:(y::r).Perm (T.map nL)):∃t u,y=(nL t)/\r=u.map nL/\(t::u).Perm T:=by
 obtain⟨l,e,p⟩:=iK h;cases l with
 |nil=>cases e
 |cons t u=>rw[BJ]at e;injection e with a b;exact⟨t,u,a,b,p⟩
def T7(h1:1<=p.length)(J:p.length<=6)(k:∀ (t:Tk) f g,(lvT t).Perm p->K (.val (nL t)) [⟨.par,.lst [.int f,.int g]⟩,⟨.par,.lst (p.map D.str)⟩]) :
  CK fH [⟨.par,.lst [.int a,.int b]⟩,⟨.par,.lst (p.map D.str)⟩] K:=by
 unfold fH;rw[aZ];show RS gG [_,_,none,none,none] _;unfold gG;walk_at"dx";refine hX (.inl ⟨rfl,rfl⟩) (by rw[eI];lia) λys Y z A=>?_;obtain⟨l,rfl,d⟩:=iL A;walk_at"dx";refine mB (λm s=>∃(T:List Tk) (f g:Int) (j o:Bool) (q v:D),m=T.length/\1<=m/\m<=6/\(CB T).Perm p/\s=[some ⟨.par,.lst [.int f,.int g]⟩,some ⟨.par,.lst (p.map D.str)⟩,some ⟨.own,.lst (T.map nL)⟩,ov j q,ov o v]) l.length (by have:=d.length_eq;lia) ⟨l.map .s,Y,z,false,false,.non,.non,by rw[eI],by have:=d.length_eq;simp[*],by have:=d.length_eq;simp[*],by rw[T6];exact d,by rw[map_map];rfl⟩ ?_;rintro m s ⟨T,a,b,j,o,q,v,rfl,B,L,w,rfl⟩;walk_at"dx";rw[eI];by_cases h:(T.length:Int) > 1
 ·rw[gV (by simpa using h)]
  try walk_at"dx"
  refine aO (by simp_all +arith) (by lia) λn a2 M i O=>?_;walk_at"dx";refine LH i (by rw[eI];omega) (by lia) λy r c C=>?_;obtain⟨t,U,rfl,rfl,x⟩:=Ro c;have E:=x.length_eq;rw[Fe]at E;walk_at"dx";rw[eI];refine aO (by lia) (by lia) λn Q F i O=>?_;walk_at"dx";refine LH i (by rw[eI];omega) (by lia) λy r c C=>?_;obtain⟨u,vs,rfl,rfl,N⟩:=Ro c;have G:=N.length_eq;rw[Fe]at G;walk_at"dx";refine⟨by decide,by rw[eI];exact Ao (by lia:vs.length<6) (by decide),.inl ⟨_,vs.length+1,.inl rfl,by lia,vs++[.p t u],Q,F,true,true,_,_,by rw[AL];rfl,by lia,by lia,?_,by rw[AH];rfl⟩⟩;have e:CB (vs++[.p t u])=CB vs++((lvT t)++(lvT u)):=by unfold CB;simp[lvT]
  rw[e];have H:(CB T).Perm ((lvT t)++CB U):=(Rn x.symm).trans (.of_eq (by unfold CB;simp));have I:(CB U).Perm ((lvT u)++CB vs):=(Rn N.symm).trans (.of_eq (by unfold CB;simp));refine List.Perm.trans ?_ (H.symm.trans w);refine List.perm_append_comm.trans ?_;rw[append_assoc];exact append_left _ I.symm
 ·rw[a0m (by simpa using h)];obtain⟨t,rfl⟩:∃ t,T=[t]:=by
   cases T with
   |nil=>exact absurd B (by decide)
   | cons t r=>cases r with
     |nil=>exact⟨t,rfl⟩
     |cons u r=>exfalso;apply h;simp only[length_cons];simp +arith
  try walk_at"dx"
  show K (.val (nL t)) _;exact k t _ _ (by simpa[CB]using w)
noncomputable def gt(c:List Str)(row:List Int)(z:Str):Int:=row.getD (c.idxOf z) 0
def qL(c s:List Str)(row:List Int):pk c s row=s.map (gt c row):=rfl
def nB(h:z∈c):gt c (c.map f) z=f z:=by
 unfold gt;have a:=Me h;rw[DZ,Ab,oI a];simp
def rK{C:List Str}(nd:C.Nodup)(a:row.length=C.length):C.map (gt C row)=row:=by
 refine List.ext_getElem (by simp[a]) λi b c=>?_;unfold gt;have h:i<C.length:=by simp_all
 simp_all
def lV{s:List Str}{f g:Str->Int}(h:s.map f=s.map g):∀z∈s,f z=g z:=List.map_inj_left.mp h
def Rq(nd:c.Nodup)(a:x.length=c.length)(b:y.length=c.length)(h:∀z∈c,gt c x z=gt c y z):x=y:=by
 rw[← rK nd a,← rK nd b];exact map_congr_left h
structure Tb(t:Tw):Prop where
 nd:t.1.Nodup
 tx:∀z∈t.1,Tx z
 ln:∀y∈t.2,y.length=t.1.length
 un:t.2.Nodup
def stU(x t:Tw):Tw:=(x.1++mor x.1 t.1,jn x.1 t.1 x.2 t.2)
def Rr(h:C.Nodup)(a:d.Nodup):(C++mor C d).Nodup:=List.nodup_append.mpr ⟨h,a.sublist List.filter_sublist,λx c y b e=>by
  have:=(List.mem_filter.mp b).2
  grind⟩
def Rt(b:Tb x)(a:Tb t)(c:r∈x.2)(H:s∈x.2)(d:f∈t.2)(h:g∈t.2)(i:pk t.1 (cmn x.1 t.1) f=pk x.1 (cmn x.1 t.1) r)(j:pk t.1 (cmn x.1 t.1) g=pk x.1 (cmn x.1 t.1) s)(e:r++pk t.1 (mor x.1 t.1) f=s++pk t.1 (mor x.1 t.1) g):r=s/\f=g:=by
 obtain⟨k,l⟩:=List.append_inj e (by rw[b.ln r c,b.ln s H]);subst k;refine⟨rfl,Rq a.nd (a.ln f d) (a.ln g h) λz m=>?_⟩;by_cases n:z∈x.1;exact lV (i.trans j.symm) z (List.mem_filter.mpr ⟨n,by simp_all⟩);exact lV l z (List.mem_filter.mpr ⟨m,by simp_all⟩)
def Ru(c:Tb x)(i:Tb t):Tb (stU x t) where
 nd:=Rr c.nd i.nd
 tx:=λz h=>(Ac.mp h).elim (c.tx z) λh=>i.tx z (Mj z h)
 ln:=λy j=>by rw[Rl c.ln y j];exact AL.symm
 un:=by
  show(jn x.1 t.1 x.2 t.2).Nodup;unfold jn;rw[Dj,List.pairwise_flatMap];have v:∀r∈x.2,∀y∈kP x.1 t.1 t.2 r,∃f∈t.2,pk t.1 (cmn x.1 t.1) f=pk x.1 (cmn x.1 t.1) r/\y=r++pk t.1 (mor x.1 t.1) f:=λr d y j=>by
   obtain⟨f,k,rfl⟩:=sY.mp j;obtain⟨p,q⟩:=List.mem_filter.mp k;exact⟨f,p,of_decide_eq_true q,rfl⟩
  refine⟨λr d=>?_,?_⟩;unfold kP;rw[List.pairwise_map];refine imp_of_mem (λ{f g} k u N e=>N ?_) ((Dj.mp i.un).sublist List.filter_sublist);obtain⟨l,m⟩:=List.mem_filter.mp k;obtain⟨n,o⟩:=List.mem_filter.mp u;exact(Rt c i d d l n (of_decide_eq_true m) (of_decide_eq_true o) e).2;refine imp_of_mem (λ{r s} d H N a A b w e=>N ?_) (Dj.mp c.un);obtain⟨f,l,m,rfl⟩:=v r d a A;obtain⟨g,n,o,rfl⟩:=v s H b w;exact(Rt c i d H l n m o e).1
def T8(l:List (List Int)):(oT l).Nodup:=Dj.mpr ((eW l).imp λ{a b} h e=>by subst e;rw[mX]at h;lia)
def Mo(a:Tb x)(b:Tb t):Tb (DH x t) where
 nd:=Rr a.nd b.nd
 tx:=(Ru a b).tx
 ln:=λy c=>(Ru a b).ln y ((dL _ y).mp c)
 un:=T8 _
def tk0:Tb ([],[[]]):=⟨.nil,(λ_ h=>nomatch h),λy a=>by simp_all,by simp⟩
def tY:pm (k::h)=max 1 k.length*pm h:=by unfold pm;simp
def Rv:(DH x t).2.length<=x.2.length*t.2.length:=gY (kM _) (nX (f:=kP x.1 t.1 t.2) (λx=>pR) x.2)
def Mp{ts:List Tw}:∀{x:Tw},Tb x->(∀t∈ts,Tb t)->Tb (ts.foldl DH x)/\(ts.foldl DH x).2.length<=x.2.length*pm (ts.map Prod.snd):=by
 induction ts with
 |nil=>exact λh _=>⟨h,by show _<=_*1;simp⟩
 | cons t r d=>
   intro x e c;obtain⟨a,b⟩:=d (Mo e (c t Aa)) λs H=>c s (Am _ H);refine⟨a,gY b ?_⟩;rw[BJ,tY,← mul_assoc];exact Nat.mul_le_mul_right _ (gY Rv (Nat.mul_le_mul_left _ (Nat.le_max_right _ _)))
def Mq(h:l.Sublist m):pm l<=pm m:=by
 induction h with
 |slnil=>exact hF _
 |cons k _ a=>rw[tY];exact gY a (Nat.le_mul_of_pos_left _ (by lia))
 |cons_cons k _ a=>rw[tY,tY];exact Nat.mul_le_mul_left _ a
def sm(t:Tw)(f:Str->Int):Prop:=t.1.map f∈t.2
def Rw(k:Tb x)(h:Tb t):sm (DH x t) f↔sm x f/\sm t f:=by
 show(x.1++mor x.1 t.1).map f∈oT (jn x.1 t.1 x.2 t.2)↔_;rw[dL,AH];unfold jn kP;rw[List.mem_flatMap];constructor
 ·rintro⟨r,b,c⟩;obtain⟨g,l,m⟩:=sY.mp c;obtain⟨i,d⟩:=List.mem_filter.mp l;have d:=of_decide_eq_true d;have n:r.length=(x.1.map f).length:=by rw[k.ln r b,eI]
  obtain⟨j,o⟩:=List.append_inj m n;refine⟨show x.1.map f∈x.2 from j▸b,?_⟩;have p:=rK h.nd (h.ln g i);show t.1.map f∈t.2;rw[show t.1.map f=t.1.map (gt t.1 g)from map_congr_left λz a=>?_,p];exact i;by_cases e:z∈x.1;have hc:z∈cmn x.1 t.1:=List.mem_filter.mpr ⟨e,by simpa using a⟩;have:=lV d z hc;rw[j]at this;exact(this.trans (nB e)).symm;have H:z∈mor x.1 t.1:=List.mem_filter.mpr ⟨a,by simpa using e⟩;exact(lV o z H).symm
 ·rintro⟨b,c⟩;refine⟨x.1.map f,b,sY.mpr ⟨t.1.map f,List.mem_filter.mpr ⟨c,HQ ?_⟩,?_⟩⟩
  ·rw[qL,qL];exact map_congr_left λz a=>by rw[nB (Rk z a),nB (Mi z a)]
  ·rw[qL];congr 1;exact map_congr_left λz a=>nB (Mj z a)
def T9{T:List Tw}:∀{x:Tw},Tb x->(∀t∈T,Tb t)->(sm (T.foldl DH x) f↔sm x f/\∀t∈T,sm t f):=by
 induction T with
 |nil=>exact λ_ _=>⟨λh=>⟨h,λ_ h=>nomatch h⟩,λh=>h.1⟩
 | cons t r d=>
   intro x a b;have c:=b t Aa;rw[foldl_cons,d (Mo a c) λs H=>b s (Am _ H),Rw a c,List.forall_mem_cons,and_assoc]
def U0(h:∀t∈T,Tb t):sm (aj T) f↔∀t∈T,sm t f:=by
 unfold aj;rw[T9 tk0 h];exact⟨λh=>h.2,λh=>⟨Ah.mpr rfl,h⟩⟩
def Rx:∀{H:List (List (List Int))} {x:Tw},H.length=Q.length->((twL Q H).foldl DH x).1=Q.foldl (λA q=>A++q.2.filter λc=>!A.contains c) x.1:=by
 induction Q with
 |nil=>exact λ_=>rfl
 | cons q r a=>
   intro H x h;cases H with
   |nil=>cases h
   |cons k H=>exact a (x:=DH x (q.2,k)) (by simp_all)
def U1(i:Nat):(twL q h).take i=twL (q.take i) (h.take i):=by
 unfold twL List.zip;rw[← Ee,List.take_zipWith]
def Ms:∀{H:List (List (List Int))},H.length=q.length->(twL q H).map Prod.snd=H:=λ{H} h=>by
 unfold twL;rw[map_map];exact(map_snd_zip (le_of_eq h))
def pT{i:Nat}(h:(twL Q H)[i]?=some t):∃q ks,Q[i]?=some q/\H[i]?=some ks/\t=(q.2,ks):=by
 unfold twL at h;rw[Ab]at h;obtain⟨⟨q,ks⟩,a,rfl⟩:=Bg.mp h;obtain⟨b,c⟩:=List.getElem?_zip_eq_some.mp a;exact⟨q,ks,b,c,rfl⟩
def HM(c:Qc Q)(f:Ho Q m):∀t∈twL Q m,Tb t:=λt g=>by
 obtain⟨i,n⟩:=List.mem_iff_getElem?.mp g;obtain⟨q,l,d,j,rfl⟩:=pT n;have H:=An d;have w:=f.w i q l d j;refine⟨c.cd q H,(c.qn.2 q H).2.2,λy k=>(w.1 y k).1,Dj.mpr (w.2.1.imp λ{a b} h e=>by subst e;rw[mX]at h;lia)⟩
def kA(a:Ho q h):(aj (twL q h)).1=bB q:=Rx a.l
def JZ{l:List Str}(a:Qc Q)(nd:l.Nodup)(h:∀z∈l,∃q∈Q,z∈q.2):l.length<=6:=by
 obtain⟨C,b,hc⟩:=a.cs;rw[← b];exact List.Nodup.length_le_of_subset nd λz c=>let ⟨q,d,e⟩:=h z c;hc q d z e
def Mt(e:Qc Q)(c:Ho Q H)(i:Nat)(t:Tw)(h:(twL Q H)[i]? = some t):JY (aj ((twL Q H).take i)) t:=by
 have T:=HM e c;have f:=T t (An h);obtain⟨a,b⟩:=Mp (ts:=(twL Q H).take i) tk0 λs H=>T s (BH H);have n:(aj ((twL Q H).take i)).1=bB (Q.take i):=by
  rw[U1];exact Rx (by rw[BA,BA,c.l])
 have E:((twL Q H).take i).map Prod.snd=H.take i:=by rw[Ee,Ms c.l]
 rw[E]at b;obtain⟨q,l,g,j,rfl⟩:=pT h;have p:=An g;have w:=c.w i q l g j;have v:=gY (Mq (take_sublist i H)) c.p;have k:=gY (Mq (take_sublist (i+1) H)) c.p;rw[fY j,QX]at k;have m:(aj ((twL Q H).take i)).2.length<=pm (H.take i):=gY b (by simp);refine⟨?_,?_,a.tx,f.tx,gY m (by lia),gY w.2.2 (by decide),gY (Nat.mul_le_mul_right _ m) (gY (Nat.mul_le_mul_left _ (Nat.le_max_right _ _)) (gY k (by decide))),a.ln,f.ln⟩;refine gY (JZ e a.nd λz d=>?_) (by decide);have d:z∈bB (Q.take i):=n▸d;obtain⟨o,r,u⟩:=jL d;exact⟨o,BH r,u⟩;exact gY (JZ e f.nd λz d=>⟨q,p,d⟩) (by decide)
def HN(a:Qc q)(b:Ho q h):Tb (aj (twL q h)):=(Mp tk0 (HM a b)).1
def mD(b:Bool)(a:List Tk)(g:Tk->D):D:=.dic (if b=true then .non::a.map nL else a.map nL) (a.map g)
def Ry(h:b=true\/∃c:List Str,a=c.map Tk.s):wI (if b=true then .non::a.map nL else a.map nL)=some a:=by
 cases b with
 |true=>exact LB a
 | false=>
   obtain⟨c,rfl⟩:=h.resolve_left (λz=>nomatch z);have e:(c.map Tk.s).map nL=c.map D.str:=by rw[map_map];rfl
   rw[a0m (by decide),e];show wI (c.map D.str)=_;have:wI (c.map D.str)=(iD (c.map D.str)).map λl=>l.map Tk.s:=by cases c<;>rfl
   rw[this,iE];rfl
theorem pU:∀ {a:List Tk},GB a (a.map g) k=if k∈a then some (g k)else none
 |[]=>rfl
 | j::a=>by
   show(if j=k then _ else GB a (a.map g) k)=_;rw[pU];by_cases h:j=k;subst h;simp;rw[a0m h];simp[Ne.symm h]
def Rz(h:∀j∈a,j.ok=true):JR a=true:=HX.mpr h
def tZ(hb:b=true\/∃ z:List Str,a=z.map Tk.s)(c:k∈a)(d:∀ j∈a,j.ok=true)(q:K (.val (g k))):dY (Em (mD b a g) (nL k)) K:=by
 refine HJ (x:=.val (g k)) ?_ q;unfold Em mD;show(Df (nL k)).bind _=_;rw[wH];show(wI _).bind _=_;rw[Ry hb];show(if _ then _ else _)=_;have h:a.isEmpty=false:=by cases a with
  |nil=>cases c
  |cons=>rfl
 rw[gV (by rw[d k c,Rz d,h];rfl),pU,gV c];rfl
def U2(hb:b=true\/∃ A:List Str,a=A.map Tk.s)(H:a≠[])(u:a.length < 4000)(v:k∉a)(hok:k.ok=true)(w:∀ j∈a,j.ok=true)
  (h:RE m Z λx s=>x=.val (g k)/\s[i]?=some (some ⟨.own,mD b a g⟩)/\RE l s λy c=>s=c/\RD c y λe=>e=nL k/\Q (.nx (s.set i (some ⟨.own,mD true (a++[k]) g⟩)))):RS (IM i l m) Z Q:=by
 obtain⟨⟨x,s⟩,z,n,d,h⟩:=bQ.mp h;obtain⟨⟨y,c⟩,o,p,h⟩:=bQ.mp h;obtain⟨e,r,t,q⟩:=bQ.mp h;dsimp only at n d o p r t;subst n p t;refine HJ (x:=.nx (s.set i (some ⟨.own,mD true (a++[k]) g⟩))) ?_ q;unfold IM;rw[z];show(if IL i s=true then _ else none)=_;rw[gV (by unfold IL;rw[d];rfl),o];show(rd s y).bind _=_;rw[r];show(CH _ i [] s).bind _=_;unfold CH;rw[d];show(((IK (nL k) (g k) (mD b a g)).map λb=>(b,D.non)).bind _).bind _=_;have:IK (nL k) (g k) (mD b a g)=some (mD true (a++[k]) g):=by
  unfold IK mD;show(Df (nL k)).bind _=_;rw[wH];show(wI _).bind _=_;rw[Ry hb];show(if _ then _ else _)=_;have H:a.isEmpty=false:=by cases a with
   |nil=>exact absurd rfl H
   |cons=>rfl
  rw[gV (by rw[hok,Rz w,H,pU,a0m v,HQ u];rfl),AH (f:=g)];rfl
 rw[this];rfl
def RB:∀{k:Tk},(∀z∈lvT k,As z)->k.dep<=8->k.ok=true:=λ{k} h H=>by
 unfold Tk.ok;rw[BZ,Ep];refine⟨?_,H⟩;clear H
 induction k with
 | s z=>
   simp only[zW,canLay0,PyData.strOk];simp;intro i j;have:=h z (by simp[lvT]) z.cps[i] (by simp);lia
 | p a b g f=>
   have d:=g λz c=>h z (BY _ c);have e:=f λz c=>h z (AE _ c);simp only[zW];simp[canLay0,canLayAll0,d,e]
def Mu:∀t:Tk,(∃z,t=.s z)\/t∈prT t
 |.s z=>.inl ⟨z,rfl⟩
 |.p a b=>.inr (by simp[prT])
def pV:∀{p:Tk},p∈prT t->(∀z∈lvT p,z∈lvT t)/\(lvT p).length<=(lvT t).length:=by
 induction t with
 |s z=>exact λh=>nomatch h
 | p a b d H=>
   intro p h;simp only[prT,mem_append,mem_singleton]at h;simp only[lvT,length_append];rcases h with(h|h)|rfl;exact⟨λz c=>BY _ ((d h).1 z c),by have:=(d h).2;lia⟩;exact⟨λz c=>AE _ ((H h).1 z c),by have:=(H h).2;lia⟩;exact⟨λz c=>c,by simp[lvT]⟩
def U3(h:(lvT t).Nodup):(prT t).Nodup:=by
 induction t with
 |s z=>exact .nil
 | p a b k j=>
   obtain⟨f,g,i⟩:=List.nodup_append.mp h;have L:=kQ a;have l:=kQ b;simp only[prT];refine List.nodup_append.mpr ⟨List.nodup_append.mpr ⟨k f,j g,λx c y d e=>?_⟩,by simp,λx c y d e=>?_⟩
   ·subst e;have:=kQ x;cases H:lvT x with
    |nil=>rw[H]at this;exact absurd this (by decide)
    |cons z r=>exact i z ((pV c).1 z (by rw[H];exact Aa)) z ((pV d).1 z (by rw[H];exact Aa)) rfl
   ·rw[Ah.mp d]at e;rw[e]at c;simp only[mem_append]at c;rcases c with c|c<;>have:=(pV c).2<;>simp only[lvT,length_append]at this<;>lia
def U4:∀ {i:Nat} {p:Tk},(prT t)[i]? = some p->∃ a b,p=.p a b/\∀ x,x=a\/x=b->(∃ z∈lvT t,x=.s z)\/x∈(prT t).take i:=by
 induction t with
 |s z=>exact λh=>by simp[prT]at h
 | p a b q o=>
   intro i p h;simp only[prT]at h ⊢;rw[append_assoc]at h ⊢;rcases lt_or_ge i (prT a).length with m|m;rw[BG m]at h;obtain⟨c,d,e,k⟩:=q h;refine⟨c,d,e,λx g=>(k x g).imp (λ⟨z,f,j⟩=>⟨z,BY _ f,j⟩) λf=>?_⟩;rw[List.take_append_of_le_length (AO m)];exact f
   ·rw[Di m]at h;rw[take_append,Co m];rcases lt_or_ge (i-(prT a).length) (prT b).length with H | H;rw[BG H]at h;obtain⟨c,d,e,k⟩:=o h;refine⟨c,d,e,λx g=>(k x g).imp (λ⟨z,f,j⟩=>⟨z,AE _ f,j⟩) λf=>?_⟩;rw[List.take_append_of_le_length (AO H)];exact AE _ f
    ·rw[Di H]at h;rw[take_append,Co H];have:p=.p a b:=by
      cases l:i-(prT a).length-(prT b).length with
      |zero=>rw[l]at h;exact(Ap h).symm
      |succ n=>rw[l]at h;cases h
     refine⟨a,b,this,λx g=>?_⟩;rcases g with rfl|rfl;rcases Mu x with⟨z,rfl⟩|h;exact .inl ⟨z,by simp[lvT],rfl⟩;exact .inr (BY _ h);rcases Mu x with⟨z,rfl⟩|h;exact .inl ⟨z,by simp[lvT],rfl⟩;exact .inr (AE _ (BY _ h))
def U5{c:List Str}:∀ {T:List Tw},c.Nodup->c.length=T.length->c.map (λz=>((c.zip T).lookup z).getD ([],[]))=T:=by
 induction c with
 | nil=>intro T _ h;cases T with
   |nil=>rfl
   |cons=>cases h
 | cons z r a=>
   intro T n h;cases T with
   |nil=>cases h
   | cons t T=>
     obtain⟨d,N⟩:=Dq.mp n;rw[BJ];congr 1;simp
     ·refine Eq.trans (map_congr_left λy b=>?_) (a N (by simpa using h));have:(y==z)=false:=by simp;rintro rfl;exact d b
      simp[lookup_cons,this]
noncomputable def dE(q:List (Str×List Str)):List Str:=q.map Prod.fst
def nt(q:List (Str×List Str))(h:List (List (List Int)))(z:Str):Tw:=(((dE q).zip (twL q h)).lookup z).getD ([],[])
def RC(a:Ho q h):(twL q h).length=q.length:=by unfold twL;rw[eI,length_zip,a.l];lia
def pW(a:Qc q)(b:Ho q h):(dE q).map (nt q h)=twL q h:=U5 a.nn (by rw[RC b];exact eI _)
def RF(a:Qc q)(b:Ho q H)(h:z∈dE q):nt q H z∈twL q H:=by rw[← pW a b];exact sY.mpr ⟨z,h,rfl⟩
def jt(q:List (Str×List Str))(h:List (List (List Int))):Tk->Tw
 |.s z=>nt q h z
 |.p a b=>DH (jt q h a) (jt q h b)
def wt(q:List (Str×List Str))(h:List (List (List Int)))(t:Tk):Nat:=((lvT t).map λz=>max 1 (nt q h z).2.length).prod
def IP(a b:Tk):wt q h (.p a b)=wt q h a*wt q h b:=by unfold wt;simp[lvT]
def Ka(t:Tk):1<=wt qs hs t:=by
 induction t with
 |s z=>unfold wt;simp[lvT];lia
 |p a b H h=>rw[IP];exact Nat.mul_pos H h
def U6:∀{p:Tk},p∈prT t->wt q H p<=wt q H t:=by
 induction t with
 |s z=>exact λh=>nomatch h
 | p a b d c=>
   intro p h;simp only[prT,mem_append,mem_singleton]at h;rcases h with(h|h)|rfl;rw[IP];exact gY (d h) (Nat.le_mul_of_pos_right _ (Ka b));rw[IP];exact gY (c h) (Nat.le_mul_of_pos_left _ (Ka a));exact hF _
def U7(b:Qc q)(a:Ho q H)(h:(lvT t).Perm (dE q)):wt q H t<=3000:=by
 unfold wt;rw[(h.map _).prod_nat];have e:H=(dE q).map λz=>(nt q H z).2:=(Ms a.l).symm.trans (by rw[← pW b a,map_map];rfl);have:(dE q).map (λz=>max 1 (nt q H z).2.length)=H.map λk=>max 1 k.length:=((Cn (List.map λk:List (List Int)=>max 1 k.length) e).trans map_map).symm;rw[this];exact a.p
structure Tq(qs:List (Str×List Str))(hs:List (List (List Int)))(t:Tk):Prop where
 nm:∀z∈lvT t,z∈dE qs
 w:wt qs hs t<=3000
def Tq.pr(h:Tq q H t)(a:p∈prT t):Tq q H p:=⟨λz b=>h.nm z ((pV a).1 z b),gY (U6 a) h.w⟩
def Tq.all(a:Qc q)(b:Ho q H)(h:(lvT t).Perm (dE q)):Tq q H t:=⟨λz c=>h.mem_iff.mp c,U7 a b h⟩
def U8:c∈C++mor C d↔c∈C\/c∈d:=by
 unfold mor;rw[Ac,List.mem_filter];by_cases h:c∈C<;>simp[h]
def U9(b:Qc Q)(c:Ho Q H)(h:z∈dE Q):∃(i:Nat) (q:Str×List Str) (ks:List (List Int)),Q[i]?=some q/\H[i]?=some ks/\z=q.1/\nt Q H z=(q.2,ks):=by
 obtain⟨i,g⟩:=List.mem_iff_getElem?.mp h;have e:(twL Q H)[i]?=some (nt Q H z):=by rw[← pW b c,Ab,g];rfl
 obtain⟨q,ks,a,d,f⟩:=pT e;refine⟨i,q,ks,a,d,?_,f⟩;unfold dE at g;rw[Ab,a]at g;exact(Ap g).symm
def Mv(b:Qc Q)(c:Ho Q H)(h:q∈Q):(nt Q H q.1).1=q.2:=by
 obtain⟨i,j⟩:=List.mem_iff_getElem?.mp h;have k:(dE Q)[i]?=some q.1:=by unfold dE;rw[Ab,j];rfl
 have e:(twL Q H)[i]?=some (nt Q H q.1):=by rw[← pW b c,Ab,k];rfl
 obtain⟨f,l,a,g,d⟩:=pT e;rw[j]at a;cases a;rw[d]
def pX(e:Qc q)(g:Ho q H):∀ {t:Tk},(∀ z∈lvT t,z∈dE q)->Tb (jt q H t)/\(jt q H t).2.length<=wt q H t/\(∀ c,c∈(jt q H t).1↔∃ z∈lvT t,c∈(nt q H z).1)/\∀ f,sm (jt q H t) f↔∀ z∈lvT t,sm (nt q H z) f:=λ{t}=>by
 induction t with
 | s z=>
   intro h;have d:=RF e g (h z (by simp[lvT]));refine⟨HM e g _ d,?_,λc=>by simp[lvT,jt],λf=>by simp[lvT,jt]⟩;unfold wt;simp only[lvT,map_cons,map_nil,prod_cons,List.prod_nil,Nat.mul_one];exact Nat.le_max_right _ _
 | p a b n m=>
   intro h;obtain⟨A,u,r,o⟩:=n λz d=>h z (BY _ d);obtain⟨i,j,k,l⟩:=m λz d=>h z (AE _ d);refine⟨Mo A i,?_,λc=>?_,λf=>?_⟩;rw[IP];exact gY Rv (mul_le_mul u j)
   ·show c∈(jt q H a).1++mor (jt q H a).1 (jt q H b).1↔_;rw[U8,r,k];simp only[lvT,mem_append]
    grind
   ·show sm (DH _ _) f↔_;rw[Rw A i,o,l];simp only[lvT,mem_append]
    grind
def Mw(b:Qc q)(a:Ho q h):(bB q).Nodup:=kA a▸(HN b a).nd
def Mx(a:Qc q)(b:Ho q H):(bB q).length<=6:=JZ a (Mw a b) λ_ h=>jL h
def RG(a:Qc Q)(b:Ho Q H)(h:∀z∈lvT t,z∈dE Q):(jt Q H t).1.length<=6:=by
 obtain⟨g,_,A,_⟩:=pX a b h;refine JZ a g.nd λc hc=>?_;obtain⟨z,d,hc⟩:=(A c).mp hc;obtain⟨i,q,k,f,_,_,e⟩:=U9 a b (h z d);rw[e]at hc;exact⟨q,An f,hc⟩
def V0(d:Qc qs)(e:Ho qs hs)(h:Tq qs hs (.p a b)):JY (jt qs hs a) (jt qs hs b):=by
 obtain⟨A,n,o,_⟩:=pX d e (t:=a) λz c=>h.nm z (BY _ c);obtain⟨f,g,k,_⟩:=pX d e (t:=b) λz c=>h.nm z (AE _ c);have i:=h.w;rw[IP]at i;have p:=Ka (qs:=qs) (hs:=hs) a;have j:=Ka (qs:=qs) (hs:=hs) b;have l:=Nat.le_mul_of_pos_right (wt qs hs a) j;have m:=Nat.le_mul_of_pos_left (wt qs hs b) p;exact⟨gY (RG d e λz c=>h.nm z (BY _ c)) (by decide),gY (RG d e λz c=>h.nm z (AE _ c)) (by decide),A.tx,f.tx,by lia,by lia,gY (mul_le_mul n g) (by lia),A.ln,f.ln⟩
def V2(a:Q.length<=6)(k:K (.own (.lst ((dE Q).map D.str))) [⟨.val,qD Q⟩]):CK fJ [⟨.val,qD Q⟩] K:=by
 unfold fJ;rw[aZ];show RS gH [_,none,none] _;unfold gH qD;walk_at"dx";refine⟨gY (by rw[eI];exact a) (by decide),aU (λq:Str×List Str=>D.str q.1) qP Q [_,none,none] rfl (λq b=>?_) ?_⟩;unfold qP;walk_at"dx";rw[show Q.map (λq:Str×List Str=>D.str q.1)=(dE Q).map D.str by unfold dE;rw[map_map];rfl];walk_at"dx";exact k
def V3(a:Qc q)(b:Ho q h)(k:K (.own (mD false ((dE q).map Tk.s) λt=>CA (jt q h t))) [⟨.val,qD q⟩,⟨.val,hD h⟩]):CK cI [⟨.val,qD q⟩,⟨.val,hD h⟩] K:=by
 have c:=a.l6;have d:=RC b;have H:(dE q).length=q.length:=eI _;unfold cI;rw[aZ];show RS cQ [_,_] _;unfold cQ;walk_at"dx";refine V2 c ?_;walk_at"dx";refine wT b.l c ?_;walk_at"dx";refine⟨⟨by rw[eI,d,H],by rw[H];lia,a.nn⟩,?_⟩;have e:D.dic ((dE q).map D.str) ((twL q h).map CA)=mD false ((dE q).map Tk.s) λt=>CA (jt q h t):=by
  unfold mD;rw[← pW a b,map_map,map_map,map_map];rfl
 rw[e];exact k
def wV(a:Qc Q)(u:Ho Q m)(B:(lvT t).Perm (dE Q))
  (k:K (.val (.tup [.tup ((oT ((jt Q m t).2.map (pk (jt Q m t).1 (bB Q)))).map tI),.tup ((prT t).map λp=>.int ((jt Q m p).2.length:Nat))])) [⟨.val,qD Q⟩,⟨.val,hD m⟩,⟨.val,nL t⟩]) :
  CK eY [⟨.val,qD Q⟩,⟨.val,hD m⟩,⟨.val,nL t⟩] K:=by
 have L:=a.l6;have T:(dE Q).length=Q.length:=eI _;have O:=Tq.all a u B;have C:(lvT t).length<=6:=by rw[B.length_eq,T];exact L
 have pl:=kR t;unfold eY;rw[aZ];show RS iJ [_,_,_,none,none,none] _;unfold iJ;walk_at"dx";refine V3 a u ?_;walk_at"dx";refine⟨Ad _,?_⟩;refine T5 C ?_;walk_at"dx";have f:∀j∈(dE Q).map Tk.s++prT t,j.ok=true:=λj Y=>by
  have v:∀z∈dE Q,As z:=λz v=>by obtain⟨q,h,rfl⟩:=sY.mp v;exact(a.qn.2 q h).1.2
  rcases Ac.mp Y with h|h;obtain⟨z,U,rfl⟩:=sY.mp h;exact RB (λy M=>by rw[Ah.mp M];exact v z U) (Ad _);have s:=pV h;have:=wU j;exact RB (λz h=>v z (O.nm z (s.1 z h))) (by lia)
 have nn:(dE Q).map Tk.s≠[]:=λe=>by have:=a.l1;rw[List.map_eq_nil_iff]at e;rw[e]at T;simp at T;lia
 refine eV (λi w=>∃(b:Bool) (E:Bool) (F:D),(b=true\/i=0)/\w=[some ⟨.val,qD Q⟩,some ⟨.val,hD m⟩,some ⟨.val,nL t⟩,some ⟨.own,mD b ((dE Q).map Tk.s++(prT t).take i) λt=>CA (jt Q m t)⟩,some ⟨.own,.lst (((prT t).take i).map λp=>.int ((jt Q m p).2.length:Nat))⟩,ov E F]) ⟨false,false,.non,.inr rfl,by rw[List.take_zero,Dp];rfl⟩ ?_ ?_
 ·rintro i d w hd ⟨b,E,F,hb,rfl⟩;obtain⟨p,l,rfl⟩:=kO hd;have U:=An l;obtain⟨x,y,rfl,G⟩:=U4 l;have o:b=true\/∃ zs:List Str,(dE Q).map Tk.s++(prT t).take i=zs.map Tk.s:=hb.imp id λh=>⟨dE Q,by rw[h,List.take_zero,Dp]⟩;have r:∀ j∈(dE Q).map Tk.s++(prT t).take i,j.ok=true:=λj Y=>f j ((Ac.mp Y).elim (BY _) λh=>AE _ (BH h));have A:∀ z,z=x\/z=y->z∈(dE Q).map Tk.s++(prT t).take i:=λz v=>by
   rcases G z v with⟨n,T,rfl⟩|h;exact BY _ (sY.mpr ⟨n,O.nm n T,rfl⟩);exact AE _ h
  have J:=V0 a u (O.pr U);have nd:=U3 (B.nodup_iff.mpr a.nn);have H:Tk.p x y∉(dE Q).map Tk.s++(prT t).take i:=λh=>by
   rcases Ac.mp h with h|h;obtain⟨z,_,e⟩:=sY.mp h;cases e;have:=nd.sublist (take_sublist (i+1) _);rw[fY l]at this;exact(List.nodup_append.mp this).2.2 _ h _ (Ah.mpr rfl) rfl
  have N:((dE Q).map Tk.s++(prT t).take i).length<4000:=by
   rw[AL,eI,BA];grind
  simp only[Lb,vI,wK];refine lQ (λw=>w=[some ⟨.val,qD Q⟩,some ⟨.val,hD m⟩,some ⟨.val,nL t⟩,some ⟨.own,mD true ((dE Q).map Tk.s++(prT t).take i++[.p x y]) λt=>CA (jt Q m t)⟩,some ⟨.own,.lst (((prT t).take i).map λp=>.int ((jt Q m p).2.length:Nat))⟩,some ⟨.val,nL (.p x y)⟩]) ?_ ?_;refine U2 (g:=λt=>CA (jt Q m t)) o (λe=>nn (List.append_eq_nil_iff.mp e).1) N H (f _ (AE _ U)) r ?_;rw[show nL (.p x y)=.tup [nL x,nL y]from rfl];walk_at"dx";refine tZ o (A x (.inl rfl)) r ?_;walk_at"dx";refine tZ o (A y (.inr rfl)) r ?_;walk_at"dx";refine wR J.c J.d J.tc J.td J.k J.j J.m J.r J.s ?_;walk_at"dx";exact⟨rfl,_,rfl,rfl⟩
  rintro w rfl;walk_at"dx";refine tZ (.inl rfl) (AE _ (Ah.mpr rfl)) (λj Y=>(Ac.mp Y).elim (r j) λh=>f j (AE _ (Ah.mp h▸U))) ?_;walk_at"dx";refine⟨Ao (by rw[eI,BA];lia:_<6) (by decide),_,.inl rfl,true,true,nL (.p x y),.inl rfl,?_⟩;rw[fY l,AH,← append_assoc,eI];rfl
 ·rintro w ⟨b,E,F,hb,rfl⟩;rw[eI,take_length];have inT:t∈(dE Q).map Tk.s++prT t:=by
   rcases Mu t with⟨z,rfl⟩|h;exact BY _ (sY.mpr ⟨z,O.nm z (Ah.mpr rfl),rfl⟩);exact AE _ h
  walk_at"dx";refine tZ (hb.imp id λh=>⟨dE Q,by rw[eI]at h;rw[List.length_eq_zero_iff.mp h,Dp]⟩) inT f ?_;walk_at"dx";refine mJ a.qn ?_;walk_at"dx";obtain⟨a1,a2,a3,_⟩:=pX a u O.nm;refine R9 (so:=bB Q) (.inl rfl) a1.ln (λc hc=>?_) ?_ (gY a2 (gY O.w (by decide))) ?_;obtain⟨q,I,π⟩:=jL hc;exact(a3 c).mpr ⟨q.1,B.mem_iff.mpr (sY.mpr ⟨q,I,rfl⟩),by rw[Mv a u I];exact π⟩;exact gY (Mx a u) (by decide)
  walk_at"dx";exact⟨sl2,k⟩
def Bl(x y:Tw):Prop:=(∀c,c∈x.1↔c∈y.1)/\∀f,sm x f↔sm y f
theorem Bl.symm{x y:Tw}(h:Bl x y):Bl y x:=⟨λc=>(h.1 c).symm,λf=>(h.2 f).symm⟩
def RH(a:Tb x)(h:row.length=x.1.length):row∈x.2↔sm x (gt x.1 row):=by
 unfold sm;rw[rK a.nd h]
def uA(h:∀c∈x.1,f c=g c):sm x f↔sm x g:=by
 unfold sm;rw[map_congr_left h]
def uB(a:Tb x)(nd:C.Nodup)(hc:∀c,c∈C↔c∈x.1):row∈x.2.map (pk x.1 C)↔row.length=C.length/\sm x (gt C row):=by
 rw[sY];constructor;rintro⟨y,b,rfl⟩;refine⟨by rw[qL,eI],(uA λc h=>?_).mp ((RH a (a.ln y b)).mp b)⟩;rw[qL,nB ((hc c).mpr h)];rintro⟨d,e⟩;refine⟨x.1.map (gt C row),e,?_⟩;rw[qL];refine Eq.trans (map_congr_left λc h=>nB ((hc c).mp h)) (rK nd d)
def Bl.cut(h:Bl x y)(a:Tb x)(b:Tb y)(nd:C.Nodup)(hc:∀c,c∈C↔c∈x.1):oT (x.2.map (pk x.1 C))=oT (y.2.map (pk y.1 C)):=
 vS (eW _) (eW _) λr=>by rw[dL,dL,uB a nd hc,uB b nd λc=>(hc c).trans (h.1 c),h.2]
def My(d:Tb x)(hc:∀c∈x.1,c∈C):(x.2.map (pk x.1 C)).Nodup:=by
 refine Dj.mpr (List.pairwise_map.mpr (imp_of_mem (λ{a b} H h n e=>n ?_) (Dj.mp d.un)));rw[qL,qL]at e;exact Rq d.nd (d.ln a H) (d.ln b h) λz f=>lV e z (hc z f)
def Bl.le(h:Bl x y)(a:Tb x)(b:Tb y):x.2.length<=y.2.length:=by
 have:=List.Nodup.length_le_of_subset (l₂:=y.2) (My a λc hc=>(h.1 c).mp hc) λr d=>by
  obtain⟨e,f⟩:=(uB a b.nd λc=>(h.1 c).symm).mp d;exact(RH b e).mpr ((h.2 _).mp f)
 rwa[eI]at this
def Bl.len{x y:Tw}(h:Bl x y)(a:Tb x)(b:Tb y):x.2.length=y.2.length:=Nat.le_antisymm (h.le a b) (h.symm.le b a)
def V4(nd:c.Nodup)(h:row.length=c.length):pk c c row=row:=rK nd h
def RJ(a:Tb x):x.2.map (pk x.1 x.1)=x.2:=by
 refine Eq.trans (map_congr_left λy b=>V4 a.nd (a.ln y b)) (List.map_id' _)
def RK(h:DF l):oT l=l:=vS (eW _) h λx=>dL l x
def RL:DF (aj (twL q h)).2:=by
 rcases List.eq_nil_or_concat (twL q h)with e|⟨l,t,e⟩;rw[e];exact pairwise_singleton ..;rw[e,concat_eq_append,Rm];exact eW _
def V5:c∈bB Q↔∃q∈Q,c∈q.2:=⟨jL,λ⟨q,a,b⟩=>pQ a b⟩
def IQ(d:Qc Q)(f:Ho Q H)(h:(q,ks)∈Q.zip H):nt Q H q.1=(q.2,ks):=by
 obtain⟨i,n⟩:=List.mem_iff_getElem?.mp h;obtain⟨a,g⟩:=List.getElem?_zip_eq_some.mp n;have m:(dE Q)[i]?=some q.1:=by unfold dE;rw[Ab,a];rfl
 have e:(twL Q H)[i]?=some (nt Q H q.1):=by rw[← pW d f,Ab,m];rfl
 obtain⟨l,j,b,c,k⟩:=pT e;rw[a]at b;rw[g]at c;cases b;cases c;exact k
def Kb(a:Ho Q H)(h:z∈dE Q):∃q ks,(q,ks)∈Q.zip H/\q.1=z:=by
 obtain⟨q,b,rfl⟩:=sY.mp h;obtain⟨i,d⟩:=List.mem_iff_getElem?.mp b;have:=(sL.mp d).1;have c:=a.l;exact⟨q,H[i]'(by simp_all),List.mem_iff_getElem?.mpr ⟨i,List.getElem?_zip_eq_some.mpr ⟨d,oI _⟩⟩,rfl⟩
def Kc(k:Qc Q)(l:Ho Q o)(e:Qc a)(b:Ho a g)(m:∀z∈lvT t,z∈dE Q)(H:∀z,z∈dE a↔z∈lvT t)(j:∀z∈lvT t,Bl (nt a g z) (nt Q o z)):Bl (aj (twL a g)) (jt Q o t):=by
 obtain⟨_,_,p,A⟩:=pX k l m;refine⟨λc=>?_,λf=>?_⟩;rw[kA b,V5,p];constructor;rintro⟨q,i,n⟩;have d:=(H q.1).mp (sY.mpr ⟨q,i,rfl⟩);exact⟨q.1,d,((j _ d).1 c).mp (by rw[Mv e b i];exact n)⟩;rintro⟨z,d,h⟩;obtain⟨q,i,rfl⟩:=sY.mp ((H z).mpr d);exact⟨q,i,by rw[← Mv e b i];exact((j _ d).1 c).mpr h⟩;rw[U0 (HM e b),A,← pW e b,List.forall_mem_map];exact⟨λh z d=>((j z d).2 f).mp (h z ((H z).mpr d)),λh z d=>((j z ((H z).mp d)).2 f).mpr (h z ((H z).mp d))⟩
def V6(m:Qc Q)(n:Ho Q H)(i:Qc a)(j:Ho a b)(o:∀z∈lvT t,z∈dE Q)(k:∀z∈lvT t,z∈dE a)(g:∀z∈lvT t,Bl (nt a b z) (nt Q H z)):Bl (jt a b t) (jt Q H t):=by
 obtain⟨_,_,r,A⟩:=pX m n o;obtain⟨_,_,p,q⟩:=pX i j k;refine⟨λc=>?_,λf=>?_⟩;rw[r,p];exact⟨λ⟨z,d,l⟩=>⟨z,d,((g z d).1 c).mp l⟩,λ⟨z,d,l⟩=>⟨z,d,((g z d).1 c).mpr l⟩⟩;rw[A,q];exact⟨λh z e=>((g z e).2 f).mp (h z e),λh z e=>((g z e).2 f).mpr (h z e)⟩
def Bl.refl(x:Tw):Bl x x:=⟨λ_=>Iff.rfl,λ_=>Iff.rfl⟩
def nE(b:Qc q)(a:Ho q H)(d:(lvT t).Perm (dE q)):oT ((jt q H t).2.map (pk (jt q H t).1 (bB q)))=(aj (twL q H)).2:=by
 have e:∀z∈lvT t,z∈dE q:=λz h=>d.mem_iff.mp h;have E:=Kc b a b a e (λz=>d.mem_iff.symm) λz _=>Bl.refl _;have T:=HN b a;have:=E.cut T (pX b a e).1 (Mw b a) λc=>by rw[kA a]
 rw[← this,← kA a,RJ T,RK RL]
abbrev Qh:=(Str×List Str)×List (List Int)
structure QM(M:List Qh):Prop where
 l1:1<=M.length
 l6:M.length<=6
 g:∀m∈M,(Tx m.1.1/\m.1.2.length<=100/\∀z∈m.1.2,Tx z)/\m.1.2.Nodup/\m.1.2≠[]/\(∀r∈m.2,r.length=m.1.2.length/\Vb r)/\DF m.2/\m.2.length<=40
 cs:∃cs:List Str,cs.length=6/\∀m∈M,∀z∈m.1.2,z∈cs
 nn:(M.map λm=>m.1.1).Nodup
 p:(M.map λm=>max 1 m.2.length).prod<=3000
theorem QM.q{M:List Qh}(h:QM M):Qc (M.map Prod.fst):=by
 obtain⟨c,b,hc⟩:=h.cs;have l:=h.l6;refine⟨by rw[eI];exact h.l1,by rw[eI];exact l,⟨by rw[eI];lia,λq a=>?_⟩,λq a=>?_,λq a=>?_,⟨c,b,λq a=>?_⟩,by rw[map_map];exact h.nn⟩
 all_goals obtain⟨m,H,rfl⟩:=sY.mp a
 ·exact(h.g m H).1
 ·exact(h.g m H).2.1
 ·exact(h.g m H).2.2.1
 ·exact hc m H
theorem QM.h{M:List Qh}(h:QM M):Ho (M.map Prod.fst) (M.map Prod.snd):=by
 refine⟨by rw[eI,eI],λi q k b a=>?_,?_⟩;rw[Ab]at b a;obtain⟨m,c,rfl⟩:=Bg.mp b;rw[c]at a;cases a;exact(h.g m (An c)).2.2.2;unfold pm;rw[map_map];exact h.p
def RM{M:List Qh}:(M.map Prod.fst).zip (M.map Prod.snd)=M:=by rw[List.zip_map'];exact List.map_id' _
def Mz(a:Qc q)(c:Ho q H):QM (q.zip H):=by
 obtain⟨C,e,hc⟩:=a.cs;have j:=c.l;have f:(q.zip H).map Prod.fst=q:=map_fst_zip (by simp_all);have g:(q.zip H).map Prod.snd=H:=map_snd_zip (by simp_all);have l:(q.zip H).length=q.length:=by rw[length_zip];simp_all
 refine⟨by rw[l];exact a.l1,by rw[l];exact a.l6,λm k=>?_,⟨C,e,λm k=>hc _ (of_mem_zip k).1⟩,?_,?_⟩;obtain⟨i,n⟩:=List.mem_iff_getElem?.mp k;obtain⟨d,h⟩:=List.getElem?_zip_eq_some.mp n;have b:=An d;exact⟨a.qn.2 _ b,a.cd _ b,a.ne _ b,c.w i _ _ d h⟩;have:=a.nn;rwa[← f,map_map]at this;have:=c.p;unfold pm at this;rwa[← g,map_map]at this
def QM.sub(h:QM M)(s:F.Sublist M)(c:1<=F.length):QM F:=by
 obtain⟨C,b,hc⟩:=h.cs;refine⟨c,gY s.length_le h.l6,λm H=>h.g m (s.subset H),⟨C,b,λm H=>hc m (s.subset H)⟩,h.nn.sublist (s.map _),?_⟩;have a:=Mq (s.map Prod.snd);unfold pm at a;rw[map_map,map_map]at a;exact gY a h.p
def tN(n:Qh×List Str):Qh:=((n.1.1.1,n.2),oT (n.1.2.map (pk n.1.1.2 n.2)))
def V7{a:Type}{f g:a->Nat}{l:List a}(h:∀x∈l,f x<=g x):(l.map f).prod<=(l.map g).prod:=by
 induction l with
 |nil=>exact hF _
 | cons x l b=>
   rw[BJ,BJ,prod_cons,prod_cons];exact mul_le_mul (h x Aa) (b λy c=>h y (Am _ c))
def QM.turn{N:List (Qh×List Str)}(h:QM M)(b:(N.map Prod.fst).Perm M)(hc:∀n∈N,n.2.Perm n.1.1.2):QM (N.map tN):=by
 obtain⟨C,i,d⟩:=h.cs;have l:=b.length_eq;rw[eI]at l;have A:∀n∈N,n.1∈M:=λn H=>b.mem_iff.mp (sY.mpr ⟨n,H,rfl⟩);refine⟨by rw[eI,l];exact h.l1,by rw[eI,l];exact h.l6,λm B=>?_,⟨C,i,λm B z f=>?_⟩,?_,?_⟩;obtain⟨n,H,rfl⟩:=sY.mp B;obtain⟨⟨j,k,o⟩,q,s,t,x,u⟩:=h.g _ (A n H);have c:=hc n H;refine⟨⟨j,by show n.2.length<=100;rw[c.length_eq];exact k,λz f=>o z (c.mem_iff.mp f)⟩,c.nodup_iff.mpr q,λe=>s ?_,λr v=>?_,eW _,gY (kM _) (by rw[eI];exact u)⟩;have e:n.2=[]:=e;rw[e]at c;exact c.symm.eq_nil;obtain⟨y,w,rfl⟩:=sY.mp ((dL _ r).mp v);exact⟨eI _,QZ (t y w).2⟩;obtain⟨n,H,rfl⟩:=sY.mp B;exact d _ (A n H) z ((hc n H).mem_iff.mp f);rw[map_map];have:=(b.map λm:Qh=>m.1.1).nodup_iff.mpr h.nn;rwa[map_map]at this;rw[map_map];refine gY (V7 (g:=λn=>max 1 n.1.2.length) λn H=>?_) ?_;have a:=kM (n.1.2.map (pk n.1.1.2 n.2));rw[eI]at a;show max 1 (oT _).length<=_;lia;have:=(b.map λm:Qh=>max 1 m.2.length).prod_nat;rw[map_map]at this;exact gY (le_of_eq this) h.p
def V8(a:Tb x)(nd:C.Nodup)(hc:∀c,c∈C↔c∈x.1):Bl (C,oT (x.2.map (pk x.1 C))) x:=⟨hc,λf=>by
 show C.map f∈oT _↔_;rw[dL,uB a nd hc];exact⟨λh=>(uA λc h=>nB ((hc c).mpr h)).mp h.2,λh=>⟨eI _,(uA λc h=>nB ((hc c).mpr h)).mpr h⟩⟩⟩
def RN(a:Qc q)(b:Ho q H)(h:z∈dE q):Tb (nt q H z):=HM a b _ (RF a b h)
def V9{N:List (Qh×List Str)}(g:Qc k)(d:Ho k l)(i:(N.map Prod.fst).Perm (k.zip l))(hc:∀n∈N,n.2.Perm n.1.1.2):(∀z,z∈dE ((N.map tN).map Prod.fst)↔z∈dE k)/\∀z∈dE k,Bl (nt ((N.map tN).map Prod.fst) ((N.map tN).map Prod.snd) z) (nt k l z):=by
 have Q:=(Mz g d).turn i hc;have M:∀m,m∈k.zip l↔∃n∈N,n.1=m:=λm=>i.mem_iff.symm.trans sY;have j:∀z,z∈dE ((N.map tN).map Prod.fst)↔∃n∈N,n.1.1.1=z:=λz=>by unfold dE;rw[map_map,map_map,sY];rfl
 refine⟨λz=>(j z).trans ⟨?_,?_⟩,λz h=>?_⟩;rintro⟨n,H,rfl⟩;exact sY.mpr ⟨n.1.1,(of_mem_zip ((M _).mpr ⟨n,H,rfl⟩)).1,rfl⟩;intro h;obtain⟨q,ks,f,rfl⟩:=Kb d h;obtain⟨n,H,e⟩:=(M _).mp f;exact⟨n,H,by rw[e]⟩;obtain⟨q,ks,f,rfl⟩:=Kb d h;obtain⟨⟨m,C⟩,H,e⟩:=(M _).mp f;dsimp only at e;subst e;have c:C.Perm q.2:=hc _ H;have a:=IQ Q.q Q.h (q:=(q.1,C)) (ks:=oT (ks.map (pk q.2 C))) (by rw[RM];exact sY.mpr ⟨_,H,rfl⟩);have b:=IQ g d f;have T:=RN g d h;rw[a,b];rw[b]at T;exact V8 T (c.nodup_iff.mpr T.nd) λz=>c.mem_iff
def W0(b:Qc d)(c:Ho d H)(s:F.Sublist (d.zip H))(Q:QM F)(h:z∈dE (F.map Prod.fst)):nt (F.map Prod.fst) (F.map Prod.snd) z=nt d H z:=by
 obtain⟨q,k,a,rfl⟩:=Kb Q.h h;rw[IQ Q.q Q.h a];rw[RM]at a;rw[IQ b c (s.subset a)]
noncomputable def DJ(q:List (Str×List Str))(h:List (List (List Int)))(n:List Str):List Qh:=(q.zip h).filter λm=>n.contains m.1.1
def W2(a:Ho Q h):(DJ Q h n).map Prod.fst=Q.filter λq=>n.contains q.1:=by
 have b:(Q.zip h).map Prod.fst=Q:=map_fst_zip (by have:=a.l;simp_all);unfold DJ
 conv=>rhs;rw[← b]
 rw[List.filter_map];rfl
def W3(b:Qc i)(a:Ho i H)(c:∀ z∈lvT t,z∈dE i):QM (DJ i H (lvT t))/\(aj (twL ((DJ i H (lvT t)).map Prod.fst) ((DJ i H (lvT t)).map Prod.snd))).2.length=(jt i H t).2.length:=by
 have n:∀z,z∈dE ((DJ i H (lvT t)).map Prod.fst)↔z∈lvT t:=λz=>by
  unfold dE;rw[map_map,sY];constructor;rintro⟨m,j,rfl⟩;simpa using(List.mem_filter.mp j).2;intro h;obtain⟨q,k,d,rfl⟩:=Kb a (c z h);exact⟨(q,k),List.mem_filter.mpr ⟨d,by simpa using h⟩,rfl⟩
 have s:(DJ i H (lvT t)).Sublist (i.zip H):=List.filter_sublist;have Q:QM (DJ i H (lvT t)):=(Mz b a).sub s (by
  have l:=kQ t;cases e:lvT t with
  |nil=>rw[e]at l;exact absurd l (by decide)
  | cons z r=>
    have:=(n z).mpr (by rw[e];exact Aa);rw[← e];cases f:DJ i H (lvT t)with
    |nil=>rw[f]at this;cases this
    |cons=>simp)
 refine⟨Q,(Kc b a Q.q Q.h c n λz g=>?_).len (HN Q.q Q.h) (pX b a c).1⟩;rw[W0 b a s Q ((n z).mpr g)];exact Bl.refl _
def RP{a:List Str}(H:As z)(h:∀z∈a,As z)(k:K (.val (.bl (a.contains z)))):dY (Bq false (.str z) (.tup (a.map D.str))) K:=by
 show dY (Bq false (.str z) (.lst (a.map D.str))) K;exact wL H h k
def W4{n:List Str}(a:Q.length<=6)(h:∀ z∈n,As z)(b:∀ q∈Q,As q.1)(k:K (.val (qD (Q.filter λq=>n.contains q.1))) [⟨.val,qD Q⟩,⟨.val,.tup (n.map D.str)⟩]) :
  CK lP [⟨.val,qD Q⟩,⟨.val,.tup (n.map D.str)⟩] K:=by
 unfold lP;rw[aZ];show RS pJ [_,_,none] _;unfold pJ qD;walk_at"dx";refine⟨gY (by rw[eI];exact a) (by decide),dU (λq:Str×List Str=>n.contains q.1) qP qP Q [_,_,none] rfl (λq H=>?_) ?_⟩;unfold qP;walk_at"dx";refine RP (b q H) h ?_;walk_at"dx";walk_at"dx";exact k
def W5:dY (Gw Z [.val (.tup l),.val (.lst m)]) K=(l.length=m.length/\K (uD l m,none)):=by
 show dY (if l.length=m.length then some (uD l m,none)else none) K=_;rw[aN];rfl
def W6:dY (Gw Z [.val (.lst l),.val (.tup m)]) K=(l.length=m.length/\K (uD l m,none)):=by
 show dY (if l.length=m.length then some (uD l m,none)else none) K=_;rw[aN];rfl
def W7{c:Type}{f:c->D}{xs:List c}{n:List Str}(i:Q.length<=6)(e:xs.length=Q.length)(j:∀ z∈n,As z)(g:∀ q∈Q,As q.1)(H:t=.tup (xs.map f)\/t=.lst (xs.map f))
  (k:K (.val (.tup (((Q.zip xs).filter λq=>n.contains q.1.1).map λq=>f q.2))) [⟨.val,qD Q⟩,⟨.val,t⟩,⟨.val,.tup (n.map D.str)⟩]) :
  CK eK [⟨.val,qD Q⟩,⟨.val,t⟩,⟨.val,.tup (n.map D.str)⟩] K:=by
 have h:∀{Z:Sg} {K:List D×Option Nat->Prop},dY (Gw Z [.val (.tup (Q.map qP)),.val t]) K=(Q.length=xs.length/\K ((Q.zip xs).map λp=>D.tup [qP p.1,f p.2],none)):=by
  intro Z K;rcases H with rfl|rfl;rw[nT,eI,eI,lU];rw[W5,eI,eI,lU]
 unfold eK;rw[aZ];show RS fL [_,_,_,none,none] _;unfold fL qD;clear H;walk_at"dx";rw[h];refine⟨e.symm,?_⟩;walk_at"dx";refine⟨by rw[eI,length_zip];exact gY (by simp_all:_<=6) (by decide),?_⟩;refine dU (λq:(Str×List Str)×c=>n.contains q.1.1) (λq=>f q.2) (λp=>D.tup [qP p.1,f p.2]) (Q.zip xs) [_,_,_,none,none] rfl (λq H=>?_) ?_;have d:=(of_mem_zip (a:=q.1) (b:=q.2) H).1;unfold qP;walk_at"dx";refine RP (g q.1 d) j ?_;walk_at"dx";walk_at"dx";exact k
def W8(a:Qc Q)(b:Ho Q H)(c:∀ z∈n,As z)(k:K (.val (hD ((DJ Q H n).map Prod.snd))) [⟨.val,qD Q⟩,⟨.val,hD H⟩,⟨.val,.tup (n.map D.str)⟩]) :
  CK dD [⟨.val,qD Q⟩,⟨.val,hD H⟩,⟨.val,.tup (n.map D.str)⟩] K:=by
 unfold dD;rw[aZ];show RS eL [_,_,_] _;unfold eL;walk_at"dx";refine W7 a.l6 b.l c (λq h=>(a.qn.2 q h).1.2) (.inl rfl) ?_;walk_at"dx";rw[show((Q.zip H).filter λq=>n.contains q.1.1).map (λq=>hT q.2)=((DJ Q H n).map Prod.snd).map hT by unfold DJ;rw[map_map];rfl];exact k
def W9(a:Qc l)(b:Ho l H)(s:(lvT t).Perm (dE l))
  (k:K (.val (.bl true)) [⟨.val,qD l⟩,⟨.val,hD H⟩,⟨.val,nL t⟩,⟨.val,.tup ((prT t).map λp=>.int ((jt l H p).2.length:Nat))⟩]) :
  CK bN [⟨.val,qD l⟩,⟨.val,hD H⟩,⟨.val,nL t⟩,⟨.val,.tup ((prT t).map λp=>.int ((jt l H p).2.length:Nat))⟩] K:=by
 have u:=a.l6;have E:(dE l).length=l.length:=eI _;have c:(lvT t).length<=6:=by rw[s.length_eq,E];exact u
 have L:=kR t;have N:=wU t;have I:=Tq.all a b s;unfold bN;rw[aZ];show RS bT [_,_,_,_,none,none,none,none] _;unfold bT;walk_at"dx";refine S6 (by lia) c ?_;walk_at"dx";rw[a0m (by simp),W6,lU];refine⟨by rw[eI,eI],?_⟩;refine eV (λi e=>∃(f g j:Bool) (m n o:D),e=[_,_,_,_,_,ov f m,ov g n,ov j o]) ⟨false,false,false,.non,.non,.non,rfl⟩ ?_ ?_
 ·rintro i d e G ⟨f,g,j,m,n,o,rfl⟩;obtain⟨⟨p,x⟩,r,rfl⟩:=kO G;obtain⟨v,w⟩:(prT t)[i]?=some p/\(prT t)[i]?=some x:=List.getElem?_zip_eq_some.mp r;rw[v]at w;cases w;have B:=An v;have P:=I.pr B;obtain⟨Q,y⟩:=W3 a b P.nm;have C:∀z∈lvT p,As z:=λz A=>by obtain⟨q,h,rfl⟩:=sY.mp (P.nm z A);exact(a.qn.2 q h).1.2
  have J:=(pV B).2;have M:=wU p;walk_at"dx";refine S5 (t:=p) (by lia) (by lia) ?_;walk_at"dx";refine W4 u C (λq h=>(a.qn.2 q h).1.2) ?_;walk_at"dx";refine W8 a b C ?_;walk_at"dx";rw[← W2 b];refine mL Q.h.l Q.q.l6 (Mt Q.q Q.h) ?_;walk_at"dx";rw[eI,y,a0m (by simp)];exact⟨_,.inl rfl,true,true,true,nL p,_,_,rfl⟩
 ·rintro e ⟨f,g,j,m,n,o,rfl⟩;walk_at"dx";exact k
def RQ(n:Nat):qA 0 n=(range n).map λ(i:Nat)=>D.int (i:Int):=by
 unfold qA;exact map_congr_left λi _=>by rw[zero_add]
def wW{a:Type}(l:List a)(d:a):(range l.length).map (λk=>l.getD k d)=l:=by
 refine List.ext_getElem (by simp) λi c b=>?_;simp[b]
noncomputable def MA(q:List (Str×List Str))(h:List (List (List Int)))(k:Nat):Qh:=(q.zip h).getD k ((⟨#[]⟩,[]),[])
def X0(H:Q[k]?=some q)(a:h[k]?=some ks):MA Q h k=(q,ks):=by
 unfold MA;rw[DZ,List.getElem?_zip_eq_some (z:=(q,ks)) |>.mpr ⟨H,a⟩];rfl
abbrev nD(n:Qh×List Str):D:=.tup [qP (tN n).1,hT (tN n).2]
def X2{l:List Nat}(nd:c.Nodup)(h:∀s∈l,s<c.length)(row:List Int):l.map (λs=>row.getD s 0)=pk c (l.map λs=>c.getD s ⟨#[]⟩) row:=by
 unfold pk;rw[map_map];refine map_congr_left λs H=>?_;have a:=h s H;show _=row.getD (c.idxOf (c.getD s ⟨#[]⟩)) 0;rw[DZ (l:=c),oI a,getD_some,nd.idxOf_getElem]
def X3(m:Qc O)(u:Ho O hs)
  (k:∀(N:List (Qh×List Str)) P Q,(N.map Prod.fst).Perm (O.zip hs)->(∀n∈N,n.2.Perm n.1.1.2)->K (.val (.tup [qD ((N.map tN).map Prod.fst),hD ((N.map tN).map Prod.snd)])) [⟨.par,.lst [.int P,.int Q]⟩,⟨.val,qD O⟩,⟨.val,hD hs⟩]) :
  CK dB [⟨.par,.lst [.int a,.int b]⟩,⟨.val,qD O⟩,⟨.val,hD hs⟩] K:=by
 have h6:=m.l6;have hl:=u.l;have R:(O.zip hs).length=O.length:=by rw[length_zip];simp_all
 unfold dB;rw[aZ];show RS eG [_,_,_,none,none,none,none,none,none,none,none,none] _;unfold eG;walk_at"dx";rw[eI];refine⟨Ad _,⟨by lia,by lia⟩,?_⟩;rw[show((O.length:Nat):Int).toNat=O.length from rfl,RQ];refine hX (.inl ⟨rfl,rfl⟩) (by rw[eI,Ey];lia) λys a1 A S=>?_;obtain⟨l,rfl,pl⟩:=iK S;walk_at"dx";refine eV (λi τ=>∃(N:List (Qh×List Str)) (a b:Int) (B C E:Bool) (F G H:D) (I J:Option (List D)),N.map Prod.fst=(l.take i).map (MA O hs)/\(∀n∈N,n.2.Perm n.1.1.2)/\τ=[some ⟨.par,.lst [.int a,.int b]⟩,some ⟨.val,qD O⟩,some ⟨.val,hD hs⟩,some ⟨.own,.lst (N.map nD)⟩,ov B F,ov C G,ov E H,wo I,wo J,none,none,none]) ⟨[],a1,A,false,false,false,.non,.non,.non,none,none,rfl,(λ_ h=>nomatch h),rfl⟩ ?_ ?_
 ·rintro i d τ hd ⟨N,a,b,B,C,E,F,G,H,I,J,r,hc,rfl⟩;obtain⟨k,π,rfl⟩:=kO hd;have L:k < O.length:=Cq.mp (pl.mem_iff.mp (An π));have o:=oI L;have p:hs[k]? = some hs[k]:=oI (by simp_all);generalize O[k]=q at o;generalize hs[k]=ks at p;have hm:=An o;have w:=u.w k q ks o p;have cd:=m.cd q hm;have cl:=(m.qn.2 q hm).2.1;have ln:N.length<=6:=by have:=Cn List.length r;rw[eI,eI,BA]at this;have:=pl.length_eq;rw[Ey]at this;lia
  walk_at"dx";rw[JW (by rw[eI];omega),Ab,o,map_some];walk_at"dx";rw[eI];refine⟨by lia,?_⟩;rw[show((q.2.length:Nat):Int).toNat=q.2.length from rfl,RQ];refine hX (.inl ⟨rfl,rfl⟩) (by rw[eI,Ey];lia) λys a1 A M=>?_;obtain⟨s,rfl,ps⟩:=iK M;have g:∀x∈s,x<q.2.length:=λx U=>Cq.mp (ps.mem_iff.mp U);have t:s.length<=100:=by have:=ps.length_eq;rw[Ey]at this;simp_all
  walk_at"dx";rw[JW (by rw[eI];have:=(sL.mp p).1;omega),Ab,p,map_some];walk_at"dx";have V:=w.2.2;refine⟨by rw[eI];exact gY V (by decide),aU (λf:List Int=>tI (s.map λj=>f.getD j 0)) tI ks [_,_,_,_,_,_,_,_,_,none,none,none] rfl (λf W=>?_) ?_⟩;have rl:=(w.1 f W).1;walk_at"dx";refine⟨by rw[eI];exact gY t (by decide),aU (λj:Nat=>D.int (f.getD j 0)) (λi:Nat=>D.int (i:Int)) s [_,_,_,_,_,_,_,_,_,_,none,none] rfl (λj hj=>?_) ?_⟩;walk_at"dx";rw[Mc (by have:=g j hj;simp[*])];walk_at"dx";walk_at"dx";show hJ.val (.tup _)=hJ.val (.tup ((s.map _).map D.int));rw[map_map];rfl
  walk_at"dx";have v:(s.map λj=>q.2.getD j ⟨#[]⟩).Perm q.2:=(ps.map _).trans (.of_eq (wW _ _));have X:ks.map (λf=>tI (s.map λj=>f.getD j 0))=(ks.map (pk q.2 (s.map λj=>q.2.getD j ⟨#[]⟩))).map tI:=by
   rw[map_map];exact map_congr_left λf _=>Cn tI (X2 cd g f)
  have eS:q.2.map (λz=>D.str z)=q.2.map D.str:=rfl;have Y:(q,ks)∈O.zip hs:=List.mem_iff_getElem?.mpr ⟨k,List.getElem?_zip_eq_some.mpr ⟨o,p⟩⟩;have T:=RN m u (sY.mpr ⟨q,hm,rfl⟩);rw[IQ m u Y]at T;have ne:=m.ne q hm;rw[X,Qu];refine⟨⟨by rw[eI];omega,My T λc hc=>v.mem_iff.mpr hc,λ_ y σ e=>?_⟩,?_⟩;obtain⟨f,_,rfl⟩:=sY.mp σ;rw[qL,List.map_eq_nil_iff]at e;rw[e]at v;exact ne v.symm.eq_nil
  walk_at"dx";refine⟨by rw[eI];exact gY t (by decide),aU (λj:Nat=>D.str (q.2.getD j ⟨#[]⟩)) (λi:Nat=>D.int (i:Int)) s [_,_,_,_,_,_,_,_,_,none,none,none] rfl (λj hj=>?_) ?_⟩;have hj:=g j hj;walk_at"dx";rw[JW (by rw[eI];omega),Ab,oI hj,map_some];walk_at"dx";rw[DZ,oI hj];rfl
  walk_at"dx";refine⟨by decide,by decide,by rw[eI];exact CS ln (by decide),_,.inl rfl,N++[((q,ks),s.map λj=>q.2.getD j ⟨#[]⟩)],a1,A,true,true,true,.int (k:Int),.str q.1,.tup (q.2.map D.str),some (s.map λ(i:Nat)=>.int (i:Int)),some ((oT (ks.map (pk q.2 (s.map λj=>q.2.getD j ⟨#[]⟩)))).map tI),?_,λn hn=>?_,?_⟩;rw[AH,r,fY π,AH,List.map_singleton,List.map_singleton,X0 o p];rcases Ac.mp hn with h|h;exact hc n h;rw[Ah.mp h];exact v;rw[AH,List.map_singleton];unfold nD tN qP hT;rw[map_map (l:=s)];rfl
 ·rintro τ ⟨N,a,b,B,C,E,F,G,H,I,J,r,hc,rfl⟩;have ln:N.length<=6:=by have:=Cn List.length r;rw[eI,eI,BA]at this;have:=pl.length_eq;rw[Ey]at this;simp[*]
  walk_at"dx";refine⟨by rw[eI];exact gY ln (by decide),aU (λn=>qP (tN n).1) nD N [_,_,_,_,_,_,_,_,_,none,none,none] rfl (λn hn=>?_) ?_⟩;walk_at"dx"
  walk_at"dx";refine⟨by rw[eI];exact gY ln (by decide),aU (λn=>hT (tN n).2) nD N [_,_,_,_,_,_,_,_,_,none,none,none] rfl (λn hn=>?_) ?_⟩;walk_at"dx"
  walk_at"dx";refine⟨by decide,?_⟩;rw[show(N.map λn=>qP (tN n).1)=((N.map tN).map Prod.fst).map qP by rw[map_map,map_map];rfl,show(N.map λn=>hT (tN n).2)=((N.map tN).map Prod.snd).map hT by rw[map_map,map_map];rfl];refine k N a b ?_ hc;rw[r,eI,take_length];refine(pl.map _).trans (.of_eq ?_);rw[← R];exact wW _ _
def X4(j:Qc Q)(u:Ho Q A)(h:Qc a)(g:Ho a d)(m:∀ c,c∈bB Q↔c∈bB a)
  (k:K (.val (.tup ((oT ((aj (twL a d)).2.map (pk (bB a) (bB Q)))).map tI))) [⟨.val,qD Q⟩,⟨.val,qD a⟩,⟨.val,.tup ((aj (twL a d)).2.map tI)⟩]) :
  CK fM [⟨.val,qD Q⟩,⟨.val,qD a⟩,⟨.val,.tup ((aj (twL a d)).2.map tI)⟩] K:=by
 have T:=HN h g;have s:=Mx j u;have v:=Mx h g;have n:=kA g;have t:(aj (twL a d)).2.length<=3000:=by
  obtain⟨_,b⟩:=Mp (ts:=twL a d) tk0 (HM h g);rw[Ms g.l]at b;exact gY b (by have:=g.p;simp;exact this)
 have L:=T.ln;rw[n]at L;have N:(aj (twL a d)).2.map (pk (bB a) (bB Q)) |>.Nodup:=by rw[← n];exact My T λc hc=>(m c).mpr (n▸hc)
 generalize (aj (twL a d)).2=l at L t N k ⊢;unfold fM;rw[aZ];show RS gK [_,_,_,none,none,none,none,none] _;unfold gK;walk_at"dx";refine mJ h.qn ?_;walk_at"dx";refine mJ j.qn ?_;walk_at"dx";refine⟨by rw[eI];exact gY s (by decide),aU (λz=>.int ((bB a).idxOf z:Nat)) D.str (bB Q) [_,_,_,_,none,none,none,none] rfl (λz i=>?_) ?_⟩;walk_at"dx";exact(m z).mp i
 walk_at"dx";refine⟨by rw[eI];exact gY t (by decide),aU (λf=>tI (pk (bB a) (bB Q) f)) tI l [_,_,_,_,_,none,none,none] rfl (λf w=>?_) ?_⟩;walk_at"dx";refine⟨by rw[eI];exact gY s (by decide),aU (λz=>D.int (f.getD ((bB a).idxOf z) 0)) (λz=>.int ((bB a).idxOf z:Nat)) (bB Q) [_,_,_,_,_,_,_,none] rfl (λz i=>?_) ?_⟩;walk_at"dx";rw[Mc (by rw[L f w];exact Me ((m z).mp i))];walk_at"dx";walk_at"dx";rw[Ra]
 walk_at"dx";rw[show(l.map λf=>tI (pk (bB a) (bB Q) f))=(l.map (pk (bB a) (bB Q))).map tI by rw[map_map];rfl,Qu];refine⟨⟨by rw[eI];lia,N,λ_ y x e=>?_⟩,?_⟩
 ·obtain⟨f,_,rfl⟩:=sY.mp x;rw[qL,List.map_eq_nil_iff]at e;obtain⟨q,r,o⟩:=List.exists_cons_of_length_pos j.l1;have H:q∈Q:=by rw[o];exact Aa
  obtain⟨z,p,i⟩:=List.exists_cons_of_ne_nil (j.ne q H);have:=pQ H (z:=z) (by rw[i];exact Aa);rw[e]at this;cases this
 walk_at"dx";exact k
def RR:zU a b Z Q=a Z (FC b Q):=rfl
theorem Bl.trans(h:Bl x y)(g:Bl y z):Bl x z:=⟨λc=>(h.1 c).trans (g.1 c),λf=>(h.2 f).trans (g.2 f)⟩
def X5{N:List (Qh×List Str)}(f:Qc q)(e:Ho q A)(o:(N.map Prod.fst).Perm (q.zip A))(hc:∀ n∈N,n.2.Perm n.1.1.2)(j:(lvT t).Perm (dE q))(m:a=(N.map tN).map Prod.fst)(r:g=(N.map tN).map Prod.snd) :
  (Qc a/\Ho a g)/\(lvT t).Perm (dE a)/\(∀c,c∈bB q↔c∈bB a)/\oT ((aj (twL a g)).2.map (pk (bB a) (bB q)))=(aj (twL q A)).2/\∀p∈prT t,(jt a g p).2.length=(jt q A p).2.length:=by
 have Q:=(Mz f e).turn o hc;have d:=Q.q;have b:=Q.h;obtain⟨x,y⟩:=V9 f e o hc;rw[← m,← r]at b y;rw[← m]at d x;clear m r Q;have H:∀z∈lvT t,z∈dE q:=λz h=>j.mem_iff.mp h;have k:∀z∈lvT t,z∈dE a:=λz h=>(x z).mpr (H z h);have u:=Kc f e d b H (λz=>(x z).trans j.mem_iff.symm) λz h=>y z (H z h);have v:=Kc f e f e H (λz=>j.mem_iff.symm) λz _=>Bl.refl _;have E:=u.trans v.symm;have T:=HN f e;have w:=HN d b;have l:∀c,c∈bB q↔c∈bB a:=λc=>by rw[← kA e,← kA b];exact(E.1 c).symm
 refine⟨⟨d,b⟩,(List.perm_ext_iff_of_nodup (j.nodup_iff.mpr f.nn) d.nn).mpr λz=>j.mem_iff.trans (x z).symm,l,?_,λp h=>?_⟩
 ·have:=E.cut w T (Mw f e) λc=>by rw[kA b];exact l c
  rw[kA b]at this;rw[this,← kA e,RJ T,RK RL]
 ·have s:=(pV h).1;exact(V6 f e d b (λz i=>H z (s z i)) (λz i=>k z (s z i)) λz i=>y z (H z (s z i))).len (pX d b λz i=>k z (s z i)).1 (pX f e λz i=>H z (s z i)).1
def X6{t:List Tk}{f:Tk->Nat}:dJ (.tup (t.map λp=>D.int (f p:Nat)))=true:=by
 have:=(Rc (t.map λp=>(f p:Int))).1;rwa[tI,map_map]at this
def X7(O:List Int)(hn:O.length<=63):pK [⟨.val,.lst (O.map D.int)⟩] λy _=>y=.val (.bl true):=by
 have Q:(O.map D.int).length=O.length:=eI _;unfold pK Hq;refine LD _ _ _ (λo h=>QU h) ?_;show rH [_,none,none,none,none,none,none,none,none,none,none,none,none,none,none] _;unfold rH;rw[RR];show RS _ _ (FC _ _);walk_at"dx";refine QE (by decide) (by decide) λa b=>?_;walk_at"dx";rw[RR];refine QV (tE cH) ?_;walk_at"dx";refine Q1 λl a1 R c=>?_;have w:=c.l6;walk_at"dx";refine Q8 (.inl rfl) c λY a2 S e=>?_;walk_at"dx";refine⟨gY (by rw[eI];exact w) (by decide),aU (λq:Str×List Str=>D.str q.1) qP l [_,_,_,_,none,none,none,none,none,none,none,none,none,none,none] rfl (λq c=>?_) ?_⟩;unfold qP;walk_at"dx"
 rw[show(l.map λq=>D.str q.1)=(dE l).map D.str by unfold dE;rw[map_map];rfl];walk_at"dx";refine mL e.l w (Mt c e) ?_;walk_at"dx";refine X3 c e λM a3 T H hc=>?_;have TA:=λ{t:Tk} (I:(lvT t).Perm (dE l))=>X5 c e H hc I rfl rfl;generalize (M.map tN).map Prod.fst=x at TA ⊢;generalize (M.map tN).map Prod.snd=z at TA ⊢;walk_at"dx";generalize J:(if(if((O.map D.int).length:Int)<5 then((O.map D.int).length:Int)else(5:Int)) > 3 then(if((O.map D.int).length:Int)<5 then((O.map D.int).length:Int)else(5:Int))else 3)=N;have U:3<=N/\N<=5:=by rw[← J];split<;>split<;>lia
 rw[YT];refine⟨⟨by decide,by lia⟩,?_⟩;have K:(dE l).length=l.length:=eI _;have V:=c.l1;refine eV (λi A=>i<=5/\∃(B C f g j:Bool) (E F k m n:D),A=[_,_,_,_,_,_,_,_,ov B E,ov C F,ov f k,ov g m,ov j n,none,none]) ⟨Ad _,false,false,false,false,false,.non,.non,.non,.non,.non,rfl⟩ ?_ ?_;rintro i d A hd ⟨L,B,C,f,g,j,E,F,k,m,n,rfl⟩;obtain⟨hi,rfl⟩:=hW hd;walk_at"dx";refine QE (by lia) (by lia) λa4 W=>?_;walk_at"dx";refine T7 (by simp_all) (by simp_all) λt a5 X v=>?_;walk_at"dx";refine wV c e v ?_;rw[nE c e v];walk_at"dx";refine tW (Mh _).1 ?_;walk_at"dx";refine W9 c e v ?_;walk_at"dx";obtain⟨⟨r,s⟩,u,G,es,π⟩:=TA v;refine wV r s u ?_;rw[nE r s u,show((prT t).map λp=>D.int ((jt x z p).2.length:Nat))=(prT t).map λp=>D.int ((jt l Y p).2.length:Nat)from map_congr_left λp P=>by rw[π p P]];walk_at"dx";refine X4 c e r s G ?_;rw[es];walk_at"dx";refine tW (Mh _).1 ?_;walk_at"dx";refine tW X6 ?_;walk_at"dx";exact⟨_,.inl rfl,by grind,true,true,true,true,true,.int (1+(i:Int)),nL t,.tup ((aj (twL l Y)).2.map tI),.tup ((prT t).map λp=>.int ((jt l Y p).2.length:Nat)),_,rfl⟩;rintro A ⟨L,B,C,f,g,j,E,F,k,m,n,rfl⟩;walk_at"dx";refine mL e.l w (Mt c e) ?_;walk_at"dx";refine tW (Mh _).1 ?_;walk_at"dx"
def RU:Iy:=⟨λi=>[127,134,146,141,153,160,167,172,179,184,191,196,61,51,46,68,41,73,80,85,99,229,203,19,92,113,56,24,120,217,210,34,106,29,224,234,239].getD i 0,λi=>[PySem.cC6,PySem.cC7,PySem.cC9,PySem.cC8,PySem.cD0,PySem.cD1,PySem.cD2,PySem.cD3,PySem.cD4,PySem.cD5,PySem.cD6,PySem.cD7,PySem.dE5,PySem.dE3,PySem.dE2,PySem.dE6,PySem.dE1,PySem.dE7,PySem.dE8,PySem.dE9,PySem.dF1,PySem.cE2,PySem.cD8,PySem.dD7,PySem.dF0,PySem.cC4,PySem.dE4,PySem.dD8,PySem.cC5,PySem.cE0,PySem.cD9,PySem.dE0,PySem.cC3,PySem.dD9,PySem.cE1,PySem.cE3,PySem.aC5].getD i default⟩
def X8(e:a=W.fnOf x x (rP s) (kH s) (cK s) .none .none .none a.pyModule none a.code .none)(l:K.lookup f=some ⟨.type "function",none,.func a,#[]⟩)(d:W.codeIn K a.code x=true)(k:W.keepIn K (.ref f)=true):Eg K x x s f a:=⟨⟨_,_,_,_,_,_,_,_,_,e,l,d⟩,k⟩
def X9(X:(PySem.KF P).In h)(G:h.Ns mainGlobals mg):Txt (PySem.KF P) mg RU:=by
 refine⟨?_,?_,λx h=>?_⟩
 ·unfold tb
  repeat' first|exact JF|refine sN (W.mg_of X G (by kernel_rfl)) ?_
 ·unfold tb
  repeat' first|exact JF|refine sN (X8 (by kernel_rfl) (by kernel_rfl) (by kernel_rfl) (by kernel_rfl)) ?_
 ·repeat' (first|cases h;done|(cases h with|head=>exact W.mg_none_of X G (by kernel_rfl)|tail _ h=>?_))
def Y0(T:Txt (PySem.KF w.params) mg RU):Au P w (PySem.KF w.params) mg base Dw 10 239 PySem.aC5 ["_law_script"] (DB 1 pK):=
 Q0 T
def cC2:W.WalkO PySem.Vw [] (W.XL PySem.Vw []) (W.InK PySem.KF) PySem.Challenge.rw_mostrows_k27_whole_any_tree.row.toRowW PySem.dU7 [] (λf i=>PySem.call f i):=by
 refine PySem.cL7 (l:=PySem.Challenge.rw_mostrows_k27_whole_any_tree) (K:=PySem.KF) (n:=63) (k:=10) (x:="_law_script") (CX:=λ_=>Dw) (sp:=λw=>DB 1 pK) rfl (by decide) (by kernel_rfl) ⟨rfl,by decide,by decide,rfl⟩ (λw h Y=>Y) (λw m g h X G e=>?_) (λw _ a N b c H=>v5 (tE LD) (by kernel_rfl) c H (X7 N b)) λ_ _ _ _ _ z=>z;have T:=X9 X G;have d:=(T.m 36 _ rfl).symm.trans e;cases d;exact⟨PySem.aC5,λs v=>.of_eq (by kernel_rfl),λB _ _=>Y0 T⟩
end PySem
open PySem.W PySem PyProof.Rows
theorem PySem.Challenge.cw_mostrows_k27_whole_any_tree_holds : PySem.Challenge.rw_mostrows_k27_whole_any_tree.Holds :=
 PySem.eE5 PySem.cC2
