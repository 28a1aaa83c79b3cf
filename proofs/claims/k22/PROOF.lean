import PyProof.Rows.All
import Wide.All
import OpenK.AllK
import Wide.FinOn
import Lean
import PyProof.EqAt
import PyProof.EqKinds
import PyProof.TupleCall
import PyProof.StationsW
import PyProof.RulesAs
import PyProof.ExcClass2
import PyProof.Rows.Exc
import OpenK.KMake
import PyProof.InstStoreFacts
import OpenK.KCls
import PyProof.ExcArgsOwn
import PyProof.ExcAttrAll.ValueError
import PyProof.FitsInt
import PyProof.FString
import PyProof.FString4
import PyProof.StrLawsRepr
import PyProof.NsDelKeeps
import PyProof.NoPylong
import PyProof.FitsBits
import PyProof.Rows.RuleM_int
import PyProof.P3In
import PyProof.NeData
import PyProof.Draws
import PyProof.ZipIter
import PyProof.EnumMake
import PyProof.ListMulAny
import PySem.SetOps
import PyProof.SetScanFacts
import PyProof.WalksMore
import PyProof.SetNew
import PyProof.SetKind
import PyProof.Rows.SetFrom
import PyProof.TupleKey
import PyProof.IsRules
import PyProof.SetRoads
import PyProof.ListMulRoad
import PyProof.Rows.ListMulArg
import PyProof.Rows.SumAny
import PyProof.AttrMissHeap
import PyProof.FactsAll.zip_1
import Wide.Seal
import PyProof.P3Eq
import PyProof.WalkInts
import PyProof.SeqI3
import PyProof.Rows.CallKwBuiltin
import PyProof.DictRoadsH
import PySem.Challenge.RW_mostrows_k22_levels_and_looks
set_option compiler.extract_closed false
set_option Elab.async false
set_option linter.all false
set_option maxRecDepth 100000
set_option maxHeartbeats 4000000
set_option bootstrap.genMatcherCode false
set_option genSizeOf false
set_option genSizeOfSpec false
set_option tactic.hygienic false
open List(length_map mem_cons size_toArray map_cons length_cons range getElem_inj of_mem_zip replicate take_sublist replicate_succ flatten_cons foldl append_assoc foldl_cons lookup_cons length_range drop_eq_getElem_cons drop_zero find?_cons drop_length length_singleton length_nil not_mem_nil pairwise_singleton range' map_map toArray length_zip take_append_drop take_add drop_drop mem_of_mem_drop take_length getElem?_of_mem getElem?_take getElem?_drop take_append take_take map_congr_left filter_append length_filter_le filter_nil)
open Nat(zero_le le_succ succ_le_succ succ_mul add_comm le_of_eq add_le_add_left le_succ_of_le mul_assoc lt_succ_of_lt mod_lt succ_pos lt_succ_of_le lt_of_le_of_ne sub_lt_of_lt sub_add_cancel le_add_right exists_eq_add_of_le add_assoc add_sub_cancel_left sub_lt one_pos pos_of_ne_zero min_eq_left add_zero lt_or_ge)
open PySem.Value(isInt_shape type)
open Option(map_some getD_none getD_some)
open PySem.Heap(SameBut ExtBut IsTuple IsList)
open False(elim)
open PySem.Builtin.Str(occurrences glued reprChar)
open PySem.Builtin.Slice(sliceAdjust slicePlaces)
open PySem.Str(ofString)
open PySem.Builtin.Tuple(tupleItemsOf tupleExact)
open PySem.Obj(mapSeq putSet)
open PySem.Builtin.List(listTooLong listLengthHint listSameRef)
open PySem.Txt(slice)
open PySem.Builtin.SmallTypes(ownedTupleIsFree nextOf ownedTupleHandOut)
open Array(size_push toList_append size_map size_append toList_reverse)
open PySem.PyData(canLayAll0 depthAll depth eqvAll hasDictAll shownAll canLay0 showable)
open Int(toNat_natCast le_trans emod_nonneg natCast_add)
open List.Pairwise(imp_of_mem filter)
open Bool(false_eq_true)
open List.Perm(append_left)
noncomputable section
def dV:=@PySem.wpAny_bind
def gX:=@PySem.wpAny_pure
def a0m:=@if_neg
def eH:=@if_pos
def AS:=@PySem.wpAny_holding
def Dx:=@decide_eq_true_eq
def Bs:=@PySem.wpAny_field
def Cr:=@PySem.wpAny_call_entry
def Ct:=@PySem.sizeLine_eq
def Df:=@PySem.wpAny_seqItems
def Cf:=@PySem.wpAny_rule
def BO:=@congrArg
def ED:=@PySem.wpAny_Call_Name_kw
def Cu:=@PySem.wpAny_mono
def EE:=@PySem.wpAny_newObj_type
def EF:=@PySem.codeAny_builtin
def Fp:=@decide_eq_false
def Fq:=@PySem.wpAny_passesOwn
def Q4:=@bne_self_eq_false
def Dy:=@PySem.call_meets
def DZ:=@beq_iff_eq
def FY:=@decide_eq_true
def Q5:=@if_false
def Ii:=@PySem.wpAny_getItem_str_slice
def Q6:=@if_true
def Fs:=@PySem.wpAny_attempt
def Hg:=@PySem.wpAny_pyIter_tuple
def FZ:=@PySem.wpAny_specialOf
def Dz:=@PySem.putSet_of
def Hi:=@PySem.wpAny_truthy_bool
def Ft:=@PySem.wpAny_typeOf
def Hj:=@PySem.wpAny_askSetting
def Ga:=@PySem.plainId_quiet
def JA:=@PySem.wpAny_loadPart'
def Gb:=@PySem.codeAny_mono
def Hk:=@PySem.wpAny_setField
def Hl:=@PySem.wpAny_standAt
def JB:=@PySem.builtinLookup_eq_fast
def JC:=@PySem.wpAny_setEntries_of
def JD:=@PySem.wpAny_updateSeq
def hR:=@List.getElem?_eq_some_iff
def fI:=@length_map
def nL:=@List.getElem?_eq_getElem
def pL:=@List.mem_cons_self
def Ac:=@PySem.Heap.get?_push_of_some
def Ae:=@List.getElem?_set_ne
def Aa:=@List.mem_singleton
def Af:=@List.mem_cons_of_mem
def hC:=@Nat.le_refl
def hQ:=@Nat.le_trans
def AB:=@Classical.byContradiction
def sU:=@List.mem_append
def Al:=@PySem.Heap.get?_push_size
def Ao:=@List.mem_of_getElem?
def oT:=@List.mem_map
def sL:=@PySem.Heap.lt_size
def sY:=@mem_cons
def An:=@List.getElem?_map
def Au:=@Nat.lt_of_lt_of_le
def Av:=@List.length_append
def Aj:=@List.map_append
def sS:=@zero_le
def Ap:=@Option.some.inj
def Bz:=@List.getElem?_append_left
def Bg:=@Option.map_eq_some_iff
def Bo:=@List.getElem?_set_self
def Bh:=@Array.getElem?_toList
def BP:=@Array.getElem?_eq_getElem
def Ca:=@List.nodup_iff_pairwise_ne
def Aq:=@Nat.le_of_lt
def BQ:=@List.mem_append_right
def BF:=@List.mem_of_mem_take
def BA:=@Array.length_toList
def BS:=@List.getElem?_toArray
def Bi:=@List.length_take
def CC:=@List.getD_eq_getElem?_getD
def Ay:=@Nat.ne_of_lt
def Cg:=@List.take_of_length_le
def oI:=@Ne.symm
def CP:=@List.getElem?_append_right
def DB:=@List.eq_nil_of_length_eq_zero
def Cb:=@Nat.lt_of_le_of_lt
def BU:=@size_toArray
def Cv:=@List.getElem_of_mem
def CQ:=@PySem.Heap.get?_update_self
def Bt:=@Nat.lt_irrefl
def Bj:=@Nat.zero_add
def DC:=@PySem.Heap.get?_update_other
def Ci:=@List.append_nil
def Cc:=@List.mem_range
def EG:=@List.getElem?_eq_none_iff
def Fu:=@PyProof.Rows.callWith_type1
def Gd:=@PyProof.Rows.slot_tuple_getitem
def Dg:=@List.pairwise_cons
def Fv:=@Array.getElem?_eq_some_iff
def EH:=@List.getElem?_cons_succ
def EI:=@PySem.F.plainAttrs_list
def CD:=@List.nodup_cons
def Cj:=@map_cons
def CS:=@List.length_set
def Eb:=@PySem.Heap.SameBut.update
def Dh:=@List.getElem_mem
def DD:=@Array.toList_push
def DF:=@Nat.le_of_lt_succ
def Ck:=@Nat.lt_trans
def Ec:=@Bool.false_ne_true
def DH:=@List.length_drop
def DJ:=@List.all_eq_true
def DK:=@Nat.le_of_not_lt
def Ed:=@List.take_add_one
def EJ:=@Nat.lt_succ_self
def Ee:=@length_cons
def EK:=@List.ext_getElem?
def DL:=@PySem.Heap.size_push
def Ef:=@Nat.not_lt_zero
def Ge:=@List.mem_append_left
def Gf:=@PySem.Around.under_plainId
def DM:=@List.map_take
def JE:=@PyProof.Rows.F.plain_set_update_loop
def Ij:=@PySem.F.slot_tuple_iterator_next
def Fw:=@Bool.and_eq_true
def Fx:=@PySem.PassesOwn.never
def Eg:=@Nat.mul_comm
def Hm:=@PySem.mem_of_lookup
def Hn:=@PySem.F.plain_extend_loop
def Ik:=@Array.getElem?_eq_none
def Hq:=@List.mem_filterMap
def Hr:=@Int.emod_lt_of_pos
def EL:=@Nat.pow_succ
def Hs:=@Nat.lt_of_not_le
def EM:=@Nat.not_lt
def Gg:=@Nat.ne_of_gt
namespace PySem
section
open W
noncomputable def AY(i:Nat):Stmt:=PySem.Challenge.pw_mostrows_k22_levels_and_looks.main.body.getD i (.Pass ⟨0,0,0,0⟩)
noncomputable def kG(x q:Str)(s:Stmt)(m:Value)(c:Addr):FuncData:=match s with
 |.FunctionDef _ a b _ _ _ e _ _ _=>fnOf x q a b e .none .none .none m none (.ref c) .none
 |_=>default
def dP1:DefRec:=match AY 30 with
 |.FunctionDef n a b _ _ _ e _ _ p=>⟨n,a,b,e,p⟩
 |_=>⟨"",default,[],default,default⟩
noncomputable def kE(P:Params)(x:Str)(t:Tok)(v:Value):DictEntry:=⟨PyData.keyHash P x,.str x t,v⟩
noncomputable def kT(l:List Value):Obj:=⟨.type "tuple",none,.seq l.toArray 0,#[]⟩
noncomputable def kF(f:FuncData):Obj:=⟨.type "function",none,.func f,#[]⟩
def cW3:=kG "columns_of" "columns_of" (AY 1) (.str "mostrows.questions" 187) 18
def Ht:Value:=.str "mostrows.tables" 195
def cW4:=kG "table_of" "table_of" (AY 3) Ht 25
def cW5:=kG "places_of" "places_of" (AY 4) Ht 30
def cW6:=kG "picked" "picked" (AY 5) Ht 35
def cW7:=kG "cut" "cut" (AY 6) Ht 40
def cW8:=kG "grouped" "grouped" (AY 7) Ht 47
def cW9:=kG "tables_of" "tables_of" (AY 9) (.str "mostrows.houses" 236) 52
def Il:Value:=.str "mostrows.columnwise" 244
def cX0:=kG "first_rows" "first_rows" (AY 11) Il 57
def cX1:=kG "tellers_of" "tellers_of" (AY 12) Il 62
def cX2:=kG "in_all" "in_all" (AY 13) Il 67
def cX3:=kG "by_columns" "by_columns" (AY 14) Il 72
def mN:Value:=.str "law_mostrows_k22_levels_and_looks" 270
def cX4:=kG "_law_box" "_law_box" (AY 16) mN 79
def cX5:=kG "_law_take" "_law_take" (AY 17) mN 86
def cX6:=kG "_law_order" "_law_order" (AY 18) mN 93
def cX7:=kG "_law_names" "_law_names" (AY 19) mN 98
def bW5:=kG "_law_some_columns" "_law_some_columns" (AY 20) mN 105
def bW6:=kG "_law_any_tables" "_law_any_tables" (AY 21) mN 112
def bW7:=kG "_law_ear_tables" "_law_ear_tables" (AY 22) mN 119
def bW8:=kG "_law_ring_tables" "_law_ring_tables" (AY 23) mN 124
def bW9:=kG "_law_question" "_law_question" (AY 24) mN 131
def bX0:=kG "_law_columns" "_law_columns" (AY 25) mN 136
def bX1:=kG "_law_value" "_law_value" (AY 26) mN 143
def bX2:=kG "_law_house" "_law_house" (AY 27) mN 148
def bX3:=kG "_law_lists" "_law_lists" (AY 28) mN 153
def bX4:=kG "_law_due" "_law_due" (AY 29) mN 158
def yV:=kG "law" "law" (AY 30) mN 163
noncomputable def kC(x:Str)(a:Tok)(q:Str)(b c:Tok)(d e f:Int)(g:Addr)(h:Int)(i j k l:Addr)(m n:Int)(o:Tok):Obj:=⟨.type "code",none,.fields #[.str x a,.str q b,.str "/claim/cut.py" c,.int d 0,.int e 0,.int 0 0,.int 0 0,.int f 0,.ref g,.bool true,.int h 0,.ref i,.none,.ref j,.ref k,.ref l,.int m 0,.int n 0,.str "/claim/cut.py" o],#[]⟩
noncomputable def KF(P:Params):W.Frag:=[
(2,⟨.none,none,(.dict #[] 0),#[]⟩),
(3,⟨(.type "dict"),none,(.dict #[kE P "__name__" 165 (.str "law_mostrows_k22_levels_and_looks" 270),kE P "__doc__" 166 .none,kE P "__package__" 167 .none,kE P "__loader__" 168 (.builtin "__main__.__loader__#opaque"),kE P "__spec__" 169 .none,kE P "__annotations__" 170 (.ref 6),kE P "__builtins__" 171 (.ref 4),kE P "__file__" 173 (.str "/claim/cut.py" 172),kE P "__cached__" 174 .none,kE P "columns_of" 194 (.ref 19),kE P "table_of" 204 (.ref 26),kE P "places_of" 210 (.ref 31),kE P "picked" 216 (.ref 36),kE P "cut" 222 (.ref 41),kE P "grouped" 235 (.ref 48),kE P "tables_of" 243 (.ref 53),kE P "first_rows" 251 (.ref 58),kE P "tellers_of" 257 (.ref 63),kE P "in_all" 263 (.ref 68),kE P "by_columns" 269 (.ref 73),kE P "_law_box" 281 (.ref 80),kE P "_law_take" 291 (.ref 87),kE P "_law_order" 301 (.ref 94),kE P "_law_names" 307 (.ref 99),kE P "_law_some_columns" 316 (.ref 106),kE P "_law_any_tables" 327 (.ref 113),kE P "_law_ear_tables" 341 (.ref 120),kE P "_law_ring_tables" 347 (.ref 125),kE P "_law_question" 359 (.ref 132),kE P "_law_columns" 365 (.ref 137),kE P "_law_value" 374 (.ref 144),kE P "_law_house" 380 (.ref 149),kE P "_law_lists" 386 (.ref 154),kE P "_law_due" 392 (.ref 159),kE P "law" 398 (.ref 164)] 35),#[]⟩),
(15,kT []),
(18,⟨(.type "code"),none,(.fields #[(.str "columns_of" 189),(.str "columns_of" 190),(.str "/claim/cut.py" 191),(.int 2 0),(.int 1 0),(.int 0 0),(.int 0 0),(.int 3 0),(.ref 15),(.bool true),(.int 181 0),(.ref 16),.none,.none,.none,(.ref 17),(.int 192 0),(.int 2 0),(.str "/claim/cut.py" 193)]),#[]⟩),
(19,kF cW3),
(20,kT []),
(22,kT [(.str "columns" 200),(.str "rows" 201)]),
(23,kT []),
(25,kC "table_of" 197 "table_of" 198 199 8 2 3 20 181 21 22 23 24 202 8 203),
(26,kF cW4),
(27,kT []),
(30,⟨(.type "code"),none,(.fields #[(.str "places_of" 205),(.str "places_of" 206),(.str "/claim/cut.py" 207),(.int 10 0),(.int 2 0),(.int 0 0),(.int 0 0),(.int 3 0),(.ref 27),(.bool true),(.int 181 0),(.ref 28),.none,.none,.none,(.ref 29),(.int 208 0),(.int 10 0),(.str "/claim/cut.py" 209)]),#[]⟩),
(31,kF cW5),
(32,kT []),
(35,⟨(.type "code"),none,(.fields #[(.str "picked" 211),(.str "picked" 212),(.str "/claim/cut.py" 213),(.int 12 0),(.int 2 0),(.int 0 0),(.int 0 0),(.int 3 0),(.ref 32),(.bool true),(.int 181 0),(.ref 33),.none,.none,.none,(.ref 34),(.int 214 0),(.int 12 0),(.str "/claim/cut.py" 215)]),#[]⟩),
(36,kF cW6),
(37,kT []),
(40,⟨(.type "code"),none,(.fields #[(.str "cut" 217),(.str "cut" 218),(.str "/claim/cut.py" 219),(.int 14 0),(.int 2 0),(.int 0 0),(.int 0 0),(.int 3 0),(.ref 37),(.bool true),(.int 181 0),(.ref 38),.none,.none,.none,(.ref 39),(.int 220 0),(.int 14 0),(.str "/claim/cut.py" 221)]),#[]⟩),
(41,kF cW7),
(42,kT []),
(44,kT [(.str "table" 226),(.str "columns" 227),(.str "others" 228),(.str "places" 229),(.str "other_places" 230),(.str "groups" 231),(.str "row" 232)]),
(45,kT []),
(47,kC "grouped" 223 "grouped" 224 225 17 3 3 42 181 43 44 45 46 233 17 234),
(48,kF cW8),
(49,kT []),
(52,⟨(.type "code"),none,(.fields #[(.str "tables_of" 238),(.str "tables_of" 239),(.str "/claim/cut.py" 240),(.int 25 0),(.int 2 0),(.int 0 0),(.int 0 0),(.int 3 0),(.ref 49),(.bool true),(.int 181 0),(.ref 50),.none,.none,.none,(.ref 51),(.int 241 0),(.int 25 0),(.str "/claim/cut.py" 242)]),#[]⟩),
(53,kF cW9),
(54,kT []),
(57,⟨(.type "code"),none,(.fields #[(.str "first_rows" 246),(.str "first_rows" 247),(.str "/claim/cut.py" 248),(.int 28 0),(.int 1 0),(.int 0 0),(.int 0 0),(.int 3 0),(.ref 54),(.bool true),(.int 181 0),(.ref 55),.none,.none,.none,(.ref 56),(.int 249 0),(.int 28 0),(.str "/claim/cut.py" 250)]),#[]⟩),
(58,kF cX0),
(59,kT []),
(62,⟨(.type "code"),none,(.fields #[(.str "tellers_of" 252),(.str "tellers_of" 253),(.str "/claim/cut.py" 254),(.int 30 0),(.int 3 0),(.int 0 0),(.int 0 0),(.int 3 0),(.ref 59),(.bool true),(.int 181 0),(.ref 60),.none,.none,.none,(.ref 61),(.int 255 0),(.int 30 0),(.str "/claim/cut.py" 256)]),#[]⟩),
(63,kF cX1),
(64,kT []),
(67,⟨(.type "code"),none,(.fields #[(.str "in_all" 258),(.str "in_all" 259),(.str "/claim/cut.py" 260),(.int 38 0),(.int 2 0),(.int 0 0),(.int 0 0),(.int 3 0),(.ref 64),(.bool true),(.int 181 0),(.ref 65),.none,.none,.none,(.ref 66),(.int 261 0),(.int 38 0),(.str "/claim/cut.py" 262)]),#[]⟩),
(68,kF cX2),
(69,kT []),
(72,⟨(.type "code"),none,(.fields #[(.str "by_columns" 264),(.str "by_columns" 265),(.str "/claim/cut.py" 266),(.int 40 0),(.int 3 0),(.int 0 0),(.int 0 0),(.int 3 0),(.ref 69),(.bool true),(.int 181 0),(.ref 70),.none,.none,.none,(.ref 71),(.int 267 0),(.int 40 0),(.str "/claim/cut.py" 268)]),#[]⟩),
(73,kF cX3),
(74,kT []),
(76,kT [(.str "_law_script" 275),(.str "_law_k" 276),(.str "_law_cell" 277),(.str "_law_seed" 278)]),
(77,kT []),
(79,kC "_law_box" 272 "_law_box" 273 274 57 2 3 74 181 75 76 77 78 279 57 280),
(80,kF cX4),
(81,kT []),
(83,kT [(.str "_law_box_here" 285),(.str "_law_many" 286),(.str "_law_digit" 287),(.str "_law_one" 288)]),
(84,kT []),
(86,kC "_law_take" 282 "_law_take" 283 284 65 2 3 81 181 82 83 84 85 289 65 290),
(87,kF cX5),
(88,kT []),
(90,kT [(.str "_law_box_here" 295),(.str "_law_things" 296),(.str "_law_left" 297),(.str "_law_found" 298)]),
(91,kT []),
(93,kC "_law_order" 292 "_law_order" 293 294 73 2 3 88 181 89 90 91 92 299 73 300),
(94,kF cX6),
(95,kT []),
(98,⟨(.type "code"),none,(.fields #[(.str "_law_names" 302),(.str "_law_names" 303),(.str "/claim/cut.py" 304),(.int 79 0),(.int 2 0),(.int 0 0),(.int 0 0),(.int 3 0),(.ref 95),(.bool true),(.int 181 0),(.ref 96),.none,.none,.none,(.ref 97),(.int 305 0),(.int 79 0),(.str "/claim/cut.py" 306)]),#[]⟩),
(99,kF cX7),
(100,kT []),
(102,kT [(.str "_law_box_here" 311),(.str "_law_names_here" 312),(.str "_law_many" 313)]),
(103,kT []),
(105,kC "_law_some_columns" 308 "_law_some_columns" 309 310 99 3 3 100 181 101 102 103 104 314 99 315),
(106,kF bW5),
(107,kT []),
(109,kT [(.str "_law_box_here" 320),(.str "_law_names_here" 321),(.str "_law_pool" 322),(.str "_law_found" 323),(.str "_law_k" 324)]),
(110,kT []),
(112,kC "_law_any_tables" 317 "_law_any_tables" 318 319 101 2 3 107 181 108 109 110 111 325 101 326),
(113,kF bW6),
(114,kT []),
(116,kT [(.str "_law_box_here" 331),(.str "_law_names_here" 332),(.str "_law_left" 333),(.str "_law_found" 334),(.str "_law_k" 335),(.str "_law_own" 336),(.str "_law_one" 337),(.str "_law_j" 338)]),
(117,kT []),
(119,kC "_law_ear_tables" 328 "_law_ear_tables" 329 330 107 2 3 114 181 115 116 117 118 339 107 340),
(120,kF bW7),
(121,kT []),
(124,⟨(.type "code"),none,(.fields #[(.str "_law_ring_tables" 342),(.str "_law_ring_tables" 343),(.str "/claim/cut.py" 344),(.int 124 0),(.int 2 0),(.int 0 0),(.int 0 0),(.int 3 0),(.ref 121),(.bool true),(.int 181 0),(.ref 122),.none,.none,.none,(.ref 123),(.int 345 0),(.int 124 0),(.str "/claim/cut.py" 346)]),#[]⟩),
(125,kF bW8),
(126,kT []),
(128,kT [(.str "_law_box_here" 351),(.str "_law_kind" 352),(.str "_law_columns_here" 353),(.str "_law_tables" 354),(.str "_law_way" 355),(.str "_law_sets" 356)]),
(129,kT []),
(131,kC "_law_question" 348 "_law_question" 349 350 137 2 3 126 181 127 128 129 130 357 137 358),
(132,kF bW9),
(133,kT []),
(136,⟨(.type "code"),none,(.fields #[(.str "_law_columns" 360),(.str "_law_columns" 361),(.str "/claim/cut.py" 362),(.int 151 0),(.int 1 0),(.int 0 0),(.int 0 0),(.int 3 0),(.ref 133),(.bool true),(.int 181 0),(.ref 134),.none,.none,.none,(.ref 135),(.int 363 0),(.int 151 0),(.str "/claim/cut.py" 364)]),#[]⟩),
(137,kF bX0),
(138,kT []),
(140,kT [(.str "_law_box_here" 369),(.str "_law_span" 370),(.str "_law_value_here" 371)]),
(141,kT []),
(143,kC "_law_value" 366 "_law_value" 367 368 156 2 3 138 181 139 140 141 142 372 156 373),
(144,kF bX1),
(145,kT []),
(148,⟨(.type "code"),none,(.fields #[(.str "_law_house" 375),(.str "_law_house" 376),(.str "/claim/cut.py" 377),(.int 161 0),(.int 3 0),(.int 0 0),(.int 0 0),(.int 3 0),(.ref 145),(.bool true),(.int 181 0),(.ref 146),.none,.none,.none,(.ref 147),(.int 378 0),(.int 161 0),(.str "/claim/cut.py" 379)]),#[]⟩),
(149,kF bX2),
(150,kT []),
(153,⟨(.type "code"),none,(.fields #[(.str "_law_lists" 381),(.str "_law_lists" 382),(.str "/claim/cut.py" 383),(.int 184 0),(.int 4 0),(.int 0 0),(.int 0 0),(.int 3 0),(.ref 150),(.bool true),(.int 181 0),(.ref 151),.none,.none,.none,(.ref 152),(.int 384 0),(.int 184 0),(.str "/claim/cut.py" 385)]),#[]⟩),
(154,kF bX3),
(155,kT []),
(158,⟨(.type "code"),none,(.fields #[(.str "_law_due" 387),(.str "_law_due" 388),(.str "/claim/cut.py" 389),(.int 192 0),(.int 3 0),(.int 0 0),(.int 0 0),(.int 3 0),(.ref 155),(.bool true),(.int 181 0),(.ref 156),.none,.none,.none,(.ref 157),(.int 390 0),(.int 192 0),(.str "/claim/cut.py" 391)]),#[]⟩),
(159,kF bX4),
(160,kT []),
(163,⟨(.type "code"),none,(.fields #[(.str "law" 393),(.str "law" 394),(.str "/claim/cut.py" 395),(.int 213 0),(.int 1 0),(.int 0 0),(.int 0 0),(.int 3 0),(.ref 160),(.bool true),(.int 181 0),(.ref 161),.none,.none,.none,(.ref 162),(.int 396 0),(.int 213 0),(.str "/claim/cut.py" 397)]),#[]⟩),
(164,kF yV)]
noncomputable def Vw:Program:=view PySem.Challenge.pw_mostrows_k22_levels_and_looks [1,3,4,5,6,7,9,11,12,13,14,16,17,18,19,20,21,22,23,24,25,26,27,28,29,30]
def Qr:PySem.Challenge.rw_mostrows_k22_levels_and_looks.wellSaid=true:=by kernel_rfl
def Qt:LeftO PySem.Challenge.rw_mostrows_k22_levels_and_looks.row.prog Vw [] (λs=>xlAt Vw [] s&&recOk (RowW.records PySem.Challenge.rw_mostrows_k22_levels_and_looks.row.toRowW) s) (λs=>[2,3,15,18,19,20,22,23,25,26,27,30,31,32,35,36,37,40,41,42,44,45,47,48,49,52,53,54,57,58,59,62,63,64,67,68,69,72,73,74,76,77,79,80,81,83,84,86,87,88,90,91,93,94,95,98,99,100,102,103,105,106,107,109,110,112,113,114,116,117,119,120,121,124,125,126,128,129,131,132,133,136,137,138,140,141,143,144,145,148,149,150,153,154,155,158,159,160,163,164].map s.heap.get?) (λw=>(KF w.params).map λp=>some p.2) 1700:=λw=>by kernel_rfl
def dY3(h:WalkO Vw [] (XL Vw []) (InK KF) PySem.Challenge.rw_mostrows_k22_levels_and_looks.row.toRowW dP1 [] (λf v=>PySem.call f v)):PySem.Challenge.rw_mostrows_k22_levels_and_looks.Holds:=
 holds_law Qr λe=>holds_open (d:=dP1) (kwd:=[]) Qt (InK.of λ_=>by kernel_rfl) InK.keeps (λs e=>xl_of s (Bool.and_eq_true_iff.mp e).1) XL.keeps (by kernel_rfl) (by kernel_rfl) (by kernel_rfl) (λs e=>recFacts_of (Bool.and_eq_true_iff.mp e).2) (by kernel_rfl) e (by kernel_rfl) ⟨rfl,rfl,rfl,rfl,rfl,by decide +kernel⟩ (by w_witness2) h
end
section
open PyProof.Rows Spec
abbrev Key:=Sum Int Str
noncomputable def Gh:Key->Value->Bool
 |.inl k,v=>Value.isInt k v
 |.inr x,v=>Value.isStrOf x v
noncomputable def Qu(w:World):Key->Int
 |.inl k=>hashInt k
 |.inr x=>hashStr w x
def bV:∀{k:Key} {v:Value},Gh k v=true->(∃i t,k=Sum.inl i/\v=Value.int i t)\/(∃x t,k=Sum.inr x/\v=Value.str x t)
 | .inl i,v,h=>by
   obtain⟨t,e⟩:=isInt_shape (k:=i) (v:=v) h;exact .inl ⟨i,t,rfl,e⟩
 | .inr x,v,h=>by
   obtain⟨t,e⟩:=Value.isStrOf_shape (x:=x) (v:=v) h;exact .inr ⟨x,t,rfl,e⟩
def Qv(i:Int)(t:Tok):Gh (.inl i) (.int i t)=true:=by simp[Gh,Value.isInt]
def Qw(x:Str)(t:Tok):Gh (.inr x) (.str x t)=true:=by simp[Gh,Value.isStrOf]
def Qx(a b:Int):decide ((Sum.inl a:Key)=Sum.inl b)=(a==b):=by lia
def Qy(a b:Str):decide ((Sum.inr a:Key)=Sum.inr b)=decide (a=b):=by lia
def Qz(a:Int)(b:Str):decide ((Sum.inl a:Key)=Sum.inr b)=false:=Fp (λq=>nomatch q)
def QB(a:Str)(b:Int):decide ((Sum.inr a:Key)=Sum.inl b)=false:=Fp (λq=>nomatch q)
def cD(prog:Program)(w:World):PySem.KeyKind prog w Key where
 is:=Gh
 hash:=Qu w
 inj:=λv a b g H=>by
  rcases bV g with⟨i,t,rfl,rfl⟩|⟨x,t,rfl,rfl⟩
  ·rcases bV H with⟨j,u,rfl,e⟩|⟨y,u,rfl,e⟩
   ·injection e with c _;rw[c]
   ·exact nomatch e
  ·rcases bV H with⟨j,u,rfl,e⟩|⟨y,u,rfl,e⟩;exact nomatch e;injection e with c _;rw[c]
 byValue:=λk v h=>by
  rcases bV h with⟨i,t,rfl,rfl⟩|⟨x,t,rfl,rfl⟩<;>rfl
 pyHash:=λd h=>by
  rcases bV d with⟨i,t,rfl,rfl⟩|⟨x,t,rfl,rfl⟩;exact wpAny_pyHash_int h;exact wpAny_pyHash_str h
 eqBool:=λf d h=>by
  rcases bV f with⟨i,t,rfl,rfl⟩|⟨x,t,rfl,rfl⟩;rcases bV d with⟨j,u,rfl,rfl⟩|⟨y,u,rfl,rfl⟩;rw[Qx]at h;exact wpAny_eqBool_int h;rw[Qz]at h;exact SeqAt.EqAt.int_str i t y u _ _ _ _ h;rcases bV d with⟨j,u,rfl,rfl⟩|⟨y,u,rfl,rfl⟩;rw[QB]at h;exact SeqAt.EqAt.str_int x t j u _ _ _ _ h;rw[Qy]at h;exact wpAny_eqBool_str h
 «strs»:=λk x t v h=>by
  rcases bV h with⟨i,u,rfl,e⟩|⟨y,u,rfl,e⟩;exact nomatch e;injection e with c _
  subst c;cases v<;>rfl
def vG(prog:Program)(w:World)(i:Int)(t:Tok):(cD prog w).is (.inl i) (.int i t)=true:=Qv i t
def vH(prog:Program)(w:World)(x:Str)(t:Tok):(cD prog w).is (.inr x) (.str x t)=true:=Qw x t
inductive V where
 |non|bl (b:Bool)|int (i:Int)|str (x:Str)|byt (b:Array UInt8)|flt (b:UInt64)|ref (a:Addr)|ty (n:String)
 deriving DecidableEq
def cC:V->Value->Prop
 |.non,u=>u=Value.none
 |.bl b,u=>u=Value.bool b
 |.int i,u=>∃t,u=Value.int i t
 |.str x,u=>∃t,u=Value.str x t
 |.byt b,u=>∃t,u=Value.bytes b t
 |.flt b,u=>∃t,u=Value.float b t
 |.ref a,u=>u=Value.ref a
 |.ty n,u=>u=type n
abbrev bC:List V->List Value->Prop:=Paired cC
theorem bC.length{xs:List V}{u:List Value}(r:bC xs u):xs.length=u.length:=Paired.length r
def bC.get{i:Nat}(r:bC xs U)(e:xs[i]?=some x):∃u,U[i]?=some u/\cC x u:=by
 induction r generalizing i with
 |nil=>cases e
 | cons r _ j=>
   cases i with
   |zero=>obtain rfl:=Ap e;exact⟨_,rfl,r⟩
   |succ i=>exact j e
theorem bC.set(r:cC x u):∀{xs:List V} {U:List Value} (i:Nat),bC xs U->bC (xs.set i x) (U.set i u)
 |_,_,_,.nil=>.nil
 |_,_,0,.cons _ t=>.cons r t
 |_,_,i+1,.cons q t=>.cons q (bC.set r i t)
def bC.append(r:bC xs u)(s:bC y w):bC (xs++y) (u++w):=by
 induction r with
 |nil=>exact s
 |cons r _ i=>exact .cons r i
theorem bC.take:∀{xs:List V} {u:List Value} (n:Nat),bC xs u->bC (xs.take n) (u.take n)
 |_,_,0,_|_,_,_+1,.nil=>.nil
 |_,_,n+1,.cons r t=>.cons r (bC.take n t)
theorem bC.drop:∀{xs:List V} {u:List Value} (n:Nat),bC xs u->bC (xs.drop n) (u.drop n)
 |_,_,0,r=>r
 |_,_,_+1,.nil=>.nil
 |_,_,n+1,.cons _ t=>bC.drop n t
def CF:Option V->Option Value->Prop
 |some v,some u=>cC v u
 |none,none=>True
 |_,_=>False
def KV:List (κ×V)->List (κ×Value)->Prop:=Paired λ(p:κ×V) (q:κ×Value)=>p.1=q.1/\cC p.2 q.2
noncomputable def kV:Key->V
 |.inl i=>.int i
 |.inr x=>.str x
inductive Tk where
 |s (x:Str)|p (a b:Tk)
deriving DecidableEq
noncomputable def JF(w:World):Tk->Int
 |.s x=>hashStr w x
 |.p a b=>reduceHash (Builtin.Tuple.tupleHashOf [JF w a,JF w b])
inductive HO where
 |lst (xs:List V)
 |tup (xs:List V)
 |dK (kvs:List (Key×V))|dT (kvs:List (List Key×V))|dM (kvs:List (Tk×V))
 |set (S:Int->Bool) (n:Nat)
 |ins (C dx:Addr) (fs:List (Str×V))
 |own (x:Addr)
 |xd (fs:List (Str×V))
 |met (f x:Addr)
 |rng (lo hi:Int)
 |frz (o:Obj) (u:HO)
 |tbl (ps:Array Value)
 |ext (φ:Heap->Prop)
abbrev Hp:=Addr->Option HO
noncomputable def gV(H:Hp)(a:Addr)(o:HO):Hp:=λb=>if b=a then some o else H b
def aH:gV H a o a=some o:=by unfold gV;simp
def aF(h:b≠a):gV H a o b=H b:=by unfold gV;rw[a0m h]
def Lu:gV (gV H a o) a u=gV H a u:=by
 funext b;unfold gV;simp_all
def Lv{H:Hp}(h:H a=some o)(h':H b=some u)(d:o≠u):a≠b:=by lia
def bK{H:Hp}(h:H a=some o)(h':H b=none):a≠b:=by lia
def EN(H:Hp):Tk->V->Prop
 |.s x,v=>v=.str x
 |.p a b,v=>∃q x y,v=.ref q/\H q=some (.tup [x,y])/\EN H a x/\EN H b y
theorem EN.mono(a:∀b xs,H b=some (.tup xs)->g b=some (.tup xs)):∀{k:Tk} {v:V},EN H k v->EN g k v
 |.s _,_,h=>h
 |.p _ _,_,⟨q,x,y,e,c,d,f⟩=>⟨q,x,y,e,a _ _ c,EN.mono a d,EN.mono a f⟩
def Lw(h:Heap)(a:Addr):Prop:=∃o,h.get? a=some o/\o.dict=none
section
variable (P:Program)(w:World)
def cH(H:Hp)(h:Heap)(a:Addr):HO->Prop
 |.lst d=>d.length<=sizeLine/\∃(i:List Value) (n:Nat),bC d i/\h.get? a=some {cls:=.type "list",data:=.seq i.toArray n}
 |.tup d=>d.length<=sizeLine/\∃i:List Value,bC d i/\IsTup h a i.toArray/\Lw h a
 |.dK k=>k.length<=sizeLine/\(a==sysModules)=false/\∃r,KV k r/\h.DictOf (cD P w) a r
 | .dT k=>k.length<=sizeLine/\(a==sysModules)=false/\∃ d:List (List Key×Addr×Value),
   Paired (λ(p:List Key×V) (q:List Key×Addr×Value)=>p.1=q.1/\H q.2.1=some (.tup (p.1.map kV))/\cC p.2 q.2.2) k d /\
   ∃o E l,h.get? a=some o/\o.ExactDict/\o.data=.dict E l/\E.toList=d.map (entryOfKey (tupleKind (cD P w)))/\(d.map (·.1)).Nodup
 | .dM k=>k.length<=sizeLine/\(a==sysModules)=false/\∃ d:List (Tk×Value×Value),Paired (λ(p:Tk×V) (q:Tk×Value×Value)=>p.1=q.1/\(∃ y,EN H p.1 y/\cC y q.2.1)/\cC p.2 q.2.2) k d /\
   ∃o E l,h.get? a=some o/\o.ExactDict/\o.data=.dict E l/\E.toList=d.map (λx=>⟨JF w x.1,x.2.1,x.2.2⟩)/\(d.map (·.1)).Nodup
 |.set S n=>h.SetOf (intKind P w) a S n
 | .ins C g e=>H g=some (.own a)/\e.length<=1000/\g≠a/\h.get? a=some (W.instObj C g) /\
   ∃m,h.Ns1 g m/\(∀f,CF (e.lookup f) (m f))/\Within m (e.map (·.1))
 |.own _=>∃o,h.get? a=some o
 |.xd e=>∃m,h.Ns1 a m/\∀f,CF (e.lookup f) (m f)
 |.rng L z=>∃t u v,h.get? a=some {cls:=.type "range",data:=.fields #[.int L t,.int z u,.int 1 v]}
 |.frz o u=>h.get? a=some o/\cH H h a u
 |.tbl s=>h.get? a=some {cls:=.none,data:=.fields s}
 |.met f x=>h.get? a=some (W.methodObj (.ref f) (.ref x))
 |.ext j=>j h/\(∃o,h.get? a=some o)/\∀b c:Heap,j b->(∀o,b.get? a=some o->c.get? a=some o)->j c
def AD(H:Hp)(h:Heap):Prop:=∀a o,H a=some o->cH P w H h a o
end
theorem cH.lt(x:cH P w H h a o):a<h.objs.size:=by
 cases o with
 |lst b=>obtain⟨_,_,_,_,e⟩:=x;exact sL e
 |tup b=>obtain⟨_,_,_,p,_⟩:=x;exact p.lt
 |dK k|dT k|dM k=>obtain⟨_,_,_,_,o,_,_,e,_⟩:=x;exact sL e
 |set S n=>obtain⟨o,_,_,_,e,_⟩:=x;exact sL e
 |ins C j c=>obtain⟨_,_,_,e,_⟩:=x;exact sL e
 |own y=>obtain⟨_,e⟩:=x;exact sL e
 |xd c=>obtain⟨_,⟨_,_,_,e,_⟩,_⟩:=x;exact sL e
 |rng l i=>obtain⟨_,_,_,e⟩:=x;exact sL e
 |frz O u=>obtain⟨e,_⟩:=x;exact sL e
 |tbl g|met f y=>exact sL (show h.get? a=some _ from x)
 |ext d=>obtain⟨_,⟨_,e⟩,_⟩:=x;exact sL e
def Paired.mapP{L:List c}{l:List d}(r:Paired F L l)(f:∀a b,F a b->G a b):Paired G L l:=by
 induction r with
 |nil=>exact .nil
 |cons r _ i=>exact .cons (f _ _ r) i
def cH.stay(x:cH P w H h a o)(k:∀ b u,(b=a\/H b=some (.own a))->h.get? b=some u->h'.get? b=some u)
  (l:∀b,H b=some (.own a)->L b=some (.own a)) (j:∀b xs,H b=some (.tup xs)->L b=some (.tup xs)):cH P w L h' a o:=by
 induction o with
 |lst xs=>obtain⟨z,I,n,r,e⟩:=x;exact⟨z,I,n,r,k _ _ (.inl rfl) e⟩
 |tup xs=>obtain⟨z,I,r,⟨O,e,c⟩,⟨g,i,m⟩⟩:=x;exact⟨z,I,r,⟨O,k _ _ (.inl rfl) e,c⟩,⟨g,k _ _ (.inl rfl) i,m⟩⟩
 |dK B=>obtain⟨z,y,N,r,O,E,A,e,c⟩:=x;exact⟨z,y,N,r,O,E,A,k _ _ (.inl rfl) e,c⟩
 | dT B=>
   obtain⟨z,y,xs,r,O,E,A,e,c⟩:=x;exact⟨z,y,xs,Paired.mapP r λp q z=>⟨z.1,j _ _ z.2.1,z.2.2⟩,O,E,A,k _ _ (.inl rfl) e,c⟩
 | dM B=>
   obtain⟨z,y,xs,r,O,E,A,e,c⟩:=x;exact⟨z,y,xs,Paired.mapP r λp q z=>⟨z.1,let ⟨y,a,b⟩:=z.2.1;⟨y,a.mono j,b⟩,z.2.2⟩,O,E,A,k _ _ (.inl rfl) e,c⟩
 |set S n=>obtain⟨O,E,A,t,e,c⟩:=x;exact⟨O,E,A,t,k _ _ (.inl rfl) e,c⟩
 | ins C dx U=>
   obtain⟨d,z,T,e,M,⟨G,E,A,i,c⟩,r⟩:=x;exact⟨l _ d,z,T,k _ _ (.inl rfl) e,M,⟨G,E,A,k _ _ (.inr d) i,c⟩,r⟩
 |own y=>obtain⟨O,e⟩:=x;exact⟨O,k _ _ (.inl rfl) e⟩
 |xd U=>obtain⟨M,⟨G,E,A,e,c⟩,r⟩:=x;exact⟨M,⟨G,E,A,k _ _ (.inl rfl) e,c⟩,r⟩
 |rng lo hi=>obtain⟨t,u,v,e⟩:=x;exact⟨t,u,v,k _ _ (.inl rfl) e⟩
 |frz O u s=>obtain⟨e,q⟩:=x;exact⟨k _ _ (.inl rfl) e,s q⟩
 | tbl Q=>
   have e:h.get? a=some {cls:=.none,data:=.fields Q}:=x;exact k a _ (.inl rfl) e
 | met f y=>
   have e:h.get? a=some (W.methodObj (.ref f) (.ref y)):=x;exact k a _ (.inl rfl) e
 |ext Y=>obtain⟨p,⟨o,e⟩,J⟩:=x;exact⟨J _ _ p λo q=>k _ _ (.inl rfl) q,⟨o,k _ _ (.inl rfl) e⟩,J⟩
theorem AD.lt(x:AD P w H h)(e:H a=some o):a<h.objs.size:=(x a o e).lt
theorem AD.fresh{a:Addr}(x:AD P w H h)(e:h.objs.size<=a):H a=none:=by
 cases q:H a with
 |none=>rfl
 |some u=>exact absurd (Au (x.lt q) e) (Bt _)
def AD.kept(x:AD P w H h)(k:∀b u,h.get? b=some u->h'.get? b=some u):AD P w H h':=λa o e=>
 (x a o e).stay (λb u _ q=>k b u q) (λ_ q=>q) λ_ _ q=>q
def AD.laid{a:Addr}(x:AD P w H h)(k:∀b u,h.get? b=some u->h'.get? b=some u)(d:h.objs.size<=a)(f:cH P w (gV H a o) h' a o):AD P w (gV H a o) h':=λb u e=>by
 have g:=x.fresh d;by_cases i:b=a;subst i;rw[aH]at e;lia;rw[aF i]at e;exact(x b u e).stay (λc v _ q=>k c v q) (λc q=>by rw[aF (bK q g)];exact q) λc j q=>by rw[aF (bK q g)];exact q
def Rd(H:Hp)(a:Addr)(u:HO):Prop:=H a=some u\/∃o,H a=some (.frz o u)
theorem Rd.ok(r:Rd H a u)(x:AD P w H h):cH P w H h a u:=by
 rcases r with r|⟨o,r⟩;exact x a u r;obtain⟨_,q⟩:=x a _ r;exact q
def Hu:Option HO->Prop
 |some (.lst _)|some (.dK _)|some (.dT _)|some (.dM _)|some (.set _ _)|some (.ins _ _ _)|some (.ext _)=>True
 |_=>False
def AD.write(ok:AD P w H h)(mu:Hu (H x))(l:e=x\/H e=some (.own x))(k:∀ b u,b≠e->h.get? b=some u->h'.get? b=some u)(f:∃ u,h'.get? e=some u)
  (i:cH P w (gV H x o') h' x o'):AD P w (gV H x o') h':=λb u q=>by
 have a:∀c y,H c=some (.own y)->c≠x:=λc y r z=>by subst z;rw[r]at mu;exact mu
 have d:∀c n,H c=some (.tup n)->c≠x:=λc n r z=>by subst z;rw[r]at mu;exact mu
 by_cases o:b=x;subst o;rw[aH]at q;lia;rw[aF o]at q;by_cases j:b=e
 ·have g:H b=some (.own x):=by lia
  rw[q]at g;cases g;obtain⟨v,m⟩:=f;exact⟨v,by simp_all⟩
 ·refine(ok b u q).stay (λc v hc r=>k c v ?_ r) (λc r=>by rw[aF (a c b r)];exact r) λc n r=>by rw[aF (d c n r)];exact r
  grind
structure Un(fs ex:List Addr)(H H':Hp)(h h':Heap):Prop where
 keep:∀b o,h.get? b=some o->H b=none->b∉fs->b∉ex->h'.get? b=some o
 slot:∀b o,h.get? b=some o->H b=none->b∈fs->b∉ex->∃sl,h'.get? b=some {o with slots:=sl}
 free:∀b o,h.get? b=some o->H b=none->b∉ex->H' b=none
 there:∀b o,h.get? b=some o->b∉ex->∃o',h'.get? b=some o'
 tups:∀b xs,H b=some (.tup xs)->H' b=some (.tup xs)
 frzs:∀b o u,H b=some (.frz o u)->H' b=some (.frz o u)
 tbls:∀b ps,H b=some (.tbl ps)->∃more,H' b=some (.tbl (ps++more))
def Un.any(u:Un f ex H e h d)(q:h.get? b=some ob)(n:H b=none)(a:b∉ex):∃s,d.get? b=some {ob with slots:=s}:=by
 by_cases c:b∈f;exact u.slot b ob q n c a;exact⟨ob.slots,u.keep b ob q n c a⟩
def Un.kept(k:∀b u,h.get? b=some u->h'.get? b=some u):Un f ex H H h h':=
 ⟨λb O q _ _ _=>k b O q,λb O q _ _ _=>⟨O.slots,k b O q⟩,λ_ _ _ n _=>n,λb O q _=>⟨O,k b O q⟩,λ_ _ q=>q,λ_ _ _ q=>q,λ_ p q=>⟨#[],by simp_all⟩⟩
def Un.refl:Un f ex H H h h:=Un.kept λ_ _ q=>q
def Un.laid{h:Heap}{a:Addr}(k:∀b u,h.get? b=some u->h'.get? b=some u)(c:h.objs.size<=a)(d:H a=none):Un f ex H (gV H a o) h h' where
 keep:=λb u q _ _ _=>k b u q
 slot:=λb u q _ _ _=>⟨u.slots,k b u q⟩
 free:=λb u q n _=>by rw[aF (Ay (Au (sL q) c))];exact n
 there:=λb u q _=>⟨u,k b u q⟩
 tups:=λb x q=>by rw[aF (bK q d)];exact q
 frzs:=λb u x q=>by rw[aF (bK q d)];exact q
 tbls:=λb p q=>⟨#[],by rw[aF (bK q d),q];simp⟩
def Un.write(mu:Hu (H x))(f:e=x\/H e=some (.own x))(k:∀ b u,b≠e->h.get? b=some u->h'.get? b=some u)(c:∃ u,h'.get? e=some u):Un l ex H (gV H x o) h h':=by
 have d:∀b,H b=none->b≠x:=λb n z=>by subst z;rw[n]at mu;exact mu
 have i:∀b,H b=none->b≠e:=λb n z=>by lia
 have a:∀b u,H b=some u->¬Hu (some u)->b≠x:=λb u q g z=>by lia
 refine⟨λb u q n _ _=>k b u (i b n) q,λb u q n _ _=>⟨u.slots,k b u (i b n) q⟩,λb u q n _=>by rw[aF (d b n)];exact n,λb u q _=>?_,
  λb j q=>by rw[aF (a b _ q λz=>z)];exact q,λb u j q=>by rw[aF (a b _ q λz=>z)];exact q,λb p q=>⟨#[],by rw[aF (a b _ q λz=>z),q];simp⟩⟩
 grind
noncomputable def Im(h:Heap)(H:Hp):List Addr:=(range h.objs.size).filter λa=>(H a).isSome
def Eh(h:Heap)(H:Hp):Heap:=W.hideAll h (Im h H)
def QC(h:Heap)(H:Hp):(Eh h H).objs.size=h.objs.size:=W.hideAll_size _ _
def QD(e:h.get? b=some o)(n:H b=none):(Eh h H).get? b=some o:=
 W.hideAll_get _ e λa=>by
  have q:(H b).isSome=true:=(List.mem_filter.mp a).2
  simp_all
def QE(e:(Eh h H).get? b=some o):h.get? b=some o/\H b=none:=by
 have a:h.get? b=some o:=W.of_hideAll (Im h H) e;refine⟨a,?_⟩;cases q:H b with
 |none=>rfl
 | some x=>
   have c:b∈Im h H:=List.mem_filter.mpr ⟨Cc.mpr (sL a),by simp[q]⟩;have z:(Eh h H).get? b=none:=W.hideAll_none (Im h H) c
   lia
noncomputable def jC(g h:Heap)(L:Addr):List (Addr×Obj):=(range h.objs.size).filterMap λa=>if a=L\/(g.get? a).isSome=true then none else(h.get? a).map λo=>(a,o)
def mP(H:a≠L)(c:g.get? a=none)(b:h.get? a=some o):(a,o)∈jC g h L:=
 Hq.mpr ⟨a,Cc.mpr (sL b),by simp[H,c,b]⟩
def oF(a:p∈jC g h L):p.1≠L/\g.get? p.1=none/\h.get? p.1=some p.2:=by
 obtain⟨b,_,e⟩:=Hq.mp a;split at e;cases e;rename_i H;cases q:h.get? b with
 |none=>rw[q]at e;simp at e
 | some u=>
   rw[q]at e;simp only[map_some,Option.some.injEq]at e;subst e;refine⟨λz=>H (.inl z),?_,q⟩;show g.get? b=none;cases r:g.get? b with
   |none=>rfl
   |some v=>exact(H (.inr (by simp[r]))).elim
def fH(g h:Heap)(L d:Addr):List (Addr×Obj):=(jC g h L).filter λp=>decide (p.1≠d)
def QF:News g L h (jC g h L):=λp d=>let ⟨a,b,c⟩:=oF d;⟨c,a,b⟩
structure Mod(K:W.Frag)(mg:Str->Option Value)(base:Heap):Prop where
 kin:K.In base
 glob:base.Ns mainGlobals mg
 blt:∃mb,base.Ns builtinsNs mb/\∀x:Str,x≠"__name__"->mb x=bootBuiltins x
 nolimit:base.NoLimit
structure Cx where
 prog:Program
 w:World
 K:W.Frag
 mg:Str->Option Value
 base:Heap
 A:Around
 N:List Str
 s₀:Shared
 H₀:Hp
 env:Env
 outer:List Env
 stack:List Env
 ex:List Addr
 fn:Str->Bool
 calm:Bool
 pn:List (Addr×Obj)
 xe:Value->Shared->Prop
noncomputable def frs(l:List Env):List Addr:=l.filterMap (·.frame)
abbrev Cx.fs(X:Cx):List Addr:=frs X.outer
def Io(s:Scope)(x:Str):Prop:=s.names.lookup x=some .local\/s.names.lookup x=some .cell\/s.names.lookup x=some .free
def Gi(s:Scope)(x:Str):Prop:=s.names.lookup x=some .local\/s.names.lookup x=some .cell
def QG(env:Env)(h:Heap)(m:Str->Option Value)(x:Str)(u:Value):Prop:=
 (env.kindOf x=some .local/\m x=some u)\/((env.kindOf x=some .cell\/env.kindOf x=some .free)/\∃c,env.cells.lookup x=some c/\h.IsCell c (some u))
structure Cx.Ok(X:Cx):Prop where
 mod:Mod X.K X.mg X.base
 kind:X.env.scope.kind=.function
 glob:X.env.globals=mainGlobals
 blt:X.env.builtins=builtinsNs
 above:X.s₀.heap.objs.size<=X.env.locals
 inj:∀x y c,X.env.cells.lookup x=some c->X.env.cells.lookup y=some c->x=y
 has:∀x,(X.env.kindOf x=some .cell\/X.env.kindOf x=some .free)->∃c,X.env.cells.lookup x=some c
 cab:∀x c,X.fn x=true->X.env.cells.lookup x=some c->X.s₀.heap.objs.size<=c
 hd:X.calm=true->X.A.handled=none
 frames:X.A.frames=some X.stack
 stk:X.stack=X.outer\/(X.stack=X.env::X.outer/\X.env.frame=some X.env.locals)
 exf:∀b∈X.ex,b≠X.env.locals/\∀x c,X.env.cells.lookup x=some c->c≠b
 bs:∀b o,X.base.get? b=some o->X.s₀.heap.get? b=some o/\X.H₀ b=none
 bsz:X.base.objs.size<=X.s₀.heap.objs.size
 noex:∀b o,X.base.get? b=some o->b∉X.ex
 exfs:∀b∈X.ex,b∉X.fs
 funs:X.s₀.heap.FunFrames X.base X.outer
 frf:∀b∈X.fs,X.H₀ b=none
structure dX(X:Cx)(pins:List (Addr×Obj))(Z:List (Option V))(H:Hp)(s:Shared):Prop where
 ok:X.Ok
 os:s.os=X.s₀.os
 bare:AllBare s.gens
 base:Un X.fs X.ex X.H₀ H X.s₀.heap s.heap
 loc:∃m,s.heap.Ns X.env.locals m/\∀(i:Nat) (x:Str) (v:V),X.N[i]?=some x->Z[i]?=some (some v)->Io X.env.scope x->∃u,cC v u/\QG X.env s.heap m x u
 cell:∀x c,X.env.cells.lookup x=some c->∃v,s.heap.IsCell c v
 free:H X.env.locals=none
 freeC:∀x c,X.env.cells.lookup x=some c->H c=none
 pin:∀p∈X.pn++pins,s.heap.get? p.1=some p.2/\H p.1=none/\p.1≠X.env.locals/\p.1∉X.fs/\∀v,p.2.data≠.cell v
 hok:AD X.prog X.w H s.heap
 len:Z.length=X.N.length
def Cx.Ok.nofr{X:Cx}(ok:X.Ok)(e:X.base.get? b=some o):b∉X.fs:=λh=>by
 have:=(ok.funs.mem h).1
 lia
theorem dX.bs(I:dX X a Z H s):∀b o,X.base.get? b=some o->s.heap.get? b=some o/\H b=none:=λb o e=>
 ⟨I.base.keep b o (I.ok.bs b o e).1 (I.ok.bs b o e).2 (I.ok.nofr e) (I.ok.noex b o e),I.base.free b o (I.ok.bs b o e).1 (I.ok.bs b o e).2 (I.ok.noex b o e)⟩
def dX.bk(I:dX X a Z H s):∀b o,X.base.get? b=some o->s.heap.get? b=some o:=λb o e=>(I.bs b o e).1
theorem dX.mod(I:dX X a Z H s):Mod X.K X.mg X.base:=I.ok.mod
def dX.kIn(I:dX X a Z H s):X.K.In s.heap:=I.ok.mod.kin.keeps I.bk
def dX.fr(I:dX X a Z H s):∃m,Fr X.base X.env.locals s.heap m:=
 let ⟨m,h,_⟩:=I.loc
 ⟨m,h,I.bk,hQ I.ok.bsz I.ok.above⟩
theorem dX.lt(I:dX X a Z H s):X.env.locals<s.heap.objs.size:=let ⟨_,h,_⟩:=I.loc;h.lt
def dX.sz(I:dX X a Z H s):X.s₀.heap.objs.size<=s.heap.objs.size:=hQ I.ok.above (Aq I.lt)
def dX.nofs{a:Addr}(I:dX X d Z H s)(h:s.heap.objs.size<=a):a∉X.fs:=λe=>by
 obtain⟨_,o,b,_⟩:=I.ok.funs.mem e;exact absurd (Au (sL b) (hQ I.sz h)) (Bt _)
def dX.cne(I:dX X f Z H s):∀x c,X.env.cells.lookup x=some c->c≠X.env.locals:=λx c e z=>by
 obtain⟨v,o,d,h⟩:=I.cell x c e;obtain⟨m,⟨O,E,g,a,b,_⟩,_⟩:=I.loc
 lia
theorem dX.funs(I:dX X k Z H s):s.heap.FunFrames X.base X.outer:=by
 have A:∀ (l:List Env),(∀ b∈frs l,b∈X.fs)->X.s₀.heap.FunFrames X.base l->s.heap.FunFrames X.base l:=by
  intro l
  induction l with
  |nil=>intro _ _;trivial
  | cons E r d=>
    intro n f;obtain⟨g,⟨L,o,c,q,h,t⟩,i⟩:=f;have a:L∈X.fs:=n L (by unfold frs;simp_all);obtain⟨y,e⟩:=I.base.slot L o h (I.ok.frf L a) a λz=>I.ok.exfs L z a;exact⟨g,⟨L,_,c,q,e,t⟩,d (λb j=>n b (by unfold frs;rw[List.filterMap_cons,c];exact Af _ j)) i⟩
 exact A X.outer (λ_ j=>j) I.ok.funs
theorem dX.stack(I:dX X b Z H s):s.heap.FunFrames X.base X.stack:=by
 rcases I.ok.stk with e|⟨e,a⟩;rw[e];exact I.funs;rw[e];obtain⟨m,h,_⟩:=I.loc;refine .cons (by rw[I.ok.kind];decide) a h ?_ I.funs;exact Heap.get?_none_of_le (hQ I.ok.bsz I.ok.above)
def dX.stkSub(I:dX X d Z H s):∀b∈frs X.stack,b∈X.env.locals::X.fs:=λb h=>by
 rcases I.ok.stk with e|⟨e,a⟩
 ·simp_all
 ·rw[e]at h;unfold frs at h;rw[List.filterMap_cons,a]at h;exact h
def dX.stkFree(I:dX X d Z H s):∀b∈frs X.stack,H b=none:=λb h=>by
 rcases sY.mp (I.stkSub b h)with e|h;rw[e];exact I.free;obtain⟨_,o,a,_⟩:=I.ok.funs.mem h;exact I.base.free b o a (I.ok.frf b h) λz=>I.ok.exfs b z h
def dX.step{ch:List Addr}(I:dX X M Z H s)
  (f:∀b∈ch,(b∈X.ex\/X.s₀.heap.objs.size<=b)/\b≠X.env.locals/\(∀x c,X.env.cells.lookup x=some c->c≠b)/\∀p∈X.pn++M,p.1≠b)
  (keep:∀b o,b≠X.env.locals->b∉X.fs->b∉ch->s.heap.get? b=some o->H b=none->h'.get? b=some o)
  (slot:∀b o,b≠X.env.locals->b∈X.fs->b∉ch->s.heap.get? b=some o->H b=none->∃Y,h'.get? b=some {o with slots:=Y}) (free:∀b o,b∉ch->s.heap.get? b=some o->H b=none->T b=none)
  (there:∀b o,b∉ch->s.heap.get? b=some o->∃Q,h'.get? b=some Q)
  (tups:∀b xs,H b=some (.tup xs)->T b=some (.tup xs)) (frzs:∀b o u,H b=some (.frz o u)->T b=some (.frz o u)) (tbls:∀b U,H b=some (.tbl U)->∃more,T b=some (.tbl (U++more)))
  (ns:∀m,s.heap.Ns X.env.locals m->h'.Ns X.env.locals m) (hok:AD X.prog X.w T h') (F:AllBare g') :
  dX X M Z T {s with heap:=h',gens:=g',drawn:=d',toks:=t'}:=by
 have A:∀b o,X.s₀.heap.get? b=some o->b≠X.env.locals:=λb o e=>Ay (Au (sL e) I.ok.above);have j:∀b o,X.s₀.heap.get? b=some o->b∉X.ex->b∉ch:=λb o e a O=>by
  rcases(f b O).1 with z|z;exact a z;exact absurd (Au (sL e) z) (Bt _)
 have g:∀x c,X.env.cells.lookup x=some c->∀v,s.heap.IsCell c v->h'.IsCell c v:=λx c e v Z1=>by
  obtain⟨o,y,hd⟩:=Z1;have h:c∉ch:=λz=>(f c z).2.2.1 x c e rfl;by_cases hc:c∈X.fs;obtain⟨Y,q⟩:=slot c o (I.cne x c e) hc h y (I.freeC x c e);exact⟨_,q,hd⟩;exact⟨o,keep c o (I.cne x c e) hc h y (I.freeC x c e),hd⟩
 refine⟨I.ok,I.os,F,⟨λb o e n O a=>?_,λb o e n O a=>?_,λb o e n a=>?_,λb o e a=>?_,λb xs e=>tups b xs (I.base.tups b xs e),λb o xs e=>frzs b o xs (I.base.frzs b o xs e),λb U e=>?_⟩,?_,λx c e=>?_,?_,λx c e=>?_,λp D=>?_,hok,I.len⟩;exact keep b o (A b o e) O (j b o e a) (I.base.keep b o e n O a) (I.base.free b o e n a);obtain⟨Y,t⟩:=I.base.slot b o e n O a;obtain⟨C,B⟩:=slot b _ (A b o e) O (j b o e a) t (I.base.free b o e n a);exact⟨C,B⟩;obtain⟨Q,t⟩:=I.base.there b o e a;exact free b Q (j b o e a) t (I.base.free b o e n a);obtain⟨Q,t⟩:=I.base.there b o e a;exact there b Q (j b o e a) t;obtain⟨G,t⟩:=I.base.tbls b U e;obtain⟨J,B⟩:=tbls b _ t;exact⟨G++J,by rw[B,Array.append_assoc]⟩;obtain⟨m,hn,K⟩:=I.loc;refine⟨m,ns m hn,λi x v t B L=>?_⟩;obtain⟨u,r,l⟩:=K i x v t B L;refine⟨u,r,?_⟩;rcases l with l|⟨k,c,e,z⟩;exact .inl l;exact .inr ⟨k,c,e,g x c e _ z⟩;obtain⟨v,z⟩:=I.cell x c e;exact⟨v,g x c e v z⟩;obtain⟨m,⟨o,_,_,y,_⟩,_⟩:=I.loc;exact free _ o (λz=>(f _ z).2.1 rfl) y I.free;obtain⟨v,o,y,hd⟩:=I.cell x c e;exact free c o (λz=>(f c z).2.2.1 x c e rfl) y (I.freeC x c e);obtain⟨e,n,ne,E,d⟩:=I.pin p D;have h:p.1∉ch:=λz=>(f p.1 z).2.2.2 p D rfl;exact⟨keep p.1 p.2 ne E h e n,free p.1 p.2 h e n,ne,E,d⟩
def dX.un(I:dX X j Z H s)(u:Un X.fs [] H l s.heap h')(hok:AD X.prog X.w l h'):dX X j Z l {s with heap:=h',toks:=t'}:=by
 obtain⟨m,⟨o,E,t,f,r⟩,_⟩:=id I.loc;obtain⟨q,g⟩:=u.any f I.free (by simp);exact I.step (g':=s.gens) (d':=s.drawn) (ch:=[]) (λ_ z=>nomatch z) (λb o _ k _ e n=>u.keep b o e n k (by simp)) (λb o _ k _ e n=>u.slot b o e n k (by simp)) (λb o _ e n=>u.free b o e n (by simp)) (λb o _ e=>u.there b o e (by simp)) u.tups u.frzs u.tbls (λM h=>by
  obtain⟨O,c,d,a,i⟩:=h;rw[f]at a;cases a;exact⟨_,c,d,g,i⟩) hok I.bare
def dX.call(I:dX X q Z H s)(u:Un (frs X.stack) ch H t s.heap h')(hok:AD X.prog X.w t h')(j:AllBare g')
  (a:∀b∈ch,(b∈X.ex\/X.s₀.heap.objs.size<=b)/\b≠X.env.locals/\(∀x c,X.env.cells.lookup x=some c->c≠b)/\∀p∈X.pn++q,p.1≠b) :
  dX X q Z t {s with heap:=h',gens:=g',drawn:=d',toks:=t'}:=by
 obtain⟨m,⟨o,E,B,i,r⟩,_⟩:=id I.loc;obtain⟨A,f⟩:=u.any i I.free λz=>(a _ z).2.1 rfl;exact I.step (ch:=ch) a (λb o f y hc e n=>u.keep b o e n (λz=>(sY.mp (I.stkSub b z)).elim f y) hc) (λb o _ _ hc e n=>u.any e n hc) (λb o hc e n=>u.free b o e n hc) (λb o hc e=>u.there b o e hc) u.tups u.frzs u.tbls (λM k=>by
  obtain⟨O,g,h,d,l⟩:=k;rw[i]at d;cases d;exact⟨_,g,h,f,l⟩) hok j
def dX.turned(I:dX X j Z H s)(k:∀ b o,b≠it->s.heap.get? b=some o->h'.get? b=some o)(B:H it=none)(a:it≠X.env.locals)
  (t:it∈X.ex\/X.s₀.heap.objs.size<=it) (d:∀x c,X.env.cells.lookup x=some c->c≠it) (f:∀p∈X.pn++j,p.1≠it):dX X j Z H {s with heap:=h',toks:=t'}:=by
 have g:∀b u,H b=some u->b≠it:=λb u e z=>by lia
 refine I.step (g':=s.gens) (d':=s.drawn) (ch:=[it]) (λb l=>?_) (λb o _ _ hc e _=>k b o (λz=>hc (by simp[z])) e) (λb o _ _ hc e _=>⟨o.slots,k b o (λz=>hc (by simp[z])) e⟩) (λ_ _ _ _ n=>n)
  (λb o hc e=>⟨o,k b o (λz=>hc (by simp[z])) e⟩) (λ_ _ e=>e) (λ_ _ _ e=>e) (λb A e=>⟨#[],by simp_all⟩) (λm h=>?_) (λb u e=>?_) I.bare
 ·have e:b=it:=by simpa using l
  subst e;exact⟨t,a,d,f⟩
 ·obtain⟨o,E,y,i,r⟩:=h;exact⟨o,E,y,k _ o (oI a) i,r⟩
 ·refine(I.hok b u e).stay (λc v hc q=>k c v ?_ q) (λ_ q=>q) λ_ _ q=>q
  lia
def dX.tok(I:dX X a Z H s)(t:Nat):dX X a Z H {s with toks:=t}:=I.un (h':=s.heap) (t':=t) Un.refl I.hok
theorem dX.kept(I:dX X a Z H s)(k:∀b u,s.heap.get? b=some u->h'.get? b=some u):dX X a Z H {s with heap:=h',toks:=t'}:=I.un (Un.kept k) (I.hok.kept k)
theorem dX.laid{a:Addr}(I:dX X e Z H s)(k:∀ b u,s.heap.get? b=some u->h'.get? b=some u)(c:s.heap.objs.size<=a)(d:cH X.prog X.w (gV H a o) h' a o) :
  dX X e Z (gV H a o) {s with heap:=h',toks:=t'}:=I.un (Un.laid k c (I.hok.fresh c)) (I.hok.laid k c d)
theorem dX.write(I:dX X f Z H s)(mu:Hu (H x))(d:e=x\/H e=some (.own x))(k:∀ b u,b≠e->s.heap.get? b=some u->h'.get? b=some u)(a:∃ u,h'.get? e=some u)
  (c:cH X.prog X.w (gV H x o) h' x o):dX X f Z (gV H x o) {s with heap:=h',toks:=t}:=I.un (Un.write mu d k a) (I.hok.write mu d k a c)
def dX.weak(I:dX X g Z H s)(b:f.length=Z.length)(w:∀(i:Nat) v,f[i]?=some (some v)->Z[i]?=some (some v)):dX X g f H s:=
 ⟨I.ok,I.os,I.bare,I.base,let ⟨m,h,a⟩:=I.loc;⟨m,h,λi x v c d e=>a i x v c (w i v d) e⟩,I.cell,I.free,I.freeC,I.pin,I.hok,b.trans I.len⟩
def dX.pins_of(I:dX X d Z H s)(h:∀p∈a,s.heap.get? p.1=some p.2/\H p.1=none/\p.1≠X.env.locals/\p.1∉X.fs/\∀v,p.2.data≠.cell v):dX X a Z H s:=
 ⟨I.ok,I.os,I.bare,I.base,I.loc,I.cell,I.free,I.freeC,λp b=>(sU.mp b).elim (λz=>I.pin p (Ge _ z)) (h p),I.hok,I.len⟩
def yW{N:List Str}{i j:Nat}(c:N.Nodup)(a:N[i]?=some x)(b:N[j]?=some x):i=j:=by
 obtain⟨f,d⟩:=hR.mp a;obtain⟨g,e⟩:=hR.mp b;exact(getElem_inj c).mp (d.trans e.symm)
def sM(I:dX X pins Z H s)(hN:X.N.Nodup)(hi:X.N[i]? = some x)(l:Gi X.env.scope x)(r:cC v u)
  (h:∀s',dX X pins (Z.set i (some v)) H s'->(∃a,SameBut a s.heap s'.heap/\(a=X.env.locals\/X.env.cells.lookup x=some a))->Q () s') (hf:X.fn x=true\/X.env.scope.names.lookup x=some .local:=by first|exact .inl rfl|exact .inr rfl|assumption):wpAny M A (storeName X.env x u) Q E s:=by
 obtain⟨m,hn,hl⟩:=id I.loc;have G:(X.env.scope.kind==.class||(X.env.scope.kind==.module&&X.env.locals != X.env.globals))=false:=by rw[I.ok.kind];rfl
 have C:i<Z.length:=by rw[I.len];exact(hR.mp hi).1
 have cne:=I.cne;have f:∀{a:Addr} {h':Heap},(∃o,s.heap.get? a=some o/\H a=none)->SameBut a s.heap h'->AD X.prog X.w H h':=λ{a h'} ha w b ob e=>by
  obtain⟨_,_,t⟩:=ha;refine(I.hok b ob e).stay (λc P hc q=>(w.2 c ?_).trans q) (λ_ q=>q) λ_ _ q=>q;rintro rfl;rcases hc with rfl|hc;rw[t]at e;cases e;rw[t]at hc;cases hc
 rcases l with D|D
 ·refine wpAny_storeName_local D hn (λh' S w=>?_) G;obtain⟨oL,_,_,T,_⟩:=id hn;refine h _ ⟨I.ok,I.os,I.bare,⟨λb o e n O l=>?_,λb o e n O l=>?_,I.base.free,λb o e l=>?_,I.base.tups,I.base.frzs,I.base.tbls⟩,⟨_,S,λj y U g B W=>?_⟩,λy c e=>?_,I.free,I.freeC,λp Y=>?_,f ⟨oL,T,I.free⟩ w,by simpa using I.len⟩ ⟨_,w,.inl rfl⟩;exact(w.2 b (Ay (Au (sL e) I.ok.above))).trans (I.base.keep b o e n O l);obtain⟨sl,g⟩:=I.base.slot b o e n O l;exact⟨sl,(w.2 b (Ay (Au (sL e) I.ok.above))).trans g⟩;obtain⟨o',g⟩:=I.base.there b o e l;exact⟨o',(w.2 b (Ay (Au (sL e) I.ok.above))).trans g⟩;by_cases N:j=i;subst N;rw[hi]at g;cases g;rw[Bo C]at B;cases B;exact⟨u,r,.inl ⟨D,by simp⟩⟩;rw[Ae (oI N)]at B;obtain⟨σ,r',q⟩:=hl j y U g B W;refine⟨σ,r',?_⟩;rcases q with⟨k,e⟩|⟨k,c,e,z⟩;refine .inl ⟨k,?_⟩;have:y≠x:=λe=>N (yW hN g (e▸hi));simp[this,e];exact .inr ⟨k,c,e,z.sameBut w (cne y c e)⟩;obtain⟨P,z⟩:=I.cell y c e;exact⟨P,z.sameBut w (cne y c e)⟩;obtain⟨e,n,ne,nf,d⟩:=I.pin p Y;exact⟨(w.2 p.1 ne).trans e,n,ne,nf,d⟩
 ·have F:X.fn x=true:=by
   rcases hf with z|z;exact z;rw[z]at D;cases D
  obtain⟨c,hc⟩:=I.ok.has x (.inl D);obtain⟨P,z⟩:=I.cell x c hc;refine wpAny_storeName_cell I.ok.kind D hc z (λh' J w=>?_);obtain⟨oc,K,L⟩:=id z;refine h {s with heap:=h'} ⟨I.ok,I.os,I.bare,⟨λb o e n O l=>?_,λb o e n O l=>?_,I.base.free,λb o e l=>?_,I.base.tups,I.base.frzs,I.base.tbls⟩,⟨m,hn.sameBut w (oI (cne x c hc)),λj y U g B W=>?_⟩,λy R e=>?_,I.free,I.freeC,λp Y=>?_,f ⟨oc,K,I.freeC x c hc⟩ w,by simpa using I.len⟩ ⟨c,w,.inr hc⟩;exact(w.2 b (Ay (Au (sL e) (I.ok.cab x c F hc)))).trans (I.base.keep b o e n O l);obtain⟨sl,g⟩:=I.base.slot b o e n O l;exact⟨sl,(w.2 b (Ay (Au (sL e) (I.ok.cab x c F hc)))).trans g⟩;obtain⟨o',g⟩:=I.base.there b o e l;exact⟨o',(w.2 b (Ay (Au (sL e) (I.ok.cab x c F hc)))).trans g⟩;by_cases N:j=i;subst N;rw[hi]at g;cases g;rw[Bo C]at B;cases B;exact⟨u,r,.inr ⟨.inl D,c,hc,J⟩⟩;rw[Ae (oI N)]at B;obtain⟨σ,r',q⟩:=hl j y U g B W;refine⟨σ,r',?_⟩;rcases q with q|⟨k,R,e,z'⟩;exact .inl q;refine .inr ⟨k,R,e,z'.sameBut w ?_⟩;rintro rfl;exact N (yW hN g (I.ok.inj _ _ _ e hc▸hi));by_cases π:R=c;subst π;exact⟨_,J⟩;obtain⟨w2,z2⟩:=I.cell y R e;exact⟨w2,z2.sameBut w π⟩;obtain⟨e,n,ne,nf,d⟩:=I.pin p Y;refine⟨(w.2 p.1 ?_).trans e,n,ne,nf,d⟩;intro q;rw[q,K]at e;have q':oc=p.2:=Ap e;exact d P (by rw[← q'];exact L)
def jQ(I:dX X p Z H s)(a:X.N.Nodup)(f:X.N[i]? = some x)(b:Gi X.env.scope x)(r:cC v u)
  (h:∀e,dX X p (Z.set i (some v)) H e->Q () e) (c:X.fn x=true\/X.env.scope.names.lookup x=some .local:=by first|exact .inl rfl|exact .inr rfl|assumption):wpAny M A (storeName X.env x u) Q E s:=
 sM I a f b r (λe d _=>h e d) c
def dX.call'(I:dX X g Z H s)(d:h.os=s.os)(u:Un (frs X.stack) ch H j s.heap h.heap)(hok:AD X.prog X.w j h.heap)(f:AllBare h.gens)
  (a:∀b∈ch,(b∈X.ex\/X.s₀.heap.objs.size<=b)/\b≠X.env.locals/\(∀x c,X.env.cells.lookup x=some c->c≠b)/\∀p∈X.pn++g,p.1≠b):dX X g Z j h:=by
 obtain⟨k,g',d',t',o⟩:=h;have e:o=s.os:=d;subst e;exact I.call (g':=g') (t':=t') (d':=d') u hok f a
abbrev XK:=Value->Option Addr->Hp->Prop
abbrev St:=List (Option V)
abbrev VK:=V->Hp->Prop
abbrev TE:=St->Hp->VK->Prop
abbrev TT:=St->Hp->(Bool->Hp->Prop)->Prop
abbrev TA:=St->Hp->(List V->Hp->Prop)->Prop
structure AG where
 nx:St->Hp->Prop
 rt:VK
 bk:St->Hp->Prop:=λ_ _=>False
 ct:St->Hp->Prop:=λ_ _=>False
abbrev TS:=AG->St->Hp->Prop
def EP(X:Cx)(p:List (Addr×Obj))(Z:St)(Q:VK)(u:Value)(s:Shared):Prop:=∃v H,dX X p Z H s/\cC v u/\Q v H
def TP(X:Cx)(p:List (Addr×Obj))(Z:St)(Q:Bool->Hp->Prop)(b:Bool)(s:Shared):Prop:=∃H,dX X p Z H s/\Q b H
def AP(X:Cx)(p:List (Addr×Obj))(Z:St)(Q:List V->Hp->Prop)(u:List Value)(s:Shared):Prop:=∃v H,dX X p Z H s/\bC v u/\Q v H
def SP(X:Cx)(p:List (Addr×Obj))(D:AG)(f:Flow)(s:Shared):Prop:=
 match f with
 |.next=>∃a H,dX X p a H s/\D.nx a H
 |.brk=>∃a H,dX X p a H s/\D.bk a H
 |.cont=>∃a H,dX X p a H s/\D.ct a H
 |.ret u=>∃v a H,dX X p a H s/\cC v u/\D.rt v H
def PE(X:Cx)(e:Expr)(t:TE):Prop:=
 ∀(p:List (Addr×Obj)) (s:Shared) (Z:St) (H:Hp) (Q:VK),dX X p Z H s->t Z H Q->wpAny (model X.prog X.w) X.A (eval e X.env) (EP X p Z Q) X.xe s
def PT(X:Cx)(e:Expr)(t:TT):Prop:=
 ∀(p:List (Addr×Obj)) (s:Shared) (Z:St) (H:Hp) (Q:Bool->Hp->Prop),dX X p Z H s->t Z H Q->wpAny (model X.prog X.w) X.A (isTrue e X.env (eval e X.env)) (TP X p Z Q) X.xe s
def PW(X:Cx)(e:Expr)(t:TT):Prop:=
 ∀(a:Sem Value) (p:List (Addr×Obj)) (s:Shared) (Z:St) (H:Hp) (Q:Bool->Hp->Prop),dX X p Z H s->t Z H Q->wpAny (model X.prog X.w) X.A (isTrue e X.env a) (TP X p Z Q) X.xe s
def PW.pt(h:PW X e t):PT X e t:=h _
def PA(X:Cx)(e:List Expr)(t:TA):Prop:=
 ∀(a:Pos) (p:List (Addr×Obj)) (s:Shared) (Z:St) (H:Hp) (Q:List V->Hp->Prop),dX X p Z H s->t Z H Q->wpAny (model X.prog X.w) X.A (spliced (backTo a (starEach e X.env))) (AP X p Z Q) X.xe s
def PS(X:Cx)(a:Stmt)(t:TS):Prop:=
 ∀(p:List (Addr×Obj)) (s:Shared) (Z:St) (H:Hp) (D:AG),dX X p Z H s->t D Z H->wpAny (model X.prog X.w) X.A (exec a X.env) (SP X p D) X.xe s
def BB(X:Cx)(a:List Stmt)(t:TS):Prop:=
 ∀(p:List (Addr×Obj)) (s:Shared) (Z:St) (H:Hp) (D:AG),dX X p Z H s->t D Z H->wpAny (model X.prog X.w) X.A (execs a X.env) (SP X p D) X.xe s
def thn{Q c:b->Shared->Prop}(h:wpAny M A t Q E s)(d:∀a s,Q a s->c a s):wpAny M A t c E s:=Cu h d λ_ _ x=>x
def mD(i:Nat):TE:=λZ H Q=>∃v,Z[i]?=some (some v)/\Q v H
def tC(v:V):TE:=λ_ H Q=>Q v H
def QH(f:X.N[i]?=some x)(g:Io X.env.scope x)(n:(x==("__debug__":Str))=false:=by decide)(d:(x==("__classdict__":Str))=false:=by decide):PE X (.Name x pos) (mD i):=by
 intro p s Z H Q I h;obtain⟨v,e,h⟩:=h;obtain⟨m,o,j⟩:=I.loc;obtain⟨u,r,l⟩:=j i x v f e g;have k:EP X p Z Q u s:=⟨v,H,I,r,h⟩;rcases l with⟨b,q⟩|⟨b,c,hc,a⟩;exact wpAny_Name (wpAny_loadName_local I.ok.kind b o q k) n;rcases b with b|b;exact wpAny_Name (wpAny_loadName_cell I.ok.kind b hc a k) n;exact wpAny_Name (wpAny_loadName_free I.ok.kind b hc a k d) n
def QI:PE X (.Constant (.int i) j pos) (tC (.int i)):=λ_ _ _ H _ I h=>wpAny_Constant_int ⟨.int i,H,I.tok _,⟨_,rfl⟩,h⟩
def QJ:PE X (.Constant (.bool b) j pos) (tC (.bl b)):=λ_ _ _ H _ I h=>Constant_bool ⟨.bl b,H,I,rfl,h⟩
def Lx:PE X (.Constant (.str x) j pos) (tC (.str x)):=λ_ _ _ H _ I h=>Calls.Constant_str ⟨.str x,H,I.tok _,⟨_,rfl⟩,h⟩
def Gl(X:Cx)(x:Str):Prop:=X.env.kindOf x=some .globalImplicit
def QK{Z:St}(I:dX X p Z H s)(a:Gl X x)(b:X.mg x=some u)(h:Q u s)
  (c:(x==("__debug__":Str))=false:=by decide):wpAny (model X.prog X.w) X.A (eval (.Name x pos) X.env) Q E s:=
 Calls.Name_function_global I.ok.kind a (Calls.loadGlobal_global (by rw[I.ok.glob];exact I.mod.glob.keeps I.bk) b h) c
def iD{Z:St}(I:dX X p Z H s)(a:Gl X x)(b:X.mg x=none)(c:bootBuiltins x=some u)(h:Q u s)
  (f:x≠"__name__":=by decide) (g:(x==("__debug__":Str))=false:=by decide):wpAny (model X.prog X.w) X.A (eval (.Name x pos) X.env) Q E s:=by
 obtain⟨m,d,e⟩:=I.mod.blt;exact Calls.Name_function_global I.ok.kind a (Calls.loadGlobal_builtin (by rw[I.ok.glob];exact I.mod.glob.keeps I.bk) b (by rw[I.ok.blt];exact d.keeps I.bk) ((e x f).trans c) h) g
def tB(t:TE):TT:=λZ H Q=>t Z H λx a=>∃c,x=.bl c/\Q c a
def QL(h:PE X e t)(b:∀a,isTrue e X.env a=(do let v ← a;standAt e.pos;holding [v] (truthy v)):=by intro _;rfl):PT X e (tB t):=by
 intro p s Z H Q I c;refine isTrue_plain (thn (h p s Z H _ I c) λv k z=>?_) (b _);obtain⟨x,f,g,i,j⟩:=z;obtain⟨d,rfl,q⟩:=j;cases i;exact Hi ⟨f,g,q⟩
def QM(t u:TT):TT:=λZ H Q=>t Z H λc a=>if c=true then u Z a Q else Q false a
def QN(d:PT X a t):PW X (.BoolOp .And [a] pos) t:=by
 intro b p s Z H Q I h;refine isTrue_and (thn (d p s Z H Q I h) λc f e=>?_);cases c with
 |true=>exact isTrue_and_nil e
 |false=>exact e
def QO{i:List Expr}(k:PT X a T)(hb:PW X (.BoolOp .And (b::i) pos) t):PW X (.BoolOp .And (a::b::i) pos) (QM T t):=by
 intro g p s Z H Q I h;refine isTrue_and (thn (k p s Z H _ I h) λc j z=>?_);obtain⟨d,e,f⟩:=z;cases c with
 |true=>exact hb g p j Z d Q e f
 |false=>exact⟨d,e,f⟩
def QP(T t:TE):TE:=λZ H Q=>T Z H λx a=>∃c,x=.bl c/\if c=true then t Z a Q else Q (.bl false) a
def QQ(h:PE X a t):PE X (.BoolOp o [a] pos) t:=λp s Z H Q I b=>BoolOp_one (h p s Z H Q I b)
def QR{i:List Expr}(k:PE X a T)(hb:PE X (.BoolOp .And (b::i) pos) t):PE X (.BoolOp .And (a::b::i) pos) (QP T t):=by
 intro p s Z H Q I h;refine BoolOp_and (thn (k p s Z H _ I h) λv j z=>?_);obtain⟨x,e,f,g,d⟩:=z;obtain⟨c,rfl,d⟩:=d;cases g;refine Hi ?_;cases c with
 |true=>exact hb p j Z e Q f d
 |false=>exact⟨.bl false,e,f,rfl,d⟩
def QU(t:TT)(b T:TE):TE:=λZ H Q=>t Z H λc a=>if c=true then b Z a Q else T Z a Q
def QV(hc:PT X c j)(k:PE X a T)(hb:PE X b t):PE X (.IfExp c a b pos) (QU j T t):=by
 intro p s Z H Q I h;refine wpAny_IfExp (thn (hc p s Z H _ I h) λd i z=>?_);obtain⟨e,f,g⟩:=z;cases d with
 |true=>exact k p i Z e Q f g
 |false=>exact hb p i Z e Q f g
def AU(K:W.Frag)(H:Hp)(a:Addr)(xs:List V):Prop:=
 Rd H a (.lst xs) \/
  ∃(o:Obj) (i:Array Value) (n:Nat),K.lookup a=some o/\o.cls=.type "list"/\o.dict=none/\o.data=.seq i n/\i.size<=sizeLine/\bC xs i.toList
def Bp(K:W.Frag)(H:Hp)(a:Addr)(xs:List V):Prop:=
 Rd H a (.tup xs) \/
  ∃(o:Obj) (i:Array Value) (n:Nat),K.lookup a=some o/\o.cls=.type "tuple"/\o.data=.seq i n/\i.size<=sizeLine/\bC xs i.toList
noncomputable def QW:Value->Option V
 |.none=>some .non
 |.bool b=>some (.bl b)
 |.int i _=>some (.int i)
 |.str x _=>some (.str x)
 |.bytes b _=>some (.byt b)
 |.float b _=>some (.flt b)
 |.ref a=>some (.ref a)
 |.type n=>some (.ty n)
 |_=>none
def cC.abs(r:cC x u):QW u=some x:=by
 cases x with
 |non|bl _=>cases r;rfl
 |int _|str _|byt _|flt _=>obtain⟨t,rfl⟩:=r;rfl
 |ref _|ty _=>cases r;rfl
def cC.inj{x y:V}{u:Value}(r:cC x u)(q:cC y u):x=y:=Ap (r.abs.symm.trans q.abs)
theorem bC.inj{xs y:List V}{u:List Value}(r:bC xs u)(s:bC y u):xs=y:=by
 induction r generalizing y with
 |nil=>cases s;rfl
 |cons r _ i=>cases s with|cons q t=>rw[r.inj q,i t]
def AU.of{K:W.Frag}(h:H a=some (.lst xs)):AU K H a xs:=.inl (.inl h)
def dX.list{Z:St}(I:dX X f Z H s)(h:AU X.K H a xs):∃d:List Value,bC xs d/\PlainL s.heap a d.toArray/\xs.length<=sizeLine:=by
 rcases h with h|⟨o,d,n,b,hc,g,j,c,r⟩;obtain⟨z,d,n,r,e⟩:=h.ok I.hok;exact⟨d,r,⟨_,n,e,rfl,rfl,rfl⟩,z⟩;refine⟨d.toList,r,⟨o,n,I.kIn a o b,hc,g,by simp_all⟩,?_⟩;have e:=r.length
 grind
def dX.tuple{Z:St}(I:dX X f Z H s)(h:Bp X.K H a xs):∃d:List Value,bC xs d/\IsTup s.heap a d.toArray/\xs.length<=sizeLine:=by
 rcases h with h|⟨o,d,n,b,hc,g,c,r⟩;obtain⟨z,d,r,p,_⟩:=h.ok I.hok;exact⟨d,r,p,z⟩;refine⟨d.toList,r,⟨o,I.kIn a o b,hc,n,by simp_all⟩,?_⟩;have e:=r.length
 grind
def dX.list_inj{Z:St}(I:dX X k Z H s)(h:AU X.K H a xs)(h':AU X.K H a y):xs=y:=by
 obtain⟨j,r,⟨o,n,e,_,_,d⟩,_⟩:=I.list h;obtain⟨b,c,⟨O,g,f,_,_,l⟩,_⟩:=I.list h';rw[e]at f;have:j=b:=by lia
 subst this;exact r.inj c
def dX.tuple_inj{Z:St}(I:dX X k Z H s)(h:Bp X.K H a xs)(h':Bp X.K H a y):xs=y:=by
 obtain⟨j,r,⟨o,e,_,n,d⟩,_⟩:=I.tuple h;obtain⟨b,c,⟨O,f,_,g,l⟩,_⟩:=I.tuple h';rw[e]at f;have:j=b:=by lia
 subst this;exact r.inj c
noncomputable abbrev Cx.wish(X:Cx)(E:Value->Shared->Prop):Cx:={X with xe:=E}
abbrev Cx.nox(X:Cx):Cx:=X.wish λ_ _=>False
theorem Cx.Ok.wish{X:Cx}(ok:X.Ok)(E:Value->Shared->Prop):(X.wish E).Ok:=
 ⟨ok.mod,ok.kind,ok.glob,ok.blt,ok.above,ok.inj,ok.has,ok.cab,ok.hd,ok.frames,ok.stk,ok.exf,ok.bs,ok.bsz,ok.noex,ok.exfs,ok.funs,ok.frf⟩
def Cx.Ok.unwish{X:Cx}(ok:(X.wish E).Ok):X.Ok:=
 ⟨ok.mod,ok.kind,ok.glob,ok.blt,ok.above,ok.inj,ok.has,ok.cab,ok.hd,ok.frames,ok.stk,ok.exf,ok.bs,ok.bsz,ok.noex,ok.exfs,ok.funs,ok.frf⟩
theorem dX.wish{Z:St}(I:dX X a Z H s)(E:Value->Shared->Prop):dX (X.wish E) a Z H s:=⟨I.ok.wish E,I.os,I.bare,I.base,I.loc,I.cell,I.free,I.freeC,I.pin,I.hok,I.len⟩
theorem dX.unwish{Z:St}(I:dX (X.wish E) a Z H s):dX X a Z H s:=⟨I.ok.unwish,I.os,I.bare,I.base,I.loc,I.cell,I.free,I.freeC,I.pin,I.hok,I.len⟩
theorem SP.unwish(h:SP (X.wish E) p D f s):SP X p D f s:=by
 cases f with
 |next|brk|cont=>obtain⟨a,H,I,q⟩:=h;exact⟨a,H,I.unwish,q⟩
 |ret u=>obtain⟨v,a,H,I,r,q⟩:=h;exact⟨v,a,H,I.unwish,r,q⟩
theorem BB.nox{b:List Stmt}(h:BB X.nox b t):BB X b t:=λp s Z H D I a=>
 Cu (h p s Z H D (I.wish _) a) (λ_ _ q=>q.unwish) λ_ _ z=>elim z
def JG:TS:=λD Z H=>D.nx Z H
def CG(t u:TS):TS:=λD Z H=>t {D with nx:=u D} Z H
def Ly:BB X [] JG:=λ_ _ Z H _ I h=>wpAny_execs_nil ⟨Z,H,I,h⟩
def eF{d:Stmt}{e:List Stmt}(i:PS X d t)(a:BB X e u):BB X (d::e) (CG t u):=by
 intro p s Z H D I h;refine wpAny_execs_cons (thn (i p s Z H {D with nx:=u D} I h) λf g q=>?_);cases f with
 | next=>
   obtain⟨c,j,b,q⟩:=q;exact a p g c j D b q
 |ret v|brk|cont=>exact q
def jD{a:Stmt}(b:PS X a t):BB X [a] t:=by
 intro p s Z H D I h;refine wpAny_execs_cons (thn (b p s Z H D I h) λf c q=>?_);cases f with
 |next=>exact wpAny_execs_nil q
 |ret v|brk|cont=>exact q
def dX.quiet{Z:St}(I:dX X a Z H s):interactive X.env=false:=by simp[interactive,I.ok.kind]
def vI(t:TE):TS:=λD Z H=>t Z H λ_ a=>D.nx Z a
def vJ(a:PE X e t)(g:swapsWith e none pos.line X.env=pure false:=by rfl):PS X (.Expr e pos) (vI t):=by
 intro p s Z H D I h;exact wpAny_Expr_any (thn (a p s Z H _ I h) λv i ⟨x,b,c,f,d⟩=>⟨Z,b,c,d⟩) I.quiet g
def JH(t:TE):TS:=λD Z H=>t Z H D.rt
def Lz(a:PE X e t):PS X (.Return (some e) pos) (JH t):=by
 intro p s Z H D I h;exact wpAny_Return_some (thn (a p s Z H _ I h) λv g ⟨x,b,c,d,f⟩=>⟨x,Z,b,c,d,f⟩)
def JI(c:TT)(t u:TS):TS:=λD Z H=>c Z H λb a=>if b=true then t D Z a else u D Z a
def JJ(hc:PT X c e)(k:BB X a t)(hb:BB X b u):PS X (.If c a b pos) (JI e t u):=by
 intro p s Z H D I h;refine wpAny_If (thn (hc p s Z H _ I h) λd j z=>?_);obtain⟨f,g,i⟩:=z;cases d with
 |true=>exact k p j Z f D g i
 |false=>exact hb p j Z f D g i
abbrev TG:=V->St->Hp->(St->Hp->Prop)->Prop
abbrev EO:=List V->St->Hp->(St->Hp->Prop)->Prop
def PG(X:Cx)(a:Expr)(t:TG):Prop:=
 ∀ (p:List (Addr×Obj)) (s:Shared) (Z:St) (H:Hp) (v:V) (u:Value) (Q:St->Hp->Prop),dX X p Z H s->cC v u->t v Z H Q ->
   wpAny (model X.prog X.w) X.A (assign a X.env u) (λ_ c=>∃b h,dX X p b h c/\Q b h) X.xe s
def Gj(X:Cx)(T:List Expr)(t:EO):Prop:=
 ∀ (p:List (Addr×Obj)) (s:Shared) (Z:St) (H:Hp) (v:List V) (u:List Value) (Q:St->Hp->Prop),dX X p Z H s->bC v u->t v Z H Q ->
   wpAny (model X.prog X.w) X.A (assignInOrder ((assignEach T X.env).map (·.2)) u) (λ_ b=>∃a h,dX X p a h b/\Q a h) X.xe s
abbrev sH:=V->V->V->Hp->(Hp->Prop)->Prop
def LA(X:Cx)(t:sH):Prop:=
 ∀ (p:List (Addr×Obj)) (s:Shared) (Z:St) (H:Hp) (o i v:V) (O a u:Value) (Q:Hp->Prop),dX X p Z H s->cC o O->cC i a->cC v u->t o i v H Q ->
   wpAny (model X.prog X.w) X.A (setItem O a u) (λ_ b=>∃h,dX X p Z h b/\Q h) X.xe s
abbrev JK:=V->V->Hp->VK->Prop
def LB(X:Cx)(a:Operator)(t:JK):Prop:=
 ∀ (p:List (Addr×Obj)) (s:Shared) (Z:St) (H:Hp) (x y:V) (v u:Value) (Q:VK),dX X p Z H s->cC x v->cC y u->t x y H Q ->
   wpAny (model X.prog X.w) X.A (inplaceOp a v u) (EP X p Z Q) X.xe s
def fS(i:Nat):TG:=λv Z H Q=>Q (Z.set i (some v)) H
def cN(a:X.N.Nodup)(e:X.N[i]?=some x)(b:Gi X.env.scope x)(c:X.fn x=true\/X.env.scope.names.lookup x=some .local:=by first|exact .inl rfl|exact .inr rfl|assumption):PG X (.Name x pos) (fS i):=by
 intro p s Z H v u Q I r h;exact wpAny_assign_Name (jQ I a e b r (λf d=>⟨_,H,d,h⟩) c)
def Gk:EO:=λv Z H Q=>v=[]/\Q Z H
def pZ(t:TG)(u:EO):EO:=λb Z H Q=>∃v r,b=v::r/\t v Z H λa h=>u r a h Q
def mQ:Gj X [] Gk:=by
 intro p s Z H v u Q I r h;obtain⟨e,h⟩:=h;exact assignInOrder_nil ⟨Z,H,I,h⟩
def dB(m:PG X e t)(b:Gj X E u)
  (l:(assignEach (e::E) X.env).map (·.2)=assign e X.env::(assignEach E X.env).map (·.2):=by rfl):Gj X (e::E) (pZ t u):=by
 intro p s Z H n U Q I r h;obtain⟨v,j,c,h⟩:=h;subst c;cases r with
 | cons r d=>
   rw[l];refine assignInOrder_cons (thn (m p s Z H _ _ _ I r h) λ_ k z=>?_);obtain⟨a,f,g,i⟩:=z;exact b p k a f _ _ Q g d i
def QX(K:W.Frag)(n:Nat)(t:EO):TG:=λv Z H Q=>∃a x,v=.ref a/\Bp K H a x/\x.length=n/\t x Z H Q
def QY(hc:X.calm=true)(h:Gj X E t)
  (z:(assignEach E X.env).length=n:=by rfl) (c:(assignEach E X.env).findIdx? (·.1)=none:=by rfl):PG X (.Tuple E k pos) (QX X.K n t):=by
 intro w s Z H v u Q I r d;obtain⟨a,x,f,g,i,d⟩:=d;subst f;cases r;obtain⟨y,j,l,q⟩:=I.tuple g;refine assign_Tuple_tuple (I.ok.hd hc) l (by simp[z,← i,j.length]) c λA m=>?_;have p:dX X w Z H {s with heap:=A}:=I.kept (t':=s.toks) λb o e=>m b o (Ay (sL e)) e;exact h w _ Z H x _ Q p (by simp_all) d
def LC(to T:TE)(t:sH):TG:=λv Z H Q=>to Z H λo a=>T Z a λi b=>t o i v b λc=>Q Z c
def QZ(b:PE X o to)(C:PE X i T)(B:LA X t)
  (G:∀v,assign (.Subscript o i pos) X.env v=(do
   let O ← holding [v] (eval o X.env)
   let a ← holding [v,O] (eval i X.env)
   standAt pos
   holding [v,O,a] (setItem O a v)
   release [v,O,a] []):=by intro _;rfl):PG X (.Subscript o i pos) (LC to T t):=by
 intro w s Z H v u Q I r h;refine dV (AS (thn (b w s Z H _ I h) λO A E=>?_));obtain⟨x,c,d,e,f⟩:=E;refine dV (AS (thn (C w A Z c _ d f) λa z ⟨y,g,j,k,l⟩=>?_));refine dV (Hl (dV (AS (thn (B w z Z g x y v O a u _ j e k r l) λ_ q ⟨m,n,p⟩=>?_))));exact wpAny_release ⟨Z,m,n,p⟩
def ER(a:TE)(g:TG):TS:=λD Z H=>a Z H λx b=>g x Z b D.nx
def LD(b:PE X e a)(c:PG X t g)(m:swapsWithSole [t] e pos.line X.env=pure false:=by rfl)(d:swappedStores [t] e X.env=pure none:=by rfl)
  (n:(assignEach [t] X.env).map (·.2)=[assign t X.env]:=by rfl):PS X (.Assign [t] e pos) (ER a g):=by
 intro p s Z H D I h;refine wpAny_Assign_stores (thn (b p s Z H _ I h) λv l z=>?_) m d;obtain⟨x,f,i,j,k⟩:=z;rw[n];exact thn (c p l Z f x v _ i j k) λ_ o q=>q
def yX(c:X.N.Nodup)(q:X.N[i]? = some x)(d:Gi X.env.scope x)(f:PE X e b)(o:swapsWith e (some (.Name x a)) pos.line X.env=pure false:=by rfl)(g:X.fn x=true\/X.env.scope.names.lookup x=some .local:=by first | exact .inl rfl | exact .inr rfl | assumption) :
  PS X (.Assign [.Name x a] e pos) (ER b (fS i)):=by
 intro p s Z H D I h;refine wpAny_Assign_Name (thn (f p s Z H _ I h) λv t z=>?_) o;obtain⟨y,j,k,l,m⟩:=z;exact jQ k c q d l (λr n=>⟨_,j,n,m⟩) g
def LF(i j:Nat)(a:TA):TS:=λD Z H=>a Z H λc b=>∃v w,c=[v,w]/\D.nx ((Z.set i (some v)).set j (some w)) b
def Ra(hc:X.calm=true)(z:X.N.Nodup)(hi:X.N[i]? = some x)(hj:X.N[j]? = some y)(m:i≠j)
  (A:X.env.scope.names.lookup x=some .local) (B:X.env.scope.names.lookup y=some .local) (ha:PA X [a,b] u)
  (F:swappedStores [.Tuple [.Name x g,.Name y k] U T] (.Tuple [a,b] l c) X.env=pure (some [x,y]))
  (hs:swapsWithSole [.Tuple [.Name x g,.Name y k] U T] (.Tuple [a,b] l c) pos.line X.env=pure false:=by rfl) :
  PS X (.Assign [.Tuple [.Name x g,.Name y k] U T] (.Tuple [a,b] l c) pos) (LF i j u):=by
 intro N s Z H D I h;refine dV (Hl ?_);refine dV (gX ?_);refine dV (Tuple_ (thn (ha _ N s Z H _ I h) λY O Z0=>?_));obtain⟨vs,C,G,J,n⟩:=Z0;obtain⟨v,w,K,n⟩:=n;subst K;obtain⟨d,f,rfl,L,r⟩:∃ d f,Y=[d,f]/\cC v d/\cC w f:=by
  cases J with
  | cons p q=>
    cases q with
    | cons M π=>
      cases π;exact⟨_,_,rfl,p,M⟩
 refine EE ?_ (by show 2<=sizeLine;decide);have P:dX X N Z C {O with heap:=O.heap.push {cls:=.type "tuple",data:=.seq [d,f].toArray}}:=G.kept (t':=O.toks) λb o e=>Ac _ e;rw[F];refine dV (gX ?_);refine dV (Cf (dV (unpackItems_tuple (items:=#[d,f]) (I.ok.hd hc) (IsTup.new O.heap _) λh' t=>?_)));have Q:=P.kept (h':=h') (t':=O.toks) λb o e=>t b o (Ay (sL e)) e;refine dV (assignInOrder_cons (wpAny_bindName (jQ Q z hj (.inl B) r (λs2 R=>?_) (.inr B))));refine assignInOrder_cons (wpAny_bindName (jQ R z hi (.inl A) L (λS E=>assignInOrder_nil (gX ?_)) (.inr A)));rw[List.set_comm _ _ (oI m)]at E;exact⟨_,C,E,n⟩
def LG(i:Nat)(T:TE)(t:JK):TS:=λD Z H=>∃x,Z[i]?=some (some x)/\T Z H λy a=>t x y a λz b=>D.nx (Z.set i (some z)) b
def Rb(q:X.N.Nodup)(N:X.N[i]? = some x)(n:Gi X.env.scope x)(t:PE X e p)(B:LB X j U)(C:X.fn x=true\/X.env.scope.names.lookup x=some .local:=by first | exact .inl rfl | exact .inr rfl | assumption) :
  PS X (.AugAssign (.Name x d) j e pos) (LG i p U):=by
 intro A s Z H D I h;obtain⟨v,E,h⟩:=h;obtain⟨m,hn,F⟩:=I.loc;have o:Io X.env.scope x:=by rcases n with k|k;exact .inl k;exact .inr (.inl k)
 obtain⟨u,r,l⟩:=F i x v N E o;refine wpAny_AugAssign_Name ?_;have O:wpAny (model X.prog X.w) X.A (eval e X.env) (λw f=>wpAny (model X.prog X.w) X.A (inplaceOp j u w) (λr g=>wpAny (model X.prog X.w) X.A (storeName X.env x r) (λ_=>SP X A D .next) X.xe g) X.xe f) X.xe s:=by
  refine thn (t A s Z H _ I h) λw Y Z0=>?_;obtain⟨y,G,J,K,L⟩:=Z0;refine thn (B A Y Z G v y u w _ J r K L) λz s2 ⟨S,M,π,P,Q⟩=>?_;exact jQ π q N n P (λT R=>⟨_,M,R,Q⟩) C
 rcases l with⟨a,hm⟩|⟨a,c,hc,b⟩;exact wpAny_loadName_local I.ok.kind a hn hm O;rcases a with a|a;exact wpAny_loadName_cell I.ok.kind a hc b O;rcases n with k|k;have:X.env.scope.names.lookup x=some .free:=a;rw[k]at this;cases this;have:X.env.scope.names.lookup x=some .free:=a;rw[k]at this;cases this
def JL(f:Int->Int->Int):JK:=λx y H Q=>∃i j,x=.int i/\y=.int j/\Q (.int (f i j)) H
def Rc:LB X .Add (JL λi j=>i+j):=by
 intro p s Z H x y v u Q I a b h;obtain⟨i,j,c,d,q⟩:=h;subst c;subst d;obtain⟨t,rfl⟩:=a;obtain⟨e,rfl⟩:=b;exact iadd_int ⟨.int _,H,I.tok _,⟨_,rfl⟩,q⟩
def JM(c:TT)(t:TS):TS:=λD Z H=>∃W:Nat->St->Hp->Prop,(∃m,W m Z H)/\∀m Z H,W m Z H ->
 c Z H λb a=>if b=true then ∃N:St->Hp->Prop,(∀d h,N d h->∃M,M < m/\W M d h)/\t {D with nx:=N,ct:=N,bk:=D.nx} Z a else D.nx Z a
def Rf(p:PassesOwn (model X.prog X.w) X.A X.env X.xe)(hc:PT X c o)(hb:BB X e J):PS X (.While c e [] pos) (JM o J):=by
 intro w s Z H D I h;obtain⟨W,⟨x,y⟩,T⟩:=h;refine wpAny_While (codeAny_whileLoop (λn Q=>∃A G,dX X w A G Q/\W n A G) ?_ x ⟨Z,H,I,y⟩);rintro n O ⟨d,q,z,B⟩;refine Fq p (thn (hc w O d q _ z (T n d q B)) λb L U=>?_);obtain⟨r,t,i⟩:=U;cases b with
 | true=>
   obtain⟨N,u,i⟩:=i;refine Fq p (thn (hb w L d r _ t i) λf C j=>?_);cases f with
   | next=>
     obtain⟨a,g,k,E⟩:=j;obtain⟨M,l,m⟩:=u a g E;exact⟨M,l,a,g,k,m⟩
   | cont=>
     obtain⟨a,g,k,E⟩:=j;obtain⟨M,l,m⟩:=u a g E;exact⟨M,l,a,g,k,m⟩
   |brk|ret v=>exact j
 | false=>
   exact wpAny_execs_nil ⟨d,r,t,i⟩
structure It where
 go:Nat->Hp->Prop
 yld:Nat->Hp->V->Hp->Prop
 stop:Nat->Hp->Prop
def Di(X:Cx)(a:List (Addr×Obj))(H:Hp)(b:Addr):Prop:=
 H b=none/\b≠X.env.locals/\b∉X.fs/\(b∈X.ex\/X.s₀.heap.objs.size<=b)/\(∀x c,X.env.cells.lookup x=some c->c≠b)/\∀p∈X.pn++a,p.1≠b
def dX.fpOk{Z:St}{b:Addr}(I:dX X d Z H s)(hb:s.heap.objs.size<=b)(h:f b=none):Di X d f b:=by
 refine⟨h,Gg (Au I.lt hb),I.nofs hb,.inr (hQ I.sz hb),λx c e z=>?_,λp a z=>?_⟩;obtain⟨v,q⟩:=I.cell x c e;exact absurd (Au q.lt (by simp_all)) (Bt _);exact absurd (Au (sL (I.pin p a).1) (by simp_all)) (Bt _)
structure BV(P:Program)(w:World)(K:W.Frag)(tg:Expr)(J:It)(fp:List Addr)(it:Addr)(tn:Nat->Heap->Prop):Prop where
 mem:it∈fp
 obj:∀i h,tn i h->∀b∈fp,∃o,h.get? b=some o/\∀v,o.data≠.cell v
 keep:∀i h h',tn i h->(∀b∈fp,∀o,h.get? b=some o->h'.get? b=some o)->tn i h'
 item:∀ (X:Cx),X.prog=P->X.w=w->X.K=K->X.calm=true->∀ (i:Nat) (pins:List (Addr×Obj)) (s:Shared) (Z:St) (H:Hp) (E:Value->Shared->Prop),dX X pins Z H s->(∀ b∈fp,Di X pins H b)->tn i s.heap->J.go i H ->
  wpAny (model P w) X.A (pyNext (.ref it)) (λr s1=>∃u,r=some u /\
   wpAny (model P w) X.A (letOwnedTupleGo tg (.ref it) u) (λ_ s2=>∃x H',dX X pins Z H' s2/\cC x u/\J.yld i H x H'/\tn (i+1) s2.heap/\∀b∈fp,H' b=none) E s1) E s
 done:∀(X:Cx),X.prog=P->X.w=w->X.K=K->X.calm=true->∀(i:Nat) (pins:List (Addr×Obj)) (s:Shared) (Z:St) (H:Hp) (E:Value->Shared->Prop),dX X pins Z H s->(∀b∈fp,Di X pins H b)->tn i s.heap->J.stop i H ->
  wpAny (model P w) X.A (pyNext (.ref it)) (λr s1=>r=none/\dX X pins Z H s1) E s
 self:∀(A:Around) (i:Nat) (s:Shared) (Q:Value->Shared->Prop) (E:Value->Shared->Prop),tn i s.heap->Q (.ref it) s->wpAny (model P w) A (pyIter (.ref it)) Q E s
abbrev TI:=St->Hp->(It->Hp->Prop)->Prop
def LH(X:Cx)(p:List (Addr×Obj))(Z:St)(T:Expr)(R:It->Hp->Prop)(a:Value)(s:Shared):Prop:=
 ∃(i:Addr) (f:List Addr) (t:Nat->Heap->Prop) (J:It) (H:Hp),a=.ref i/\dX X p Z H s/\BV X.prog X.w X.K T J f i t/\t 0 s.heap/\(∀b∈f,Di X p H b)/\R J H
def PI(X:Cx)(t iter:Expr)(a:TI):Prop:=
 ∀ (p:List (Addr×Obj)) (s:Shared) (Z:St) (H:Hp) (R:It->Hp->Prop),dX X p Z H s->a Z H R ->
   wpAny (model X.prog X.w) X.A (eval iter X.env) (λv b=>wpAny (model X.prog X.w) X.A (pyIter v) (LH X p Z t R) X.xe b) X.xe s
def Hv(b:s.heap.get? i=some o)(hc:o.cls=.type n)(c:o.data=.fields v)
  (H:["enumerate","zip","dict_itemiterator","dict_reverseitemiterator","odict_iterator","itertools.zip_longest","itertools.pairwise"].contains n=false) (a:Q () s):wpAny M A (letOwnedTupleGo t (.ref i) u) Q E s:=by
 cases t<;>first
  |exact gX a
  | (cases u<;>first
    |exact gX a
    | (refine dV (wpAny_load b ?_)
       rw[hc,c];show wpAny M A (if(["enumerate","zip","dict_itemiterator","dict_reverseitemiterator","odict_iterator","itertools.zip_longest","itertools.pairwise"].contains n&&v[0]? == some (rawInt _))=true then _ else _) Q E s;rw[a0m (by intro h;rw[H,Bool.false_and]at h;lia)];exact gX a))
noncomputable def JN(K:W.Frag)(a:Addr):It:=
 ⟨λi H=>∃b x,AU K H a b/\b[i]?=some x,λi H x h=>h=H/\∀b,AU K H a b->b[i]?=some x,λi H=>∃b,AU K H a b/\b.length<=i⟩
noncomputable def JO(K:W.Frag)(a:Addr):It:=
 ⟨λi H=>∃b x,Bp K H a b/\b[i]?=some x,λi H x h=>h=H/\∀b,Bp K H a b->b[i]?=some x,λi H=>∃b,Bp K H a b/\b.length<=i⟩
noncomputable def Ip(l:Int)(n:Nat):It:=⟨λi _=>i<n,λi H x h=>h=H/\x=.int (l+i),λi _=>n<=i⟩
def Rg{K:W.Frag}(a T:Addr):BV P w K tg (JN K a) [T] T (λi h=>h.IsListIter T a i) where
 mem:=by simp
 obj:=λi h O b U=>by
  have e:b=T:=by simp_all
  obtain⟨o,e,c,d⟩:=O
  simp_all
 keep:=λi h h' O k=>O.at λo e=>k T (by simp) o e
 item:=by
  intro X j l m hc i Q s Z H E I f O n;subst j l m;obtain⟨xs,x,g,q⟩:=n;obtain⟨its,r,p,B⟩:=I.list g;obtain⟨u,M,C⟩:=r.get q;obtain⟨t,v,D,y,z,A⟩:=f T (by simp);refine wpAny_pyNext_list_item O p.isList (x:=u) (by simp_all) λh' Y F=>?_;have G:dX X Q Z H {s with heap:=h'}:=I.turned (t':=s.toks) (λb o U e=>(F.2 b U).trans e) t v y z A;obtain⟨o,e,c,d⟩:=id Y;exact⟨u,rfl,Hv (s:={s with heap:=h'}) e c d (rfl) ⟨x,H,G,C,⟨rfl,λys J=>by rw[I.list_inj J g];exact q⟩,Y,λb U=>(f b U).1⟩⟩
 done:=by
  intro X j l m hc i Q s Z H E I f O n;subst j l m;obtain⟨xs,g,q⟩:=n;obtain⟨its,r,p,B⟩:=I.list g;obtain⟨t,v,D,y,z,A⟩:=f T (by simp);have N:=r.length;exact wpAny_pyNext_list_end (I.ok.hd hc) O p.isList (by simp_all) λh' L=>⟨rfl,I.turned (t':=s.toks) (λb o U e=>L b o U e) t v y z A⟩
 self:=λ_ _ _ _ _ O h=>wpAny_pyIter_listiter O h
def Rh{K:W.Frag}(a U:Addr):BV P w K tg (JO K a) [U] U (λi h=>h.IsTupleIter U a i) where
 mem:=by simp
 obj:=λi h O b Y=>by
  have e:b=U:=by simp_all
  obtain⟨o,e,c,d⟩:=O
  simp_all
 keep:=λi h h' O k=>O.at λo e=>k U (by simp) o e
 item:=by
  intro X j l m hc i Q s Z H E I f O n;subst j l m;obtain⟨xs,x,g,q⟩:=n;obtain⟨T,r,p,B⟩:=I.tuple g;obtain⟨u,M,C⟩:=r.get q;obtain⟨t,v,D,y,z,A⟩:=f U (by simp);refine wpAny_pyNext_tuple_item O (show s.heap.IsTuple a T.toArray from p) (x:=u) (by simp_all) λh' st' F=>?_;have G:dX X Q Z H {s with heap:=h'}:=I.turned (t':=s.toks) (λb o Y e=>(F.2 b Y).trans e) t v y z A;obtain⟨o,e,c,d⟩:=id st';exact⟨u,rfl,Hv (s:={s with heap:=h'}) e c d (rfl) ⟨x,H,G,C,⟨rfl,λys J=>by rw[I.tuple_inj J g];exact q⟩,st',λb Y=>(f b Y).1⟩⟩
 done:=by
  intro X j l m hc i Q s Z H E I f O n;subst j l m;obtain⟨xs,g,q⟩:=n;obtain⟨T,r,p,B⟩:=I.tuple g;obtain⟨t,v,D,y,z,A⟩:=f U (by simp);have N:=r.length;exact wpAny_pyNext_tuple_end (I.ok.hd hc) O (show s.heap.IsTuple a T.toArray from p) (by simp;lia) λh' L=>⟨rfl,I.turned (t':=s.toks) (λb o Y e=>L b o Y e) t v y z A⟩
 self:=λ_ _ _ _ _ O h=>wpAny_pyIter_tupleiter O h
def Ri{K:W.Frag}(C:Addr)(L:Int)(n:Nat):BV P w K N (Ip L n) [C] C (λi h=>IsRangeIter h C (L+(i:Nat)*1) ((n:Int)-(i:Nat)) 1) where
 mem:=by simp
 obj:=λi h A b J=>by simp_all
 keep:=λi h M A k=>k C (by simp) _ A
 item:=by
  intro X m p q hc i B s Z H E I a A c;subst m p q;obtain⟨d,f,r,g,j,l⟩:=a C (by simp);have W:=Walks.range (prog:=X.prog) (w:=X.w) (I.ok.hd hc) C L 1 n;refine W.item i s _ _ c A λv M T u G x=>?_;obtain⟨t,rfl⟩:=u;have y:dX X B Z H {s with heap:=M,toks:=T}:=I.turned (λb o J e=>x b o (by simp_all) e) d f g j l;refine⟨_,rfl,Hv (s:={s with heap:=M,toks:=T}) (n:="range_iterator") G rfl rfl (rfl) ⟨.int (L+i),H,y,⟨t,?_⟩,⟨rfl,rfl⟩,G,λb J=>(a b J).1⟩⟩;simp
 done:=by
  intro X m p q hc i B s Z H E I a A c;obtain⟨d,f,r,g,j,l⟩:=a C (by simp);exact wpAny_pyNext_range_end (I.ok.hd hc) A (by have:n<=i:=c;lia) λM z=>⟨rfl,I.turned (t':=s.toks) (λb o J e=>z b o J e) d f g j l⟩
 self:=λ_ _ _ _ _ A h=>wpAny_pyIter_rangeiter A h
def Rj{Z:St}{l i:Int}(I:dX X p Z H s)(j:-(2 ^ 62)<=l)(c:l < 2 ^ 62)(d:-(2 ^ 62)<=i)(f:i < 2 ^ 62)
  (q:R (Ip l (i-l).toNat) H):wpAny (model X.prog X.w) X.A (pyIter (.ref s.heap.objs.size)) (LH X p Z k R) E {s with heap:=s.heap.push {cls:=.type "range",data:=.fields #[.int l t,.int i u,.int 1 v]},toks:=T}:=by
 refine wpAny_pyIter_range (IsRange.new ..) (small_one j c d f) ?_;have a:dX X p Z H {s with heap:=s.heap.push {cls:=.type "range",data:=.fields #[.int l t,.int i u,.int 1 v]},toks:=T}:=I.kept λb o e=>Ac _ e;refine⟨(s.heap.push {cls:=.type "range",data:=.fields #[.int l t,.int i u,.int 1 v]}).objs.size,[(s.heap.push {cls:=.type "range",data:=.fields #[.int l t,.int i u,.int 1 v]}).objs.size],_,_,H,rfl,
  a.kept (t':=T) λb o e=>Ac _ e,Ri _ l (i-l).toNat,?_,λb m=>?_,q⟩
 ·have g:l+((0:Nat):Int)*1=l:=by simp
  have h:(((i-l).toNat:Nat):Int)-((0:Nat):Int)=Builtin.Range.rangeSize l i 1:=by rw[rangeSize_one];lia
  rw[g,h];exact Al _ rfl
 ·have e:b=(s.heap.push {cls:=.type "range",data:=.fields #[.int l t,.int i u,.int 1 v]}).objs.size:=by simp_all
  subst e;exact a.fpOk (hC _) (a.hok.fresh (hC _))
def LI(a:TA):TI:=λZ H R=>a Z H λv b=>∃j:Int,v=[.int j] /\ -(2^62)<=j/\j<2^62/\R (Ip 0 j.toNat) b
def Rk(d:Gl X "range")(f:X.mg "range"=none)(u:PA X [a] c)(o:starEach [a] X.env=[(false,eval a X.env)]:=by rfl):PI X T (.Call (.Name "range" p) [a] [] pos) (LI c):=by
 intro n s Z H R I h;refine Call_ (iD I d f boot_range (Fu (thn (u pos n s Z H _ I h) λU w z=>?_) o rfl));obtain⟨v,m,g,i,b⟩:=z;obtain⟨j,e,b,k,q⟩:=b;subst e;cases i with
 | cons r l=>
   cases l;obtain⟨t,rfl⟩:=r;exact call_range_1 (Rj g (by lia) (by lia) b k (by simp_all))
def DN(b:TI)(g:TG)(t:TS):TS:=λD Z H=>b Z H λJ c=>∃W:Nat->Nat->St->Hp->Prop,(∃m,W 0 m Z c)/\∀i m Z H,W i m Z H ->
 (J.stop i H/\D.nx Z H)\/(J.go i H/\∃N:St->Hp->Prop,(∀e h,N e h->∃M,M < m/\W (i+1) M e h)/\∀x h,J.yld i H x h->g x Z h λa d=>t {D with nx:=N,ct:=N,bk:=D.nx} a d)
noncomputable def mR(f:List Addr)(h:Heap):List (Addr×Obj):=f.filterMap λb=>(h.get? b).map λo=>(b,o)
def iP(hb:b∈f)(e:h.get? b=some o):(b,o)∈mR f h:=Hq.mpr ⟨b,hb,by simp_all⟩
def Rl(a:p∈mR f h):p.1∈f/\h.get? p.1=some p.2:=by
 obtain⟨b,H,e⟩:=Hq.mp a;cases q:h.get? b with
 |none=>simp_all
 | some o=>
   rw[q]at e;have c:(b,o)=p:=Ap e;subst c
   simp_all
def dX.pinned{Z:St}(I:dX X k Z H s)(a:∀ b∈n,Di X k H b)(c:∀ b∈n,∃ o,s.heap.get? b=some o/\∀ v,o.data≠.cell v):dX X (k++mR n s.heap) Z H s:=
 I.pins_of λp f=>(sU.mp f).elim (λz=>I.pin p (BQ _ z)) λz=>by
  obtain⟨l,e⟩:=Rl z;obtain⟨g,h,i,_⟩:=a p.1 l;obtain⟨o,j,d⟩:=c p.1 l
  simp_all
def dX.unpinned{Z:St}(I:dX X (b++d) Z H s):dX X b Z H s:=I.pins_of λp a=>I.pin p (BQ _ (Ge _ a))
def oW(z:PassesOwn (model X.prog X.w) X.A X.env X.xe)(hc:X.calm=true)(hi:PI X tg iter Q)(hg:PG X tg g)(hb:BB X p tb)
  (hs:∀x,foldedSetIterable iter X.env x=pure x:=by intro _;rfl):PS X (.For tg iter p [] pos) (DN Q g tb):=by
 intro q s Z H D I h;refine wpAny_For (thn (hi q s Z H _ I h) λv s1 h1=>thn h1 λitv s2 h2=>?_) hs;obtain⟨it,fp,tn,J,H2,e,I2,T,G,R,W,⟨m0,w0⟩,turn⟩:=h2;subst e
 have c:∀{A:Hp},(∀b∈fp,A b=none)->∀b∈fp,Di X q A b:=λhn b hb=>⟨hn b hb,(R b hb).2⟩;refine codeAny_forLoop_any (λn s'=>∃i w A,dX X q w A s'/\tn i s'.heap/\(∀b∈fp,A b=none)/\W i n w A) ?_ m0 ⟨0,Z,H2,I2,G,λb hb=>(R b hb).1,w0⟩;rintro n U ⟨i,j,F,V,B,C,w3⟩;rcases turn i n j F w3 with⟨stop,qn⟩|⟨go,N,hN,step⟩
 ·refine Fq z (thn (T.done X rfl rfl rfl hc i q U j F X.xe V (c C) B stop) λr s4 Z0=>?_);obtain⟨K,I4⟩:=Z0;subst K;exact wpAny_execs_nil ⟨j,F,I4,qn⟩
 ·refine Fq z (thn (T.item X rfl rfl rfl hc i q U j F X.xe V (c C) B go) λr s4 Z0=>?_);obtain⟨u,K,h4⟩:=Z0;subst K;refine Fq z (thn h4 λ_ Y ⟨x,σ,I5,r5,y5,y,L⟩=>?_);have M:=I5.pinned (c L) (T.obj _ _ y);refine Fq z (thn (hg _ Y j σ x u _ M r5 (step x σ y5)) λ_ s6 ⟨π,H6,I6,q6⟩=>?_);refine Fq z (thn (hb _ s6 π H6 _ I6 q6) λf P t=>?_);have O:∀ {a:St} {k:Hp},dX X (q++mR fp Y.heap) a k P->N a k->∃ m,m < n/\∃ i w A,dX X q w A P/\tn i P.heap/\(∀ b∈fp,A b=none)/\W i m w A:=λ{a k} l E=>by
   obtain⟨m',hm,w7⟩:=hN a k E;refine⟨m',hm,i+1,a,k,l.unpinned,T.keep _ _ _ y λb hb o e=>(l.pin (b,o) (BQ _ (BQ _ (iP hb e)))).1,λb hb=>?_,w7⟩;obtain⟨o,e,d⟩:=T.obj _ _ y b hb;exact(l.pin (b,o) (BQ _ (BQ _ (iP hb e)))).2.1
  cases f with
  |next|cont=>obtain⟨a,k,l,E⟩:=t;exact O l E
  |brk=>obtain⟨a,k,l,t⟩:=t;exact⟨a,k,l.unpinned,t⟩
  |ret v=>obtain⟨x7,a,k,l,r7,t⟩:=t;exact⟨x7,a,k,l.unpinned,r7,t⟩
abbrev R2:=V->V->Hp->VK->Prop
def Ar(X:Cx)(f:Value->Value->Sem Value)(r:R2):Prop:=
 ∀ (p:List (Addr×Obj)) (s:Shared) (Z:St) (H:Hp) (x y:V) (v u:Value) (Q:VK),dX X p Z H s->cC x v->cC y u->r x y H Q ->
   wpAny (model X.prog X.w) X.A (f v u) (EP X p Z Q) X.xe s
def iE(X:Cx)(f:Value)(r:List V->Hp->VK->Prop):Prop:=
 ∀ (p:List (Addr×Obj)) (s:Shared) (Z:St) (H:Hp) (x:List V) (u:List Value) (Q:VK),dX X p Z H s->bC x u->r x H Q ->
   wpAny (model X.prog X.w) X.A (call f u) (EP X p Z Q) X.xe s
def Rm(X:Cx)(r:V->Hp->(Bool->Hp->Prop)->Prop):Prop:=
 ∀ (p:List (Addr×Obj)) (s:Shared) (Z:St) (H:Hp) (x:V) (v:Value) (Q:Bool->Hp->Prop),dX X p Z H s->cC x v->r x H Q ->
   wpAny (model X.prog X.w) X.A (truthy v) (TP X p Z Q) X.xe s
def Ei(r:R2)(a t:TE):TE:=λZ H Q=>a Z H λx b=>t Z b λy c=>r x y c Q
def rI(C:Int->Int->Prop)(g:Int->Int->V):R2:=λx y H Q=>∃i j,x=.int i/\y=.int j/\C i j/\Q (g i j) H
def CT(g:Int->Int->V):R2:=λx y H Q=>∃i j,x=.int i/\y=.int j/\Q (g i j) H
def JP{Z:St}{R:V->V->Hp->Prop}{f:Value->Value->Sem Value}(w:PE X a T)(hb:PE X b t)(I:dX X p Z H s)
  (h:T Z H λx g=>t Z g λy c=>R x y c)  
  (i:∀v u q x y c,dX X p Z c q->cC x v->cC y u->R x y c->wpAny (model X.prog X.w) X.A (f v u) Q X.xe q) :
  wpAny (model X.prog X.w) X.A (eval a X.env) (λv d=>wpAny (model X.prog X.w) X.A (eval b X.env) (λu e=>wpAny (model X.prog X.w) X.A (f v u) Q X.xe e) X.xe d) X.xe s:=by
 refine thn (w p s Z H _ I h) λv r z=>?_;obtain⟨x,g,j,k,l⟩:=z;refine thn (hb p r Z g _ j l) λu q ⟨y,c,m,n,o⟩=>?_;exact i v u q x y c m k n o
def Rn(d:Ar X (binaryOp c) r)(k:PE X a T)(hb:PE X b t):PE X (.BinOp a c b pos) (Ei r T t):=by
 intro p s Z H Q I h;exact wpAny_BinOp (JP k hb I h λv u j x y e f g i q=>d p j Z e x y v u Q f g i q)
def Hw{g:Int->Int->Int}
  (r:∀(i j:Int) (t u:Tok) (s:Shared) (Q:Value->Shared->Prop) (E:Value->Shared->Prop),C i j->Q (.int (g i j) s.toks) {s with toks:=s.toks+1}->wpAny (model X.prog X.w) X.A (f (.int i t) (.int j u)) Q E s) :
  Ar X f (rI C λi j=>.int (g i j)):=by
 intro p s Z H x y v u Q I a b h;obtain⟨i,j,rfl,rfl,hc,q⟩:=h;obtain⟨t,rfl⟩:=a;obtain⟨c,rfl⟩:=b;exact r i j t c s _ _ hc ⟨.int (g i j),H,I.tok _,⟨_,rfl⟩,q⟩
def LJ{g:Int->Int->Int}
  (r:∀(i j:Int) (t u:Tok) (s:Shared) (Q:Value->Shared->Prop) (E:Value->Shared->Prop),Q (.int (g i j) s.toks) {s with toks:=s.toks+1}->wpAny (model X.prog X.w) X.A (f (.int i t) (.int j u)) Q E s) :
  Ar X f (CT λi j=>.int (g i j)):=by
 intro p s Z H x y v u Q I a b h;obtain⟨i,j,rfl,rfl,q⟩:=h;obtain⟨t,rfl⟩:=a;obtain⟨c,rfl⟩:=b;exact r i j t c s _ _ ⟨.int (g i j),H,I.tok _,⟨_,rfl⟩,q⟩
def JQ{g:Int->Int->Bool}
  (r:∀(i j:Int) (t u:Tok) (s:Shared) (Q:Value->Shared->Prop) (E:Value->Shared->Prop),Q (.bool (g i j)) s->wpAny (model X.prog X.w) X.A (f (.int i t) (.int j u)) Q E s) :
  Ar X f (CT λi j=>.bl (g i j)):=by
 intro p s Z H x y v u Q I a b h;obtain⟨i,j,rfl,rfl,q⟩:=h;obtain⟨t,rfl⟩:=a;obtain⟨c,rfl⟩:=b;exact r i j t c s _ _ ⟨.bl (g i j),H,I,rfl,q⟩
def Gn(i j:Int):Prop:=0<=j/\j<=1000000/\i.natAbs<2^64
def Hx(i j:Int):Prop:=(-(2^64)<i/\i<2^64)\/(-(2^64)<j/\j<2^64)
theorem Hx.ok(h:Hx i j):IntMulOk i j:=by
 rcases h with⟨a,b⟩|⟨a,b⟩;exact .of_left (intBits_le_64 a b);exact .of_right (intBits_le_64 a b)
def Ro:Ar X (binaryOp .Add) (CT λi j=>.int (i+j)):=LJ λ_ _ _ _ _ _ _ q=>add_int q
def Rq:Ar X (binaryOp .Sub) (CT λi j=>.int (i-j)):=LJ λ_ _ _ _ _ _ _ q=>sub_int q
def Rr:Ar X (binaryOp .Mult) (rI Hx λi j=>.int (i*j)):=Hw λ_ _ _ _ _ _ _ hc q=>mul_int q hc.ok
def Rt:Ar X (binaryOp .Mod) (rI (λ_ j=>0<j) λi j=>.int (i % j)):=Hw λi j _ _ _ _ _ hc q=>by
 exact mod_int' (by lia) (by rw[Int.fmod_eq_emod_of_nonneg i (by lia)];exact q)
def Ru:Ar X (binaryOp .Pow) (rI Gn λi j=>.int (i^j.toNat)):=Hw λ_ _ _ _ _ _ _ hc q=>pow_int_small hc.1 hc.2.1 hc.2.2 q
def LK{Z:St}(I:dX X p Z H s)(q:Q (.bl k) H)(e:k=a):EP X p Z Q (.bool a) s:=by
 subst e;exact⟨.bl k,H,I,rfl,q⟩
def LL:Ar X (compareOp .Lt) (CT λi j=>.bl (decide (i<j))):=JQ λ_ _ _ _ _ _ _ q=>lt_int q
def LM:Ar X (compareOp .Gt) (CT λi j=>.bl (decide (j<i))):=JQ λ_ _ _ _ _ _ _ q=>gt_int q
def Rv:Ar X (compareOp .GtE) (CT λi j=>.bl (decide (j<=i))):=JQ λ_ _ _ _ _ _ _ q=>ge_int q
def Rw:Ar X (compareOp .In) (λx y H Q=>∃i j,x=.str i/\y=.str j/\Q (.bl (!(occurrences j i 0 j.length 1).isEmpty)) H):=by
 intro p s Z H x y v u Q I a b h;obtain⟨i,j,rfl,rfl,q⟩:=h;obtain⟨t,rfl⟩:=a;obtain⟨c,rfl⟩:=b;exact in_str (LK I q rfl)
def sN:Ar X (compareOp .NotIn) (λx y H Q=>∃i j,x=.str i/\y=.str j/\Q (.bl (!(!(occurrences j i 0 j.length 1).isEmpty))) H):=by
 intro p s Z H x y v u Q I a b h;obtain⟨i,j,rfl,rfl,q⟩:=h;obtain⟨t,rfl⟩:=a;obtain⟨c,rfl⟩:=b;exact notIn_str (LK I q rfl)
def Ar.or(h:Ar X f r)(h':Ar X f a):Ar X f (λx y H Q=>r x y H Q\/a x y H Q):=by
 intro p s Z H x y v u Q I b c q;rcases q with q|q;exact h p s Z H x y v u Q I b c q;exact h' p s Z H x y v u Q I b c q
def lC(b:Expr)(h:a≠.In:=by decide)(e:a≠.NotIn:=by decide):behindInMarks a b=false:=by
 have c:(a==CmpOp.In)=false:=by lia
 have d:(a==CmpOp.NotIn)=false:=by lia
 cases b<;>first|rfl|(show(_&&(_||_)&&_)=false;rw[c,d];simp)
def Rx(d:Ar X (compareOp c) r)(l:PE X a T)(hb:PE X b t)(e:behindInMarks c b=false):PE X (.Compare a [c] [b] pos) (Ei r T t):=by
 intro p s Z H Q I h;exact wpAny_Compare1 (JP l hb I h λv u k x y f g i j q=>d p k Z f x y v u Q g i j q) e
def Ry(t:TE):TT:=λZ H Q=>t Z H λx h=>∃k,x=.bl k/\Q k h
def Rz(f:Ar X (compareOp d) r)(M:PE X a G)(hb:PE X b T)(g:behindInMarks d b=false):PT X (.Compare a [d] [b] pos) (Ry (Ei r G T)):=by
 intro E s Z H Q I h;refine wpAny_isTrue_Compare1 (thn (M E s Z H _ I h) λv L ⟨x,i,j,l,m⟩=>thn (hb E L Z i _ j m) λu J ⟨y,n,o,p,q⟩=>
  thn (f E J Z n x y v u _ o l p q) λc C ⟨z,t,w,A,k,e,B⟩=>?_) g
 subst e;cases A;exact Hi ⟨t,w,B⟩
def LN(K:W.Frag)(x:V)(H:Hp)(k:Bool):Prop:=
 match x with
 |.non=>k=false
 |.bl b=>k=b
 |.int i=>k=(i != 0)
 |.str y=>y.length<=sizeLine/\k=((y.length:Int) != 0)
 |.byt y=>y.size<=sizeLine/\k=((y.size:Int) != 0)
 |.ref p=>(∃a,AU K H p a/\k = !a.isEmpty)\/(∃a,Bp K H p a/\k = !a.isEmpty)\/∃c,H p=some (.dK c)/\k = !c.isEmpty
 |_=>False
def RB{v:List (κ×Value)}(r:KV k v):(!v.isEmpty) = !k.isEmpty:=by
 cases r<;>rfl
def oX(r:bC xs i):(!i.toArray.isEmpty) = !xs.isEmpty:=by
 cases r<;>simp
def lD:(sizeLine:Nat)<2^63:=by decide
def RC:Rm X (λx H Q=>∃k,LN X.K x H k/\Q k H):=by
 intro A s Z H x v Q I d h;obtain⟨k,e,q⟩:=h;have l:=lD;have C:sizeLine=16777216:=Ct;cases x with
 | non=>
   cases d;have a:k=false:=e;subst a;exact truthy_none ⟨H,I,q⟩
 | bl b=>
   cases d;have a:k=b:=e;subst a;exact Hi ⟨H,I,q⟩
 | int i=>
   obtain⟨t,rfl⟩:=d;have a:k=(i != 0):=e;subst a;exact PySem.P.truthy_int ⟨H,I,q⟩
 | str y=>
   obtain⟨t,rfl⟩:=d;obtain⟨j,a⟩:y.length<=sizeLine/\k=((y.length:Int) != 0):=e;subst a;exact PySem.P.truthy_str (by lia) ⟨H,I.tok _,q⟩
 | byt y=>
   obtain⟨t,rfl⟩:=d;obtain⟨j,a⟩:y.size<=sizeLine/\k=((y.size:Int) != 0):=e;subst a;exact W.truthy_bytes (by lia) ⟨H,I.tok _,q⟩
 | ref p=>
   cases d;have a:(∃o,AU X.K H p o/\k = !o.isEmpty)\/(∃o,Bp X.K H p o/\k = !o.isEmpty)\/∃n,H p=some (.dK n)/\k = !n.isEmpty:=e;rcases a with⟨o,f,a⟩|⟨o,f,a⟩|⟨n,f,a⟩;subst a;obtain⟨z,r,w,g⟩:=I.list f;have c:=r.length;exact wpAny_truthy_list w.isList (by simp only[size_toArray];lia) ⟨H,I.tok _,by rw[oX r];exact q⟩;subst a;obtain⟨z,r,w,g⟩:=I.tuple f;have c:=r.length;exact truthy_tuple w (by simp only[size_toArray];lia) ⟨H,I.tok _,by rw[oX r];exact q⟩;subst a;obtain⟨g,B,u,r,m⟩:n.length<=sizeLine/\(p==sysModules)=false/\∃u,KV n u/\s.heap.DictOf (cD X.prog X.w) p u:=I.hok p _ f;have c:n.length=u.length:=Paired.length r;exact wpAny_truthy_dict B m (by lia) ⟨H,I.tok _,by rw[RB r];exact q⟩
 |_=>exact(show False from e).elim
def RF(l:PE X a t)(c:∀ b,isTrue a X.env b=(do let v ← b;standAt a.pos;holding [v] (truthy v))) :
  PT X a (λZ H Q=>t Z H λx i=>∃k,LN X.K x i k/\Q k i):=by
 intro p s Z H Q I h;exact isTrue_plain (thn (l p s Z H _ I h) λv j ⟨x,d,e,f,g⟩=>RC p j Z d x v Q e f g) (c _)
def RG:Ar X (binaryOp .Add) (λx y H Q=>∃i j,x=.str i/\y=.str j/\i.length+j.length<=sizeLine/\Q (.str (i++j)) H):=by
 intro p s Z H x y v u Q I a b h;obtain⟨i,j,rfl,rfl,c,q⟩:=h;obtain⟨t,rfl⟩:=a;obtain⟨d,rfl⟩:=b;exact add_str (λd T=>⟨.str (i++j),H,I.tok _,⟨_,rfl⟩,q⟩) c
def oG(r:bC [x] U):∃u,U=[u]/\cC x u:=by
 cases r with
 |cons b a=>cases a;simp_all
def LO(r:bC [x,y] U):∃u a,U=[u,a]/\cC x u/\cC y a:=by
 cases r with
 | cons b c=>
   cases c with
   |cons d e=>cases e;exact⟨_,_,rfl,b,d⟩
def RH(hc:X.calm=true):iE X (.builtin "max") (λxs H Q=>∃i j,xs=[.int i,.int j]/\Q (.int (if j > i then j else i)) H):=by
 intro p s Z H xs U Q I r h;obtain⟨i,j,rfl,q⟩:=h;obtain⟨u,a,rfl,⟨t,rfl⟩,⟨b,rfl⟩⟩:=LO r;refine max_two_ints (I.ok.hd hc) λd T k=>⟨_,H,I.kept k,?_,q⟩;by_cases c:j > i;rw[eH c,eH c];exact⟨_,rfl⟩;rw[a0m c,a0m c];exact⟨_,rfl⟩
def RJ(hc:X.calm=true):iE X (.builtin "min") (λxs H Q=>∃i j,xs=[.int i,.int j]/\Q (.int (if j<i then j else i)) H):=by
 intro p s Z H xs U Q I r h;obtain⟨i,j,rfl,q⟩:=h;obtain⟨u,a,rfl,⟨t,rfl⟩,⟨b,rfl⟩⟩:=LO r;refine min_two_ints (I.ok.hd hc) λd T k=>⟨_,H,I.kept k,?_,q⟩;by_cases c:j<i;rw[eH c,eH c];exact⟨_,rfl⟩;rw[a0m c,a0m c];exact⟨_,rfl⟩
def RK:iE X (.type "int") (λxs H Q=>(∃i,xs=[.int i]/\Q (.int i) H)\/∃k,xs=[.bl k]/\Q (.int (if k then 1 else 0)) H):=by
 intro p s Z H xs U Q I r h;rcases h with⟨i,rfl,q⟩|⟨k,rfl,q⟩;obtain⟨u,rfl,t,rfl⟩:=oG r;exact call_int_int ⟨.int i,H,I,⟨_,rfl⟩,q⟩;obtain⟨u,rfl,a⟩:=oG r;cases a;exact call_int_bool ⟨.int (if k then 1 else 0),H,I.tok _,⟨_,rfl⟩,q⟩
structure JR(h:Heap)(x dx C:Addr)(mA:Str->Option Value):Prop where
 obj:h.get? x=some (W.instObj C dx)
 ns:h.Ns1 dx mA
 ne:dx≠x
def CF.some_of(r:CF (some v) o):∃u,o=some u/\cC v u:=by
 cases o with
 |none=>exact(show False from r).elim
 |some u=>exact⟨u,rfl,r⟩
def gP(hok:AD P w H h)(e:H a=some (.ins C c b)):∃m,JR h a c C m/\(∀f,CF (b.lookup f) (m f))/\Within m (b.map (·.1))/\b.length<=1000/\H c=some (.own a):=by
 obtain⟨d,z,N,o,m,n,r,q⟩:=(show cH P w H h a (.ins C c b)from hok a _ e);exact⟨m,⟨o,n,N⟩,r,q,z,d⟩
structure Ah(k:Nat)(A:Around):Prop where
 hd:A.handled=none
 dp:A.depth+3*k+5<recursionLimit
 un:A.units+16*k+200<cLine
 gd:A.guards=some []
def Ah.mono(r:Ah k A)(h:j<=k):Ah j A:=⟨r.hd,by have:=r.dp;lia,by have:=r.un;lia,r.gd⟩
theorem Ah.deeper(r:Ah (k+1) A)(env:Env):Ah k (A.deeper env):=
 ⟨r.hd,by have:=r.dp;show A.depth+1+3*k+5 < _;lia,by have:=r.un;show A.units+3+16*k+200 < _;lia,r.gd⟩
theorem Ah.depth(r:Ah k A):A.depth<recursionLimit:=by have:=r.dp;lia
theorem Ah.units(r:Ah k A):A.units+64<cLine:=by have:=r.un;lia
def Gp:TA:=λ_ H Q=>Q [] H
def Iq(a:TE)(tr:TA):TA:=λZ H Q=>a Z H λx b=>tr Z b λd c=>Q (x::d) c
def JS:PA X [] Gp:=λ_ _ _ _ H Q I h=>Calls.spliced_nil ⟨[],H,I,.nil,h⟩
def LP(q:PE X e T)(a:PA X E t)(o:starEach (e::E) X.env=(false,eval e X.env)::starEach E X.env:=by rfl):PA X (e::E) (Iq T t):=by
 intro l p s Z H Q I h;rw[o];refine Calls.spliced_cons (thn (q p s Z H _ I h) λu n z=>?_);obtain⟨x,b,c,d,f⟩:=z;exact thn (a l p n Z b _ c f) λU r ⟨m,g,i,j,k⟩=>⟨x::m,g,i,.cons d j,k⟩
def RL(t:TA):TE:=λZ H Q=>t Z H λx a=>x.length<=sizeLine/\∀p,a p=none->Q (.ref p) (gV a p (.tup x))
def JT(t:TA):TE:=λZ H Q=>t Z H λx a=>x.length<=sizeLine/\∀p,a p=none->Q (.ref p) (gV a p (.lst x))
def RM(h:PA X E t):PE X (.Tuple E d pos) (RL t):=by
 intro p s Z H Q I f;refine wpAny_Tuple_spliced (thn (h pos p s Z H _ I f) λU i ⟨x,a,c,r,z,q⟩=>⟨by rw[← r.length];exact z,?_⟩);have g:a i.heap.objs.size=none:=c.hok.fresh (hC _);refine⟨.ref i.heap.objs.size,gV a i.heap.objs.size (.tup x),c.laid (t':=i.toks) (λb u e=>Ac _ e) (hC _) ?_,rfl,q _ g⟩;exact⟨z,U,r,⟨_,Al _ rfl,rfl,_,rfl⟩,⟨_,Al _ rfl,rfl⟩⟩
def LQ(h:PA X E t):PE X (.List E pos) (JT t):=by
 intro p s Z H Q I d;refine wpAny_List_spliced (thn (h pos p s Z H _ I d) λU g ⟨x,a,c,r,z,q⟩=>⟨by rw[← r.length];exact z,?_⟩);have f:a g.heap.objs.size=none:=c.hok.fresh (hC _);refine⟨.ref g.heap.objs.size,gV a g.heap.objs.size (.lst x),c.laid (t':=g.toks) (λb u e=>Ac _ e) (hC _) ?_,rfl,q _ f⟩;exact⟨z,U,0,r,Al _ rfl⟩
abbrev Sp:=List V->Hp->VK->XK->Prop
abbrev Gq:=List Env->Hp->Shared->XK->Value->Shared->Prop
structure Ej(P:Program)(w:World)(K:W.Frag)(mg:Str->Option Value)(base:Heap)(A:Around)(outer:List Env)(s:Shared)(H:Hp):Prop where
 frames:A.frames=some outer
 mod:Mod K mg base
 bs:∀b o,base.get? b=some o->s.heap.get? b=some o/\H b=none
 bsz:base.objs.size<=s.heap.objs.size
 funs:s.heap.FunFrames base outer
 frf:∀b∈frs outer,H b=none
 hok:AD P w H s.heap
 bare:AllBare s.gens
def CE(outer:List Env)(P:Program)(w:World)(H:Hp)(s:Shared)(Q:VK)(u:Value)(a:Shared):Prop:=
 ∃v h,a.os=s.os/\AllBare a.gens/\Un (frs outer) [] H h s.heap a.heap/\AD P w h a.heap/\cC v u/\Q v h
def CR(C:Gq)(outer:List Env)(P:Program)(w:World)(H:Hp)(s:Shared)(Q:VK)(E:XK)(r:Result)(a:Shared):Prop:=
 match r with
 |.ok (.ret u)=>CE outer P w H s Q u a
 |.ok _=>False
 |.error e=>C outer H s E e a
structure AH(P:Program)(w:World)(K:W.Frag)(mg:Str->Option Value)(base:Heap)(CX:Gq)(k:Nat)(f:Addr)(fd:FuncData)(ps:List Str)(sp:Sp):Prop where
 len:∀vs H Q E,sp vs H Q E->vs.length=ps.length
 run:∀(A:Around) (outer:List Env) (s:Shared) (H:Hp) (args:Args) (us:List Value) (vs:List V) (Q:VK) (E:XK),Ah k A->Ej P w K mg base A outer s H->BindsTo s fd args (ps.zip us)->bC vs us->sp vs H Q E ->
  codeAny (model P w) A (.call (.ref f) args) (CR CX outer P w H s Q E) s
def AH.imp{K:W.Frag}(F:AH P w K mg base C k f l p g)
  (h:∀v H Q E,e v H Q E->g v H Q E):AH P w K mg base C k f l p e:=
 ⟨λv H Q E q=>F.len v H Q E (h _ _ _ _ q),λA o s H d u v Q E a b j c i=>F.run A o s H d u v Q E a b j c (h _ _ _ _ i)⟩
def dX.env0{Z:St}(I:dX X a Z H s):Ej X.prog X.w X.K X.mg X.base X.A X.stack s H:=
 ⟨I.ok.frames,I.ok.mod,I.bs,hQ I.ok.bsz I.sz,I.stack,I.stkFree,I.hok,I.bare⟩
def dX.after{Z:St}(I:dX X e Z H s)(h:CE X.stack X.prog X.w H s Q u j):EP X e Z Q u j:=by
 obtain⟨v,k,o,B,U,f,r,q⟩:=h;obtain⟨c,g,d,t,a⟩:=j;obtain rfl:a=s.os:=o;exact⟨v,k,I.call (h':=c) (g':=g) (d':=d) (t':=t) (ch:=[]) U f B (λb z=>absurd z (by simp)),r,q⟩
def Ir(s:Sp)(a:List V)(E:XK)(t:TA):TE:=λZ H Q=>t Z H λv b=>s (v++a) b Q E
def Gr(K:W.Frag)(f:FuncData)(p:List Str)(d:List Value):Prop:=
 ∀(s:Shared) (u:List Value),K.In s.heap->(u++d).length=p.length->BindsTo s f ⟨u,[]⟩ (p.zip (u++d))
def Gr.all{K:W.Frag}(h:∀u:List Value,u.length=p.length->bindArgs f ⟨u,[]⟩=pure (p.zip u)):Gr K f p []:=λs u _ a=>by
 rw[Ci]at a ⊢;exact .of_eq (h u a)
def JU(C:Gq)(X:Cx)(E:XK):Prop:=∀(p:List (Addr×Obj)) (Z:St) (H:Hp) (s:Shared) (e:Value) (a:Shared),dX X p Z H s->C X.stack H s E e a->X.xe e a
def RN{Z:St}(F:AH X.prog X.w X.K X.mg X.base C k f t m n)(c:Ah k X.A)(hb:Gr X.K t m l)(q:bC j l)(d:JU C X E)
  (I:dX X p Z H s) (r:bC v U) (h:n (v++j) H Q E):wpAny (model X.prog X.w) X.A (call (.ref f) U) (EP X p Z Q) X.xe s:=by
 have b:bC (v++j) (U++l):=r.append q;have g:(U++l).length=m.length:=by rw[← b.length];exact F.len _ _ _ _ h
 refine wpAny_call (Gb (F.run X.A X.stack s H ⟨U,[]⟩ (U++l) (v++j) Q E c I.env0 (hb s U I.kIn g) b h) λr o a=>?_);cases r with
 |error e=>exact d p Z H s e o I a
 | ok i=>
   cases i with
   |ret u=>exact I.after a
   |next|brk|cont=>exact elim a
def vK(F:AH X.prog X.w X.K X.mg X.base G k f B y w)(d:Ah k X.A)(g:Gl X x)(i:X.mg x=some (.ref f))(j:W.keepIn X.K (.ref f)=true)(hb:Gr X.K B y C)(z:bC v C)(l:JU G X E)
  (A:PA X (e::u) t) (a:(x==("__debug__":Str))=false:=by decide) (m:starEach (e::u) X.env=(false,eval e X.env)::starEach u X.env:=by rfl) (b:(backTo pos (starEach u X.env)).any (·.1)=false:=by rfl) :
  PE X (.Call (.Name x p) (e::u) [] pos) (Ir w v E t):=by
 intro o s Z H Q I h;refine ED (QK I g i ?_ a);refine W.callWith_K (h₀:=X.base) I.ok.mod.kin j (thn (A pos o s Z H _ I h) λU L ⟨J,n,c,r,q⟩=>⟨c.kIn,?_⟩) m b;exact RN F d hb z l c r q
structure Ax(N P:List Str)(sc:Scope):Prop where
 kind:sc.kind=.function
 co:sc.isCoroutine=false
 gen:sc.isGenerator=false
 nd:N.Nodup
 pre:N.take P.length=P
 par:∀x∈P,sc.names.lookup x=some .local\/sc.names.lookup x=some .cell
 nofree:∀y∈sc.names,y.2≠.free
theorem sO{k:Str->Option NameKind}:∀ {b:List (Str×Value)} {m:Str->Option Value},(∀ v,(x,v)∉b)->bindL k b m x=m x
 |[],_,_=>rfl
 | (n,v)::r,m,h=>by
   unfold bindL;rw[sO λw a=>h w (Af _ a)];split
   ·grind
   rfl
theorem sP{k:Str->Option NameKind}:∀ {b:List (Str×Value)} {m:Str->Option Value},(∀ v,(x,v)∉b)->bindC k b m x=m x
 |[],_,_=>rfl
 | (n,v)::r,m,h=>by
   unfold bindC;rw[sP λw a=>h w (Af _ a)];split;rfl
   grind
theorem sQ{k:Str->Option NameKind}:∀ {P:List Str} {e:List Value} {i:Nat} {m:Str->Option Value},P.Nodup->P[i]? = some x->e[i]? = some v->k x=some .local ->
  bindL k (P.zip e) m x=some v
 |[],_,_,_,_,h,_,_|_::_,[],_,_,_,_,h,_=>by simp at h
 | p::P,w::e,0,m,n,a,b,c=>by
   simp at a b;subst a;subst b;show bindL k ((p,w)::P.zip e) m p=_;unfold bindL;rw[sO λv d=>(CD.mp n).1 (of_mem_zip d).1,eH c];simp
 | p::P,w::e,i+1,m,n,a,b,c=>by
   unfold bindL;exact sQ (i:=i) (CD.mp n).2 (by simpa using a) (by simp_all) c
theorem sR{k:Str->Option NameKind}:∀ {P:List Str} {e:List Value} {i:Nat} {m:Str->Option Value},P.Nodup->P[i]? = some x->e[i]? = some v->k x≠some .local ->
  bindC k (P.zip e) m x=some v
 |[],_,_,_,_,h,_,_|_::_,[],_,_,_,_,h,_=>by simp at h
 | p::P,w::e,0,m,n,a,b,c=>by
   simp at a b;subst a;subst b;show bindC k ((p,w)::P.zip e) m p=_;unfold bindC;rw[sP λv d=>(CD.mp n).1 (of_mem_zip d).1,a0m c];simp
 | p::P,w::e,i+1,m,n,a,b,c=>by
   unfold bindC;exact sR (i:=i) (CD.mp n).2 (by simpa using a) (by simp_all) c
noncomputable def hX(N:List Str)(v:List V):St:=v.map some++replicate (N.length-v.length) none
noncomputable def ES(d:Gq)(P:Program)(w:World)(K:W.Frag)(mg:Str->Option Value)(base:Heap)(N:List Str)(q:Str)(c:Scope)(f:Addr)(C:Value)(A:Around)(outer:List Env)(s:Shared)(H:Hp)(E:XK):Cx where
 prog:=P
 w:=w
 K:=K
 mg:=mg
 base:=base
 A:=A.deeper (envOfC q c s.heap.objs.size f C)
 N:=N
 s₀:=s
 H₀:=H
 env:=envOfC q c s.heap.objs.size f C
 outer:=outer
 stack:=envOfC q c s.heap.objs.size f C::outer
 ex:=[]
 calm:=true
 fn:=λ_=>true
 pn:=[]
 xe:=λe g=>wpAny (model P w) (A.deeper (envOfC q c s.heap.objs.size f C)) (leaving (envOfC q c s.heap.objs.size f C) e) (λ_ a=>d outer H s E e a) (λb a=>d outer H s E b a) g
def yZ{s:Scope}(h:s.names.lookup x=some .cell):∃c,(cellsFrom n s.names []).lookup x=some c:=by
 have q:=W.cellsFrom_some s.names n [] (.inl h);exact Option.isSome_iff_exists.mp q
def RP{K:W.Frag}
  (S:Ax N J I) (Y:A.handled=none) (a:Ej P w K mg base A outer s H) (F:L.length=J.length) (r:bC L U)
  (x:InCallC s s.heap.objs.size (bindL (envOfC Q I s.heap.objs.size f O).kindOf (J.zip U) λ_=>none) (cellsFrom (s.heap.objs.size+1) I.names []) (bindC (envOfC Q I s.heap.objs.size f O).kindOf (J.zip U) λ_=>none) T) :
  dX (ES CX P w K mg base N Q I f O A outer s H E) [] (hX N L) H T:=by
 have C:J.length<=N.length:=by have:=BO List.length S.pre;rw[Bi]at this;lia
 obtain⟨o,tk,rfl,t⟩:=x.done;have g:∀b:Addr,b∉(ES CX P w K mg base N Q I f O A outer s H E).ex:=λb z=>absurd (show b∈([]:List Addr)from z) (by simp);refine⟨⟨a.mod,S.kind,rfl,rfl,hC _,λy z c o d=>?_,λy j=>?_,λy c _ h=>?_,λ_=>Y,Around.frames_deeper a.frames,.inr ⟨rfl,rfl⟩,λb z=>absurd z (g b),a.bs,a.bsz,λb _ _=>g b,λb z=>absurd z (g b),a.funs,a.frf⟩,
  rfl,a.bare,Un.kept t,⟨_,x.toInCall.ns,λi y v o d G=>?_⟩,λy c h=>⟨_,x.cell y c h⟩,a.hok.fresh (hC _),λy c h=>?_,λp l=>absurd (show p∈([]:List (Addr×Obj))from l) (by simp),a.hok.kept t,?_⟩
 ·exact name_of_addr x.apart (Hm o) (Hm d)
 ·rcases j with j|j;exact yZ j;exact absurd rfl (S.nofree _ (Hm j))
 ·exact Aq (x.above y c (Hm h))
 ·have M:i < L.length:=by
   unfold hX at d;by_cases M:i<L.length;exact M;rw[CP (by simpa using M)]at d;rw[List.getElem?_replicate]at d;split at d<;>cases d
  have ha:L[i]?=some v:=by
   unfold hX at d;rw[Bz (by simpa using M),An]at d
   simp_all
  obtain⟨u,B,D⟩:=r.get ha;have l:J[i]?=some y:=by
   rw[← S.pre,List.getElem?_take_of_lt (by lia)];exact o
  have m:J.Nodup:=by rw[← S.pre];exact S.nd.sublist (take_sublist _ _)
  refine⟨u,D,?_⟩;rcases S.par y (Ao l)with k|k;exact .inl ⟨k,sQ m l B k⟩;obtain⟨c,e⟩:=yZ (n:=s.heap.objs.size+1) k;refine .inr ⟨.inl k,c,e,?_⟩;have q:=x.cell y c e;rw[sR m l B (by show I.names.lookup y≠_;rw[k];decide)]at q;exact q
 ·exact a.hok.fresh (Aq (x.above y c (Hm h)))
 ·unfold hX;show _=N.length
  grind
def RQ{K:W.Frag}{z kV doc pm U ct oc:Value}
     (lk:K.lookup f=some ⟨oc,od,.func (W.fnOf name T a c O z kV doc pm an1 U ct),osl⟩) (j:W.codeIn K U T=true) (S:Ax N ps O)
  (len:∀vs H Q E,sp vs H Q E->vs.length=ps.length)
  (d:∀(A:Around) (outer:List Env) (s:Shared) (H:Hp) (vs:List V) (Q:VK) (E:XK),Ah k (A.deeper (envOfC T O s.heap.objs.size f U))->sp vs H Q E ->
   ∃t,BB (ES CX P w K mg base N T O f U A outer s H E) c t/\t {nx:=λ_ H'=>Q .non H',rt:=Q} (hX N vs) H) :
  AH P w K mg base CX (k+1) f (W.fnOf name T a c O z kV doc pm an1 U ct) ps sp:=by
 refine⟨len,λA outer s H args us vs Q E l h hb r i=>?_⟩;have C:=len _ _ _ _ i;have B:K.In s.heap:=h.mod.kin.keeps λb o e=>(h.bs b o e).1;have m:s.heap.NoLimit:=h.mod.nolimit.keeps λb o e=>(h.bs b o e).1;have g:∀y∈ps.zip us,O.names.lookup y.1=some .local\/(O.names.lookup y.1=some .cell/\((cellsFrom (s.heap.objs.size+1) O.names []).lookup y.1).isSome=true):=λ⟨n,v⟩ D=>by
  rcases S.par n (of_mem_zip D).1 with q|q;exact .inl q;exact .inr ⟨q,W.cellsFrom_some _ _ _ (.inl q)⟩
 refine codeAny_call_function l.depth (B _ _ lk) rfl S.co S.gen rfl (W.codeRec_of B j) (hb _ _ _ _ ?_);refine wpAny_newFunctionEnv_cells S.kind g λenv F s1 x=>?_;subst F;refine⟨m.keeps x.toInCall.keep,codeAny_func ?_⟩;obtain⟨t,G,L⟩:=d A outer s H vs Q E (l.deeper _) i;have I:dX (ES CX P w K mg base N T O f U A outer s H E) [] (hX N vs) H s1:=RP S l.hd h C r x;refine Cu (G [] s1 (hX N vs) H _ I L) (λM s' hs=>?_) λe s' hs=>hs;have fin:∀{Y:St} {H':Hp} {v:V} {u:Value},dX (ES CX P w K mg base N T O f U A outer s H E) [] Y H' s'->cC v u->Q v H'->CE outer P w H s Q u s':=
  λ{Y H' v u} J p q=>⟨v,H',J.os,J.bare,J.base,J.hok,p,q⟩
 cases M with
 | ret u=>
   obtain⟨v,Y,H',J,p,q⟩:=hs;exact fin J p q
 | next=>
   obtain⟨Y,H',J,q⟩:=hs;exact fin (v:=V.non) (u:=Value.none) J rfl q
 | brk=>
   obtain⟨_,_,_,q⟩:=hs
   simp_all
 | cont=>
   obtain⟨_,_,_,q⟩:=hs
   simp_all
def Gs(r:List V->Hp->VK->Prop)(t:TA):TE:=λZ H Q=>t Z H λv a=>r v a Q
def gQ{id:String}(hc:iE X (.builtin id) r)(c:Gl X x)(d:X.mg x=none)(f:bootBuiltins x=some (.builtin id))(q:PA X (e::E) t)(o:x≠"__name__":=by decide)(a:(x==("__debug__":Str))=false:=by decide)
  (g:starEach (e::E) X.env=(false,eval e X.env)::starEach E X.env:=by rfl) (b:(backTo pos (starEach E X.env)).any (·.1)=false:=by rfl):PE X (.Call (.Name x p) (e::E) [] pos) (Gs r t):=by
 intro m s Z H Q I h;refine ED (iD I c d f ?_ o a);exact PyProof.Rows.callWith_builtin1 (thn (q pos m s Z H _ I h) λu n ⟨v,i,j,k,l⟩=>hc m n Z i v u Q j k l) g b
def mS(hc:iE X (.type T) r)(c:Gl X x)(d:X.mg x=none)(f:bootBuiltins x=some (.type T))(q:PA X (e::E) t)(o:x≠"__name__":=by decide)(a:(x==("__debug__":Str))=false:=by decide)
  (g:starEach (e::E) X.env=(false,eval e X.env)::starEach E X.env:=by rfl) (b:(backTo pos (starEach E X.env)).any (·.1)=false:=by rfl):PE X (.Call (.Name x p) (e::E) [] pos) (Gs r t):=by
 intro m s Z H Q I h;refine ED (iD I c d f ?_ o a);exact Fu (thn (q pos m s Z H _ I h) λu n ⟨v,i,j,k,l⟩=>hc m n Z i v u Q j k l) g b
end
section
open PyProof.Rows
def cat_tup(j:IsTup s.heap t v.toArray)(hb:IsTup s.heap b m.toArray)(l:v≠[])
  (x:m=[]->Q (.ref t) s) (k:m≠[]->Q (.ref s.heap.objs.size) {s with heap:=s.heap.push {cls:=.type "tuple",data:=.seq (v++m).toArray}})
  (r:v.length+m.length<=sizeLine):wpAny (model prog w) A (binaryOp .Add (.ref t) (.ref b)) Q E s:=by
 obtain⟨⟨cls,h,data,q⟩,d,hc,n,u⟩:=id j;obtain⟨⟨i,c,p,o⟩,a,f,N,H⟩:=id hb;subst hc u f H;have e:v.toArray++m.toArray=(v++m).toArray:=by simp
 by_cases g:m=[]
 ·exact concat_meets ⟨_,d,rfl⟩ ⟨_,a,rfl⟩ noFill_tuple_add seq_tuple_add F.slot_tuple_add F.entry_tuple_add (F.args_tuple_add_2 _ _)
   (tuple_addW1 t b v.toArray m.toArray n N h c q o (by simp_all) (by simp[g])) ⟨d,a,x g⟩
 ·refine concat_meets ⟨_,d,rfl⟩ ⟨_,a,rfl⟩ noFill_tuple_add seq_tuple_add F.slot_tuple_add F.entry_tuple_add (F.args_tuple_add_2 _ _)
   (tuple_addW2 t b v.toArray m.toArray n N h c q o (by simp_all) (by simp_all) (by simp_all)) ⟨d,a,?_⟩
  rw[e];exact k g
noncomputable def sIx(n d:Nat):Option Int->Nat
 |none=>d
 |some v=>if v<0 then(v+(n:Int)).toNat else min v.toNat n
def sIx_none(n d:Nat):sIx n d none=d:=rfl
def sIx_nat(n d k:Nat):sIx n d (some (k:Int))=min k n:=rfl
def LR(v:Int)(n d:Nat):(if v<0 then max (v+(n:Int)) 0 else min v (n:Int))=((sIx n d (some v):Nat):Int):=by
 show(if v<0 then max (v+(n:Int)) 0 else min v (n:Int))=(((if v<0 then(v+(n:Int)).toNat else min v.toNat n):Nat):Int)
 lia
def RR(l h:Option Int)(n:Nat):sliceAdjust l h 1 (n:Int)=(((sIx n 0 l:Nat):Int),((sIx n n h:Nat):Int)):=by
 have a:¬((1:Int)<0):=by lia
 refine Prod.ext ?_ ?_
 ·cases l with
  |none=>rfl
  |some v=>exact LR v n 0
 ·cases h with
  |none=>rfl
  |some v=>exact LR v n n
def RU(i j:Nat):slicePlaces (i:Int) (j:Int) 1=j-i:=by
 unfold slicePlaces
 lia
def oY(p:IsPart v o)(h:Q o s):wpAny (model prog w) A (Builtin.Slice.slicePartIndex v) Q E s:=by
 cases p with
 |none=>exact slicePart_none h
 |int i t=>exact slicePart_int h
def hW{l H:Option Int}{Q:Int×Int×Nat->Shared->Prop}(i:s.heap.IsSliceOf g c d .none)(p:IsPart c l)(e:IsPart d H)
  (h:Q (((sIx n 0 l:Nat):Int),1,sIx n n H-sIx n 0 l) s):wpAny (model prog w) A (Builtin.Slice.sliceApplied (.ref g) (pure (n:Int))) Q E s:=by
 obtain⟨o,a,f,b⟩:=id i;refine dV (dV (Bs a b (x:=c) rfl (dV (Bs a b (x:=d) rfl (dV (Bs a b (x:=.none) rfl (gX ?_)))))));refine dV (slicePart_none ?_);refine dV (oY p (dV (oY e (dV (gX ?_)))));show wpAny _ _ (match sliceAdjust l H 1 (n:Int)with|(l,H)=>pure (l,(1:Int),slicePlaces l H 1)) _ _ s;rw[RR l H n];show wpAny _ _ (pure (((sIx n 0 l:Nat):Int),(1:Int),slicePlaces ((sIx n 0 l:Nat):Int) ((sIx n n H:Nat):Int) 1)) _ _ s;rw[RU];exact gX h
def RV(xs:Array Value)(i k:Nat):((range k).filterMap λ(m:Nat)=>xs[((i:Int)+(m:Int)*1).toNat]?).toArray=((xs.toList.drop i).take k).toArray:=by
 have e:(λ(m:Nat)=>xs[((i:Int)+(m:Int)*1).toNat]?)=λm=>xs[i+m]?:=by grind
 have:=pick_run xs i k;rw[List.filterMap_map]at this;have a:((λx=>xs[x]?) ∘ λx=>i+x)=λm=>xs[i+m]?:=rfl
 simp_all
def getItem_tuple_cut{L H:Option Int}(b:IsTup s.heap t I)(o:s.heap.IsSliceOf n g i .none)(p:IsPart g L)(j:IsPart i H)
  (l:¬(sIx I.size 0 L=0/\sIx I.size I.size H=I.size))
  (h:Q (.ref s.heap.objs.size) {s with heap:=s.heap.push {cls:=.type "tuple",data:=.seq ((I.toList.drop (sIx I.size 0 L)).take (sIx I.size I.size H-sIx I.size 0 L)).toArray}})
  (q:I.size<=sizeLine):wpAny (model prog w) A (getItem (.ref t) (.ref n)) Q E s:=by
 have a:sizeOk (.seq ((I.toList.drop (sIx I.size 0 L)).take (sIx I.size I.size H-sIx I.size 0 L)).toArray):=by
  show((I.toList.drop (sIx I.size 0 L)).take (sIx I.size I.size H-sIx I.size 0 L)).toArray.size<=sizeLine;rw[BU,Bi,DH,BA];lia
 obtain⟨O,c,d,k⟩:=id o;have e:s.TypeIs (.ref n) "slice":=⟨O,c,d⟩;unfold getItem
 try with_reducible refine AS ?_
 refine dV (wpAny_sequenceKey b.typeIs (rfl) ?_);refine dV (wpAny_callSpecial?_slot (name:=ofString "__getitem__") b.typeIs Gd
  (Cr Gd b.typeIs entry_tuple_getitem ?_ (args_tuple_getitem _ _)))
 show wpAny _ _ (tupleItemsOf (.ref t) >>= _) _ _ s;refine dV (tupleItemsOf_ b ?_);refine dV (Ft e ?_);refine dV (hW o p j ?_);have f:¬((((sIx I.size 0 L:Nat):Int)==0&&(1:Int)==1&&(sIx I.size I.size H-sIx I.size 0 L)==I.size)=true):=by lia
 show wpAny _ _ (if(((sIx I.size 0 L:Nat):Int)==0&&(1:Int)==1&&(sIx I.size I.size H-sIx I.size 0 L)==I.size)=true then _ else _) _ _ s;rw[a0m f,RV]
 first
  |exact dV (m:=tupleExact _) (EE (gX ⟨_,rfl,gX h⟩) a)
  |lia
  |rfl
  |lia
end
section
open PyProof.Rows Spec
abbrev TO:=St->Hp->(Option Int->Hp->Prop)->Prop
def PO(X:Cx)(e:Option Expr)(t:TO):Prop:=
 ∀ (p:List (Addr×Obj)) (s:Shared) (Z:St) (H:Hp) (Q:Option Int->Hp->Prop),dX X p Z H s->t Z H Q ->
   wpAny (model X.prog X.w) X.A (evalPart e X.env) (λu a=>∃o h,dX X p Z h a/\IsPart u o/\Q o h) X.xe s
def RW:TO:=λ_ H Q=>Q none H
def RY(t:TE):TO:=λZ H Q=>t Z H λx a=>∃i,x=.int i/\Q (some i) a
def RZ:PO X none RW:=by
 intro p s Z H Q I h;exact gX ⟨none,H,I,.none,h⟩
def Sa(h:PE X e T):PO X (some e) (RY T):=by
 intro p s Z H Q I a;refine thn (h p s Z H _ I a) λu g z=>?_;obtain⟨x,b,c,d,f⟩:=z;obtain⟨i,rfl,q⟩:=f;obtain⟨t,rfl⟩:=d;exact⟨some i,b,c,.int i t,q⟩
def Gu(X:Cx)(r:V->Option Int->Option Int->Hp->VK->Prop):Prop:=
 ∀ (p:List (Addr×Obj)) (s:Shared) (Z:St) (H:Hp) (x:V) (v a b:Value) (l h:Option Int) (c:Addr) (Q:VK),dX X p Z H s->cC x v->s.heap.IsSliceOf c a b .none->IsPart a l->IsPart b h->r x l h H Q ->
   ∃T i,typeLookup (.type T) "__getitem__"=pure (some (.builtin i))/\s.TypeIs v T/\wpAny (model X.prog X.w) X.A (getItem v (.ref c)) (EP X p Z Q) X.xe s
def Sb(r:V->Option Int->Option Int->Hp->VK->Prop)(d:TE)(t T:TO):TE:=λZ H Q=>d Z H λx a=>t Z a λl b=>T Z b λu c=>r x l u c Q
def Sd{L:Option Expr}(g:Gu X r)(i:PE X e N)(j:PO X L J)(k:PO X hi M):PE X (.Subscript e (.Slice L hi none p2) pos) (Sb r N J M):=by
 intro G s Z H Q I h;refine Subscript_ (thn (i G s Z H _ I h) λv U Z0=>?_);obtain⟨x,m,n,o,p⟩:=Z0;refine wpAny_Slice (thn (j G U Z m _ n p) λc O ⟨l,t,w,Y,y⟩=>thn (k G O Z t _ w y) λd a ⟨u,f,z,A,B⟩=>?_);refine gX ?_;have C:dX X G Z f {a with heap:=a.heap.push {cls:=.type "slice",data:=.fields #[c,d,.none]}}:=z.kept (t':=a.toks) λb ob q=>Ac _ q;obtain⟨T,id,hT,D,E⟩:=g G {a with heap:=a.heap.push {cls:=.type "slice",data:=.fields #[c,d,.none]}} Z f x v c d l u a.heap.objs.size Q C o (Heap.IsSliceOf.new ..) Y A B;exact tail_any (ops:=[.ref a.heap.objs.size,v]) D hT E (rfl)
def vL(xs:List V)(l h:Option Int):List V:=(xs.drop (PySem.sIx xs.length 0 l)).take (PySem.sIx xs.length xs.length h-PySem.sIx xs.length 0 l)
def mT(xs:List V)(l h:Option Int):(vL xs l h).length<=xs.length:=by
 unfold vL;rw[Bi,DH];lia
def Se(K:W.Frag):V->Option Int->Option Int->Hp->VK->Prop:=λx l h H Q=>∃a b,x=.ref a/\Bp K H a b /\
 ¬(PySem.sIx b.length 0 l=0/\PySem.sIx b.length b.length h=b.length)/\∀p,H p=none->Q (.ref p) (gV H p (.tup (vL b l h)))
def Sf:Gu X (Se X.K):=by
 intro t s Z H x v k l L p y Q I e w u f h;obtain⟨a,m,rfl,g,i,q⟩:=h;cases e;obtain⟨n,r,d,j⟩:=I.tuple g;have c:n.toArray.size=m.length:=by exact r.length.symm
 refine⟨"tuple",_,Gd.lookup,d.typeIs,?_⟩;refine PySem.getItem_tuple_cut d w u f (by rw[c];exact i) ?_ (by simp_all);rw[c];refine⟨.ref s.heap.objs.size,_,I.laid (t':=s.toks) (o:=.tup (vL m L p)) (λb O q=>Ac _ q) (hC _) ?_,rfl,q _ (I.hok.fresh (hC _))⟩;exact⟨hQ (mT m L p) j,_,(r.drop (PySem.sIx m.length 0 L)).take (PySem.sIx m.length m.length p-PySem.sIx m.length 0 L),IsTup.new _ _,⟨_,Al _ rfl,rfl⟩⟩
def Si(K:W.Frag):R2:=λx y H Q=>∃a b c Y,x=.ref a/\y=.ref b/\Bp K H a c/\Bp K H b Y/\c≠[]/\c.length+Y.length<=sizeLine /\
 (Y=[]->Q (.ref a) H)/\(Y≠[]->∀p,H p=none->Q (.ref p) (gV H p (.tup (c++Y))))
def bC.nil_iff(r:bC xs u):u=[]↔xs=[]:=by
 cases r with
 |nil|cons _ _=>simp
def Sj:Ar X (binaryOp .Add) (Si X.K):=by
 intro p s Z H x y v u Q I f g h;obtain⟨a,b,n,Y,rfl,rfl,B,A,i,j,k,l⟩:=h;cases f;cases g;obtain⟨t,d,m,_⟩:=I.tuple B;obtain⟨e,c,r,_⟩:=I.tuple A;refine PySem.cat_tup m r (λz=>i (d.nil_iff.mp z)) (λz=>⟨.ref a,H,I,rfl,k (c.nil_iff.mp z)⟩) (λz=>?_) (by rw[← d.length,← c.length];exact j);refine⟨.ref s.heap.objs.size,_,I.laid (t':=s.toks) (o:=.tup (n++Y)) (λb O q=>Ac _ q) (hC _) ?_,rfl,l (λw=>z (c.nil_iff.mpr w)) _ (I.hok.fresh (hC _))⟩;exact⟨by simp_all,_,d.append c,IsTup.new _ _,⟨_,Al _ rfl,rfl⟩⟩
noncomputable def AL(n:Nat)(i:Int):Option Nat:=if 0<=i then(if i<n then some i.toNat else none)else if -(n:Int)<=i then some (i+n).toNat else none
def atI{a:Type}(xs:List a)(i:Int):Option a:=(AL xs.length i).bind λj=>xs[j]?
def vM(h:AL n i=some j):seqIndex? i n=some j/\j < n /\ -(n:Int)<=i/\i < n:=by
 unfold AL at h;by_cases H:0<=i
 ·rw[eH H]at h;by_cases a:i<n;rw[eH a]at h;have e:i.toNat=j:=Ap h;exact⟨by rw[seqIndex_of H a,e],by lia,by lia,a⟩
  simp_all
 ·rw[a0m H]at h;by_cases a:-(n:Int)<=i;rw[eH a]at h;have e:(i+n).toNat=j:=Ap h;exact⟨by rw[seqIndex_neg (by lia) a,e],by lia,a,by lia⟩
  simp_all
def vN{v:a}(h:atI xs i=some v):∃j,seqIndex? i xs.length=some j/\xs[j]?=some v/\j<xs.length /\ -(xs.length:Int)<=i/\i<xs.length:=by
 unfold atI at h;cases e:AL xs.length i with
 |none=>simp_all
 | some j=>
   rw[e]at h;obtain⟨b,c,d,f⟩:=vM e;exact⟨j,b,h,c,d,f⟩
def mU{j:Nat}{v:a}(h:xs[j]? = some v):atI xs (j:Int)=some v:=by
 have H:j<xs.length:=(hR.mp h).1;have e:AL xs.length (j:Int)=some j:=by
  unfold AL
  simp_all
 unfold atI;rw[e];exact h
def LS(b:Expr):Prop:=∀o i,subscripted b false o i=operate [o,i] (getItem o i)
def Hy(X:Cx)(r:R2):Prop:=
 ∀ (b a:Expr) (p:List (Addr×Obj)) (s:Shared) (Z:St) (H:Hp) (x y:V) (v u:Value) (Q:VK),dX X p Z H s->cC x v->cC y u->r x y H Q ->
   subscripted a false v u=operate [v,u] (getItem v u)->wpAny (model X.prog X.w) X.A (subscriptTail b a v u) (EP X p Z Q) X.xe s
def Ek(X:Cx)(id:String)(r:V->List V->Hp->VK->Prop):Prop:=
 ∀ (p:List (Addr×Obj)) (s:Shared) (Z:St) (H:Hp) (x:V) (a:List V) (v:Value) (u:List Value) (Q:VK),dX X p Z H s->cC x v->bC a u->r x a H Q ->
   wpAny (model X.prog X.w) X.A (call (.builtin id) (v::u)) (EP X p Z Q) X.xe s
def LU(c:Hy X r)(k:PE X a T)(hb:PE X b t)(j:LS b):PE X (.Subscript a b pos) (Ei r T t):=by
 intro p s Z H Q I h;exact Subscript_ (JP k hb I h λv u i x y d e f g q=>c a b p i Z d x y v u Q e f g q (j _ _))
def Sk(K:W.Frag):R2:=λx y H Q=>∃p a i v,x=.ref p/\y=.int i/\AU K H p a/\atI a i=some v/\Q v H
def Sm(K:W.Frag):R2:=λx y H Q=>∃p a i v,x=.ref p/\y=.int i/\Bp K H p a/\atI a i=some v/\Q v H
def Sn:R2:=λx y H Q=>∃z i c,x=.str z/\y=.int i/\z.length<=sizeLine/\atI z.cps.toList i=some c/\Q (.str ⟨#[c]⟩) H
def Sq:Hy X (Sk X.K):=by
 intro a b E s Z H x y v u Q I f g h N;obtain⟨p,U,i,z,rfl,rfl,k,l,q⟩:=h;cases f;obtain⟨t,rfl⟩:=g;obtain⟨L,r,J,A⟩:=I.list k;obtain⟨j,d,m,B,n,o⟩:=vN l;obtain⟨w,e,c⟩:=r.get m;have C:=r.length;have Y:=lD;have G:EP X E Z Q w s:=⟨z,H,I,c,q⟩;by_cases O:0<=i
 ·have M:i.toNat=j:=by
   rw[seqIndex_of O o]at d
   simp_all
  exact item_listR J.isList O (by lia) (by rw[M];simpa using e) G N
 ·have M:(i+(L.toArray.size:Int)).toNat=j:=by
   rw[seqIndex_neg (by lia) n]at d
   simp_all
  exact subscriptTail_builtinR (x:=w) J.isList.typeIs slot_list_getitem.lookup
   (wpAny_getItem_list_neg (Q:=λr T=>r=w/\EP X E Z Q r T) J.isList (by lia) (by simp_all) (by lia) (by rw[M];simpa using e) ⟨rfl,G⟩) N
def Sr:Hy X (Sm X.K):=by
 intro a b E s Z H x y v u Q I d e h N;obtain⟨p,O,i,z,rfl,rfl,f,g,q⟩:=h;cases d;obtain⟨t,rfl⟩:=e;obtain⟨M,r,J,m⟩:=I.tuple f;obtain⟨j,n,k,o,A,B⟩:=vN g;obtain⟨w,l,c⟩:=r.get k;have C:=r.length;have T:=lD;have G:EP X E Z Q w s:=⟨z,H,I,c,q⟩;exact subscriptTail_builtinR (x:=w) J.typeIs slot_tuple_getitem.lookup
  (getItem_tuple (j:=j) (Q:=λr L=>r=w/\EP X E Z Q r L) J (by lia) (by lia) (by simp_all) (by simpa using l) ⟨rfl,G⟩) N
def Ss:Hy X Sn:=by
 intro a b w s Z H x y v u Q I e f h A;obtain⟨z,i,c,rfl,rfl,o,g,q⟩:=h;obtain⟨t,rfl⟩:=e;obtain⟨p,rfl⟩:=f;obtain⟨j,d,k,r,l,m⟩:=vN g;have n:z.cps.toList.length=z.length:=rfl;rw[n]at d l m;have B:=lD;exact tail_any (typeIs_str s z t) slot_str_getitem.lookup (getItem_str (c:=c) (by lia) (by rw[d];simpa using k) ⟨.str ⟨#[c]⟩,H,I.tok _,⟨_,rfl⟩,q⟩) A
def Su(i:List Value)(n j:Nat)(u:Value):mapSeq (·.setIfInBounds j u) {cls:=.type "list",data:=.seq i.toArray n}={cls:=.type "list",data:=.seq (i.set j u).toArray n}:=by
 simp[mapSeq]
theorem dX.lst{X:Cx}{b:List (Addr×Obj)}{Z:St}{H:Hp}{s:Shared}{p:Addr}{xs:List V}(I:dX X b Z H s)(h:H p=some (.lst xs)) :
  ∃(a:List Value) (n:Nat),bC xs a/\s.heap.get? p=some {cls:=.type "list",data:=.seq a.toArray n}/\xs.length<=sizeLine:=by
 obtain⟨z,a,n,r,e⟩:=I.hok p _ h;exact⟨a,n,r,e,z⟩
def dX.lstUpd{Z:St}{k g:List Value}(I:dX X j Z H s)(h:H p=some (.lst xs))
  (d:s.heap.get? p=some {cls:=.type "list",data:=.seq k.toArray n}) (c:f {cls:=.type "list",data:=.seq k.toArray n}={cls:=.type "list",data:=.seq g.toArray a}) (r:bC y g) (l:y.length<=sizeLine) (t:Nat) :
  dX X j Z (gV H p (.lst y)) {s with heap:=s.heap.update p f,toks:=t}:=by
 have e:(s.heap.update p f).get? p=some {cls:=.type "list",data:=.seq g.toArray a}:=by
  rw[CQ f d (by rw[c]<;>rfl),c]
 refine I.write (x:=p) (e:=p) (by rw[h];trivial) (.inl rfl) (λb u o q=>(DC _ _ (oI o)).trans q) ⟨_,e⟩ ?_;exact⟨l,g,a,r,e⟩
def LW:V->V->V->Hp->(Hp->Prop)->Prop:=λo i v H Q=>∃p x k j,o=.ref p/\i=.int k/\H p=some (.lst x)/\AL x.length k=some j/\Q (gV H p (.lst (x.set j v)))
def Sv:LA X LW:=by
 intro A s Z H o i v O w u Q I f G g h;obtain⟨p,E,k,j,rfl,rfl,c,J,q⟩:=h;cases f;obtain⟨t,rfl⟩:=G;obtain⟨B,n,r,a,x⟩:=I.lst c;obtain⟨d,y,l,m⟩:=vM J;have z:=r.length;have L:=lD;have e:dX X A Z (gV H p (.lst (E.set j v))) {s with heap:=s.heap.update p (mapSeq (·.setIfInBounds j u))}:=
  I.lstUpd c a (Su B n j u) (r.set g j) (by simp_all) s.toks
 by_cases C:0<=k
 ·have b:k.toNat=j:=by
   rw[seqIndex_of C m]at d
   simp_all
  exact W.ki_setAt a C (by lia) (by simp_all) (by rw[b];exact⟨_,e,q⟩)
 ·have b:(k+(B.toArray.size:Int)).toNat=j:=by
   rw[seqIndex_neg (by lia) l]at d
   simp_all
  exact W.ki_setBack a (by lia) (by simp_all) (by lia) (by rw[b];exact⟨_,e,q⟩)
def sV(l H:Option Int)(n:Nat):(sliceBounds l H none n).1=((PySem.sIx n 0 l:Nat):Int)/\(sliceBounds l H none n).2.1=((PySem.sIx n n H:Nat):Int)/\(sliceBounds l H none n).2.2=1:=by
 refine⟨?_,?_,rfl⟩
 ·cases l with
  |none=>rfl
  | some i=>
    simp only[sliceBounds,PySem.sIx,getD_none,show(1:Int) > 0 by decide,if_true];by_cases h:i<0;simp only[h,if_true]<;>lia;simp only[h,if_false]<;>lia
 ·cases H with
  |none=>rfl
  | some i=>
    simp only[sliceBounds,PySem.sIx,getD_none,show(1:Int) > 0 by decide,if_true];by_cases h:i<0;simp only[h,if_true]<;>lia;simp only[h,if_false]<;>lia
def qA(i:List Value)(l h:Option Int):slicePick i.toArray l h none=((i.drop (PySem.sIx i.length 0 l)).take (PySem.sIx i.length i.length h-PySem.sIx i.length 0 l)).toArray:=by
 obtain⟨a,b,c⟩:=sV l h i.toArray.size;unfold slicePick;rw[a,b,c];simp only[sliceRange_one,pick_run,size_toArray]<;>rfl
def Sw(K:W.Frag):V->Option Int->Option Int->Hp->VK->Prop:=λx l h H Q=>∃a b,x=.ref a/\AU K H a b/\∀p,H p=none->Q (.ref p) (gV H p (.lst (vL b l h)))
def Sy:Gu X (Sw X.K):=by
 intro p s Z H x v j k L m w Q I e u n f h;obtain⟨a,l,rfl,g,q⟩:=h;cases e;obtain⟨t,r,d,i⟩:=I.list g;have c:=r.length;refine⟨"list",_,slot_list_getitem.lookup,d.isList.typeIs,?_⟩;refine wpAny_getItem_list_slice d.isList u n f .none (by simp) ?_ (by grind);rw[qA,← c];refine⟨.ref s.heap.objs.size,_,I.laid (t':=s.toks) (o:=.lst (vL l L m)) (λb O q=>Ac _ q) (hC _) ?_,rfl,q _ (I.hok.fresh (hC _))⟩;exact⟨hQ (mT l L m) i,_,0,(r.drop (PySem.sIx l.length 0 L)).take (PySem.sIx l.length l.length m-PySem.sIx l.length 0 L),Al _ rfl⟩
def lE:iE X (.builtin "len") (λxs H Q=>∃p y,xs=[.ref p]/\(AU X.K H p y\/Bp X.K H p y)/\Q (.int y.length) H):=by
 intro g s Z H xs U Q I r h;obtain⟨p,y,rfl,a,q⟩:=h;obtain⟨u,rfl,d⟩:=oG r;cases d;have j:=lD;rcases a with a|a;obtain⟨i,c,f,e⟩:=I.list a;have b:=c.length;exact Calls.call_len_list f.isList (by simp only[size_toArray]<;>lia) ⟨.int y.length,H,I.tok _,⟨s.toks+1,by simp_all⟩,q⟩;obtain⟨i,c,f,e⟩:=I.tuple a;have b:=c.length;exact len_tuple f (by simp only[size_toArray]<;>lia) ⟨.int y.length,H,I.tok _,⟨s.toks+1,by simp_all⟩,q⟩
def sW:iE X (.builtin "len") (λxs H Q=>∃z,xs=[.str z]/\z.length<=sizeLine/\Q (.int z.length) H):=by
 intro p s Z H xs U Q I r h;obtain⟨z,rfl,a,q⟩:=h;obtain⟨u,rfl,t,rfl⟩:=oG r;have b:=lD;exact len_str (by lia) ⟨.int z.length,H,I.tok _,⟨_,rfl⟩,q⟩
def lF:iE X (.type "list") (λxs H Q=>∃ p y,xs=[.ref p]/\(AU X.K H p y\/Bp X.K H p y)/\∀ l,H l=none->Q (.ref l) (gV H l (.lst y))):=by
 intro t s Z H xs U Q I r h;obtain⟨p,y,rfl,d,q⟩:=h;obtain⟨u,rfl,j⟩:=oG r;cases j;have w:∀ (k:List Value),bC y k->y.length<=sizeLine->∀ (m:Heap) (a:Nat),(∀ b O,s.heap.get? b=some O->m.get? b=some O) ->
   m.get? s.heap.objs.size=some {cls:=.type "list",dict:=none,data:=.seq k.toArray a,slots:=#[]}->EP X t Z Q (.ref s.heap.objs.size) {s with heap:=m}:=λk c f m a v e=>
  ⟨.ref s.heap.objs.size,_,I.laid (t':=s.toks) v (hC _) (show cH X.prog X.w _ m _ (.lst y)from⟨f,k,a,c,e⟩),rfl,q _ (I.hok.fresh (hC _))⟩
 rcases d with d|d;obtain⟨k,c,x,f⟩:=I.list d;have g:=c.length;obtain⟨o,i,hc,n,z⟩:=x.isList;exact call_list_seq p (.inl rfl) i hc z (λm a v e=>w k c f m a v e) (by grind);obtain⟨k,c,x,f⟩:=I.tuple d;have g:=c.length;obtain⟨o,i,hc,n,z⟩:=x;exact call_list_seq p (.inr rfl) i hc z (λm a v e=>w k c f m a v e) (by grind)
def jR:iE X (.type "tuple") (λxs H Q=>∃ p y,xs=[.ref p]/\((AU X.K H p y/\∀ l,H l=none->Q (.ref l) (gV H l (.tup y)))\/(Bp X.K H p y/\Q (.ref p) H))):=by
 intro k s Z H xs U Q I r h;obtain⟨p,y,rfl,h⟩:=h;obtain⟨u,rfl,i⟩:=oG r;cases i;rcases h with⟨a,q⟩|⟨a,q⟩
 ·obtain⟨m,c,t,d⟩:=I.list a;have f:=c.length;refine call_tuple_list t.isList (λn v=>?_) (by grind);have g:dX X k Z H {s with heap:=n}:=I.kept (t':=s.toks) v;have j:dX X k Z (gV H n.objs.size (.tup y)) {s with heap:=n.push {cls:=.type "tuple",data:=.seq m.toArray}}:=
   g.laid (t':=s.toks) (λb o e=>Ac _ e) (hC _) (show cH X.prog X.w _ _ _ (.tup y)from⟨d,m,c,IsTup.new _ _,⟨_,Al _ rfl,rfl⟩⟩)
  exact⟨.ref n.objs.size,_,j,rfl,q _ (g.hok.fresh (hC _))⟩
 ·obtain⟨m,c,t,d⟩:=I.tuple a;exact call_tuple_same t ⟨.ref p,H,I,rfl,q⟩
def Hz(K:W.Frag)(T:String)(x:V)(H:Hp):Prop:=match x with
 |.str _=>T="str"
 |.int _=>T="int"
 | .ref p=>(T="list"/\∃ a,AU K H p a)\/(T="tuple"/\∃ o,K.lookup p=some o/\o.cls=.type "tuple"/\o.dict=none) \/
   (T="dict"/\((∃k,H p=some (.dK k))\/∃k,H p=some (.dT k)))\/(T="set"/\∃S n,H p=some (.set S n))
 |_=>False
def LX{Z:St}(I:dX X j Z H s)(r:cC x v)(ty:Hz X.K T x H) :
  s.TypeIs v T/\∀a,v=.ref a->∃ob,s.heap.get? a=some ob/\ob.dict=none:=by
 cases x with
 | str z=>
   obtain⟨t,rfl⟩:=r;cases (show T="str" from ty);exact⟨typeIs_str s z t,λ_ e=>nomatch e⟩
 | int i=>
   obtain⟨t,rfl⟩:=r;cases (show T="int" from ty);exact⟨typeIs_int s i t,λ_ e=>nomatch e⟩
 | ref p=>
   cases r;rcases ty with⟨rfl,m,f⟩|⟨rfl,o,b,hc,h⟩|⟨rfl,b⟩|⟨rfl,S,n,b⟩;obtain⟨l,_,g,_⟩:=I.list f;refine⟨g.isList.typeIs,λa e=>?_⟩;cases e;obtain⟨o,n,e,c,h,_⟩:=g;exact⟨o,e,h⟩;refine⟨⟨o,I.kIn p o b,hc⟩,λa e=>?_⟩;cases e;exact⟨o,I.kIn _ o b,h⟩
   ·have z:∃ o,s.heap.get? p=some o/\o.ExactDict:=by
     rcases b with⟨k,b⟩|⟨k,b⟩;obtain⟨_,_,_,_,o,_,_,e,E,_⟩:=I.hok p _ b;exact⟨o,e,E⟩;obtain⟨_,_,_,_,o,_,_,e,E,_⟩:=I.hok p _ b;exact⟨o,e,E⟩
    obtain⟨o,e,E⟩:=z;refine⟨⟨o,e,E.1⟩,λa d=>?_⟩;cases d;exact⟨o,e,E.2.1⟩
   ·obtain⟨o,_,_,_,e,E,_⟩:=I.hok p _ b;refine⟨⟨o,e,E.1⟩,λa d=>?_⟩;cases d;exact⟨o,e,E.2.1⟩
 |_=>exact elim ty
def JV(K:W.Frag)(T:String)(r:V->List V->Hp->VK->Prop)(to:TE):TE:=λZ H Q=>to Z H λx a=>Hz K T x a/\r x [] a Q
def DP(K:W.Frag)(T:String)(r:V->List V->Hp->VK->Prop)(to:TE)(t:TA):TE:=λZ H Q=>to Z H λx a=>Hz K T x a/\t Z a λc b=>r x c b Q
def Sz{id:String}(q:PlainAttrs T)(slot:Slot T n id)(c:typeOf (.builtin id)=pure (.type "method_descriptor"))(f:Ek X id r)(g:PE X o to)
  (a:attributeBase o n X.env (eval o X.env)=eval o X.env:=by rfl) (b:(A.endLine==C.line)=true:=by rfl):PE X (.Call (.Attribute o n A) [] [] C) (JV X.K T r to):=by
 intro p s Z H Q I h;refine wpAny_Call_method0_late a b (thn (g p s Z H _ I h) λv m z=>?_);obtain⟨x,i,d,e,t,j⟩:=z;obtain⟨k,l⟩:=LX d e t;exact⟨T,id,q,slot,c,k,l,Calls.callWith_builtin rfl (PySem.evalArgs_none (f p m Z i x [] v [] Q d e .nil j))⟩
def SA{id:String}(O:PlainAttrs T)(slot:Slot T N id)(f:typeOf (.builtin id)=pure (.type "method_descriptor"))(k:Ek X id r)(l:PE X o to)(ha:PA X (e::E) t)
  (b:attributeBase o N X.env (eval o X.env)=eval o X.env:=by rfl)
  (d:((backTo C (starEach (e::E) X.env)).all (λx=>!x.1)&&(backToKw C (keywordEach [] X.env)).all (λx=>x.1.isSome)
   && decide ((e::E).length+([]:List Keyword).length+(if([]:List Keyword).isEmpty then 0 else 1)<30))=true:=by rfl)
  (c:(B.endLine==C.line)=true:=by rfl) (Y:starEach (e::E) X.env=(false,eval e X.env)::starEach E X.env:=by rfl) (a:(backTo C (starEach E X.env)).any (·.1)=false:=by rfl) :
  PE X (.Call (.Attribute o N B) (e::E) [] C) (DP X.K T r to t):=by
 intro A s Z H Q I h;refine wpAny_Call_method_late b d c rfl (thn (l A s Z H _ I h) λv M Z0=>?_);obtain⟨x,m,g,i,J,n⟩:=Z0;obtain⟨p,q⟩:=LX g i J;refine⟨T,id,O,slot,f,p,q,?_⟩;have j:=ha C A M Z m _ g n;rw[Y]at j ⊢;refine Calls.callWith_builtin (by show(false||(backTo C (starEach E X.env)).any (·.1))=false;rw[a]<;>rfl) (Calls.evalArgs_plain ?_);exact thn j λU L ⟨G,u,w,y,z⟩=>k A L Z u x G v U Q w i y z
def Fy(X:Cx)(id:String)(r:V->List V->Hp->VK->Prop):Prop:=
 ∀ (p:List (Addr×Obj)) (s:Shared) (Z:St) (H:Hp) (x:V) (a:List V) (v:Value) (u:List Value) (Q:VK),dX X p Z H s->cC x v->bC a u->r x a H Q ->
   wpAny (model X.prog X.w) X.A (call (.builtin id) (v::u)) (EP X p Z Q) X.xe s
def bC.one(r:bC [x] U):∃u,U=[u]/\cC x u:=by
 cases r with|cons r t=>cases t;exact⟨_,rfl,r⟩
def bC.two(r:bC [x,y] U):∃u v,U=[u,v]/\cC x u/\cC y v:=by
 cases r with|cons r t=>
 obtain⟨v,rfl,q⟩:=bC.one t;exact⟨_,v,rfl,r,q⟩
def bC.zero:∀{u:List Value},bC [] u->u=[]
 |_,.nil=>rfl
theorem bC.dropLast(h:bC xs u):bC xs.dropLast u.dropLast:=by
 induction h with
 |nil=>exact .nil
 | cons r t a=>
   cases t with
   |nil=>exact .nil
   |cons q b=>exact .cons r a
theorem bC.eraseIdx:∀{xs:List V} {u:List Value} (i:Nat),bC xs u->bC (xs.eraseIdx i) (u.eraseIdx i)
 |_,_,_,.nil=>.nil
 |_,_,0,.cons _ t=>t
 |_,_,i+1,.cons r t=>.cons r (bC.eraseIdx i t)
theorem bC.rep(h:bC xs u):∀ k:Nat,bC (replicate k xs).flatten (replicate k u).flatten
 |0=>.nil
 | k+1=>by
   rw[replicate_succ,replicate_succ,flatten_cons,flatten_cons];exact bC.append h (bC.rep h k)
theorem mV{a:Type}:∀(l:List a) (i:Nat),(l.eraseIdx i).length<=l.length
 |[],_=>hC _
 |_::_,0=>le_succ _
 |_::r,i+1=>succ_le_succ (mV r i)
theorem sZ(i:List Value):∀ (k:Nat) (A:List Value),
  foldl (λa b=>a++b) A.toArray (replicate k i.toArray)=(A++(replicate k i).flatten).toArray
 |0,A=>by simp
 | k+1,A=>by
   have e:A.toArray++i.toArray=(A++i).toArray:=by simp
   have c:(A++i)++(replicate k i).flatten=A++(replicate (k+1) i).flatten:=by
    rw[replicate_succ,flatten_cons,append_assoc]
   rw[← c,← sZ i k (A++i),← e,replicate_succ,foldl_cons]
def dX.lset{Z:St}{j its':List Value}(I:dX X h Z H s)(a:H l=some (.lst xs))
  (e:s.heap.get? l=some {cls:=.type "list",data:=.seq j.toArray n}) (b:f j.toArray=its'.toArray) (c:bC y its') (k:y.length<=sizeLine) :
  dX X h Z (gV H l (.lst y)) {s with heap:=s.heap.update l (mapSeq f),toks:=t}:=by
 have q:=PySem.IsL.update e f;rw[b]at q;refine I.write (x:=l) (e:=l) (by rw[a];exact trivial) (.inl rfl) (λg u o d=>(DC s.heap (mapSeq f) (oI o)).trans d) ⟨_,q⟩ ?_;exact⟨k,its',_,c,q⟩
def dX.lnew{Z:St}(I:dX X b Z H s)(a:bC y d)(h:y.length<=sizeLine) :
  dX X b Z (gV H s.heap.objs.size (.lst y)) {s with heap:=s.heap.push {cls:=.type "list",data:=.seq d.toArray},toks:=t'}:=
 I.laid (λ_ _ q=>Ac _ q) (hC _) ⟨h,d,0,a,Al _ rfl⟩
theorem dX.fresh{Z:St}(I:dX X a Z H s):H s.heap.objs.size=none:=I.hok.fresh (hC _)
def dX.lstM{Z:St}(I:dX X d Z H s)(a:H l=some (.lst xs)):xs.length<=sizeLine/\∃(b:List Value) (n:Nat),bC xs b/\xs.length=b.length/\s.heap.get? l=some {cls:=.type "list",data:=.seq b.toArray n}:=by
 obtain⟨z,b,n,r,e⟩:=I.hok l _ a;exact⟨z,b,n,r,r.length,e⟩
def qB(h:n<=sizeLine):listTooLong n=false:=by
 exact Fp (by lia)
def mW:V->List V->Hp->VK->Prop:=λx v H Q=>∃l a y,x=.ref l/\v=[y]/\H l=some (.lst a)/\a.length<sizeLine/\Q .non (gV H l (.lst (a++[y])))
def mX:Fy X "list.append" mW:=by
 intro p s Z H x k v U Q I b c h;obtain⟨l,j,y,rfl,rfl,a,f,q⟩:=h;cases b;obtain⟨u,rfl,d⟩:=c.one;obtain⟨z,i,n,r,g,e⟩:=I.lstM a;refine Dy F.slot_list_append ⟨_,e,rfl⟩ F.entry_list_append (F.args_list_append_2 _ _) (PySem.list_append l i.toArray n u (by grind)) ⟨e,?_⟩;refine⟨.non,_,I.lset (its':=i++[u]) a e (by simp) (r.append (.cons d .nil)) ?_,rfl,q⟩
 grind
def SD:V->List V->Hp->VK->Prop:=λx v H Q=>∃l b a z,x=.ref l/\v=[.ref b]/\H l=some (.lst a)/\H b=some (.lst z)/\a.length+z.length<=sizeLine/\Q .non (gV H l (.lst (a++z)))
def Q7:Fy X "list.extend" SD:=by
 intro B s Z H x G v U Q I g i h;obtain⟨l,b,E,C,rfl,rfl,f,j,t,q⟩:=h;cases g;obtain⟨u,rfl,k⟩:=i.one;cases k;obtain⟨z,A,n,r,w,e⟩:=I.lstM f;obtain⟨y,a,N,m,o,p⟩:=I.lstM j;have d:A.toArray.size+a.toArray.size<=sizeLine:=by grind
 have c:¬(!A.toArray.isEmpty&&listTooLong (A.toArray.size+a.toArray.size))=true:=by
  rw[qB d,Bool.and_false];simp
 refine Dy F.slot_list_extend ⟨_,e,rfl⟩ F.entry_list_extend (F.args_list_extend_2 _ _)
  (AutoSeq1.list_extend_list_list_0 l A.toArray n b a.toArray N c (by lia) (by lia)) ⟨e,p,?_⟩
 refine⟨.non,_,I.lset (its':=A++a) f e (by simp) (r.append m) ?_,rfl,q⟩
 simp_all
def LY:V->List V->Hp->VK->Prop:=λx v H Q=>∃l a y,x=.ref l/\v=[]/\H l=some (.lst a)/\a[a.length-1]?=some y/\Q y (gV H l (.lst a.dropLast))
def SE:Fy X "list.pop" LY:=by
 intro p s Z H x t v U Q I d f h;obtain⟨l,o,y,rfl,rfl,c,g,q⟩:=h;cases d;have a:=f.zero;subst a;obtain⟨z,m,n,r,j,e⟩:=I.lstM c;obtain⟨u,k,i⟩:=r.get g;have b:m.toArray[m.toArray.size-1]?=some u:=by simp_all
 refine Dy F.slot_list_pop ⟨_,e,rfl⟩ F.entry_list_pop (F.args_list_pop_1 _) (MeetsSeq.list_pop_last l m.toArray n u b (by simp_all)) ⟨e,?_⟩;refine⟨y,_,I.lset (its':=m.dropLast) c e ?_ r.dropLast ?_,i,q⟩;simp;rw[List.length_dropLast];lia
def LZ:V->List V->Hp->VK->Prop:=λx v H Q=>∃l a i k y,x=.ref l/\v=[.int i]/\H l=some (.lst a) /\ -(2^63)<=i/\i<2^63/\seqIndex? i a.length=some k/\a[k]?=some y/\Q y (gV H l (.lst (a.eraseIdx k)))
def SF:Fy X "list.pop" LZ:=by
 intro C s Z H x G v U Q I c d h;obtain⟨l,E,i,k,y,rfl,rfl,b,f,g,o,j,q⟩:=h;cases c;obtain⟨u,rfl,m⟩:=d.one;obtain⟨t,rfl⟩:=m;obtain⟨z,B,n,r,p,e⟩:=I.lstM b;obtain⟨w,A,a⟩:=r.get j;refine Dy F.slot_list_pop ⟨_,e,rfl⟩ F.entry_list_pop (F.args_list_pop_2 _ _)
  (MeetsSeq.list_pop_at l B.toArray n i t k w (fitsIndex_both f g) (by simp_all) (by simp_all) (by simp_all)) ⟨e,?_⟩
 refine⟨y,_,I.lset (its':=B.eraseIdx k) b e ?_ (r.eraseIdx k) ?_,a,q⟩;simp;have:=mV E k;lia
def SH:R2:=λx y H Q=>∃l b a z,x=.ref l/\y=.ref b/\H l=some (.lst a)/\H b=some (.lst z)/\a.length+z.length<=sizeLine/\∀p,H p=none->Q (.ref p) (gV H p (.lst (a++z)))
def SI:Ar X (binaryOp .Add) SH:=by
 intro A s Z H x y v u Q I c d h;obtain⟨l,b,C,B,rfl,rfl,f,g,o,q⟩:=h;cases c;cases d;obtain⟨z,w,n,r,p,e⟩:=I.lstM f;obtain⟨t,a,N,i,j,k⟩:=I.lstM g;refine PySem.P.add_list e k ?_ (by grind);have m:w.toArray++a.toArray=(w++a).toArray:=by simp
 rw[m];exact⟨.ref _,_,I.lnew (t':=s.toks) (r.append i) (by simp_all),rfl,q _ I.fresh⟩
def SJ{a:Type}(xs:List a)(k:Nat):(replicate k xs).flatten.length=k*xs.length:=by
 induction k with
 |zero=>simp
 |succ k b=>rw[replicate_succ,flatten_cons,Av,b,succ_mul,add_comm]
end
section
open Calls PyProof.Rows W
def mY:∀ (N:List Int) (v:List Value),WellAll P h v (N.map WData.int)->IntsAre v N:=by
 intro N
 induction N with
 | nil=>
   intro v w;cases w;exact .nil
 | cons n N c=>
   intro v w;cases w with
   | cons a b=>
     cases a;exact .cons _ _ (c _ b)
def SM{l:OpenLaw}(H:l.most=some n)
  (b:l.row.toRowW.claim.pre args=true) (f:WellAll P h v args) :
  ∃a t N,v=[Value.ref a]/\args=[WData.list (N.map WData.int)]/\h.get? a=some {cls:=.type "list",data:=.seq t.toArray}/\IntsAre t N/\N.length<=n:=by
 have g:WShape.hasAll [] args [.list .int]=true:=(pre_splitW b).1;have hc:l.pre.holds [] {args:=args}=true:=(pre_splitW b).2;obtain⟨d,r,rfl,j,k⟩:=hasAllW_cons g;obtain rfl:=hasAllW_nil k;obtain⟨x,rfl,m⟩:=hasW_list j;obtain⟨N,rfl⟩:=items_int m;have c:N.length<=n:=by
  have i:(WTm.not (.lt (.lit (.int (n:Int))) (.len (.arg 0)))).holds [] {args:=[.list (N.map .int)]}=true:=by
   have i:=(holds_andW hc).1
   simp_all
  have s:=condW_of i (w_not (w_lt w_lit (w_len_list (w_arg rfl))))
  grind
 cases f with
 | cons o p=>
   cases p;cases o with
   |list q e=>exact⟨_,_,N,rfl,rfl,q,mY N _ e,c⟩
def SN(l:OpenLaw)(args:List WData):l.row.toRowW.claim.post args (.bool true) args=true:=
 postW_of (r:=l.row.toRowW) (X:=(true==true))
  (show WShape.has [] (.bool true) .bool=true by rfl)
  (show(WTm.eq .res (.lit (.bool true))).value [] {args:=args,res:=some (.bool true),after:=args}=some (.bool (true==true))from w_eq_bool (w_res rfl) w_lit) rfl
def attach_call{l:OpenLaw}
  (hn:l.most=some n) (k:d.params.defaults=[])
  (L:∀(w:World) (s₀ b:Shared) (mg T:Str->Option Value) (g:Addr) (o:Obj) (Q O I:Value) (a:Addr) (J:List Value) (N:List Int),
   Ground q c [] t w s₀ mg T b.heap->u w b.heap ->
   b.heap.get? g=some o->o.data=.func (docDef d.name d.params d.body d.scope Q O I)->b.heap.CodeRec O d.name->mg d.name=some (.ref g) ->
   b.heap.get? a=some {cls:=.type "list",data:=.seq J.toArray}->IntsAre J N->N.length<=n->b.gens=#[] ->
   codeAny (model l.prog w) callerA (.call (.ref g) ⟨[.ref a],[]⟩) (λr M=>r=.ok (.ret (.bool true))/\OldK b.heap M.heap/\M.os=b.os/\AllBare M.gens) b) :
  WalkO q c t u l.row.toRowW d [] (λf J=>PySem.call f J):=by
 intro w s₀ b mg T G Y g o Q O I x U y hd m hD p z args vals as h v A s B;obtain rfl:x=.none:=Dflts.none hD k;obtain rfl:U=.none:=Dflts.noKw hD;obtain⟨a,J,N,rfl,rfl,i,e,j⟩:=SM hn h s;refine enter_call (Gb (L w s₀ b mg T g o Q O I a J N G Y y (fd_plain hd) m p i e j z) λr M C=>?_);obtain⟨rfl,D,E,F⟩:=C;exact⟨.inl ⟨.bool true,.bool true,[],rfl,λ_=>rfl,.bool true,SN l _,λ_=>⟨List.Pairwise.nil,λ_ H=>(nomatch H)⟩⟩,D,E,F⟩
end
section
open PyProof.Rows Spec
theorem tE:∀{v:List Value} {N:List Int},IntsAre v N->bC (N.map V.int) v
 |_,_,.nil=>.nil
 |_,_,.cons n t h=>.cons ⟨t,rfl⟩ (tE h)
def HA(H:Hp):Prop:=∀b,H b=none\/∃o x,H b=some (.frz o (.lst x))
def SO{K:W.Frag}
  (π:K.In c.heap) (t:c.heap.Ns mainGlobals mg) (hb:c.heap.Ns builtinsNs mb) (G:∀x:Str,x≠"__name__"->mb x=bootBuiltins x) (y:c.heap.NoLimit) (U:c.gens=#[])
  (ha:c.heap.get? a=some {cls:=.type "list",data:=.seq p.toArray}) (hi:IntsAre p ns) (Q:ns.length<=sizeLine) (X:Ah k callerA)
  (F:∀base:Heap,K.In base->base.Ns mainGlobals mg->AH P w K mg base CX k E fd [x] sp) (l:∀(s:Shared) (u:Value),BindsTo s fd ⟨[u],[]⟩ [(x,u)])
  (I:∀H:Hp,HA H->AU K H a (ns.map V.int)->sp [.ref a] H (λv _=>v=.bl true) λ_ _ _=>False)
  (J:∀H e g,CX [] H c (λ_ _ _=>False) e g->False) :
  codeAny (model P w) callerA (.call (.ref E) ⟨[.ref a],[]⟩) (λr g=>r=.ok (.ret (.bool true))/\OldK c.heap g.heap/\g.os=c.os/\AllBare g.gens) c:=by
 have R:=tE hi;have A:=hi.length
 have j:∀ H:Hp,HA H->AU K H a (ns.map V.int)->AD P w H c.heap->(∀ b,H b≠none->b=a)->(H a≠none->K.lookup a=none) ->
   codeAny (model P w) callerA (.call (.ref E) ⟨[.ref a],[]⟩) (λr g=>r=.ok (.ret (.bool true))/\OldK c.heap g.heap/\g.os=c.os/\AllBare g.gens) c:=by
  intro H S hS L hA hK;have f:∀{b:Addr} {o:Obj},c.heap.get? b=some o->H b=none->(Eh c.heap H).get? b=some o:=λe n=>QD e n;have M:∀{b:Addr} {o:Obj} {es:Array DictEntry} {ep:Nat},c.heap.get? b=some o->o.data=.dict es ep->H b=none:=λ{b o es ep} e d=>by grind
  have i:∀{b:Addr} {m:Str->Option Value},c.heap.Ns b m->(Eh c.heap H).Ns b m:=λ{b m} ⟨o,es,ep,e,d,r⟩=>⟨o,es,ep,f e (M e d),d,r⟩;have B:K.In (Eh c.heap H):=λb o e=>f (π b o e) (by grind);have Y:Mod K mg (Eh c.heap H):=⟨B,i t,⟨mb,i hb,G⟩,let ⟨σ,h1,h2⟩:=y;⟨σ,i h1,h2⟩⟩;have e0:Ej P w K mg (Eh c.heap H) callerA [] c H:=⟨rfl,Y,λb o e=>QE e,le_of_eq (QC _ _),trivial,λb hb=>absurd (show b∈([]:List Addr)from hb) (by simp),L,.of_eq U⟩;refine Gb ((F _ B (i t)).run callerA [] c H ⟨[.ref a],[]⟩ [.ref a] [.ref a] _ _ X e0 (l c (.ref a)) (.cons rfl .nil) (I H S hS)) λr g h=>?_;cases r with
  |error e=>exact(J H e g h).elim
  | ok fl=>
    cases fl with
    |next|brk|cont=>exact elim h
    | ret u=>
      obtain⟨v,H',os,O,un,C,r',q⟩:=h;have q':v=.bl true:=q;subst q';obtain rfl:u=Value.bool true:=r';refine⟨rfl,OldK.of_keep λb o e=>?_,os,O⟩;cases q:H b with
      |none=>exact un.keep b o e q (by intro z;exact absurd (show b∈([]:List Addr)from z) (by simp)) (by simp)
      | some u=>
        rcases S b with z|⟨ob,xs,z⟩;rw[q]at z;cases z;have z2:=un.frzs b ob _ z;obtain⟨T,_⟩:=L b _ z;obtain⟨e2,_⟩:=C b _ z2;rw[e]at T;cases T;exact e2
 cases N:K.lookup a with
 | some o=>
   have e:=π a o N;rw[ha]at e;cases e;refine j (λ_=>none) (λ_=>.inl rfl) (.inr ⟨_,p.toArray,_,N,rfl,rfl,rfl,by rw[BU,A];exact Q,by simpa using R⟩) (λb u z=>by have D:(none:Option HO)=some u:=z;cases D) (λb z=>absurd rfl z) λz=>absurd rfl z
 | none=>
   refine j (λb=>if b=a then some (.frz {cls:=.type "list",data:=.seq p.toArray} (.lst (ns.map V.int)))else none) (λb=>?_) (.inl (.inr ⟨{cls:=.type "list",data:=.seq p.toArray},eH rfl⟩)) (λb u z=>?_) (λb z=>?_) λ_=>N;by_cases hb:b=a;exact .inr ⟨_,_,eH hb⟩;exact .inl (a0m hb);by_cases hb:b=a;have D:=(eH hb).symm.trans z;cases D;subst hb;exact⟨ha,by rw[fI];exact Q,p,_,R,ha⟩;have D:=(a0m hb).symm.trans z;cases D;by_cases hb:b=a;exact hb;exact absurd (a0m hb) z
def cE3{l:W.OpenLaw}{K:Params->W.Frag}{CX:World->Gq}{sp:World->Sp}
  (U:l.most=some n) (t:n<=sizeLine) (y:d.params.defaults=[]) (I:Ah k callerA)
  (J:∀(w:World) (h:Heap),C w h->(K w.params).In h)
  (F:∀ (w:World) (mg:Str->Option Value) (r:Addr) (h:Heap),(K w.params).In h->h.Ns mainGlobals mg->mg d.name=some (.ref r) ->
   ∃ O:FuncData,(∀ (s:Shared) (u:Value),BindsTo s O ⟨[u],[]⟩ [(x,u)]) /\
     ∀base:Heap,(K w.params).In base->base.Ns mainGlobals mg->AH l.prog w (K w.params) mg base (CX w) k r O [x] (sp w))
  (z:∀(w:World) (H:Hp) (a:Addr) (b:List Int),b.length<=n->HA H->AU (K w.params) H a (b.map V.int)->sp w [.ref a] H (λv _=>v=.bl true) λ_ _ _=>False)
  (A:∀(w:World) (H:Hp) (s:Shared) (e:Value) (g:Shared),CX w [] H s (λ_ _ _=>False) e g->False) :
  W.WalkO q i E C l.row.toRowW d [] (λf Q=>PySem.call f Q):=by
 refine PySem.attach_call U y λw T m mg mb r o pm cd doc a Q b G Y P hd L B p j c M=>?_;have D:=J w _ Y;obtain⟨O,hb,N⟩:=F w mg r _ D G.T.g B;exact SO D G.T.g G.T.b G.T.builtins G.T.nolimit M p j (hQ c t) I N hb (λH π hS=>z w H a b c π hS) λH e g=>A w H m e g
noncomputable def qC(s:Stmt):Arguments:=match s with
 |.FunctionDef _ a _ _ _ _ _ _ _ _=>a
 |_=>{posonlyargs:=[],args:=[],vararg:=none,kwonlyargs:=[],kw_defaults:=[],kwarg:=none,defaults:=[]}
noncomputable def jE(s:Stmt):List Stmt:=match s with
 |.FunctionDef _ _ b _ _ _ _ _ _ _=>b
 |_=>[]
noncomputable def bZ(s:Stmt):Scope:=match s with
 |.FunctionDef _ _ _ _ _ _ a _ _ _=>a
 |_=>{kind:=.function,names:=[],isGenerator:=false,isCoroutine:=false}
abbrev CU:Gq:=λ_ _ _ _ _ _=>False
abbrev E0:XK:=λ_ _ _=>False
def JW:JU CU X E0:=λ_ _ _ _ _ _ _ h=>h.elim
structure DQ(K:W.Frag)(x qual:Str)(st:Stmt)(f:Addr)(fd:FuncData):Prop where
 ex:∃(oc:Value) (od:Option Addr) (kV doc pm:Value) (an1:Option Addr) (cdv ct:Value) (osl:Array (Option Value)),
  fd=W.fnOf x qual (qC st) (jE st) (bZ st) .none kV doc pm an1 cdv ct/\K.lookup f=some ⟨oc,od,.func fd,osl⟩/\W.codeIn K cdv qual=true
 kp:W.keepIn K (.ref f)=true
theorem DQ.ok{K:W.Frag}{g:Stmt}(F:DQ K x e g f j)(S:Ax N p (bZ g))(len:∀ v H Q E,i v H Q E->v.length=p.length)
  (a:∀(C:Value) (A:Around) (outer:List Env) (s:Shared) (H:Hp) (v:List V) (Q:VK) (E:XK),Ah k (A.deeper (envOfC e (bZ g) s.heap.objs.size f C))->i v H Q E ->
   ∃t,BB (ES CU P w K mg base N e (bZ g) f C A outer s H E).nox (jE g) t/\t {nx:=λ_ r=>Q .non r,rt:=Q} (hX N v) H):AH P w K mg base CU (k+1) f j p i:=by
 obtain⟨y,O,z,m,u,n,C,B,o,rfl,l,b⟩:=F.ex;refine RQ l b S len λA outer s H v Q E d c=>?_;obtain⟨t,h,q⟩:=a C A outer s H v Q E d c;exact⟨t,h.nox,q⟩
def DQ.binds{K:W.Frag}{s:Stmt}(F:DQ K x q s f e)
  (h:∀(k d p:Value) (A:Option Addr) (c ct:Value) (u:List Value),u.length=b.length->bindArgs (W.fnOf x q (qC s) (jE s) (bZ s) .none k d p A c ct) ⟨u,[]⟩=pure (b.zip u)):Gr K e b []:=by
 obtain⟨g,O,k,d,p,A,c,ct,o,rfl,l,a⟩:=F.ex;exact .all (h k d p A c ct)
def Iu(a:Ah k A):A.units+1<cLine:=Cb (add_le_add_left (by decide:1<=64) _) a.units
def pv(i:Nat)(b:X.N[i]? = some x:=by rfl)(c:Io X.env.scope x:=by first | exact Or.inl rfl | exact Or.inr (Or.inl rfl) | exact Or.inr (Or.inr rfl))(h:(x==("__debug__":Str))=false:=by decide)
  (a:(x==("__classdict__":Str))=false:=by decide):PE X (.Name x pos) (mD i):=QH b c h a
def lG(H h:Hp):Prop:=∀b o,H b=some o->h b=some o
def lG.refl(H:Hp):lG H H:=λ_ _ h=>h
def lG.trans(a:lG H d)(b:lG d e):lG H e:=λc o h=>b c o (a c o h)
def SQ(h:∀ y∈scope.names,y.2=.free->∃ c,env.cells.lookup y.1=some c) :
  ∃b:List (Str×Addr),closureFor scope env=pure b/\(∀x c,b.lookup x=some c->env.cells.lookup x=some c)/\∀y∈scope.names,y.2=.free->∃c,b.lookup y.1=some c:=by
 have p:∀ (l:List (Str×NameKind)) (A:List (Str×Addr)),(∀ y∈l,y.2=.free->∃ c,env.cells.lookup y.1=some c)->(∀ x c,A.lookup x=some c->env.cells.lookup x=some c) ->
   ∃ b:List (Str×Addr),((forIn l A λ(x:Str×NameKind) (r:List (Str×Addr))=>if(x.2==NameKind.free)=true then do let a ← cellOf env x.1;pure (ForInStep.yield ((x.1,a)::r))else pure (ForInStep.yield r)):Sem (List (Str×Addr)))=pure b /\
     (∀x c,b.lookup x=some c->env.cells.lookup x=some c)/\(∀x c,A.lookup x=some c->∃d,b.lookup x=some d)/\∀y∈l,y.2=.free->∃c,b.lookup y.1=some c:=by
  intro l
  induction l with
  |nil=>intro A _ w;exact⟨A,rfl,w,λx c e=>⟨c,e⟩,λ_ f=>nomatch f⟩
  | cons y r t=>
    intro A q w;obtain⟨n,k⟩:=y;rw[List.forIn_cons];by_cases j:(k==NameKind.free)=true
    ·have s:k=.free:=by simpa using j
     obtain⟨c,hc⟩:=q (n,k) pL s;have v:cellOf env n=pure c:=by unfold cellOf;rw[hc]
     obtain⟨b,e,g,m,i⟩:=t ((n,c)::A) (λy f=>q y (Af _ f)) (λx d e=>by
      rw[lookup_cons]at e;split at e
      ·lia
      ·exact w x d e)
     have H:∃d,b.lookup n=some d:=m n c (by rw[lookup_cons];simp);refine⟨b,?_,g,λx d e=>?_,λy f o=>?_⟩;simp only[j,if_true,v];exact e
     ·by_cases u:x=n;subst u;exact H;exact m x d (by rw[lookup_cons];have:(x==n)=false:=by simpa using u
                                                     rw[this];exact e)
     ·rcases sY.mp f with rfl|f;exact H;exact i y f o
    ·obtain⟨b,e,g,m,i⟩:=t A (λy f=>q y (Af _ f)) w;refine⟨b,?_,g,m,λy f o=>?_⟩;simp only[j];exact e;rcases sY.mp f with rfl|f;exact absurd (by simpa using o) j;exact i y f o
 obtain⟨b,e,g,_,i⟩:=p scope.names [] h (λx c e=>nomatch e);refine⟨b,?_,g,i⟩;unfold closureFor;simp only[bind_pure];exact e
def jS(h:(relabel s env).names.lookup x=some .cell\/(relabel s env).names.lookup x=some .free) :
  (x,NameKind.free)∈s.names\/s.names.lookup x=some .cell:=by
 unfold relabel at h;dsimp only at h;revert h;generalize s.names=l;intro h
 induction l with
 |nil=>rcases h with h|h<;>cases h
 | cons y r a=>
   grind
theorem cI:∀ (names:List (Str×NameKind)) (n:Nat) (a:List (Str×Addr)),cellsFrom n names a=cellsFrom n names []++a
 |[],n,a=>rfl
 | (x,k)::r,n,a=>by
   unfold cellsFrom;split;rw[cI r (n+1) ((x,n)::a),cI r (n+1) [(x,n)],append_assoc];rfl;exact cI r n a
theorem gU:∀ (names:List (Str×NameKind)) (n:Nat) (x:Str) (c:Addr),(x,c)∈cellsFrom n names []->(x,NameKind.cell)∈names
 |[],n,x,c,h=>nomatch h
 | (y,k)::r,n,x,c,h=>by
   unfold cellsFrom at h;split at h
   ·rw[cI]at h;rcases sU.mp h with z|z;exact Af _ (gU r _ x c z)
    grind
   ·exact Af _ (gU r _ x c h)
theorem dD:∀ (names:List (Str×NameKind)) (n:Nat) (x:Str),(x,NameKind.cell)∈names->∃ c,(cellsFrom n names []).lookup x=some c
 |[],n,x,h=>nomatch h
 | (y,k)::r,n,x,h=>by
   have a:∀m,(x,NameKind.cell)∈r->∃c,(cellsFrom m r []).lookup x=some c:=λm b=>dD r m x b;unfold cellsFrom;split
   ·rw[cI,List.lookup_append];rcases sY.mp h with z | z
    ·simp_all
    ·obtain⟨c,hc⟩:=a (n+1) z
     simp_all
   ·rcases sY.mp h with z|z
    ·lia
    ·exact a n z
def SR 
  (c:Q (newEnv d s.heap.objs.size g (cellsFrom (s.heap.objs.size+1) d.names a) q none .none (some env) builtinsNs) {s with heap:=pushCells (s.heap.push {cls:=.type "dict",data:=.dict #[]}) d.names}) :
  wpAny M A (newFunctionEnv d g a [] q none .none (some env)) Q E s:=by
 simp only[newFunctionEnv,Option.isSome_some,if_true];refine dV (wpAny_alloc ?_);refine dV (wpAny_layCells _ (λb k C=>rfl) _ _ _ _ ?_);rw[show({s with heap:=s.heap.push {cls:=.type "dict",data:=.dict #[]}}:Shared).heap.objs.size=s.heap.objs.size+1 from DL ..];refine dV ?_;exact gX (gX c)
def qE(h:(relabel s env).names.lookup x=some .local):s.names.lookup x=some .local:=by
 unfold relabel at h;dsimp only at h;revert h;generalize s.names=l;intro h
 induction l with
 |nil=>cases h
 | cons y r a=>
   grind
def dX.adopt{Z:St}(I:dX X k Z H s)(A:H a=none)(B:X.s₀.heap.objs.size<=a)(f:a≠X.env.locals)
  (g:∀x c,X.env.cells.lookup x=some c->c≠a) (h:∀p∈X.pn++k,p.1≠a) (i:cH X.prog X.w (gV H a o) s.heap a o):dX X k Z (gV H a o) s:=by
 have l:∀b u,H b=some u->b≠a:=λb u e=>bK e A;refine⟨I.ok,I.os,I.bare,⟨I.base.keep,I.base.slot,λb O q n j=>?_,I.base.there,λb t q=>?_,λb O u q=>?_,λb z q=>?_⟩,I.loc,I.cell,?_,λx c e=>?_,λp d=>?_,λb u e=>?_,I.len⟩;rw[aF (Ay (Au (sL q) B))];exact I.base.free b O q n j;have:=I.base.tups b t q;rw[aF (l b _ this)];exact this;have:=I.base.frzs b O u q;rw[aF (l b _ this)];exact this;obtain⟨m,this⟩:=I.base.tbls b z q;exact⟨m,by rw[aF (l b _ this)];exact this⟩;rw[aF (oI f)];exact I.free;rw[aF (g x c e)];exact I.freeC x c e;obtain⟨e,n,r⟩:=I.pin p d;exact⟨e,by rw[aF (h p d)];exact n,r⟩;by_cases y:b=a;subst y;rw[aH]at e;lia;rw[aF y]at e;exact(I.hok b u e).stay (λc v _ q=>q) (λc q=>by rw[aF (l c _ q)];exact q) λc t q=>by rw[aF (l c _ q)];exact q
def vO(I:Nat->Shared->Prop)
  (turn:∀ n s,I n s->wpAny (model prog w) A (pyNext z) (λr d=>match r with
   |none=>R (.ok .next) d
   | some v=>wpAny (model prog w) A (letOwnedTupleGo a z v) (λ_ e=>wpAny (model prog w) A (assign a env v) (λ_ g=>
     wpAny (model prog w) A (forIn l true λc r=>if r=true then do let ok ← isTrue c env (eval c env);pure (ForInStep.yield ok)else pure (ForInStep.yield r)) (λok f=>
      if ok=true then wpAny (model prog w) A (eval E env) (λx i=>
       wpAny (model prog w) A (call (.builtin "list.append") [y,x]) (λ_ j=>∃m,m<n/\I m j) (λ_ _=>False) i) (λ_ _=>False) f
      else ∃m,m<n/\I m f) (λ_ _=>False) g) (λ_ _=>False) e) (λ_ _=>False) d) (λ_ _=>False) s)
  (n:Nat) (h:I n s) :
  codeAny (model prog w) A (.compLoop (.ListComp E [⟨a,iter,l,0⟩] u pos) 0 z y env) R s:=by
 refine codeAny_loop rfl I (λn s t=>?_) n h;refine wpAny_noted ?_;rw[compTurn_list];refine dV (Hl (dV (Cu (turn n s t) (λr d b=>?_) λ_ _ H=>H.elim)));cases r with
 |none=>exact gX b
 | some v=>
   refine dV (Cu b (λ_ e b=>?_) λ_ _ H=>H.elim);refine dV (Cu b (λ_ g o=>dV (Cu o (λok f k=>?_) λ_ _ H=>H.elim)) λ_ _ H=>H.elim);cases ok with
   | true=>
     refine dV (dV (Cu k (λx i p=>dV (Cu p (λ_ j q=>gX (gX ⟨rfl,q⟩)) λ_ _ H=>H.elim)) λ_ _ H=>H.elim))
   | false=>
     first
      |rfl
      |exact gX ⟨rfl,k⟩
noncomputable abbrev AZ(X:Cx)(b:Scope)(a:List (Str×Addr))(ex:List Addr)(s:Shared)(H:Hp):Cx:=
 {X with s₀:=s,H₀:=H,env:=compEnvC b a s.heap.objs.size X.env,outer:=X.stack,ex:=ex,fn:=λx=>b.names.lookup x==some .cell,xe:=λ_ _=>False}
noncomputable def blank(own:List Nat)(Z:St):St:=own.foldl (λZ i=>Z.set i none) Z
theorem lH:∀(own:List Nat) (Z:St),(blank own Z).length=Z.length
 |[],_=>rfl
 |i::r,Z=>(lH r (Z.set i none)).trans (by simp)
theorem kR:∀ (own:List Nat) (Z:St) (i:Nat) (v:V),(blank own Z)[i]? = some (some v)->i∉own/\Z[i]? = some (some v)
 |[],_,_,_,h=>⟨by simp,h⟩
 | j::r,Z,i,v,h=>by
   obtain⟨b,a⟩:=kR r (Z.set j none) i v h;by_cases e:i=j;subst e;rw[List.getElem?_set]at a;simp at a
   ·rw[Ae (oI e)]at a
    simp_all
def FA(own:List Nat)(g:TG):Prop:=∀x Z H Q,g x Z H Q->g x Z H λa h=>Q a h/\a.length=Z.length/\∀i,i∉own->a[i]?=Z[i]?
def Iv(own:List Nat)(g:EO):Prop:=∀x Z H Q,g x Z H Q->g x Z H λa h=>Q a h/\a.length=Z.length/\∀i,i∉own->a[i]?=Z[i]?
def jT(h:i∈own):FA own (fS i):=λx Z H Q q=>
 ⟨q,by simp,λj a=>Ae (λe:i=j=>a (by simp_all))⟩
def SS:Iv own Gk:=λx Z H Q q=>⟨q.1,q.2,rfl,λ_ _=>rfl⟩
def oZ(f:FA own t)(g:Iv own u)(m:∀x Z H Q d,(∀a b,Q a b->d a b)->t x Z H Q->t x Z H d):Iv own (pZ t u):=by
 intro x Z H Q q;obtain⟨v,r,e,q⟩:=q;refine⟨v,r,e,m _ _ _ _ _ (λh i c=>?_) (f _ _ _ _ q)⟩;obtain⟨c,l,j⟩:=c;have:=g _ _ _ _ c
 grind
def pA:∀x Z H (Q c:St->Hp->Prop),(∀a b,Q a b->c a b)->fS i x Z H Q->fS i x Z H c:=λ_ _ _ _ _ f q=>f _ _ q
def DR(X:Cx)(a:List Expr)(t:TT):Prop:=
 ∀ (p:List (Addr×Obj)) (s:Shared) (Z:St) (H:Hp) (Q:Bool->Hp->Prop),dX X p Z H s->t Z H Q ->
   wpAny (model X.prog X.w) X.A (forIn a true λc r=>if r=true then do let o ← isTrue c X.env (eval c X.env);pure (ForInStep.yield o)else pure (ForInStep.yield r)) (TP X p Z Q) X.xe s
def SU:TT:=λ_ H Q=>Q true H
def SV:DR X [] SU:=λ_ _ _ H _ I h=>wpAny_tests_nil ⟨H,I,h⟩
def SW(h:PT X c t):DR X [c] t:=λp s Z H Q I q=>wpAny_tests_one (h p s Z H Q I q)
structure Am(X:Cx)(scope:Scope)(own:List Nat):Prop where
 kind:scope.kind=.function
 cells:∀y∈scope.names,y.2=.cell->scope.names.lookup y.1=some .cell
 names:∀y∈scope.names,y.2=.local->scope.names.lookup y.1=some .local
 free:∀y∈scope.names,y.2=.free->X.env.kindOf y.1=some .cell\/X.env.kindOf y.1=some .free
 own:∀i x,X.N[i]?=some x->(scope.names.lookup x=some .local\/scope.names.lookup x=some .cell)->i∈own
 calm:X.calm=true
def Ma(own:List Nat)(d:TI)(g:TG)(e:TT)(f:TE)(Z:St)(H:Hp)(F:List V->Hp->Prop):Prop:=
 d Z H λJ h=>∃W:Nat->Nat->List V->Hp->Prop,(∃m,W 0 m [] h)/\∀i m y H,W i m y H->y.length<=sizeLine /\
  ((J.stop i H/\F y H)\/(J.go i H/\∀ x l,J.yld i H x l->g x (blank own Z) l λa j=>e a j λb c=>
    if b=true then f a c λv k=>∃M,M < m/\W (i+1) M (y++[v]) k else ∃M,M < m/\W (i+1) M y c))
def HB(own:List Nat)(a:TI)(g:TG)(b:TT)(c:TE):TE:=λZ H Q=>Ma own a g b c Z H λy h=>∀p,h p=none->Q (.ref p) (gV h p (.lst y))
structure BC(X:Cx)(pins:List (Addr×Obj))(H:Hp)(b:Addr):Prop where
 un:H b=none
 loc:b≠X.env.locals
 young:X.s₀.heap.objs.size<=b
 cell:∀x c,X.env.cells.lookup x=some c->c≠b
 pin:∀p∈X.pn++pins,p.1≠b
def dX.stray{Z:St}{b:Addr}(I:dX X h Z H s)(hb:s.heap.objs.size<=b)(j:k b=none):BC X h k b:=by
 obtain⟨a,c,f,g,d,e⟩:=I.fpOk hb j;exact⟨a,c,hQ I.sz hb,d,e⟩
set_option maxHeartbeats 8000000 in
def SX{Z:St}{F:List V->Hp->Prop}{W:Nat->Nat->List V->Hp->Prop}
  (S:Am X w own) (hg:∀h ex s H,PG (AZ X w h ex s H) tg g) (hG:FA own g)
  (ht:∀h ex s H,DR (AZ X w h ex s H) ifs tt) (he:∀h ex s H,PE (AZ X w h ex s H) elt te)
  (t:dX X A Z l a) (T:BV X.prog X.w X.K tg J fp it tn) (N:∀x c,h.lookup x=some c->(X.env.cells.lookup x=some c/\w.names.lookup x≠some .cell)\/(a.heap.objs.size<c/\w.names.lookup x=some .cell/\h₁.IsCell c none)) (cl2:∀y∈w.names,y.2=.free\/y.2=.cell->∃c,h.lookup y.1=some c)
  (cl3:∀x y c,h.lookup x=some c->h.lookup y=some c->x=y)
  (Q:∀b∈fp,Di X A l b) (M:∀b∈fp,b<D) (E:D<a.heap.objs.size) (G:∀b,b∈frs X.stack->b<D) (hbase:∀b o,X.base.get? b=some o->b<D) (f:BC X A l D)
  (hD3:a.heap.get? D=some {cls:=.type "list",data:=.seq ([]:List Value).toArray}) (st3:tn 0 a.heap) (R:h₁.Ns a.heap.objs.size mC) (B:∀b o,a.heap.get? b=some o->h₁.get? b=some o)
  (w0:W 0 m0 [] l) (turn:∀i m ys H,W i m ys H->ys.length<=sizeLine /\
  ((J.stop i H/\F ys H)\/(J.go i H/\∀ x H',J.yld i H x H'->g x (blank own Z) H' λσ2 l=>tt σ2 l λb H3=>
    if b=true then te σ2 H3 λv P=>∃m',m' < m/\W (i+1) m' (ys++[v]) P else ∃m',m' < m/\W (i+1) m' ys H3)))
  (fin:∀D C ys H' s' m,dX X A Z (gV H' D (.lst ys)) s'->H' D=none->s'.heap.Ns C m->BC X A (gV H' D (.lst ys)) C->F ys H' ->
   compPost (model X.prog X.w) X.A X.xe use Qf (.ref D) C (.ok .next) s') :
  codeAny (model X.prog X.w) X.A (.compLoop (.ListComp elt [⟨tg,iter,ifs,0⟩] w pos) 0 (.ref it) (.ref D) (compEnvC w h a.heap.objs.size X.env))
   (compPost (model X.prog X.w) X.A X.xe use Qf (.ref D) a.heap.objs.size) {a with heap:=h₁,toks:=tk}:=by
 have cneD:∀x c,h.lookup x=some c->c≠D:=λx c q=>by
  rcases N x c q with z|z;exact f.cell x c z.1;exact(Ay (Ck E z.1)).symm
 have cneF:∀b∈fp,∀x c,h.lookup x=some c->c≠b:=λb O x c q=>by
  rcases N x c q with z|z;exact(Q b O).2.2.2.2.1 x c z.1;exact(Ay (Ck (Ck (M b O) E) z.1)).symm
 have okY:(AZ X w h (D::fp) a l).Ok:=by
  refine⟨t.ok.mod,S.kind,t.ok.glob,t.ok.blt,hC _,cl3,λx hk=>?_,λx c hf q=>?_,t.ok.hd,t.ok.frames,.inl rfl,λb O=>?_,λb o q=>?_,?_,λb o q O=>?_,λb O U=>?_,t.stack,t.stkFree⟩;rcases jS hk with z|z;exact cl2 _ z (.inl rfl);exact cl2 _ (mem_of_lookup z) (.inr rfl)
  ·rcases N x c q with z | z
   ·have hf':w.names.lookup x=some .cell:=by simpa using hf
    exact absurd hf' z.2
   ·exact Aq z.1
  ·constructor;show b≠a.heap.objs.size;rcases sY.mp O with z|z;rw[z];exact Ay E;exact Ay (Ck (M b z) E);intro x c q;rcases sY.mp O with z|z;rw[z];exact cneD x c q;exact cneF b z x c q
  ·exact t.bs b o q
  ·exact hQ t.ok.bsz t.sz
  ·rcases sY.mp O with z|z;have:=hbase b o q;rw[z]at this;exact Bt _ this;rcases(Q b z).2.2.2.1 with y|y;exact t.ok.noex b o q y;exact Bt _ (Au (sL q) (hQ t.ok.bsz y))
  ·rcases sY.mp O with z|z;have:=G b U;rw[z]at this;exact Bt _ this;rcases sY.mp (t.stkSub b U)with y|y;exact(Q b z).2.1 y;exact(Q b z).2.2.1 y
 have IY:dX (AZ X w h (D::fp) a l) A (blank own Z) l {a with heap:=h₁,toks:=tk}:=by
  refine⟨okY,rfl,t.bare,Un.kept B,⟨_,R,λi x v e1 e2 e3=>?_⟩,λx c q=>?_,t.hok.fresh (hC _),λx c q=>by
   rcases N x c q with z|z;exact t.freeC x c z.1;exact t.hok.fresh (Aq z.1),λp hp=>?_,t.hok.kept B,(lH own Z).trans t.len⟩
  ·obtain⟨hno,e2'⟩:=kR own Z i v e2;have hnl:¬ (relabel w X.env).names.lookup x=some .local:=λz=>hno (S.own i x e1 (.inl (qE z)));have hnc:¬ w.names.lookup x=some .cell:=λz=>hno (S.own i x e1 (.inr z));have hcf:(relabel w X.env).names.lookup x=some .cell\/(relabel w X.env).names.lookup x=some .free:=by
    rcases e3 with z|z|z;exact absurd z hnl;exact .inl z;exact .inr z
   have hmem:=(jS hcf).resolve_right hnc;have Y:=S.free _ hmem rfl;obtain⟨m,hm,hl⟩:=t.loc;obtain⟨u,r,lk⟩:=hl i x v e1 e2' (by rcases Y with z|z;exact .inr (.inl z);exact .inr (.inr z));obtain⟨c,hc⟩:=cl2 _ hmem (.inl rfl);refine⟨u,r,.inr ⟨hcf,c,hc,?_⟩⟩;rcases lk with⟨z,_⟩|⟨_,c',hc',ic⟩;dsimp only at Y;rw[z]at Y;rcases Y with y|y<;>cases y;have:=((N _ c hc).resolve_right λz=>hnc z.2.1).1;dsimp only at this;rw[hc']at this;cases this;obtain⟨o,ho,hd⟩:=ic;exact⟨o,B _ _ ho,hd⟩
  ·rcases N x c q with z|z;obtain⟨v,o,ho,hd⟩:=t.cell x c z.1;exact⟨v,o,B _ _ ho,hd⟩;exact⟨_,z.2.2⟩
  ·obtain⟨q,n,ne,nf,d⟩:=t.pin p hp;refine⟨B _ _ q,n,Ay (sL q),λO=>?_,d⟩;rcases sY.mp (t.stkSub _ O)with y|y;exact ne y;exact nf y
 have DY:D≠a.heap.objs.size:=Ay E;have statY:∀{H':Hp},(∀b∈fp,H' b=none)->∀b∈fp,Di (AZ X w h (D::fp) a l) A H' b:=λhn b O=>by
  refine⟨hn b O,?_,?_,.inl (Af _ O),cneF b O,(Q b O).2.2.2.2.2⟩;show b≠a.heap.objs.size;exact Ay (Ck (M b O) E);intro U;rcases sY.mp (t.stkSub b U)with y|y;exact(Q b O).2.1 y;exact(Q b O).2.2.1 y
 have hDfp:D∉fp:=λz=>Bt _ (M D z);have hDstk:D∉frs X.stack:=λz=>Bt _ (G D z);have I:∀{H':Hp} {o:Obj},(∀b∈fp,H' b=none)->∀b∈fp,Di (AZ X w h (D::fp) a l) (A++[(D,o)]) H' b:=λ{H' o} fr b O=>by
  obtain⟨a1,a2,a3,a4,a5,a6⟩:=statY fr b O;refine⟨a1,a2,a3,a4,a5,λp hp z=>?_⟩;rcases sU.mp hp with y|y;exact a6 p (Ge _ y) z;rcases sU.mp y with y|y;exact a6 p (BQ _ y) z;have e:p=(D,o):=Aa.mp y;rw[e]at z;have z':D=b:=z;exact hDfp (by rw[z'];exact O)
 have pin2:∀ {H':Hp} {s':Shared} {its:Array Value} {k:Nat},dX (AZ X w h (D::fp) a l) A (blank own Z) H' s'->H' D=none->s'.heap.get? D=some {cls:=.type "list",data:=.seq its k} ->
   dX (AZ X w h (D::fp) a l) (A++[(D,{cls:=.type "list",data:=.seq its k})]) (blank own Z) H' s':=λ{H' s' its k} I4 D4 o4=>I4.pins_of λp hp=>by
  rcases sU.mp hp with z|z;exact I4.pin p (BQ _ z);have e:p=(D,{cls:=.type "list",data:=.seq its k}):=Aa.mp z;subst e;exact⟨o4,D4,DY,hDstk,λv z=>by cases z⟩
 refine vO (λn s'=>∃i ys H' its k,dX (AZ X w h (D::fp) a l) A (blank own Z) H' s'/\tn i s'.heap/\(∀b∈fp,H' b=none)/\H' D=none /\
  s'.heap.get? D=some {cls:=.type "list",data:=.seq its k}/\bC ys its.toList/\W i n ys H') ?_ m0
  ⟨0,[],l,#[],_,IY,T.keep _ _ _ st3 λb O o q=>B b o q,λb O=>(Q b O).1,f.un,B _ _ hD3,.nil,w0⟩
 rintro n s4 ⟨i,ys,P,its,k,I4,st4,fr4,D4,o4,v4,w4⟩;obtain⟨hz,step⟩:=turn i n ys P w4;rcases step with⟨stop,qn⟩|⟨go,step⟩
 ·refine thn (T.done (AZ X w h (D::fp) a l) rfl rfl rfl S.calm i _ s4 (blank own Z) P (λ_ _=>False) (pin2 I4 D4 o4) (I fr4) st4 stop) λr s5 Z0=>?_;obtain⟨hr,I5⟩:=Z0;subst hr;have oD:s5.heap.get? D=some {cls:=.type "list",data:=.seq its k}:=(I5.pin (D,_) (BQ _ (BQ _ pL))).1;have π:dX (AZ X w h (D::fp) a l) A (blank own Z) P s5:=I5.unpinned;have IX:dX X A Z P s5:=by
   refine t.call' (ch:=D::fp) π.os π.base π.hok π.bare λb O=>?_;rcases sY.mp O with z|z;rw[z];exact⟨.inr f.young,f.loc,f.cell,f.pin⟩;obtain⟨a1,a2,a3,a4,a5,a6⟩:=Q b z;exact⟨a4,a2,a5,a6⟩
  obtain⟨m5,hm5,_⟩:=π.loc;have nC:P a.heap.objs.size=none:=π.free;have IX':dX X A Z (gV P D (.lst ys)) s5:=by
   refine IX.adopt D4 f.young f.loc f.cell f.pin ⟨hz,its.toList,k,v4,?_⟩;rw[oD]
  have strC:BC X A (gV P D (.lst ys)) a.heap.objs.size:=t.stray (hC _) (by rw[aF (oI DY)];exact nC);exact fin D _ ys P s5 m5 IX' D4 hm5 strC qn
 ·refine thn (T.item (AZ X w h (D::fp) a l) rfl rfl rfl S.calm i _ s4 (blank own Z) P (λ_ _=>False) (pin2 I4 D4 o4) (I fr4) st4 go) λr s5 Z0=>?_;obtain⟨u,hr,h5⟩:=Z0;subst hr;refine thn h5 λ_ s6 ⟨x,H6,I6,r6,y6,st6,fr6⟩=>?_;have I6':=I6.pinned (I fr6) (T.obj _ _ st6);refine thn (hg h (D::fp) a l _ s6 (blank own Z) H6 x u _ I6' r6 (hG _ _ _ _ (step x H6 y6))) λ_ s7 ⟨σ7,H7,I7,⟨q7,l7,p7⟩⟩=>?_;refine thn (ht h (D::fp) a l _ s7 σ7 H7 _ I7 q7) λb s8 ⟨H8,I8,q8⟩=>?_;have weak:∀ {σ:Hp} {s9:Shared},dX (AZ X w h (D::fp) a l) ((A++[(D,{cls:=.type "list",data:=.seq its k})])++mR fp s6.heap) σ7 σ s9 ->
    dX (AZ X w h (D::fp) a l) ((A++[(D,{cls:=.type "list",data:=.seq its k})])++mR fp s6.heap) (blank own Z) σ s9:=λI9=>
   I9.weak l7.symm λj v e=>by rw[p7 j (kR own Z j v e).1];exact e
  have tn9:∀ {σ:Hp} {s9:Shared},dX (AZ X w h (D::fp) a l) ((A++[(D,{cls:=.type "list",data:=.seq its k})])++mR fp s6.heap) (blank own Z) σ s9->tn (i+1) s9.heap/\∀ b∈fp,σ b=none:=λI9=>
   ⟨T.keep _ _ _ st6 λb O o q=>(I9.pin (b,o) (BQ _ (BQ _ (iP O q)))).1,λb O=>by
    obtain⟨o,q,d⟩:=T.obj _ _ st6 b O;exact(I9.pin (b,o) (BQ _ (BQ _ (iP O q)))).2.1⟩
  cases b with
  | true=>
    rw[eH rfl]at q8 ⊢;refine thn (he h (D::fp) a l _ s8 σ7 H8 _ I8 q8) λy s9 Z0=>?_;obtain⟨v9,σ,I9,r9,m',hm',w9⟩:=Z0;have L:=weak I9;obtain⟨t9,f9⟩:=tn9 L;have p9:=L.pin (D,_) (BQ _ (Ge _ (BQ _ pL)));have hlen:=v4.length;have hz':its.size<=sizeLine:=by rw[← BA];lia
    refine append_at (hsz:=hz') p9.1 λh' hs' hD'=>?_;have I9u:dX (AZ X w h (D::fp) a l) A (blank own Z) σ s9:=L.unpinned.unpinned;have I10:dX (AZ X w h (D::fp) a l) A (blank own Z) σ {s9 with heap:=h'}:=
     I9u.turned (it:=D) (t':=s9.toks) (λb o O q=>(hs'.2 b O).trans q) p9.2.1 DY (.inl pL) cneD f.pin
    refine⟨m',hm',i+1,ys++[v9],σ,its.push y,k+1,I10,T.keep _ _ _ t9 λb O o q=>(hs'.2 b λz=>hDfp (by rw[← z];exact O)).trans q,f9,p9.2.1,hD',?_,w9⟩;rw[DD];exact v4.append (.cons r9 .nil)
  | false=>
    rw[a0m Ec]at q8 ⊢;obtain⟨m',hm',w9⟩:=q8;have L:=weak I8;obtain⟨t9,f9⟩:=tn9 L;have p9:=L.pin (D,_) (BQ _ (Ge _ (BQ _ pL)));exact⟨m',hm',i+1,ys,H8,its,k,L.unpinned.unpinned,t9,f9,p9.2.1,p9.1,v4,w9⟩
set_option maxHeartbeats 8000000 in
def tF{pos K:Pos}{Z:St}
  (S:Am X scope own) (hi:PI X tg iter wi) (hg:∀p ex s H,PG (AZ X scope p ex s H) tg g) (hG:FA own g)
  (ht:∀p ex s H,DR (AZ X scope p ex s H) G tt) (he:∀p ex s H,PE (AZ X scope p ex s H) elt te)
       (I:dX X w Z H s) (hw:Ma own wi g tt te Z H F)
  (hs:∀x,foldedSetIterable iter X.env x=pure x)
  (fin:∀D C ys H' s' m,dX X w Z (gV H' D (.lst ys)) s'->H' D=none->s'.heap.Ns C m->BC X w (gV H' D (.lst ys)) C->F ys H' ->
   compPost (model X.prog X.w) X.A X.xe use Qf (.ref D) C (.ok .next) s') :
  wpAny (model X.prog X.w) X.A (comprehension (.ListComp elt [⟨tg,iter,G,0⟩] scope pos) scope X.env K (newList []) false (eval iter X.env) use) Qf X.xe s:=by
 obtain⟨p,U,Y,σ⟩:=SQ (scope:=scope) (env:=X.env) λy Q hf=>I.ok.has y.1 (S.free y Q hf);refine wpAny_comprehension_free (use:=use) rfl hs U S.kind S.names (thn (hi w s Z H _ I hw) λv s₁ h₁=>thn h₁ λitv a L=>?_);obtain⟨it,fp,tn,J,H2,e,u,T,B,f2,W,⟨m0,w0⟩,A⟩:=L;subst e;refine EE (SR ?_);dsimp only;have hsz:(a.heap.push {cls:=.type "list",dict:=none,data:=.seq ([]:List Value).toArray}).objs.size=a.heap.objs.size+1:=DL ..;have h:∀b o,a.heap.get? b=some o->(a.heap.push {cls:=.type "list",dict:=none,data:=.seq ([]:List Value).toArray}).get? b=some o:=λb o q=>Ac _ q;have M:(a.heap.push {cls:=.type "list",dict:=none,data:=.seq ([]:List Value).toArray}).get? a.heap.objs.size=some {cls:=.type "list",dict:=none,data:=.seq ([]:List Value).toArray}:=Al _ rfl;generalize hG3:a.heap.push {cls:=.type "list",dict:=none,data:=.seq ([]:List Value).toArray}=d at hsz h M ⊢;have r:(d.push {cls:=.type "dict",data:=.dict #[]}).objs.size=d.objs.size+1:=DL ..;have i:(pushCells (d.push {cls:=.type "dict",data:=.dict #[]}) scope.names).Ns d.objs.size (λ_=>none):=(Heap.Ns.new d (.type "dict")).keeps (pushCells_keeps _ _);have l:∀b o,d.get? b=some o->(pushCells (d.push {cls:=.type "dict",data:=.dict #[]}) scope.names).get? b=some o:=λb o q=>pushCells_keeps _ _ b o (Ac _ q);have O:=cellsFrom_ok scope.names (d.push {cls:=.type "dict",data:=.dict #[]}) (d.objs.size+1) [] ⟨λ_ _ hm=>(nomatch hm),List.Pairwise.nil⟩ (by rw[r];exact hC _);rw[r]at O;generalize pushCells (d.push {cls:=.type "dict",data:=.dict #[]}) scope.names=h₁ at i l O ⊢;have I3:dX X w Z H2 {a with heap:=d}:=u.kept (t':=a.toks) h;have j:∀x,(cellsFrom (d.objs.size+1) scope.names p).lookup x=((cellsFrom (d.objs.size+1) scope.names []).lookup x).or (p.lookup x):=λx=>by rw[cI,List.lookup_append]
 have N:∀x c,(cellsFrom (d.objs.size+1) scope.names []).lookup x=some c->d.objs.size<c/\scope.names.lookup x=some .cell/\h₁.IsCell c none:=λx c q=>
  ⟨(O.empty x c (mem_of_lookup q)).2,S.cells _ (gU _ _ x c (mem_of_lookup q)) rfl,(O.empty x c (mem_of_lookup q)).1⟩
 have k:∀ x c,(cellsFrom (d.objs.size+1) scope.names p).lookup x=some c->(X.env.cells.lookup x=some c/\scope.names.lookup x≠some .cell)\/(d.objs.size < c/\scope.names.lookup x=some .cell/\h₁.IsCell c none):=λx c q=>by
  rw[j]at q;cases e:(cellsFrom (d.objs.size+1) scope.names []).lookup x with
  |some π=>rw[e]at q;cases q;exact .inr (N x _ e)
  | none=>
    rw[e]at q;refine .inl ⟨Y x c q,λz=>?_⟩;obtain⟨π,f⟩:=dD scope.names (d.objs.size+1) x (mem_of_lookup z);rw[e]at f;cases f
 have n:∀x c,X.env.cells.lookup x=some c->c<d.objs.size:=λx c q=>by
  obtain⟨v,o,ho,hd⟩:=I3.cell x c q;exact sL ho
 have t:=SX (iter:=iter) (elt:=elt) (pos:=pos) (use:=use) (Qf:=Qf) (tk:=a.toks) (h₁:=h₁) S hg hG ht he I3 T k (λy Q hk=>by
   rw[j];rcases hk with z|z
   ·obtain⟨c,hc⟩:=σ y Q z;cases e:(cellsFrom (d.objs.size+1) scope.names []).lookup y.1 with
    |some π=>exact⟨π,rfl⟩
    |none=>exact⟨c,hc⟩
   ·obtain⟨c,hc⟩:=dD scope.names (d.objs.size+1) y.1 (by rw[← z];exact Q);exact⟨c,by rw[hc];rfl⟩) (λx y c q1 R=>by
   rcases k x c q1 with P|P;rcases k y c R with E|E;exact I3.ok.inj x y c P.1 E.1;exact absurd E.1 (EM.mpr (Aq (n x c P.1)));rcases k y c R with E|E;exact absurd P.1 (EM.mpr (Aq (n y c E.1)));have m1:(cellsFrom (d.objs.size+1) scope.names []).lookup x=some c:=by
    obtain⟨π,f⟩:=dD scope.names (d.objs.size+1) x (mem_of_lookup P.2.1);rw[j,f]at q1;cases q1;exact f
   have m2:(cellsFrom (d.objs.size+1) scope.names []).lookup y=some c:=by
    obtain⟨π,f⟩:=dD scope.names (d.objs.size+1) y (mem_of_lookup E.2.1);rw[j,f]at R;cases R;exact f
   exact name_of_addr O.apart (mem_of_lookup m1) (mem_of_lookup m2)) f2 (λb hb=>by obtain⟨o,q,_⟩:=T.obj _ _ B b hb;exact sL q)
  (by show a.heap.objs.size<d.objs.size;lia) (λb hb=>by
   rcases sY.mp (u.stkSub b hb)with z|z;rw[z];exact u.lt;exact Hs λhle=>u.nofs hle z)
  (λb o q=>sL (u.bs b o q).1) (u.stray (hC _) (u.hok.fresh (hC _))) M (T.keep _ _ _ B λb hb o q=>h b o q) i l w0 A fin
 exact codeAny_compStart_list t (T.self _ 0 _ _ _ (T.keep _ _ _ B λb hb o q=>l b o (h b o q)) t)
def Mb 
  (S:Am X u own) (B:PI X T iter f) (j:∀c ex s H,PG (AZ X u c ex s H) T g) (k:FA own g)
  (l:∀c ex s H,DR (AZ X u c ex s H) a h) (n:∀c ex s H,PE (AZ X u c ex s H) E i)
  (A:∀x,foldedSetIterable iter X.env x=pure x:=by intro _;rfl):PE X (.ListComp E [⟨T,iter,a,0⟩] u pos) (HB own f g h i):=by
 intro w s Z H Q I p;refine tF (use:=none) S B j k l n I p A λD C y L z m r J t v q=>?_;refine⟨m,t,λM d=>⟨.ref D,gV L D (.lst y),?_,rfl,q D J⟩⟩;exact r.turned (it:=C) (t':=z.toks) (λb o G e=>(d.2 b G).trans e) v.un v.loc (.inr v.young) v.cell v.pin
def SY 
  (E:X.N.Nodup) (k:X.N[i]?=some x) (B:X.env.scope.names.lookup x=some .local)
  (S:Am X N own) (hi:PI X Y iter w) (F:∀j ex s H,PG (AZ X N j ex s H) Y g) (G:FA own g)
  (J:∀j ex s H,DR (AZ X N j ex s H) f y) (K:∀j ex s H,PE (AZ X N j ex s H) U A)
  (l:swapsWith (.ListComp U [⟨Y,iter,f,0⟩] N pos) (some (.Name x c)) d.line X.env=pure true)
  (hs:∀x,foldedSetIterable iter X.env x=pure x:=by intro _;rfl) :
  PS X (.Assign [.Name x c] (.ListComp U [⟨Y,iter,f,0⟩] N pos) d) (λD Z H=>HB own w g y A Z H λv L=>D.nx (Z.set i (some v)) L):=by
 intro T s Z H M I π;rw[exec_Assign_Name_used _ _ _ _ l];refine dV (Hl (dV ?_));refine dV (thn (tF (use:=some (assign (.Name x c) X.env)) (Qf:=λ_ s'=>SP X T M .next s') S hi F G J K I π hs λD C ys H' s' m P hD Q O q=>?_) λ_ s' R=>gX (gX R));refine wpAny_assign_Name (sM (v:=.ref D) P E k (.inl B) (show cC (.ref D) (Value.ref D)from rfl) (λn p r=>?_) (.inr B));obtain⟨a,h,ha⟩:=r;have t:C≠a:=by
  rcases ha with z|z;rw[z];exact O.loc;exact oI (O.cell x a z)
 refine⟨m,Q.sameBut h t,λh' u=>⟨_,_,?_,q D hD⟩⟩;exact p.turned (it:=C) (t':=n.toks) (λb o hb e=>(u.2 b hb).trans e) O.un O.loc (.inr O.young) O.cell O.pin
def Ta(hc:X.calm=true):iE X (.builtin "all") (λxs H Q=>∃ (a:Addr) (J:List Bool),xs=[.ref a]/\AU X.K H a (J.map V.bl)/\Q (.bl (J.all id)) H):=by
 intro N s Z H xs U Q I r h;obtain⟨a,J,rfl,O,q⟩:=h;obtain⟨u,rfl,n⟩:=oG r;cases n;obtain⟨G,f,p,B⟩:=I.list O;have g:a<s.heap.objs.size:=by obtain⟨_,e,_⟩:=p.isList;exact sL e
 have t:X.A.in1.handled=none:=I.ok.hd hc;refine call_all_walk (wpAny_pyIter_list p.isList ?_);refine⟨s.heap.objs.size,[s.heap.objs.size,a],[s.heap.objs.size],G.toArray.size,_,_,λi=>(J[i]?).getD true,rfl,Walks.list (A:=X.A.in1) t _ a (Ay g) G.toArray,
  ⟨⟨_,Al _ rfl,rfl,rfl⟩,p.isList.push _⟩,λi v Y C D E k=>?_,λh' T w=>?_⟩
 ·have L:G[i]?=some v:=by simp_all
  have c:=f.length;have l:i<G.length:=(hR.mp L).1;have M:i<J.length:=by grind
  obtain⟨u,m,y⟩:=f.get (i:=i) (x:=V.bl J[i]) (by simp);rw[L]at m;cases m;have e:v=Value.bool J[i]:=y;subst e;simp only[List.getElem?_eq_getElem M,getD_some]at k;exact Hi k
 ·have e:((range G.toArray.size).all λi=>(J[i]?).getD true)=J.all id:=by
   have c:=f.length;rw[fI]at c;rw[BU,← c];rw[Bool.eq_iff_iff,DJ,DJ];constructor;intro j b M;obtain⟨i,L,rfl⟩:=Cv M;have:=j i (Cc.mpr L);simp only[List.getElem?_eq_getElem L,getD_some]at this;exact this;intro j i L;have d:=Cc.mp L;simp only[List.getElem?_eq_getElem d,getD_some];exact j _ (Dh d)
  rw[e];exact⟨.bl _,H,I.kept (t':=T) λb o q=>w b o (λF=>by
   have z:b=s.heap.objs.size:=by simp_all
   rw[z]at q;exact Bt _ (sL q)) (Ac _ q),rfl,q⟩
noncomputable def JX(x:Str):It:=⟨λi _=>∃c,x.cps[i]?=some c,λi H v h=>h=H/\∃c,x.cps[i]?=some c/\v=.str ⟨#[c]⟩,λi _=>x.cps[i]?=none⟩
def zA{K:W.Frag}(x:Str)(t:Tok)(O:Addr)(ty:String)(a:ty="str_ascii_iterator"\/ty="str_iterator"):BV P w K T (JX x) [O] O (λi h=>h.IsStrIter O ty x t i) where
 mem:=by simp
 obj:=λi h J b G=>by
  have e:b=O:=by simpa using G
  subst e;obtain⟨o,e,c,d⟩:=J;exact⟨o,e,λv z=>by rw[d]at z;cases z⟩
 keep:=λi h N J k=>by
  obtain⟨o,e,c,d⟩:=J;exact⟨o,k O (by simp) o e,c,d⟩
 item:=by
  intro X q r u hc i M s Z H E I g J y;subst q r u;obtain⟨c,f⟩:=y;obtain⟨j,l,F,m,n,p⟩:=g O (by simp);rcases a with rfl|rfl;refine wpAny_pyNext_ascii_item J f λN L A=>?_;have B:dX X M Z H {s with heap:=N,toks:=s.toks+1}:=I.turned (t':=s.toks+1) (λb o G e=>(A.2 b G).trans e) j l m n p;obtain⟨o,e,C,d⟩:=id L;exact⟨_,rfl,Hv (s:={s with heap:=N,toks:=s.toks+1}) e C d (by decide) ⟨.str ⟨#[c]⟩,H,B,⟨_,rfl⟩,⟨rfl,c,f,rfl⟩,L,λb G=>(g b G).1⟩⟩;refine wpAny_pyNext_wide_item J f λN L A=>?_;have B:dX X M Z H {s with heap:=N,toks:=s.toks+1}:=I.turned (t':=s.toks+1) (λb o G e=>(A.2 b G).trans e) j l m n p;obtain⟨o,e,C,d⟩:=id L;exact⟨_,rfl,Hv (s:={s with heap:=N,toks:=s.toks+1}) e C d (by decide) ⟨.str ⟨#[c]⟩,H,B,⟨_,rfl⟩,⟨rfl,c,f,rfl⟩,L,λb G=>(g b G).1⟩⟩
 done:=by
  intro X q r u hc i M s Z H E I g J y;subst q r u;have f:x.cps[i]?=none:=y;obtain⟨j,l,F,m,n,p⟩:=g O (by simp);rcases a with rfl|rfl;exact wpAny_pyNext_ascii_end (I.ok.hd hc) J f λN D=>⟨rfl,I.turned (t':=s.toks) (λb o G e=>D b o G e) j l m n p⟩;exact wpAny_pyNext_wide_end (I.ok.hd hc) J f λN D=>⟨rfl,I.turned (t':=s.toks) (λb o G e=>D b o G e) j l m n p⟩
 self:=λ_ _ _ _ _ J h=>by
  rcases a with rfl|rfl;exact wpAny_pyIter_striter_ascii J h;exact wpAny_pyIter_striter_wide J h
def Tb:V->Option Int->Option Int->Hp->VK->Prop:=λx l h H Q=>∃z,x=.str z/\z.length<=sizeLine/\Q (.str (slice z l h)) H
def Tc:Gu X Tb:=by
 intro p s Z H x v g m L r y Q I e o w d h;obtain⟨z,rfl,f,q⟩:=h;obtain⟨t,rfl⟩:=e;refine⟨"str",_,F.slot_str_getitem.lookup,typeIs_str _ _ _,?_⟩;have n:∀b k,EP X p Z Q (.str (slice z L r) b) {s with toks:=k}:=λb k=>⟨.str _,H,I.tok k,⟨b,rfl⟩,q⟩;have a:(slice z L r).length<=sizeLine:=hQ (Txt.slice_le z L r) f;cases w with
 | none=>
   cases d with
   |none=>exact Ii (l:=none) (u:=none) (st:=none) o rfl (post_val_or_str ⟨a,n⟩)
   |int j c=>exact Ii (l:=none) (u:=some (j,c)) (st:=none) o rfl (post_val_or_str ⟨a,n⟩)
 | int i T=>
   cases d with
   |none=>exact Ii (l:=some (i,T)) (u:=none) (st:=none) o rfl (post_val_or_str ⟨a,n⟩)
   |int j c=>exact Ii (l:=some (i,T)) (u:=some (j,c)) (st:=none) o rfl (post_val_or_str ⟨a,n⟩)
def Td{Y:List Str}:∀ {u:List Value},bC (Y.map V.str) u->StrsAre u Y:=by
 induction Y with
 |nil=>intro u r;cases r;exact .nil
 | cons y r a=>
   intro u h;cases h with
   | cons b c=>
     obtain⟨t,rfl⟩:=b;exact .cons y t (a c)
def Iw(K:W.Frag):V->List V->Hp->VK->Prop:=λx v H Q=>∃b a y,x=.str b/\v=[.ref a]/\AU K H a (y.map V.str)/\(y.map (·.length)).sum+y.length*b.length<=16777216/\Q (.str (Txt.join b y)) H
def Te:Ek X "str.join" (Iw X.K):=by
 intro i s Z H x m v U Q I b c h;obtain⟨d,a,y,rfl,rfl,l,e,q⟩:=h;obtain⟨t,rfl⟩:=b;obtain⟨u,rfl,f⟩:=c.one;cases f;obtain⟨j,r,p,_⟩:=I.list l;exact join_list p.isList (by simpa using Td r) e λg k=>⟨.str _,H,I.tok k,⟨g,rfl⟩,q⟩
noncomputable def cG(H:Hp)(p:Addr):Option (Bool×List V):=match H p with
 |some (.lst x)=>some (true,x)
 |some (.tup x)=>some (false,x)
 |some (.frz _ (.lst x))=>some (true,x)
 |_=>none
def zB(h:H p=some (.lst xs)):cG H p=some (true,xs):=by unfold cG;rw[h]
def bL(h:H p=some (.tup xs)):cG H p=some (false,xs):=by unfold cG;rw[h]
def mE(h:H p=some (.frz o (.lst xs))):cG H p=some (true,xs):=by unfold cG;rw[h]
def aG{P:Prop}{a:Type}{x:a}(h:none=some x):P:=nomatch h
set_option tactic.hygienic true in
def qF(h:cG H p=some (b,xs)):(b=true/\H p=some (.lst xs))\/(b=false/\H p=some (.tup xs))\/(b=true/\∃ o,H p=some (.frz o (.lst xs))):=by
 unfold cG at h;cases e:H p with
 |none=>rw[e]at h;exact aG h
 | some o=>
   rw[e]at h;cases o<;>try exact aG h
   ·cases h;exact .inl ⟨rfl,rfl⟩
   ·cases h;exact .inr (.inl ⟨rfl,rfl⟩)
   ·rename_i o;cases o<;>try exact aG h
    cases h;exact .inr (.inr ⟨rfl,_,rfl⟩)
def dE{K:W.Frag}(h:cG H p=some (true,xs)):AU K H p xs:=by
 rcases qF h with⟨_,e⟩|⟨z,_⟩|⟨_,o,e⟩;exact .inl (.inl e);cases z;exact .inl (.inr ⟨o,e⟩)
def cX{K:W.Frag}(h:cG H p=some (false,xs)):Bp K H p xs:=by
 rcases qF h with⟨z,_⟩|⟨_,e⟩|⟨z,_⟩;cases z;exact .inl (.inl e);cases z
def Iy(H:Hp)(x y:V):Option V:=match x,y with
 |.ref p,.int i=>(cG H p).bind λq=>atI q.2 i
 |.str z,.int i=>if z.length<=sizeLine then(atI z.cps.toList i).map λc=>.str ⟨#[c]⟩else none
 |_,_=>none
def Iz(H:Hp)(x:V):Option Nat:=match x with
 |.ref p=>(cG H p).map (·.2.length)
 |.str z=>if z.length<=sizeLine then some z.length else none
 |_=>none
def HC:R2:=λx y H Q=>∃v,Iy H x y=some v/\Q v H
set_option tactic.hygienic true in
def Mc:Hy X HC:=by
 intro a d l s Z H x y v u Q I f g h m;obtain⟨z,e,q⟩:=h;unfold Iy at e;split at e
 ·rename_i p i;cases j:cG H p with
  |none=>simp_all
  | some w=>
    obtain⟨b,n⟩:=w;rw[j]at e;cases b with
    |true=>exact Sq a d l s Z H _ _ v u Q I f g ⟨p,n,i,z,rfl,rfl,dE j,e,q⟩ m
    |false=>exact Sr a d l s Z H _ _ v u Q I f g ⟨p,n,i,z,rfl,rfl,cX j,e,q⟩ m
 ·rename_i t i;split at e
  ·rename_i k;cases hc:atI t.cps.toList i with
   |none=>simp_all
   | some c=>
     rw[hc]at e;cases e;exact Ss a d l s Z H _ _ v u Q I f g ⟨t,i,c,rfl,rfl,k,hc,q⟩ m
  ·cases e
 ·cases e
def Me:List V->Hp->VK->Prop:=λa H Q=>∃x n,a=[x]/\Iz H x=some n/\Q (.int n) H
set_option tactic.hygienic true in
def Tf:iE X (.builtin "len") Me:=by
 intro d s Z H f u Q I r h;obtain⟨x,n,rfl,e,q⟩:=h;unfold Iz at e;split at e
 ·rename_i p;cases a:cG H p with
  |none=>simp_all
  | some w=>
    obtain⟨b,f⟩:=w;rw[a]at e;cases e;cases b with
    |true=>exact lE d s Z H _ u Q I r ⟨p,f,rfl,.inl (dE a),q⟩
    |false=>exact lE d s Z H _ u Q I r ⟨p,f,rfl,.inr (cX a),q⟩
 ·rename_i z;split at e;rename_i c;cases e;exact sW d s Z H _ u Q I r ⟨z,rfl,c,q⟩;cases e
 ·cases e
def Mf:V->Option Int->Option Int->Hp->VK->Prop:=λx l h H Q=>match x with
 |.str z=>z.length<=sizeLine/\Q (.str (slice z l h)) H
 | .ref p=>(∃ a,cG H p=some (true,a)/\∀ r,H r=none->Q (.ref r) (gV H r (.lst (vL a l h)))) \/
   ∃a,cG H p=some (false,a)/\¬(PySem.sIx a.length 0 l=0/\PySem.sIx a.length a.length h=a.length)/\∀r,H r=none->Q (.ref r) (gV H r (.tup (vL a l h)))
 |_=>False
set_option tactic.hygienic true in
def JY:Gu X Mf:=by
 intro f s Z H x v a b l m i Q I c k j d h;unfold Mf at h;split at h;rename_i z;exact Tc f s Z H _ v a b l m i Q I c k j d ⟨z,rfl,h.1,h.2⟩;rename_i p;rcases h with⟨g,e,q⟩|⟨g,e,n,q⟩;exact Sy f s Z H _ v a b l m i Q I c k j d ⟨p,g,rfl,dE e,q⟩;exact Sf f s Z H _ v a b l m i Q I c k j d ⟨p,g,rfl,cX e,n,q⟩
 simp_all
def HD(K:W.Frag)(b:TE):TI:=λZ H R=>b Z H λx a=>match x with
 |.str z=>R (JX z) a
 |.ref p=>(∃c,cG a p=some (true,c)/\R (JN K p) a)\/∃c,cG a p=some (false,c)/\R (JO K p) a
 |_=>False
set_option tactic.hygienic true in
def Tg(k:PE X l i):PI X T l (HD X.K i):=by
 intro w s Z H R I h;refine thn (k w s Z H _ I h) λv r B=>?_;obtain⟨x,f,c,j,d⟩:=B;split at d
 ·rename_i x;obtain⟨t,rfl⟩:=j;cases z:x.cps.all (· < 128)with
  | true=>
    refine wpAny_pyIter_ascii z ?_;refine⟨r.heap.objs.size,[r.heap.objs.size],_,_,f,rfl,c.kept (t':=r.toks) λb o e=>Ac _ e,zA x t _ _ (.inl rfl),⟨_,Al _ rfl,rfl,rfl⟩,λb u=>?_,d⟩;have e:b=r.heap.objs.size:=by simpa using u
    subst e;exact c.fpOk (hC _) (c.hok.fresh (hC _))
  | false=>
    refine wpAny_pyIter_wide z ?_;refine⟨r.heap.objs.size,[r.heap.objs.size],_,_,f,rfl,c.kept (t':=r.toks) λb o e=>Ac _ e,zA x t _ _ (.inr rfl),⟨_,Al _ rfl,rfl,rfl⟩,λb u=>?_,d⟩;have e:b=r.heap.objs.size:=by simpa using u
    subst e;exact c.fpOk (hC _) (c.hok.fresh (hC _))
 ·rename_i a;cases j;rcases d with⟨A,g,q⟩ | ⟨A,g,q⟩
  ·obtain⟨y,m,p,n⟩:=c.list (dE g);refine wpAny_pyIter_list p.isList ?_;refine⟨r.heap.objs.size,[r.heap.objs.size],_,_,f,rfl,c.kept (t':=r.toks) λb o e=>Ac _ e,Rg a _,⟨_,Al _ rfl,rfl,rfl⟩,λb u=>?_,q⟩;have e:b=r.heap.objs.size:=by simpa using u
   subst e;exact c.fpOk (hC _) (c.hok.fresh (hC _))
  ·obtain⟨y,m,p,n⟩:=c.tuple (cX g);refine Hg (show r.heap.IsTuple a y.toArray from p) ?_;refine⟨r.heap.objs.size,[r.heap.objs.size],_,_,f,rfl,c.kept (t':=r.toks) λb o e=>Ac _ e,Rh a _,⟨_,Al _ rfl,rfl,rfl⟩,λb u=>?_,q⟩;have e:b=r.heap.objs.size:=by simpa using u
   subst e;exact c.fpOk (hC _) (c.hok.fresh (hC _))
 ·exact d.elim
noncomputable def Mh(N:List Str)(a s:Scope)(own:List Nat):Bool:=
 (match s.kind with|.function=>true|_=>false) &&
 s.names.all (λy=>match y.2 with
  |.cell=>(match s.names.lookup y.1 with|some .cell=>true|_=>false)
  |.local=>(match s.names.lookup y.1 with|some .local=>true|_=>false)
  |.free=>(match a.names.lookup y.1 with|some .cell=>true|some .free=>true|_=>false)
  |_=>true) &&
 (range N.length).all λi=>match N[i]? with
  |some x=>(match s.names.lookup x with|some .local=>own.contains i|some .cell=>own.contains i|_=>true)
  |none=>true
def JZ(own:List Nat)(h:Mh X.N X.env.scope s own=true)(hc:X.calm=true:=by rfl):Am X s own:=by
 unfold Mh at h;rw[Fw,Fw]at h;obtain⟨⟨g,b⟩,d⟩:=h;rw[DJ]at b d;refine⟨?_,λy a e=>?_,λy a e=>?_,λy a e=>?_,λi x f c=>?_,hc⟩;revert g;cases s.kind<;>simp;have:=b y a;rw[e]at this;dsimp only at this;split at this;assumption;cases this;have:=b y a;rw[e]at this;dsimp only at this;split at this;assumption;cases this;have:=b y a;rw[e]at this;dsimp only at this;split at this;rename_i q;exact .inl q;rename_i q;exact .inr q;cases this;have H:i<X.N.length:=(hR.mp f).1;have:=d i (Cc.mpr H);rw[f]at this;dsimp only at this;rcases c with c|c<;>rw[c]at this<;>simpa using this
structure Dj(J:It)(xs:List V)(P:Hp->Prop):Prop where
 go:∀H i x,P H->xs[i]?=some x->J.go i H
 yld:∀H i x y H',P H->xs[i]?=some x->J.yld i H y H'->H'=H/\y=x
 stop:∀H i,P H->xs[i]?=none->J.stop i H
def Th{K:W.Frag}:Dj (JN K a) xs (λH=>AU K H a xs) where
 go:=λH i x h e=>⟨xs,x,h,e⟩
 yld:=λH i x y d h e ⟨b,c⟩=>⟨b,by simp_all⟩
 stop:=λH i h e=>⟨xs,h,EG.mp e⟩
def Ti{K:W.Frag}:Dj (JO K a) xs (λH=>Bp K H a xs) where
 go:=λH i x h e=>⟨xs,x,h,e⟩
 yld:=λH i x y d h e ⟨b,c⟩=>⟨b,by simp_all⟩
 stop:=λH i h e=>⟨xs,h,EG.mp e⟩
noncomputable def FC(l:Int)(n:Nat):List V:=(range n).map λ(i:Nat)=>V.int (l+(i:Int))
def zC{l:Int}(h:(FC l n)[i]?=some x):i<n/\x=.int (l+i):=by
 unfold FC at h;rw[An]at h;cases e:(range n)[i]? with
 |none=>simp_all
 | some k=>
   obtain⟨H,a⟩:=hR.mp e;rw[length_range]at H
   simp_all
def vP(l:Int)(n:Nat):(FC l n).length=n:=by simp[FC]
def Tj{l:Int}:Dj (Ip l n) (FC l n) P where
 go:=λH i x _ e=>(zC e).1
 yld:=λH i x y h _ e ⟨a,b⟩=>⟨a,by rw[(zC e).2];exact b⟩
 stop:=λH i _ e=>by
  have:=EG.mp e;rw[vP]at this;exact this
noncomputable def eG(x:Str):List V:=x.cps.toList.map λc=>.str ⟨#[c]⟩
def eY(x:Str):(eG x).length=x.length:=by simp[eG,Str.length]
def Tn:Dj (JX x) (eG x) P where
 go:=λH i v _ e=>by
  unfold eG at e;rw[An]at e;cases q:x.cps.toList[i]? with
  |none=>simp_all
  |some c=>exact⟨c,by simp_all⟩
 yld:=λH i v y h _ e ⟨b,c,d,f⟩=>⟨b,by
  unfold eG at e
  simp_all⟩
 stop:=λH i _ e=>by
  have a:=EG.mp e;rw[eY]at a;show x.cps[i]?=none;rw[Array.getElem?_eq_none_iff];exact a
def To(h:z.length<=sizeLine):Iz H (.str z)=some z.length:=by show(if z.length<=sizeLine then some z.length else none)=_;rw[eH h]
def zD(h:cG H p=some (b,xs)):Iz H (.ref p)=some xs.length:=by show(cG H p).map (·.2.length)=_;simp_all
def Mi(h:cG H p=some (b,xs))(e:atI xs i=some v):Iy H (.ref p) (.int i)=some v:=by show(cG H p).bind (λq=>atI q.2 i)=_;simp_all
def Tp(h:z.length<=sizeLine)(e:atI z.cps.toList i=some c):Iy H (.str z) (.int i)=some (.str ⟨#[c]⟩):=by
 show(if z.length<=sizeLine then(atI z.cps.toList i).map λc=>V.str ⟨#[c]⟩else none)=_;simp_all
def zE{ys:List a}{i:Int}(H:0<=i)(b:i<ys.length):∃c,atI ys i=some c:=by
 obtain⟨n,rfl⟩:=Int.eq_ofNat_of_zero_le H;have h:n<ys.length:=by lia
 exact⟨ys[n],mU (nL h)⟩
end
def vQ{f:a->b}:atI (ys.map f) i=(atI ys i).map f:=by
 unfold atI;rw[fI];cases AL ys.length i with
 |none=>rfl
 |some j=>simp
def aN(h:H p=none):lG H (gV H p o):=λb u e=>by rw[aF (bK e h)];exact e
def Tq(sep:Str)(y:List Str):(Txt.join sep y).length<=(y.map (·.length)).sum+y.length*sep.length:=by
 show(glued sep y).length<=_;rw[StrLaws.glued_eq_join];exact StrLaws.join_length_le sep y
section
open PyProof.Rows Spec
theorem mZ(e:ty="str_ascii_iterator"\/ty="str_iterator"):∀ (n i:Nat) (s:Shared) (Q:List Value->Shared->Prop),s.heap.IsStrIter it ty x t i->i+n<=x.length ->
  (∀h' T u,h'.IsStrIter it ty x t (i+n)->SameBut it s.heap h'->bC (((eG x).drop i).take n) u->Q u {s with heap:=h',toks:=T})->wpAny (model prog w) A (draw (.ref it) n) Q E s
 | 0,i,s,Q,H,_,h=>by
   exact gX (by simpa using h s.heap s.toks [] H (Heap.SameBut.refl ..) (by simpa using(.nil:bC [] [])))
 | n+1,i,s,Q,H,m,h=>by
   have j:i<x.cps.size:=by have:x.length=x.cps.size:=rfl;lia
   have k:x.cps[i]?=some x.cps[i]:=by simp
   have o:(eG x).drop i=V.str ⟨#[x.cps[i]]⟩::(eG x).drop (i+1):=by
    rw[drop_eq_getElem_cons (by rw[eY];exact j)];simp[eG]
   have G:∀ b,b.IsStrIter it ty x t (i+1)->SameBut it s.heap b ->
     wpAny (model prog w) A (match (some (Value.str ⟨#[x.cps[i]]⟩ s.toks))with|none=>pure []|some v=>do return v::(← holding [v] (draw (.ref it) n))) Q E {s with heap:=b,toks:=s.toks+1}:=λb a c=>by
    refine dV (AS (mZ e n (i+1) _ _ a (by lia) λf T u g d l=>gX ?_));refine h f T _ (by lia) (c.trans d) ?_;rw[o,List.take_succ_cons];exact .cons ⟨_,rfl⟩ l
   rcases e with rfl|rfl;exact dV (wpAny_pyNext_ascii_item H k λb a c=>G b a c);exact dV (wpAny_pyNext_wide_item H k λb a c=>G b a c)
def qG(r:A.handled=none)
  (z:T.length=x.length) (g:T.findIdx? (·.1)=none)
  (h:∀h' n u,ExtBut s.heap.objs.size s.heap h'->bC (eG x) u->wpAny (model prog w) A (assignInOrder (T.map (·.2)) u) Q E {s with heap:=h',toks:=n}) :
  wpAny (model prog w) A (unpack (.str x t) T) Q E s:=by
 unfold unpack;rw[z,g];refine dV (AS ?_);unfold unpackItems;refine dV ?_;unfold notIterableAtAll;refine dV (FZ (typeIs_str _ _ _) F.slot_str_iter.lookup ?_);refine gX ?_;have G:∀ m,(m="str_ascii_iterator"\/m="str_iterator")->wpAny (model prog w) A (do
   let items ← holding [Value.ref s.heap.objs.size] (draw (.ref s.heap.objs.size) x.length)
   if items.length<x.length then
    rule "unpack.too-few";raiseError "ValueError" s!"not enough values to unpack (expected {x.length}, got {items.length})"
   if(← holding items (pyNext (.ref s.heap.objs.size))).isSome then
    rule "unpack.too-many";raiseError "ValueError" s!"too many values to unpack (expected {x.length})"
   return items:Sem (List Value)) (λu p=>wpAny (model prog w) A (assignInOrder (T.map (·.2)) u) Q E p) E {s with heap:=s.heap.push {cls:=.type m,data:=.fields #[.str x t,.int 0 0]}}:=by
  intro m k;refine dV (AS (mZ (it:=s.heap.objs.size) (x:=x) (t:=t) k x.length 0 _ _ ⟨_,Al _ rfl,rfl,rfl⟩ (by simp) λi n u c f q=>?_));have j:bC (eG x) u:=by
   have e:((eG x).drop 0).take x.length=eG x:=by
    rw[drop_zero];exact Cg (by rw[eY];exact hC _)
   rw[e]at q;exact q
  have B:u.length=x.length:=by rw[← j.length,eY]
  rw[a0m (by lia)];have d:x.cps[x.length]?=none:=by simp[Str.length]
  rw[Bj]at c;have l:∀ H,ExtBut s.heap.objs.size i H->wpAny (model prog w) A (do
    if(none:Option Value).isSome then
     rule "unpack.too-many";raiseError "ValueError" s!"too many values to unpack (expected {x.length})"
    return u:Sem (List Value)) (λu p=>wpAny (model prog w) A (assignInOrder (T.map (·.2)) u) Q E p) E {s with heap:=H,toks:=n}:=by
   intro H a;exact gX (h H n u (λb o v e=>a b o v (f.extBut b o v (Ac _ e))) j)
  rcases k with rfl|rfl;exact dV (AS (wpAny_pyNext_ascii_end r c d λH a=>l H a));exact dV (AS (wpAny_pyNext_wide_end r c d λH a=>l H a))
 cases y:x.cps.all (· < 128)with
 |true=>exact dV (AS (wpAny_pyIter_ascii y (G _ (.inl rfl))))
 |false=>exact dV (AS (wpAny_pyIter_wide y (G _ (.inr rfl))))
def qI(K:W.Frag)(n:Nat)(t:EO):TG:=λv Z H Q=>match v with
 |.str z=>z.length=n/\t (eG z) Z H Q
 |.ref a=>∃x,cG H a=some (false,x)/\x.length=n/\t x Z H Q
 |_=>False
set_option tactic.hygienic true in
def Ts(hc:X.calm=true)(h:Gj X E t)
  (m:(assignEach E X.env).length=n:=by rfl) (d:(assignEach E X.env).findIdx? (·.1)=none:=by rfl):PG X (.Tuple E k pos) (qI X.K n t):=by
 intro p s Z H v u Q I r c;unfold qI at c;split at c;obtain⟨f,c⟩:=c;obtain⟨T,rfl⟩:=r;refine dV (Hl (qG (I.ok.hd hc) (m.trans f.symm) d λq T U g i=>?_));have j:dX X p Z H {s with heap:=q,toks:=T}:=I.kept λb o e=>g b o (Ay (sL e)) e;exact h p _ Z H _ _ Q j i c;rename_i a;obtain⟨x,l,f,c⟩:=c;exact QY (k:=k) (pos:=pos) hc h m d p s Z H _ u Q I r ⟨a,x,rfl,cX l,f,c⟩
 simp_all
def Mj:List V->Hp->VK->Prop:=λx H Q=>∃p b y,x=[.ref p]/\cG H p=some (b,y)/\∀l,H l=none->Q (.ref l) (gV H l (.lst y))
def Tt:iE X (.type "list") Mj:=by
 intro c s Z H x u Q I r h;obtain⟨p,b,y,rfl,a,q⟩:=h;cases b with
 |true=>exact lF c s Z H _ u Q I r ⟨p,y,rfl,.inl (dE a),q⟩
 |false=>exact lF c s Z H _ u Q I r ⟨p,y,rfl,.inr (cX a),q⟩
def Ml:List V->Hp->VK->Prop:=λx H Q=>∃p b y,x=[.ref p]/\cG H p=some (b,y)/\if b=true then ∀l,H l=none->Q (.ref l) (gV H l (.tup y))else Q (.ref p) H
def Tu:iE X (.type "tuple") Ml:=by
 intro c s Z H x u Q I r h;obtain⟨p,b,y,rfl,a,q⟩:=h;cases b with
 |true=>exact jR c s Z H _ u Q I r ⟨p,y,rfl,.inl ⟨dE a,by simpa using q⟩⟩
 |false=>exact jR c s Z H _ u Q I r ⟨p,y,rfl,.inr ⟨cX a,by simp_all⟩⟩
def Ka:R2:=λx y H Q=>match x,y with
 |.int i,.int j=>Hx i j/\Q (.int (i*j)) H
 |.str z,.int i=>z.length<=1000/\0<=i/\i<=1000/\∀y:Str,y.length<=z.length*i.toNat->y=Txt.mul z i->Q (.str y) H
 |_,_=>False
def Tv(z:Str)(i:Int)(h:0<=i):(Txt.mul z i).length<=z.length*i.toNat:=by
 unfold Txt.mul;by_cases b:i<1;rw[eH b];exact sS _;rw[a0m b];by_cases c:(i==1||z.length==0)=true
 ·rw[eH c]
  lia
 ·rw[a0m c];have a:∀ (k:Nat) (A:Array Nat),((replicate k z.cps).foldl (· ++ ·) A).size=A.size+k*z.cps.size:=by
   intro k
   induction k with
   |zero=>simp
   | succ k d=>
     grind
  show((replicate i.toNat z.cps).foldl (· ++ ·) #[]).size<=_;rw[a];show 0+_<=_;rw[Bj,Eg];exact hC _
set_option tactic.hygienic true in
def Tz:Ar X (binaryOp .Mult) Ka:=by
 intro p s Z H x y v u Q I a b h;unfold Ka at h;cases x<;>(try exact h.elim)<;>cases y<;>try exact h.elim
 ·exact Rr p s Z H _ _ v u Q I a b ⟨_,_,rfl,rfl,h.1,h.2⟩
 ·rename_i z i;obtain⟨d,e,g,q⟩:=h;obtain⟨t,rfl⟩:=a;obtain⟨c,rfl⟩:=b;have f:z.length*i.toNat<=1000*1000:=Nat.mul_le_mul d (by lia);refine SB.mul ⟨?_,λm l=>?_,λm l=>?_⟩ λc k=>⟨.str _,H,I.tok k,⟨c,rfl⟩,q _ (Tv z i e) rfl⟩
  ·lia
  ·have j:(1000:Int)<=(2 ^ 63-1) / i:=by
    rw[Int.le_ediv_iff_mul_le (by lia)];lia
   lia
  ·exact Fp (by rw[Ct];lia)
end
def zF(H:0<=j)(h:j<=x.length):(slice x none (some j)).cps.toList=x.cps.toList.take j.toNat:=by
 have e:=PySem.StrLaws.sliceText_to (x:=x) (j:=j) ⟨H,by simpa[Str.length]using h⟩;have a:slice x none (some j)=_:=e
 simp_all
def pB(H:0<=i)(h:i<=x.length):(slice x (some i) none).cps.toList=x.cps.toList.drop i.toNat:=by
 have a:i<=x.cps.toList.length:=by simpa[Str.length]using h
 have e:=PySem.StrLaws.sliceText_from (x:=x) (i:=i) ⟨H,a⟩;have b:slice x (some i) none=_:=e;rw[b];exact Cg (by grind)
def gW(x:Str):x.length=x.cps.toList.length:=rfl
section
open PyProof.Rows Spec
noncomputable instance:DecidableEq d:=λ_ _=>Classical.propDecidable _
def TB{k:List Value}(g:IsTup s.heap t ([]:List Value).toArray)(hb:IsTup s.heap b k.toArray)
  (p:Q (.ref b) s):wpAny (model prog w) A (binaryOp .Add (.ref t) (.ref b)) Q E s:=by
 obtain⟨⟨C,h,l,m⟩,e,hc,n,o⟩:=id g;obtain⟨⟨f,c,j,i⟩,a,d,N,H⟩:=id hb;subst hc o d H;exact concat_meets ⟨_,e,rfl⟩ ⟨_,a,rfl⟩ noFill_tuple_add seq_tuple_add F.slot_tuple_add F.entry_tuple_add (F.args_tuple_add_2 _ _)
   (tuple_addW0 t b ([]:List Value).toArray k.toArray n N h c m i (by simp)) ⟨e,a,p⟩
def Kb:R2:=λx y H Q=>match x,y with
 |.int i,.int j=>Q (.int (i+j)) H
 |.str a,.str b=>a.length+b.length<=sizeLine/\Q (.str (a++b)) H
 | .ref p,.ref q=>(∃ c Y,H p=some (.lst c)/\H q=some (.lst Y)/\c.length+Y.length<=sizeLine/\∀ r,H r=none->Q (.ref r) (gV H r (.lst (c++Y)))) \/
   ∃c Y,cG H p=some (false,c)/\cG H q=some (false,Y)/\c.length+Y.length<=sizeLine/\(c=[]->Q (.ref q) H)/\(c≠[]->Y=[]->Q (.ref p) H)/\(c≠[]->Y≠[]->∀r,H r=none->Q (.ref r) (gV H r (.tup (c++Y))))
 |_,_=>False
set_option tactic.hygienic true in
def TC:Ar X (binaryOp .Add) Kb:=by
 intro t s Z H x y v u Q I a b h;unfold Kb at h;cases x<;>(try exact h.elim)<;>cases y<;>try exact h.elim
 ·exact Ro t s Z H _ _ v u Q I a b ⟨_,_,rfl,rfl,h⟩
 ·exact RG t s Z H _ _ v u Q I a b ⟨_,_,rfl,rfl,h.1,h.2⟩
 ·rename_i p q;rcases h with⟨w,Y,d,f,g,q⟩|⟨w,Y,d,f,g,j,k,l⟩;exact SI t s Z H _ _ v u Q I a b ⟨_,_,w,Y,rfl,rfl,d,f,g,q⟩;by_cases c:w=[];cases a;cases b;obtain⟨z,m,n,_⟩:=I.tuple (cX d);obtain⟨i,r,o,_⟩:=I.tuple (cX f);have e:z=[]:=m.nil_iff.mpr c;subst e;exact TB n o ⟨.ref q,H,I,rfl,j c⟩;exact Sj t s Z H _ _ v u Q I a b ⟨p,q,w,Y,rfl,rfl,cX d,cX f,c,g,k c,l c⟩
def Mm:V->List V->Hp->VK->Prop:=λx v H Q=>∃(l:Addr) (a:List Str) (z:Str),x=.ref l/\v=[.str z]/\H l=some (.lst (a.map V.str))/\z∈a/\∀j,a[j]?=some z->Q .non (gV H l (.lst ((a.eraseIdx j).map V.str)))
theorem qJ:∀ {d:List Str} {U:List Value},bC (d.map V.str) U->∀ u∈U,∃ z t,u=.str z t
 |[],_,.nil=>λu a=>nomatch a
 | z::r,_,.cons b c=>λu a=>by
   rcases sY.mp a with e|e;obtain⟨t,q⟩:=b;exact⟨z,t,e.trans q⟩;exact qJ c u e
noncomputable def IA(z:Str):Value->Bool
 |.str y _=>y==z
 |_=>false
theorem tG{a b:Type}(f:a->b):∀(l:List a) (i:Nat),(l.map f).eraseIdx i=(l.eraseIdx i).map f
 |[],i|x::r,0=>by simp
 |x::r,i+1=>by simp[tG f r i]
def TF:Fy X "list.remove" Mm:=by
 intro T s Z H x Y v us Q I A B h;obtain⟨l,N,z,rfl,rfl,k,C,q⟩:=h;cases A;obtain⟨u,rfl,D⟩:=B.one;obtain⟨t,rfl⟩:=D;obtain⟨E,O,n,r,L,e⟩:=I.lstM k;have b:N.idxOf z<N.length:=List.idxOf_lt_length_of_mem C;have o:O.length=N.length:=by simp_all
 have c:∀(i:Nat) (U:i<O.toArray.size) (d:i<N.length),IA z O.toArray[i]=(N[i]==z):=λi U d=>by
  obtain⟨w,M,f⟩:=r.get (i:=i) (x:=V.str N[i]) (by simp);obtain⟨g,rfl⟩:=f;have:O.toArray[i]=Value.str N[i] g:=by simp_all
  rw[this];rfl
 refine Dy F.slot_list_remove ⟨_,e,rfl⟩ F.entry_list_remove (F.args_list_remove_2 _ _)
  (MeetsSeq.list_remove l O.toArray n (.str z t) (IA z) (λy G=>?_) (N.idxOf z) (by grind) ?_ (λm J a=>?_) (by simp_all)) ⟨e,?_⟩
 ·obtain⟨K,g,rfl⟩:=qJ r y (by simpa using G);exact eqGives_str K z g t
 ·rw[c _ _ b];simp
 ·have j:m<N.length:=Ck a b;rw[c m J j];have:=List.not_of_lt_findIdx (p:=(· == z)) (xs:=N) (i:=m) a;exact this
 ·refine⟨.non,_,I.lset (its':=O.eraseIdx (N.idxOf z)) k e ?_ ?_ ?_,rfl,q (N.idxOf z) ?_⟩;simp;have:=r.eraseIdx (N.idxOf z);rwa[tG]at this
  ·have:=mV N (N.idxOf z)
   grind
  simp_all
def TJ(b:s.heap.get? a=some o)(h:Q (some o) s):wpAny (model prog w) A (loadIfAlive a) Q E s:=λc p _=>by
 unfold loadIfAlive
 simp_all
def CH(h:Heap)(z a t T:Addr)(b:Bool):Prop:=h.get? z=some {cls:=.type "zip",dict:=none,data:=.fields #[rawInt T,.bool b,.bool false,.ref a,.ref t],slots:=#[]}
def CH.heap{z a t T:Addr}(H:CH h z a t T b):h.get? z=some {cls:=.type "zip",dict:=none,data:=.fields #[rawInt T,.bool b,.bool false,.ref a,.ref t],slots:=#[]}:=H
def tH{z e t T:Addr}(H:CH s.heap z e t T b)(f:s.heap.get? T=some o)
  (h:∀h',CH h' z e t T true->SameBut z s.heap h'->Q false {s with heap:=h'}):wpAny (model prog w) A (ownedTupleIsFree (.ref z)) Q E s:=by
 refine dV (Bs H.heap rfl (x:=rawInt T) rfl ?_);refine dV (TJ (a:=(T:Int).toNat) (by exact f) ?_);refine dV (Bs H.heap rfl (x:=.bool b) rfl ?_);cases b with
 | true=>
   exact gX (h s.heap H (Heap.SameBut.refl _ _))
 | false=>
   refine dV (wpAny_setField_rec H.heap (by simp) λh' c d=>?_);exact gX (h h' c d)
def TL{z N TO M L Y O T:Addr}{Q:Value->Shared->Prop}(D:ZipApart z N TO M L Y O)
  (hz:CH s.heap z N TO T u) (hT:s.heap.get? T=some o) (m:IsPair s.heap N (.ref M) (.ref L))
  (h1:s.heap.IsListIter M Y k) (B:s.heap.IsListIter L O l) (n:s.heap.IsList Y xs) (p:s.heap.IsList O ys) (C:xs[k]?=some x) (F:ys[l]?=some y)
  (G:∀h',CH h' z N TO T true->h'.IsListIter M Y (k+1)->h'.IsListIter L O (l+1)->IsPair h' s.heap.objs.size x y->h'.objs.size=s.heap.objs.size+1 ->
   (∀c o,c≠z->c≠M->c≠L->s.heap.get? c=some o->h'.get? c=some o)->Q (.ref s.heap.objs.size) {s with heap:=h'}) :
  wpAny (model prog w) A (Builtin.«zip.__next__» ⟨[.ref z],[]⟩) (λfin s'=>∃v,fin=.done (.ret v)/\Q v s') E s:=by
 (show wpAny _ _ (field (.ref z) 2 >>= _) _ _ _;refine dV (Bs hz.heap rfl (x:=.bool false) rfl ?_))
 (refine dV (Bs hz.heap rfl (x:=.ref N) rfl ?_))
 refine dV (Df m rfl ?_)
 (refine dV (tH hz hT λq g a=>?_))
 rw[a0m (by decide)]
 try (refine dV (gX ?_))
 refine dV ?_;refine dV (dV (AS ?_))
 (show wpAny _ _ (nextOf (.ref M) >>= _) _ _ _;refine dV (wpAny_nextOf_list_item (h1.extBut a.extBut D.i1z) (n.extBut a.extBut D.l1z) C λr h b=>gX (gX ?_)))
 refine dV (dV (AS ?_))
 (show wpAny _ _ (nextOf (.ref L) >>= _) _ _ _;refine dV (wpAny_nextOf_list_item ((B.extBut a.extBut D.i2z).extBut b.extBut D.i12.symm) ((p.extBut a.extBut D.l2z).extBut b.extBut D.l2i1) F λd i f=>gX (gX (gX ?_))))
 refine dV (wpAny_newTuple (hsz:=by show 2<=sizeLine;decide) ?_);have hsz:d.objs.size=s.heap.objs.size:=by rw[f.1,b.1,a.1]
 have j:CH d z N TO T true:=f.extBut _ _ D.i2z.symm (b.extBut _ _ D.i1z.symm g);have U:∀c o,d.get? c=some o->(d.push {cls:=.type "tuple",data:=.seq #[x,y]}).get? c=some o:=λc o e=>Ac _ e;refine gX ⟨_,rfl,?_⟩;show Q (.ref d.objs.size) _;have t:IsPair (d.push {cls:=.type "tuple",data:=.seq #[x,y]}) d.objs.size x y:=Al _ rfl;rw[hsz]at t ⊢;exact G _ (U _ _ j) ((h.extBut f.extBut D.i12).at λo e=>U _ o e) (i.at λo e=>U _ o e) t (by rw[DL,hsz]) λc o H I J e=>U c o (f.extBut _ _ J (b.extBut _ _ I (a.extBut _ _ H e)))
def TM{z M TO L J O N T:Addr}(u:A.handled=none)(D:ZipApart z M TO L J O N)
  (U:CH s.heap z M TO T F) (hT:s.heap.get? T=some o) (k:IsPair s.heap M (.ref L) (.ref J))
  (h1:s.heap.IsListIter L O i) (G:s.heap.IsListIter J N j) (g:s.heap.IsList O xs) (l:s.heap.IsList N Y) (v:xs[i]?=none\/Y[j]?=none)
  (y:∀h' e,(∀c o,c≠z->c≠L->c≠J->s.heap.get? c=some o->h'.get? c=some o)->(∃o,h'.get? e=some o/\o.cls=.type "StopIteration")->E (.ref e) {s with heap:=h'}) :
  wpAny (model prog w) A (Builtin.«zip.__next__» ⟨[.ref z],[]⟩) Q E s:=by
 (show wpAny _ _ (field (.ref z) 2 >>= _) _ _ _;refine dV (Bs U.heap rfl (x:=.bool false) rfl ?_))
 (refine dV (Bs U.heap rfl (x:=.ref M) rfl ?_))
 refine dV (Df k rfl ?_)
 (refine dV (tH U hT λB m a=>?_))
 refine dV ?_;refine dV (dV (AS ?_));cases C:xs[i]? with
 | none=>
   refine dV (wpAny_nextOf_list_end u (h1.extBut a.extBut D.i1z) (g.extBut a.extBut D.l1z) C λd e b n=>y d e (λc o p r _ q=>b _ _ r (a.extBut _ _ p q)) n)
 | some x=>
   have H:Y[j]?=none:=by lia
   refine dV (wpAny_nextOf_list_item (h1.extBut a.extBut D.i1z) (g.extBut a.extBut D.l1z) C λd t b=>gX (gX ?_));refine dV (dV (AS ?_));refine dV (wpAny_nextOf_list_end u ((G.extBut a.extBut D.i2z).extBut b.extBut D.i12.symm) ((l.extBut a.extBut D.l2z).extBut b.extBut D.l2i1) H λh e f n=>?_);exact y h e (λc o p r I q=>f _ _ I (b.extBut _ _ r (a.extBut _ _ p q))) n
def TN{z t p m I n L T:Addr}(D:ZipApart z t p m I n L)
  (H:CH s.heap z t p T h) (q:s.heap.get? T=some o) (e:IsPair s.heap t (.ref m) (.ref I))
  (r:s.heap.IsListIter m n b) (i:s.heap.IsListIter I L d) (f:s.heap.IsList n xs) (g:s.heap.IsList L Y) (j:xs[b]?=some x) (k:Y[d]?=some y)
  (l:∀h',CH h' z t p T true->h'.IsListIter m n (b+1)->h'.IsListIter I L (d+1)->IsPair h' s.heap.objs.size x y->h'.objs.size=s.heap.objs.size+1 ->
   (∀c o,c≠z->c≠m->c≠I->s.heap.get? c=some o->h'.get? c=some o)->Q (some (.ref s.heap.objs.size)) {s with heap:=h'}) :
  wpAny (model prog w) A (pyNext (.ref z)) Q E s:=by
 have a:s.TypeIs (.ref z) "zip":=⟨_,H,rfl⟩
 (refine dV (Fs (wpAny_callSpecial?_slot (name:=ofString "__next__") a F.slot_zip_next ?_)))
 exact Cr F.slot_zip_next a F.entry_zip_next (TL D H q e r i f g j k λh' J G C B v u=>gX (l h' J G C B v u)) (F.args_zip_next_1 _)
def TQ{z v x t I u L T:Addr}(l:A.handled=none)(D:ZipApart z v x t I u L)
  (H:CH s.heap z v x T k) (B:s.heap.get? T=some o) (f:IsPair s.heap v (.ref t) (.ref I))
  (C:s.heap.IsListIter t u i) (m:s.heap.IsListIter I L j) (g:s.heap.IsList u xs) (h:s.heap.IsList L y) (a:xs[i]?=none\/y[j]?=none)
  (n:∀h',(∀c o,c≠z->c≠t->c≠I->s.heap.get? c=some o->h'.get? c=some o)->Q none {s with heap:=h'}):wpAny (model prog w) A (pyNext (.ref z)) Q E s:=by
 have d:s.TypeIs (.ref z) "zip":=⟨_,H,rfl⟩
 (refine dV (Fs (wpAny_callSpecial?_slot (name:=ofString "__next__") d F.slot_zip_next ?_)))
 refine Cr F.slot_zip_next d F.entry_zip_next (TM l D H B f C m g h a λh' e p q=>?_) (F.args_zip_next_1 _);obtain⟨o,r,hc⟩:=q;exact dV (wpAny_isInstance (T:="StopIteration") (b:=true) ⟨o,r,hc⟩ isSubtype_stop (gX (n _ p)))
noncomputable abbrev mF(a:Array Value)(c:Nat):Obj:={cls:=.type "list",dict:=none,data:=.seq a c,slots:=#[]}
structure BW(prog:Program)(w:World)(A:Around)(I S:Addr)(n:Nat)(J:Nat->Array Value->Heap->Prop)(K:Array Value->Heap->Prop):Prop where
 item:∀i acc (s:Shared) (c:Nat) (Q:Option Value->Shared->Prop) (E:Value->Shared->Prop),i<n->J i acc s.heap->s.heap.get? S=some (mF acc c) ->
  (∀v h' tk,J (i+1) (acc.push v) h'->h'.get? S=some (mF acc c)->Q (some v) {s with heap:=h',toks:=tk})->wpAny (model prog w) A (pyNext (.ref I)) Q E s
 done:∀acc (s:Shared) (c:Nat) (Q:Option Value->Shared->Prop) (E:Value->Shared->Prop),J n acc s.heap->s.heap.get? S=some (mF acc c) ->
  (∀h' tk,K acc h'->h'.get? S=some (mF acc c)->Q none {s with heap:=h',toks:=tk})->wpAny (model prog w) A (pyNext (.ref I)) Q E s
 frame:∀i acc h h',J i acc h->h'.objs.size=h.objs.size->(∀b o,b≠S->h.get? b=some o->h'.get? b=some o)->J i acc h'
def Mn{K:Array Value->Heap->Prop}(L:BW prog w A.in1 I S n J K)(E:n<=sizeLine)(res:Value):∀ (k i:Nat) (s:Shared) (y:Array Value) (c:Nat),n-i=k->i<=n->J i y s.heap->y.size=i->s.heap.get? S=some (mF y c) ->
  (∀h' T a j,K a h'->a.size=n->h'.get? S=some (mF a j)->R (.ok (.ret res)) {s with heap:=h',toks:=T})->codeAny (model prog w) A (.builtin "list.extend.loop" ⟨[.ref S,.ref I,res],[]⟩) R s:=by
 intro k
 induction k with
 | zero=>
   intro i s y c u B l H z m;obtain rfl:i=n:=by lia
   (refine EF F.entry_extend_loop ?_;rw[Gf Hn _])
   (refine dV (L.done y s c _ _ l z λh' T p d=>?_))
   exact gX (m h' T y c p H d)
 | succ k x=>
   intro i s y c u B l H z m;have f:i<n:=by lia
   (refine EF F.entry_extend_loop ?_;rw[Gf Hn _])
   (refine dV (L.item i y s c _ _ f l z λv h' T q d=>?_))
   (show wpAny _ A.in1 (updateSeq S (·.push v) >>= _) _ _ _;refine dV ?_)
   refine JD d rfl (gX ⟨Ga Hn _,x (i+1) _ (y.push v) (c+1) (by lia) f ?_ (by rw[size_push,H]) ?_ ?_⟩) (by rw[H];lia) (by grind);exact L.frame _ _ _ _ q (Heap.size_update ..) λb o C e=>(DC _ _ (oI C)).trans e;rw[CQ _ d rfl];simp[mapSeq];intro r g a j p t h;exact m r g a j p t h
def TR{K:Array Value->Heap->Prop}(L:BW prog w A.in1 I S n J K)(u:n<=sizeLine)(res:Value)(y:s.TypeIs (.ref r) T)(i:S≠r)(l:(type T==type "list")=false)(m:(type T==type "tuple")=false)
  (self:∀Q:Value->Shared->Prop,Q (.ref I) {s with heap:=h1}->wpAny (model prog w) A.in1 (pyIter (.ref r)) Q (λe q=>R (.error e) q) s)
  (H:∀Q:Bool->Shared->Prop,(∀b,Q b {s with heap:=h1})->wpAny (model prog w) A.in1 (listLengthHint (.ref r)) Q (λe q=>R (.error e) q) {s with heap:=h1})
  (j:J 0 #[] h1) (t:h1.get? S=some (mF #[] c)) (k:∀h' x a h,K a h'->a.size=n->h'.get? S=some (mF a h)->R (.ok (.ret res)) {s with heap:=h',toks:=x}) :
  wpAny (model prog w) A.in1 (Builtin.List.listExtendWith (.ref S) (.ref r) res) (λfin q=>match fin with|.done f=>R (.ok f) q | .again h=>h.quiet=true/\codeAny (model prog w) A h R q) (λe q=>R (.error e) q) s:=by
 refine dV (Ft y ?_);have p:listSameRef (.ref S) (.ref r)=false:=by simp[listSameRef,i]
 rw[a0m (by rw[p,l,m];decide)];refine dV (self _ (dV (AS (H _ λb=>?_))));refine wpAny_ite_split (λ_=>?_) (λ_=>gX ⟨Ga Hn _,Mn L u res n 0 {s with heap:=h1} #[] c rfl (sS _) j rfl t k⟩)
 (refine dV (Cf ?_);refine dV ?_)
 (refine dV (JD t rfl ?_))
 have d:(h1.update S (mapSeq (·.push Value.none))).get? S=some (mF #[.none] (c+1)):=by
  rw[CQ _ t rfl];rfl
 refine JD (hz:=by seq_fits) d rfl ?_;have g:((h1.update S (mapSeq (·.push Value.none))).update S (mapSeq (·.pop))).get? S=some (mF #[] (c+2)):=by
  rw[CQ _ d rfl];rfl
 refine gX ⟨Ga Hn _,Mn L u res n 0 _ #[] (c+2) rfl (sS _) (L.frame _ _ _ _ j ?_ λb o v e=>?_) rfl g k⟩;simp;exact(DC _ _ (oI v)).trans ((DC _ _ (oI v)).trans e)
def zG{K:Array Value->Heap->Prop}(L:BW prog w A.in1 I s.heap.objs.size n J K)(u:n<=sizeLine)(v:s.TypeIs (.ref r) T)(i:(type T==type "list")=false)(j:(type T==type "tuple")=false)
  (self:∀(E:Value->Shared->Prop) (Q:Value->Shared->Prop),Q (.ref I) {s with heap:=h1}->wpAny (model prog w) A.in1 (pyIter (.ref r)) Q E {s with heap:=s.heap.push (mF #[] 0)})
  (H:∀(E:Value->Shared->Prop) (Q:Bool->Shared->Prop),(∀b,Q b {s with heap:=h1})->wpAny (model prog w) A.in1 (listLengthHint (.ref r)) Q E {s with heap:=h1})
  (k:J 0 #[] h1) (x:h1.get? s.heap.objs.size=some (mF #[] 0))  (l:∀h' t q,K q h'->q.size=n->s.heap.objs.size<h'.objs.size->Q q.toList {s with heap:=h',toks:=t}):wpAny (model prog w) A (collect (.ref r)) Q E s:=by
 have f:∀ R:Result->Shared->Prop,(∀ h' t q c,K q h'->q.size=n->h'.get? s.heap.objs.size=some (mF q c)->R (.ok (.ret (.ref s.heap.objs.size))) {s with heap:=h',toks:=t}) ->
   codeAny (model prog w) A (.builtin "proto.collect" ⟨[.ref r],[]⟩) R s:=by
  intro R m
  (refine EF F.entry_proto_collect ?_)
  (refine dV (EE ?_))
  (refine gX ⟨Ga F.plain_list_iadd _,EF F.entry_list_iadd ?_⟩;rw[Gf F.plain_list_iadd _])
  obtain⟨o,h,hc⟩:=v;exact TR (R:=R) L u (.ref s.heap.objs.size) (s:={s with heap:=s.heap.push (mF #[] 0)}) (h1:=h1) (c:=0) ⟨o,Ac _ h,hc⟩ (Gg (sL h)) i j (self _) (H _) k x
   λh' t e p g a d=>m h' t e p g a d
 (refine dV (wpAny_runValue (f _ λh' t q c g a d=>?_)))
 (refine dV (wpAny_load d ?_))
 exact gX (l h' t q g a (sL d))
def TU:typeLookup (.type "zip") "__len__"=pure none:=by(rw[typeLookup_type,JB];rfl)
def TV:typeLookup (.type "zip") "__length_hint__"=pure none:=by(rw[typeLookup_type,JB];rfl)
def TX(H:s.TypeIs (.ref I) "zip")(h:∀b,Q b s):wpAny (model prog w) A (listLengthHint (.ref I)) Q E s:=by
 refine dV (FZ H TU ?_)
 (refine dV (FZ H TV ?_))
 exact gX (h _)
def TY 
  (hc:∀w s Z H A G Q,dX X w Z H s->bC A G->r A H Q->wpAny (model X.prog X.w) X.A (call (.type U) G) (λu J=>wpAny (model X.prog X.w) X.A (call (.type T) [u]) (EP X w Z Q) X.xe J) X.xe s)
  (l:Gl X x) (m:X.mg x=none) (n:bootBuiltins x=some (.type T)) (d:Gl X y) (f:X.mg y=none) (g:bootBuiltins y=some (.type U)) (N:PA X (e::E) t)
  (M:x≠"__name__":=by decide) (i:(x==("__debug__":Str))=false:=by decide) (j:y≠"__name__":=by decide) (b:(y==("__debug__":Str))=false:=by decide)
  (o:starEach (e::E) X.env=(false,eval e X.env)::starEach E X.env:=by rfl) (k:(backTo a (starEach E X.env)).any (·.1)=false:=by rfl)
  (L:starEach [.Call (.Name y c) (e::E) [] a] X.env=(false,eval (.Call (.Name y c) (e::E) [] a) X.env)::starEach [] X.env:=by rfl) :
  PE X (.Call (.Name x p) [.Call (.Name y c) (e::E) [] a] [] pos) (Gs r t):=by
 intro w s Z H Q I h;refine ED (iD I l m n ?_ M i);refine Fu ?_ L (by rfl)
 (refine Calls.spliced_cons ?_)
 refine ED (iD I d f g ?_ j b);refine Fu ?_ o k;exact thn (N a w s Z H _ I h) λG J ⟨A,q,v,z,B⟩=>thn (hc w J Z q A G Q v z B) λu O C=>Calls.spliced_nil C
def dX.adoptAll{Z:St}(B:List (Addr×List V))(I:dX X y Z H s)(J:∀ p∈B,BC X y H p.1)(e:(B.map (·.1)).Nodup)
  (k:∀p∈B,p.2.length<=sizeLine/\∃A:List Value,bC p.2 A/\IsTup s.heap p.1 A.toArray/\Lw s.heap p.1) :
  ∃E,dX X y Z E s/\lG H E/\(∀p∈B,E p.1=some (.tup p.2))/\∀b,(∀p∈B,p.1≠b)->E b=H b:=by
 induction B generalizing H with
 |nil=>exact⟨H,I,lG.refl H,(λp l=>absurd l (by simp)),λb _=>rfl⟩
 | cons p B j=>
   obtain⟨a,G⟩:=p;have C:=J (a,G) pL;obtain⟨m,A,n,o⟩:=k (a,G) pL;have r:dX X y Z (gV H a (.tup G)) s:=I.adopt C.un C.young C.loc C.cell C.pin ⟨m,A,n,o⟩;rw[Cj,CD]at e;have h:∀q∈B,q.1≠a:=λq c z=>e.1 (oT.mpr ⟨q,c,z⟩);obtain⟨E,t,d,i,f⟩  :=j r (λq c=>by
    have g:=J q (Af _ c);exact⟨by rw[aF (h q c)];exact g.un,g.loc,g.young,g.cell,g.pin⟩) e.2 (λq c=>k q (Af _ c))
   refine⟨E,t,(aN C.un).trans d,λq c=>?_,λb L=>?_⟩;rcases sY.mp c with rfl|c;exact d a _ aH;exact i q c;rw[f b λq c=>L q (Af _ c),aF λz=>L (a,G) pL z.symm]
structure ZJ(h0:Heap)(l1 l2:Addr)(xs ys:Array Value)(i:Nat)(acc:Array Value)(h:Heap):Prop where
 keep:∀b o,h0.get? b=some o->h.get? b=some o
 st:(i=0/\IsZip h (h0.objs.size+4) (h0.objs.size+2) (h0.objs.size+3) .none)\/∃T b o,CH h (h0.objs.size+4) (h0.objs.size+2) (h0.objs.size+3) T b/\h.get? T=some o/\h0.objs.size+6<=T
 ti:IsPair h (h0.objs.size+2) (.ref h0.objs.size) (.ref (h0.objs.size+1))
 to:∃a b,IsPair h (h0.objs.size+3) a b
 i1:h.IsListIter h0.objs.size l1 i
 i2:h.IsListIter (h0.objs.size+1) l2 i
 sz:h0.objs.size+6<=h.objs.size
 len:acc.size=i
 got:∀j,j<i->∃T x y,acc[j]?=some (.ref T)/\xs[j]?=some x/\ys[j]?=some y/\IsPair h T x y/\h0.objs.size+6<=T
 nd:acc.toList.Nodup
structure ZK(h0:Heap)(xs ys:Array Value)(acc:Array Value)(h:Heap):Prop where
 keep:∀b o,h0.get? b=some o->h.get? b=some o
 got:∀j,j<min xs.size ys.size->∃T x y,acc[j]?=some (.ref T)/\xs[j]?=some x/\ys[j]?=some y/\IsPair h T x y/\h0.objs.size+6<=T
 nd:acc.toList.Nodup
def TZ(h:L<N)(a:l<N):ZipApart (N+4) (N+2) (N+3) N (N+1) L l:=by
 constructor<;>(lia)
def Ua{A:Array Value}(h:A.toList.Nodup)(H:∀j:Nat,A[j]? ≠ some v):(A.push v).toList.Nodup:=by
 rw[DD,List.nodup_append];refine⟨h,by simp,λa g b f e=>?_⟩;have c:=Aa.mp f;subst c e;obtain⟨j,d,e⟩:=Cv g;exact H j (by rw[← Bh,nL d,e])
def Ub{O:Heap}(X:A.handled=none)(p:O.IsList l1 xs)(q:O.IsList l2 ys) :
  BW prog w A (O.objs.size+4) (O.objs.size+5) (min xs.size ys.size) (ZJ O l1 l2 xs ys) (ZK O xs ys):=by
 have N:l1<O.objs.size:=by obtain⟨_,e,_⟩:=p;exact sL e
 have π:l2<O.objs.size:=by obtain⟨_,e,_⟩:=q;exact sL e
 have D:=TZ N π;have big:∀{b:Addr} {o:Obj},O.get? b=some o->b≠O.objs.size+4/\b≠O.objs.size+3/\b≠O.objs.size/\b≠O.objs.size+1/\b≠O.objs.size+5:=λe=>by
  have:=sL e;unfold Addr at *;lia
 refine⟨λi acc s' c Q' E' hi J hS f=>?_,λacc s' c Q' E' J hS f=>?_,λi acc h Y J g u=>?_⟩
 ·have P:xs[i]? = some xs[i]:=BP (by lia);have Q:ys[i]? = some ys[i]:=BP (by lia);have B:s'.heap.IsList l1 xs:=p.at λo e=>J.keep _ o e;have L2:s'.heap.IsList l2 ys:=q.at λo e=>J.keep _ o e;have sz:=J.sz
  have C:∀ Y:Heap,((∃ T b o,CH Y (O.objs.size+4) (O.objs.size+2) (O.objs.size+3) T b/\Y.get? T=some o/\O.objs.size+6<=T))->(∃ a b,IsPair Y (O.objs.size+3) a b)->Y.IsListIter O.objs.size l1 (i+1)->Y.IsListIter (O.objs.size+1) l2 (i+1)->IsPair Y s'.heap.objs.size xs[i] ys[i] ->
    Y.objs.size=s'.heap.objs.size+1->(∀c o,c≠O.objs.size+4->c≠O.objs.size+3->c≠O.objs.size->c≠O.objs.size+1->s'.heap.get? c=some o->Y.get? c=some o) ->
    ZJ O l1 l2 xs ys (i+1) (acc.push (.ref s'.heap.objs.size)) Y:=by
   intro Y z1 z2 z3 z4 z5 z6 k;have R:∀T,O.objs.size+6<=T->T≠O.objs.size+4/\T≠O.objs.size+3/\T≠O.objs.size/\T≠O.objs.size+1:=λT hT=>by unfold Addr at *;lia
   refine⟨λb o e=>?_,.inr z1,?_,z2,z3,z4,by unfold Addr at *;lia,by rw[size_push,J.len],λj hj=>?_,Ua J.nd λj e=>?_⟩;obtain⟨E,F,G,H,_⟩:=big e;exact k b o E F G H (J.keep b o e);exact k _ _ (by unfold Addr at *;simp) (by unfold Addr at *;simp) (by unfold Addr at *;simp) (by unfold Addr at *;simp) J.ti;by_cases I:j=i;subst I;exact⟨s'.heap.objs.size,_,_,by rw[Array.getElem?_push,J.len,eH rfl],P,Q,z5,sz⟩;obtain⟨T,x,y,r,K,L,s,v⟩:=J.got j (by lia);obtain⟨E,F,G,H⟩:=R T v;exact⟨T,x,y,by rw[Array.getElem?_push,J.len,a0m I];exact r,K,L,k _ _ E F G H s,v⟩;by_cases hj:j<i
   ·obtain⟨T,x,y,r,_,_,s,_⟩:=J.got j hj;rw[r]at e;have eT:T=s'.heap.objs.size:=by cases e;rfl
    have:=sL s;rw[eT]at this;exact Bt _ this
   ·rw[Ik (by rw[J.len];lia)]at e;cases e
  have σ:∀Y:Heap,(∀c o,c≠O.objs.size+4->c≠O.objs.size+3->c≠O.objs.size->c≠O.objs.size+1->s'.heap.get? c=some o->Y.get? c=some o)->Y.get? (O.objs.size+5)=some (mF acc c):=λY k=>
   k _ _ (by unfold Addr at *;simp) (by unfold Addr at *;simp) (by unfold Addr at *;simp) (by unfold Addr at *;simp) hS
  rcases J.st with⟨rfl,g⟩|⟨T,b,o,g,hT,l⟩;obtain⟨a,b,d⟩:=J.to;refine wpAny_pyNext_zip_item D g J.ti d J.i1 J.i2 B L2 P Q λY a1 a2 a3 a4 a5 a6 a7=>?_;exact f _ Y s'.toks (C Y ⟨_,false,_,a1,a5,sz⟩ ⟨_,_,a2⟩ a3 a4 a5 a6 a7) (σ Y a7);obtain⟨a,b',d⟩:=J.to;refine TN D g hT J.ti J.i1 J.i2 B L2 P Q λY a1 a3 a4 a5 a6 a7=>?_;have M:∀c o,c≠O.objs.size+4->c≠O.objs.size+3->c≠O.objs.size->c≠O.objs.size+1->s'.heap.get? c=some o->Y.get? c=some o:=λc o S _ U V e=>a7 c o S U V e;have W:Y.get? T=some o:=a7 T o (by unfold Addr at *;lia) (by unfold Addr at *;lia) (by unfold Addr at *;lia) hT;exact f _ Y s'.toks (C Y ⟨T,true,o,a1,W,l⟩ ⟨a,b',a7 _ _ (by unfold Addr at *;simp) (by unfold Addr at *;simp) (by unfold Addr at *;simp) d⟩ a3 a4 a5 a6 M) (σ Y M)
 ·have B:s'.heap.IsList l1 xs:=p.at λo e=>J.keep _ o e;have L2:s'.heap.IsList l2 ys:=q.at λo e=>J.keep _ o e;have n:xs[min xs.size ys.size]? = none\/ys[min xs.size ys.size]? = none:=by
   by_cases h:xs.size<=ys.size;exact .inl (Ik (by lia));exact .inr (Ik (by lia))
  have fin:∀Y:Heap,(∀c o,c≠O.objs.size+4->c≠O.objs.size+3->c≠O.objs.size->c≠O.objs.size+1->s'.heap.get? c=some o->Y.get? c=some o)->ZK O xs ys acc Y/\Y.get? (O.objs.size+5)=some (mF acc c):=λY k=>by
   refine⟨⟨λb o e=>?_,λj hj=>?_,J.nd⟩,k _ _ (by unfold Addr at *;lia) (by unfold Addr at *;lia) (by unfold Addr at *;lia) (by unfold Addr at *;lia) hS⟩;obtain⟨E,F,G,H,_⟩:=big e;exact k b o E F G H (J.keep b o e);obtain⟨T,x,y,r,K,L,s,v⟩:=J.got j hj;exact⟨T,x,y,r,K,L,k _ _ (by unfold Addr at *;lia) (by unfold Addr at *;lia) (by unfold Addr at *;lia) (by unfold Addr at *;lia) s,v⟩
  rcases J.st with⟨_,g⟩|⟨T,b,o,g,hT,l⟩;obtain⟨a,b,d⟩:=J.to;exact wpAny_pyNext_zip_end X D g J.ti d J.i1 J.i2 B L2 n λY u=>f Y s'.toks (fin Y u).1 (fin Y u).2;refine TQ X D g hT J.ti J.i1 J.i2 B L2 n λY u=>?_;have:=fin Y λc o S _ U V e=>u c o S U V e;exact f Y s'.toks this.1 this.2
 ·have m:∀{b:Addr} {o:Obj},b≠O.objs.size+5->h.get? b=some o->Y.get? b=some o:=λhb e=>u _ _ hb e;refine⟨λb o e=>m (big e).2.2.2.2 (J.keep b o e),?_,m (by unfold Addr at *;simp) J.ti,?_,J.i1.at λo e=>m (by unfold Addr at *;simp) e,J.i2.at λo e=>m (by unfold Addr at *;simp) e,by rw[g];exact J.sz,J.len,λj hj=>?_,J.nd⟩;rcases J.st with⟨z,t⟩|⟨T,b,o,t,hT,l⟩;exact .inl ⟨z,m (by unfold Addr at *;simp) t⟩;exact .inr ⟨T,b,o,m (by unfold Addr at *;lia) t,m (by unfold Addr at *;lia) hT,l⟩;obtain⟨a,b,d⟩:=J.to;exact⟨a,b,m (by unfold Addr at *;simp) d⟩;obtain⟨T,x,y,r,K,L,s,v⟩:=J.got j hj;exact⟨T,x,y,r,K,L,m (by unfold Addr at *;lia) s,v⟩
def vR{H:Heap}(h:A.handled=none)(d:H.IsList z xs)(f:H.IsList x y)(C:min xs.size y.size<=sizeLine)
  (r:IsZip s.heap (H.objs.size+4) (H.objs.size+2) (H.objs.size+3) .none) (v:IsPair s.heap (H.objs.size+2) (.ref H.objs.size) (.ref (H.objs.size+1))) (to:IsPair s.heap (H.objs.size+3) .none .none)
  (B:s.heap.IsListIter H.objs.size z 0) (I:s.heap.IsListIter (H.objs.size+1) x 0) (q:s.heap.objs.size=H.objs.size+5) (i:∀b o,H.get? b=some o->s.heap.get? b=some o)
  (k:∀h' t p,ZK H xs y p h'->p.size=min xs.size y.size->Q p.toList {s with heap:=h',toks:=t}):wpAny (model prog w) A (collect (.ref (H.objs.size+4))) Q E s:=by
 have a:IsZip (s.heap.push (mF #[] 0)) (H.objs.size+4) (H.objs.size+2) (H.objs.size+3) .none:=Ac _ r;have u:∀b o,s.heap.get? b=some o->(s.heap.push (mF #[] 0)).get? b=some o:=λb o e=>Ac _ e;have L:=Ub (prog:=prog) (w:=w) (A:=A.in1) h d f;rw[← q]at L;exact zG (T:="zip") L C ⟨_,r,rfl⟩ rfl rfl (λl m g=>wpAny_pyIter_zip a g) (λl m g=>TX ⟨_,a,rfl⟩ g)
  ⟨λb o e=>u b o (i b o e),.inl ⟨rfl,a⟩,u _ _ v,⟨_,_,u _ _ to⟩,B.at λo e=>u _ o e,I.at λo e=>u _ o e,by simp_all,rfl,λj G=>absurd G (Ef _),by simp⟩ (Al _ rfl)
  λh' t p n c _=>k h' t p n c
def vS{h0:Heap}(j:A.handled=none)(f:h0.IsList r xs)(g:h0.IsList L y)(z:min xs.size y.size<=sizeLine)
  (x:IsZip s.heap (h0.objs.size+4) (h0.objs.size+2) (h0.objs.size+3) .none) (T:IsPair s.heap (h0.objs.size+2) (.ref h0.objs.size) (.ref (h0.objs.size+1))) (to:IsPair s.heap (h0.objs.size+3) .none .none)
  (u:s.heap.IsListIter h0.objs.size r 0) (I:s.heap.IsListIter (h0.objs.size+1) L 0) (H:s.heap.objs.size=h0.objs.size+5) (k:∀b o,h0.get? b=some o->s.heap.get? b=some o)
  (l:∀h' t q,ZK h0 xs y q h'->q.size=min xs.size y.size->Q (.ref h'.objs.size) {s with heap:=h'.push {cls:=.type "tuple",data:=.seq q},toks:=t}) :
  wpAny (model prog w) A (call (.type "tuple") [.ref (h0.objs.size+4)]) Q E s:=by
 refine callType_codes (Q₁:=λO a=>a.TypeIs O "tuple"/\Q O a) F.called_tuple (F.typeCall_tuple_1 _) F.entry_object_init ?_ λO a c=>
  ⟨c.1,F.args_object_init_2 O _,object_init_meets F.called_tuple.init.lookup F.called_tuple.made (rfl) prog w A.in1 _ a ⟨c.1,rfl,c.2⟩⟩
 refine codeAny_of_tree ?_
 (refine dV (wpAny_of_eq (F.newCall_tuple_1 _) (gX ⟨Ga F.plain_tuple_new _,EF F.entry_tuple_new ?_⟩));rw[Gf F.plain_tuple_new _])
 have i:=sub_tuple_self;have h:=init_tuple_lookup;have m:=madeHere_tuple
 wp_walk using Ft n,vR (A:=A.in1.in1) j f g z x T to u I H k
 intro h' t q p d
 (show wpAny _ _ (tupleExact q.toList.toArray >>= λv=>ret v) _ _ _)
 refine dV (EE ?_ (by show q.toList.toArray.size<=sizeLine;simp_all));have e:q.toList.toArray=q:=by simp
 exact gX ⟨⟨_,Al _ rfl,rfl⟩,l h' t q p d⟩
def Uc{K:W.Frag}(a:Iv own t):FA own (qI K n t):=λx Z H Q q=>by
 unfold qI at q ⊢;split at q;exact⟨q.1,a _ _ _ _ q.2⟩;obtain⟨e,b,c,d⟩:=q;exact⟨e,b,c,a _ _ _ _ d⟩;exact q.elim
end
section
open PyProof.Rows
inductive Tr where
 |leaf (z:Str)|node (l r:Tr)
end
def Mo(K:W.Frag)(b:X.K=K)(c:PE X l a):PI X t l (HD K a):=by rw[← b];exact Tg c
def jU(K:W.Frag)(b:X.K=K)(hc:X.calm=true)(h:Gj X e t)
  (H:(assignEach e X.env).length=n:=by rfl) (a:(assignEach e X.env).findIdx? (·.1)=none:=by rfl):PG X (.Tuple e k pos) (qI K n t):=by exact Ts hc h H a
def Ud{id:String}(K:W.Frag)(d:X.K=K)(p:PlainAttrs T)(slot:Slot T n id)(c:typeOf (.builtin id)=pure (.type "method_descriptor"))(e:Ek X id r)(f:PE X o to)
  (a:attributeBase o n X.env (eval o X.env)=eval o X.env:=by rfl) (b:(A.endLine==C.line)=true:=by rfl):PE X (.Call (.Attribute o n A) [] [] C) (JV K T r to):=by rw[← d];exact Sz p slot c e f a b
def lJ{id:String}(K:W.Frag)(g:X.K=K)(p:PlainAttrs T)(slot:Slot T n id)(f:typeOf (.builtin id)=pure (.type "method_descriptor"))(h:Ek X id r)(i:PE X o to)(j:PA X (e::E) t)
  (b:attributeBase o n X.env (eval o X.env)=eval o X.env:=by rfl)
  (d:((backTo C (starEach (e::E) X.env)).all (λx=>!x.1)&&(backToKw C (keywordEach [] X.env)).all (λx=>x.1.isSome)&&decide ((e::E).length+([]:List Keyword).length+(if([]:List Keyword).isEmpty then 0 else 1)<30))=true:=by rfl)
  (c:(A.endLine==C.line)=true:=by rfl) (H:starEach (e::E) X.env=(false,eval e X.env)::starEach E X.env:=by rfl) (a:(backTo C (starEach E X.env)).any (·.1)=false:=by rfl) :
  PE X (.Call (.Attribute o n A) (e::E) [] C) (DP K T r to t):=by rw[← g];exact SA p slot f h i j b d c H a
section
open PyProof.Rows Spec
abbrev TH:=Addr->Addr->Option Addr->Addr->TS
section
variable {κ:Type}[DecidableEq κ]
noncomputable def kP(b:List (κ×V))(k:κ):Option V:=(b.find? λa=>decide (a.1=k)).map (·.2)
noncomputable def zH(b:List (κ×V))(k:κ)(v:V):List (κ×V):=
 if(b.any λa=>decide (a.1=k))=true then b.map (λa=>if a.1=k then(a.1,v)else a)else b++[(k,v)]
theorem fV{k:κ}(e:p.1=k):kP (p::r) k=some p.2:=by simp[kP,find?_cons,e]
def fW{k:κ}(e:¬p.1=k):kP (p::r) k=kP r k:=by simp[kP,find?_cons,e]
theorem zI(k:κ):∀ b:List (κ×V),(b.any λa=>decide (a.1=k))=(kP b k).isSome
 |[]=>rfl
 | p::r=>by
   rw[List.any_cons];by_cases e:p.1=k;simp only[fV e,decide_eq_true e,Bool.true_or,Option.isSome_some];rw[fW e,Fp e,Bool.false_or];exact zI k r
def vT(a:List (κ×V))(k:κ)(v:V):(zH a k v).length<=a.length+1:=by
 unfold zH
 grind
def CF.isSome_eq(r:CF o u):o.isSome=u.isSome:=by
 cases o with
 | none=>cases u with
   |none=>rfl
   |some _=>exact(show False from r).elim
 | some _=>cases u with
   |none=>exact(show False from r).elim
   |some _=>rfl
theorem CF.getD(r:CF o u)(a:cC d b):cC (o.getD d) (u.getD b):=by
 cases o with
 | none=>cases u with
   |none=>exact a
   |some _=>exact(show False from r).elim
 | some _=>cases u with
   |none=>exact(show False from r).elim
   |some _=>exact r
def KV.val(r:KV g v)(k:κ):CF (kP g k) (valueAt v k):=by
 induction r with
 |nil=>exact True.intro
 | @cons p q i Q h t d=>
   obtain⟨c,f⟩:=h;by_cases e:p.1=k
   ·have a:q.1=k:=c.symm.trans e;have b:valueAt (q::Q) k=some q.2:=by simp[valueAt,find?_cons,a]
    rw[fV e,b];exact f
   ·have a:¬q.1=k:=λz=>e (c.trans z);have b:valueAt (q::Q) k=valueAt Q k:=by simp[valueAt,find?_cons,a]
    rw[fW e,b];exact d
end
def Mp(r:cC (kV k) u):(cD P w).is k u=true:=by
 cases k with
 |inl i=>obtain⟨t,e⟩:=(show ∃t,u=Value.int i t from r);subst e;exact vG P w i t
 |inr x=>obtain⟨t,e⟩:=(show ∃t,u=Value.str x t from r);subst e;exact vH P w x t
theorem tJ{P:Program}{w:World}:∀ {a:List Key} {u:List Value},bC (a.map kV) u->ItemsAre (cD P w) a u
 |[],_,r=>by cases r;exact .nil
 | k::a,_,r=>by
   cases r with
   |cons h t=>exact .cons (Mp h) (tJ t)
abbrev KT(H:Hp):List (List Key×V)->List (List Key×Addr×Value)->Prop:=Paired λp q=>p.1=q.1/\H q.2.1=some (.tup (p.1.map kV))/\cC p.2 q.2.2
def KT.val(r:KT H g xs)(k:List Key):CF (kP g k) ((atKey xs k).map (·.2)):=by
 induction r with
 |nil=>exact True.intro
 | @cons p q i Q h t d=>
   obtain⟨c,_,f⟩:=h;by_cases e:p.1=k
   ·have a:q.1=k:=c.symm.trans e;have b:atKey (q::Q) k=some q.2:=by simp[atKey,find?_cons,a]
    rw[fV e,b];exact f
   ·have a:¬q.1=k:=λz=>e (c.trans z);have b:atKey (q::Q) k=atKey Q k:=by simp[atKey,find?_cons,a]
    rw[fW e,b];exact d
def KT.repl(r:KT H d xs)(k:List Key)(c:cC y u) :
  KT H (d.map λa=>if a.1=k then(a.1,y)else a) (xs.map (putAt k u)):=by
 induction r with
 |nil=>exact .nil
 | @cons p q f Q h t b=>
   refine .cons ?_ b;unfold putAt;by_cases e:p.1=k
   ·simp_all
   simp_all
def KT.put(r:KT H d xs)(k:List Key)(hb:H b=some (.tup (k.map kV)))(a:cC y u) :
  KT H (zH d k y) (storedH xs k b u):=by
 have e:(d.any λc=>decide (c.1=k))=(atKey xs k).isSome:=by
  rw[zI,(r.val k).isSome_eq,Option.isSome_map]
 unfold zH storedH;rw[e];by_cases q:(atKey xs k).isSome=true;rw[eH q,eH q];exact r.repl k a;rw[a0m q,a0m q];exact Paired.snoc r ⟨rfl,hb,a⟩
def KT.keeps(r:KT H k xs)(a:∀b y,H b=some (.tup y)->h b=some (.tup y)):KT h k xs:=
 Paired.mapP r λ_ _ z=>⟨z.1,a _ _ z.2.1,z.2.2⟩
def Kc(ok:AD P w H h)(e:Rd H a u):cH P w H h a u:=e.ok ok
def HE(ok:AD P w H h)(e:Rd H a (.dK k)):k.length<=sizeLine/\(a==sysModules)=false/\∃v,KV k v/\h.DictOf (cD P w) a v:=
 show cH P w H h a (.dK k)from Kc ok e
def Ue(ok:AD P w H h)(e:H a=some (.dK k)):k.length<=sizeLine/\(a==sysModules)=false/\∃v,KV k v/\h.DictOf (cD P w) a v:=HE ok (.inl e)
def tK(ok:AD P w H h)(e:H a=some (.tup (k.map kV))):(tupleKind (cD P w)).is h k a:=by
 obtain⟨_,i,r,⟨o,b,c,n,d⟩,_⟩:=(show cH P w H h a (.tup (k.map kV))from ok a _ e);exact⟨o,i.toArray,n,b,c,d,by simpa using tJ r⟩
def HF(ok:AD P w H h)(e:Rd H a (.dT n)):n.length<=sizeLine/\(a==sysModules)=false /\
  ∃xs,KT H n xs/\h.DictOfH (tupleKind (cD P w)) a xs:=by
 obtain⟨z,y,xs,r,o,E,s,c,d,f,g,i⟩:=(show cH P w H h a (.dT n)from Kc ok e);refine⟨z,y,xs,r,o,E,s,c,d,f,g,λx b=>?_,i⟩;have A:∀ {l:List (List Key×V)} {m:List (List Key×Addr×Value)},KT H l m->∀ x∈m,(tupleKind (cD P w)).is h x.1 x.2.1:=by
  intro l m q
  induction q with
  |nil=>simp
  | @cons p q u Q k t j=>
    intro x b;rcases sY.mp b with e|b;exact tK ok (by simp_all);exact j x b
 exact A r x b
def Ug(ok:AD P w H h)(e:H a=some (.dT k)):k.length<=sizeLine/\(a==sysModules)=false /\
  ∃xs,KT H k xs/\h.DictOfH (tupleKind (cD P w)) a xs:=HF ok (.inl e)
def IB(H:Hp)(a:Addr)(y:V)(r:Option V):Prop:=
 (∃c k,Rd H a (.dK c)/\y=kV k/\r=kP c k)\/∃c k b,Rd H a (.dT c)/\y=.ref b/\H b=some (.tup (k.map kV))/\r=kP c k
def dX.big{Z:St}(I:dX X a Z H s):sysModules<s.heap.objs.size:=by
 have h:mainGlobals<s.heap.objs.size:=(I.mod.glob.keeps I.bk).lt;exact Ck (by decide) h
def Uh{Z:St}(q:A.units+1 < cLine)(I:dX X x Z H s)(g:IB H a y (some v))(n:cC y u)(h:∀ d C,dX X x Z H C->cC v d->Q d C) :
  wpAny (model X.prog X.w) A (getItem (.ref a) u) Q E s:=by
 rcases g with⟨B,k,e,f,l⟩|⟨B,k,b,e,f,r,l⟩;subst f;obtain⟨z,L,J,w,i⟩:=HE I.hok e;obtain⟨d,j,c⟩:=CF.some_of (v:=v) (o:=valueAt J k) (by rw[l];exact w.val k);exact wpAny_getItem_of (Mp n) i.mapOf j (h d _ (I.tok _) c);subst f;cases (show u=Value.ref b from n);obtain⟨z,L,G,w,i⟩:=HF I.hok e;obtain⟨d,j,c⟩:=CF.some_of (v:=v) (o:=(atKey G k).map (·.2)) (by rw[l];exact w.val k);obtain⟨p,t,m⟩:=Bg.mp j;refine wpAny_getItem_heap (tupleKind_room_in1 q) (tK I.hok r) i t ?_;rw[m];exact h d _ (I.tok _) c
def Mq{Z:St}(I:dX X p Z H s)(mu:Hu (H a))(h:SameBut a s.heap h')(d:∃ q,h'.get? a=some q)(c:cH X.prog X.w (gV H a ob) h' a ob) :
  dX X p Z (gV H a ob) {s with heap:=h',toks:=t}:=
 I.write (x:=a) (e:=a) mu (.inl rfl) (λb q f z=>(h.2 b f).trans z) d c
def IC(i:Expr):Prop:=∀o a,subscripted i false o a=operate [o,a] (getItem o a)
def Ui{T id:String}
  (k:typeLookup (.type T) "__getitem__"=pure (some (.builtin id))) (H:IC a)
  (h:wpAny (model prog w) A (eval b env) (λo e=>wpAny (model prog w) A (eval a env) (λi c=>c.TypeIs o T/\wpAny (model prog w) A (getItem o i) Q E c) E e) E s) :
  wpAny (model prog w) A (eval (.Subscript b a pos) env) Q E s:=by
 refine Subscript_ (Cu h (λo e g=>Cu g (λi c d=>?_) λ_ _ x=>x) λ_ _ x=>x);obtain⟨m,d⟩:=d;refine dV ?_;refine dV (FZ m k ?_);have l:wpAny (model prog w) A (subscripted a false o i) (λr f=>wpAny (model prog w) A (letTemporaryGo b o r >>= λ_=>pure r) Q E f) E c:=by
  rw[H o i];exact wpAny_operating (Cu d (λr f j=>dV (wpAny_letTemporaryGo (gX j))) λ_ _ x=>x)
 first
  |exact gX (dV l)
  |lia
  |rfl
def vU{Z:St}(I:dX X p Z H s)(g:IB H a y o):s.TypeIs (.ref a) "dict":=by
 rcases g with⟨d,k,e,_,_⟩|⟨d,k,b,e,_,_,_⟩;obtain⟨_,_,v,_,c⟩:=HE I.hok e;exact c.typeIs;obtain⟨_,_,x,_,c⟩:=HF I.hok e;exact c.typeIs
def Uj(c ty:TE):TE:=λZ H Q=>c Z H λx d=>ty Z d λy b=>∃a v,x=.ref a/\IB b a y (some v)/\Q v b
def Uk(d:X.A.units+1<cLine)(e:PE X o T)(C:PE X i ty)(B:IC i):PE X (.Subscript o i pos) (Uj T ty):=by
 intro z s Z H Q I h;refine Ui F.slot_dict_getitem.lookup B (thn (e z s Z H _ I h) λu A ⟨x,f,j,k,l⟩=>thn (C z A Z f _ j l) λr J G=>?_);obtain⟨y,m,c,n,a,v,E,g,p⟩:=G;subst E;obtain rfl:u=Value.ref a:=k;exact⟨vU c g,Uh d c g n λt w q b=>⟨v,m,q,b,p⟩⟩
def Ul(h:Heap)(hb:sysModules<h.objs.size):cH P w H (h.push {cls:=.type "dict",data:=.dict #[]}) h.objs.size (.dK []):=
 ⟨sS _,beq_eq_false_iff_ne.mpr (oI (Ay hb)),[],.nil,Heap.DictOf.new h⟩
def Um(h:Heap)(hb:sysModules<h.objs.size):cH P w H (h.push {cls:=.type "dict",data:=.dict #[]}) h.objs.size (.dT []):=
 ⟨sS _,beq_eq_false_iff_ne.mpr (oI (Ay hb)),[],.nil,_,#[],0,Al _ rfl,⟨rfl,rfl,rfl⟩,rfl,rfl,List.nodup_nil⟩
def Uo:TE:=λ_ H Q=>∀p,H p=none->Q (.ref p) (gV H p (.dK []))
def Kd:TE:=λ_ H Q=>∀p,H p=none->Q (.ref p) (gV H p (.dT []))
def Uq:PE X (.Dict [] [] pos) Uo:=λp s Z H Q I h=>
 wpAny_Dict_empty ⟨.ref s.heap.objs.size,_,I.laid (a:=s.heap.objs.size) (o:=.dK []) (t':=s.toks) (λ_ _ q=>Ac _ q) (hC _) (Ul s.heap I.big),rfl,h _ (I.hok.fresh (hC _))⟩
def Ur:PE X (.Dict [] [] pos) Kd:=λp s Z H Q I h=>
 wpAny_Dict_empty ⟨.ref s.heap.objs.size,_,I.laid (a:=s.heap.objs.size) (o:=.dT []) (t':=s.toks) (λ_ _ q=>Ac _ q) (hC _) (Um s.heap I.big),rfl,h _ (I.hok.fresh (hC _))⟩
structure M2(X:Cx)(o:Expr)(m:Str)(apos:Pos)(e f:Expr)(cpos:Pos):Prop where
 base:attributeBase o m X.env (eval o X.env)=eval o X.env
 few:((backTo cpos (starEach [e,f] X.env)).all (λx=>!x.1)&&(backToKw cpos (keywordEach [] X.env)).all (λx=>x.1.isSome)
  && decide (([e,f]:List Expr).length+([]:List Keyword).length+(if([]:List Keyword).isEmpty then 0 else 1)<30))=true
 line:(apos.endLine==cpos.line)=true
 trees:backTo cpos (starEach [e,f] X.env)=[(false,eval e X.env),(false,eval f X.env)]
def Gv(H:Hp)(a:Addr):Prop:=(∃k,Rd H a (.dK k))\/(∃k,Rd H a (.dT k))\/∃k,Rd H a (.dM k)
def Ms{Z:St}(I:dX X p Z H s)(d:Gv H a) :
  s.TypeIs (.ref a) "dict"/\(∀b,Value.ref a=.ref b->∃ob,s.heap.get? b=some ob/\ob.dict=none)/\(a==sysModules)=false:=by
 rcases d with⟨k,e⟩|⟨k,e⟩|⟨k,e⟩;obtain⟨_,h,v,_,g⟩:=HE I.hok e;refine⟨g.typeIs,λb q=>?_,h⟩;cases q;obtain⟨ob,_,_,c,f,_⟩:=g;exact⟨ob,c,f.2.1⟩;obtain⟨_,h,x,_,g⟩:=HF I.hok e;refine⟨g.typeIs,λb q=>?_,h⟩;cases q;obtain⟨ob,_,_,c,f,_⟩:=g;exact⟨ob,c,f.2.1⟩;obtain⟨_,h,_,_,ob,_,_,c,f,_⟩:=Kc I.hok e;exact⟨⟨ob,c,f.1⟩,λb q=>by cases q;exact⟨ob,c,f.2.1⟩,h⟩
end
section
open PyProof.Rows
theorem pC(H:∀ c∈sep.cps.toList,c < m):∀ d:List Str,(∀ z∈d,∀ c∈z.cps.toList,c < m)->∀ c∈(Str.join sep d).cps.toList,c < m
 |[],_=>λc hc=>by simp[Str.join,Str.empty]at hc
 |[x],h=>λc hc=>h x pL c hc
 | x::y::r,h=>λc hc=>by
   have a:=pC H (y::r) λz b=>h z (Af _ b);have e:(Str.join sep (x::y::r)).cps.toList=x.cps.toList++sep.cps.toList++(Str.join sep (y::r)).cps.toList:=by
    show(x++sep++Str.join sep (y::r)).cps.toList=_;rw[Str.cps_append,Str.cps_append,toList_append,toList_append]
   rw[e]at hc;rcases sU.mp hc with hc|hc;rcases sU.mp hc with hc|hc;exact h x pL c hc;exact H c hc;exact a c hc
def vV(H:∀c∈sep.cps.toList,c<m)(a:List Str)(h:∀z∈a,∀c∈z.cps.toList,c<m):∀c∈(Txt.join sep a).cps.toList,c<m:=by
 show ∀c∈(glued sep a).cps.toList,c<m;rw[StrLaws.glued_eq_join];exact pC H a h
def Us:∀c∈(ofString "abcdefghijklmnopqrstuvwxyz").cps.toList,c<128:=by decide
end
inductive D where
 |non|bl (b:Bool)|int (i:Int)|str (x:Str)|tup (l:List D)|lst (l:List D)|dic (ks vs:List D)
noncomputable instance:DecidableEq D:=λ_ _=>Classical.propDecidable _
noncomputable instance:Inhabited D:=⟨.non⟩
noncomputable def iQ:Key->D
 |.inl i=>.int i
 |.inr x=>.str x
noncomputable def Ke:Tk->D
 |.s x=>.str x
 |.p a b=>.tup [Ke a,Ke b]
def Kf:HO->List D->List V->Prop
 |.dK k,b,w=>b=k.map (λa=>iQ a.1)/\w=k.map (·.2)
 |.dT k,b,w=>b=k.map (λa=>D.tup (a.1.map iQ))/\w=k.map (·.2)
 |.dM k,b,w=>b=.non::k.map (λa=>Ke a.1)/\w=k.map (·.2)
 |_,_,_=>False
mutual
inductive Rp(H:Hp):D->V->Prop
 |non:Rp H .non .non
 |bl (b:Bool):Rp H (.bl b) (.bl b)
 |int (i:Int):Rp H (.int i) (.int i)
 |str (x:Str):Rp H (.str x) (.str x)
 |tup {l:List D} {p:Addr} {xs:List V}:H p=some (.tup xs)->Rps H l xs->Rp H (.tup l) (.ref p)
 |lst {l:List D} {p:Addr} {xs:List V} {o:Obj}:H p=some (.frz o (.lst xs))->Rps H l xs->Rp H (.lst l) (.ref p)
 |dic {ks vs:List D} {p:Addr} {o:Obj} {u:HO} {ws:List V}:H p=some (.frz o u)->Kf u ks ws->Rps H vs ws->Rp H (.dic ks vs) (.ref p)
inductive Rps(H:Hp):List D->List V->Prop
 |nil:Rps H [] []
 |cons {d:D} {r:List D} {x:V} {xs:List V}:Rp H d x->Rps H r xs->Rps H (d::r) (x::xs)
end
structure Bb(H H':Hp):Prop where
 tup:∀p xs,H p=some (.tup xs)->H' p=some (.tup xs)
 frz:∀p o u,H p=some (.frz o u)->H' p=some (.frz o u)
def Bb.same(h:lG H a):Bb H a:=⟨λp x e=>h p _ e,λp o u e=>h p _ e⟩
def Rp.mono(b:Bb H c)(h:Rp H d x):Rp c d x:=
 Rp.rec (motive_1:=λd x _=>Rp c d x) (motive_2:=λl e _=>Rps c l e) .non .bl .int .str (λh _ i=>.tup (b.tup _ _ h) i) (λh _ i=>.lst (b.frz _ _ _ h) i) (λh k _ i=>.dic (b.frz _ _ _ h) k i) .nil (λ_ _ a i=>.cons a i) h
def Rps.ind{H:Hp}{P:∀l xs,Rps H l xs->Prop}(n:P [] [] .nil)(c:∀{d:D} {x:V} {l:List D} {xs:List V} (a:Rp H d x) (r:Rps H l xs),P l xs r->P (d::l) (x::xs) (.cons a r)):∀{l:List D} {xs:List V} (h:Rps H l xs),P l xs h:=by
 intro l xs h
 induction l generalizing xs with
 |nil=>cases h;exact n
 |cons d l i=>cases h with|cons a r=>exact c a r (i r)
theorem Rps.mono(b:Bb H e)(h:Rps H l xs):Rps e l xs:=by
 induction h using Rps.ind with
 |n=>exact .nil
 |c a _ i=>exact .cons (a.mono b) i
theorem Rps.length{H:Hp}{l:List D}{xs:List V}(h:Rps H l xs):l.length=xs.length:=by
 induction h using Rps.ind with
 |n=>rfl
 |c _ _ i=>exact BO (· + 1) i
def Rps.get{i:Nat}(h:Rps H l xs)(e:l[i]?=some d):∃x,xs[i]?=some x/\Rp H d x:=by
 induction h using Rps.ind generalizing i with
 |n=>cases e
 | c a _ j=>
   cases i with
   |zero=>obtain rfl:=Ap e;exact⟨_,rfl,a⟩
   |succ i=>exact j e
def Rps.append(h:Rps H l xs)(k:Rps H m y):Rps H (l++m) (xs++y):=by
 induction h using Rps.ind with
 |n=>exact k
 |c a _ i=>exact .cons a i
theorem Rps.take(n:Nat)(h:Rps H l xs):Rps H (l.take n) (xs.take n):=by
 induction h using Rps.ind generalizing n with
 |n=>cases n<;>exact .nil
 | c a _ i=>
   cases n with
   |zero=>exact .nil
   |succ n=>exact .cons a (i n)
theorem Rps.drop(n:Nat)(h:Rps H l xs):Rps H (l.drop n) (xs.drop n):=by
 induction h using Rps.ind generalizing n with
 |n=>cases n<;>exact .nil
 | c a r i=>
   cases n with
   |zero=>exact .cons a r
   |succ n=>exact i n
theorem Rps.set(i:Nat)(h:Rps H l xs)(q:Rp H d x):Rps H (l.set i d) (xs.set i x):=by
 induction h using Rps.ind generalizing i with
 |n=>exact .nil
 | c a r j=>
   cases i with
   |zero=>exact .cons q r
   |succ i=>exact .cons a (j i)
theorem Rps.eraseIdx(i:Nat)(h:Rps H l xs):Rps H (l.eraseIdx i) (xs.eraseIdx i):=by
 induction h using Rps.ind generalizing i with
 |n=>exact .nil
 | c a r j=>
   cases i with
   |zero=>exact r
   |succ i=>exact .cons a (j i)
def Mt{b:Type}{f:b->D}{g:b->V}(h:∀a,Rp H (f a) (g a))(l:List b):Rps H (l.map f) (l.map g):=by
 induction l with
 |nil=>exact .nil
 |cons a _ i=>exact .cons (h a) i
def iR(l:List Int):Rps H (l.map D.int) (l.map V.int):=Mt .int l
def qK(l:List Str):Rps H (l.map D.str) (l.map V.str):=Mt .str l
def qL{c:Type}{f:c->D}{g:c->V}{l:List c}(h:∀a x,Rp H (f a) x->x=g a)(r:Rps H (l.map f) xs):xs=l.map g:=by
 induction l generalizing xs with
 |nil=>cases r;rfl
 |cons a _ i=>cases r with|cons b t=>rw[i t,h a _ b];rfl
def Rps.ints_inv{ns:List Int}:Rps H (ns.map D.int) xs->xs=ns.map V.int:=qL λ_ _ r=>by cases r;rfl
def Rps.strs_inv{n:List Str}:Rps H (n.map D.str) xs->xs=n.map V.str:=qL λ_ _ r=>by cases r;rfl
def Rps.bls_inv{n:List Bool}:Rps H (n.map D.bl) xs->xs=n.map V.bl:=qL λ_ _ r=>by cases r;rfl
inductive Md where
 |val|own|par|lent
 deriving DecidableEq
noncomputable def Md.mt:Md->Bool
 |.own|.par=>true
 |_=>false
structure Sl where
 m:Md
 d:D
abbrev Sg:=List (Option Sl)
def cE(H:Hp)(d:D)(p:Addr):Prop:=match d with
 |.lst l=>∃x,H p=some (.lst x)/\Rps H l x
 |.dic k v=>∃u w,H p=some u/\Kf u k w/\Rps H v w
 |_=>False
theorem cE.mono(h:cE H d p)(e:Bb H g)(c:∀o,H p=some o->g p=some o):cE g d p:=by
 unfold cE at h ⊢;split at h;obtain⟨x,a,b⟩:=h;exact⟨x,c _ a,b.mono e⟩;obtain⟨u,w,a,b,f⟩:=h;exact⟨u,w,c _ a,b,f.mono e⟩
 lia
def cE.obj(h:cE H d p):∃o,H p=some o/\(∀xs,o≠.tup xs)/\∀ob u,o≠.frz ob u:=by
 unfold cE at h;split at h;obtain⟨xs,a,b⟩:=h;simp_all;obtain⟨u,w,a,b,c⟩:=h;refine⟨_,a,λ_ z=>?_,λ_ _ z=>?_⟩<;>(subst z;exact b)
 simp_all
def El(H:Hp)(s:Sl)(v:V):Prop:=match s.m with
 |.val=>Rp H s.d v
 |_=>∃p,v=.ref p/\cE H s.d p
def cV(h:s.m≠.val):El H s v↔∃p,v=.ref p/\cE H s.d p:=by
 obtain⟨m,d⟩:=s;cases m with
 |val=>simp_all
 |own|par|lent=>rfl
def AV(H:Hp)(d:D)(v:V):Prop:=Rp H d v\/∃p,v=.ref p/\cE H d p
def El.vw(h:El H s v):AV H s.d v:=by
 by_cases e:s.m=.val;obtain⟨m,d⟩:=s;cases e;exact .inl h;exact .inr ((cV e).mp h)
inductive ET(H:Hp):List D->List V->Prop
 |nil:ET H [] []
 |cons {d:D} {r:List D} {x:V} {xs:List V}:AV H d x->ET H r xs->ET H (d::r) (x::xs)
def hZ(Z:Sg)(b:St)(a:Addr):Prop:=∃(i:Nat) (s:Sl),Z[i]?=some (some s)/\s.m.mt=true/\b[i]?=some (some (.ref a))
def zJ(Z:Sg)(b:St)(a:Addr):Prop:=∃(i:Nat) (s:Sl),Z[i]?=some (some s)/\s.m≠.val/\b[i]?=some (some (.ref a))
def hZ.nv(h:hZ Z e a):zJ Z e a:=by
 obtain⟨i,s,c,b,d⟩:=h;exact⟨i,s,c,λz=>(by rw[z]at b;cases b),d⟩
structure Gm where
 H₀:Hp
 pr:Addr->Prop
structure dY(Γ:Gm)(H:Hp)(Z:Sg)(σV:St):Prop where
 rel:∀(i:Nat) s,Z[i]?=some (some s)->∃v,σV[i]?=some (some v)/\El H s v
 dis:∀(i j:Nat) s t p,i≠j->Z[i]?=some (some s)->Z[j]?=some (some t)->s.m.mt=true->t.m≠.val->σV[i]?=some (some (.ref p))->σV[j]?=some (some (.ref p))->False
 own:∀(i:Nat) s p,Z[i]?=some (some s)->s.m=.own->σV[i]?=some (some (.ref p))->Γ.H₀ p=none
 par:∀(i:Nat) s p,Z[i]?=some (some s)->s.m=.par->σV[i]?=some (some (.ref p))->Γ.pr p
 keep:∀a o,Γ.H₀ a=some o->¬Γ.pr a->H a=some o
 dom:∀a,H a=none->Γ.H₀ a=none
 len:Z.length=σV.length
structure hF(Z:Sg)(σV:St)(H:Hp)(σ':Sg)(σV':St)(H':Hp):Prop where
 fr:∀a o,H a=some o->¬hZ Z σV a->H' a=some o
 dom:∀a,H' a=none->H a=none
 mu:∀a,hZ σ' σV' a->hZ Z σV a\/H a=none
 nv:∀a,zJ σ' σV' a->zJ Z σV a\/H a=none
 kp:∀(i:Nat) s,Z[i]?=some (some s)->∃s',σ'[i]?=some (some s')
 fix:∀(i:Nat) s,Z[i]?=some (some s)->(s.m=.par\/s.m=.lent)->∃s',σ'[i]?=some (some s')/\s'.m=s.m/\(s.m=.lent->s'.d=s.d)/\σV'[i]?=σV[i]?
 lt:∀(i:Nat) s',σ'[i]?=some (some s')->s'.m=.lent->∃s,Z[i]?=some (some s)/\s.m=.lent
def hF.refl:hF Z b H Z b H:=⟨λ_ _ h _=>h,λ_ h=>h,λ_ h=>.inl h,λ_ h=>.inl h,λi s h=>⟨s,h⟩,λi s h _=>⟨s,h,rfl,λ_=>rfl,rfl⟩,λi s h m=>⟨s,h,m⟩⟩
def hF.trans(a:hF Z w H y u B)(b:hF y u B x t A):hF Z w H x t A where
 fr:=λc o h n=>b.fr c o (a.fr c o h n) λz=>by
  rcases a.mu c z with q|q;exact n q
  lia
 dom:=λc h=>a.dom c (b.dom c h)
 mu:=λc h=>by
  rcases b.mu c h with q|q;exact a.mu c q;exact .inr (a.dom c q)
 nv:=λc h=>by
  rcases b.nv c h with q|q;exact a.nv c q;exact .inr (a.dom c q)
 kp:=λi s h=>by
  obtain⟨v,d⟩:=a.kp i s h;exact b.kp i v d
 fix:=λi s h f=>by
  obtain⟨v,d,e,g,j⟩:=a.fix i s h f;obtain⟨C,k,l,p,r⟩:=b.fix i v d (by simp_all)
  simp_all
 lt:=λi s h m=>by
  obtain⟨v,d,e⟩:=b.lt i s h m;exact a.lt i v d e
def dY.mutObj(ok:dY g H Z f)(h:zJ Z f a):∃o,H a=some o/\(∀xs,o≠.tup xs)/\∀ob u,o≠.frz ob u:=by
 obtain⟨i,s,b,c,d⟩:=h;obtain⟨v,e,r⟩:=ok.rel i s b;rw[d]at e;cases e;obtain⟨p,e,q⟩:=(cV c).mp r;cases e;exact q.obj
def hF.ext(f:hF Z b H g c j)(ok:dY Γ H Z b):Bb H j:=by
 refine⟨λp x h=>f.fr p _ h λz=>?_,λp o u h=>f.fr p _ h λz=>?_⟩;obtain⟨o,e,n,_⟩:=ok.mutObj z.nv;grind;obtain⟨o,e,_,n⟩:=ok.mutObj z.nv;grind
theorem El.mono(r:El H s v)(e:Bb H h)(b:∀p o,v=.ref p->s.m≠.val->H p=some o->h p=some o):El h s v:=by
 by_cases q:s.m=.val;obtain⟨m,d⟩:=s;cases q;exact Rp.mono e r;obtain⟨p,a,c⟩:=(cV q).mp r;exact(cV q).mpr ⟨p,a,c.mono e λo=>b p o a q⟩
theorem dY.same(ok:dY d H Z c)(h:lG H f):dY d f Z c:=
 ⟨λi s e=>by
  obtain⟨v,b,r⟩:=ok.rel i s e;exact⟨v,b,r.mono (.same h) λp o _ _ q=>h p o q⟩,ok.dis,ok.own,ok.par,λa o e n=>h a o (ok.keep a o e n),λa e=>ok.dom a (by
  cases q:H a with
  |none=>rfl
  |some o=>rw[h a o q]at e;lia),ok.len⟩
def Ut(h:lG H b)(e:b a=none):H a=none:=by
 cases q:H a with
 |none=>rfl
 |some o=>rw[h a o q]at e;lia
def hF.same(h:lG H c):hF Z b H Z b c:=⟨λa o e _=>h a o e,λa e=>Ut h e,λ_ h=>.inl h,λ_ h=>.inl h,λi s h=>⟨s,h⟩,λi s h _=>⟨s,h,rfl,λ_=>rfl,rfl⟩,λi s h m=>⟨s,h,m⟩⟩
inductive kN where
 |val (d:D)|own (d:D)|slot (i:Nat)
def gC(b:Gm)(H:Hp)(Z:Sg)(a:St)(r:kN)(v:V):Prop:=match r with
 |.val d=>Rp H d v
 |.own d=>∃p,v=.ref p/\cE H d p/\¬zJ Z a p/\b.H₀ p=none
 |.slot i=>a[i]?=some (some v)/\∃s,Z[i]?=some (some s)
noncomputable def rd(Z:Sg):kN->Option D
 |.val d|.own d=>some d
 | .slot i=>match Z[i]? with
   |some (some s)=>some s.d
   |_=>none
theorem gC.vw(ok:dY k H Z j)(h:gC k H Z j r v)(e:rd Z r=some d):AV H d v:=by
 cases r with
 |val l=>cases e;exact .inl h
 |own l=>cases e;obtain⟨p,a,b,_⟩:=h;exact .inr ⟨p,a,b⟩
 | slot i=>
   obtain⟨f,s,c⟩:=h;have g:some s.d=some d:=by
    have:rd Z (.slot i)=some s.d:=by show(match Z[i]? with|some (some s)=>some s.d|_=>none)=_;rw[c]
    simp_all
   cases g;obtain⟨w,a,b⟩:=ok.rel i s c;rw[f]at a;cases a;exact b.vw
def gC.step(ok:dY n H Z k)(h:gC n H Z k r v)(l:hF Z k H m k t):gC n t m k r v:=by
 cases r with
 |val d=>exact Rp.mono (l.ext ok) h
 | own d=>
   obtain⟨p,c,a,b,e⟩:=h;obtain⟨o,j,_⟩:=a.obj;refine⟨p,c,a.mono (l.ext ok) λo h=>l.fr p o h λz=>b z.nv,λz=>?_,e⟩;rcases l.nv p z with q|q;exact b q
   lia
 | slot i=>
   obtain⟨f,s,g⟩:=h;exact⟨f,l.kp i s g⟩
abbrev DE:=Sg->Option (kN×Sg)
abbrev DT:=Sg->Option (Bool×Sg)
abbrev DA:=Sg->Option (List kN×Sg)
inductive Ag(Γ:Gm)(H:Hp)(Z:Sg)(σV:St):List kN->List V->Prop
 |nil:Ag Γ H Z σV [] []
 |cons {r:kN} {rs:List kN} {v:V} {vs:List V}:gC Γ H Z σV r v->Ag Γ H Z σV rs vs->(∀d p,r=.own d->v=.ref p->∀(j:Nat) d',rs[j]?=some (.own d')->vs[j]? ≠ some (.ref p))->Ag Γ H Z σV (r::rs) (v::vs)
def EU(H:Hp)(r:kN)(v:V):Prop:=∀d p,r=.own d->v=.ref p->H p=none
def eU:EU H (.val d) v:=λ_ _ e=>nomatch e
def EU.back(f:EU c r v)(s:hF Z h H b a c):EU H r v:=λd p e g=>s.dom p (f d p e g)
def Bd(d:Gm)(r:DE):TE:=λa H Q=>∃Z,dY d H Z a/\∃c b,r Z=some (c,b) /\
 ∀v h,dY d h b a->gC d h b a c v->hF Z a H b a h->EU H c v->Q v h
def Bq(h:PE X e t)(w:∀Z H Q,T Z H Q->t Z H Q):PE X e T:=λp s Z H Q I q=>h p s Z H Q I (w Z H Q q)
def Kg(h:PT X e t)(w:∀Z H Q,T Z H Q->t Z H Q):PT X e T:=λp s Z H Q I q=>h p s Z H Q I (w Z H Q q)
def Uu(h:PW X e t)(w:∀Z H Q,T Z H Q->t Z H Q):PW X e T:=λa p s Z H Q I q=>h a p s Z H Q I (w Z H Q q)
def Mu(h:PA X e t)(w:∀Z H Q,T Z H Q->t Z H Q):PA X e T:=λa p s Z H Q I q=>h a p s Z H Q I (w Z H Q q)
def Cd(h:PS X e t)(w:∀D Z H,T D Z H->t D Z H):PS X e T:=λp s Z H D I q=>h p s Z H D I (w D Z H q)
def Gw(h:BB X e t)(w:∀D Z H,T D Z H->t D Z H):BB X e T:=λp s Z H D I q=>h p s Z H D I (w D Z H q)
structure GE(X:Cx)(e:Expr)(r:DE):Prop where
 to:∀Γ,PE X e (Bd Γ r)
def Cw(d:Gm)(r:DT):TT:=λa H Q=>∃Z,dY d H Z a/\∃b c,r Z=some (b,c)/\∀h,dY d h c a->hF Z a H c a h->Q b h
structure GT(X:Cx)(e:Expr)(r:DT):Prop where
 to:∀Γ,PT X e (Cw Γ r)
structure GW(X:Cx)(e:Expr)(r:DT):Prop where
 to:∀Γ,PW X e (Cw Γ r)
def GW.gt(h:GW X e r):GT X e r:=.mk λa=>(h.to a).pt
def Uv(H:Hp)(r:List kN)(v:List V):Prop:=∀(j:Nat) d p,r[j]?=some (.own d)->v[j]?=some (.ref p)->H p=none
def BX(c:Gm)(r:DA):TA:=λa H Q=>∃Z,dY c H Z a/\∃d b,r Z=some (d,b)/\∀v h,dY c h b a->Ag c h b a d v->hF Z a H b a h->Uv H d v->Q v h
structure GA(X:Cx)(es:List Expr)(r:DA):Prop where
 to:∀Γ,PA X es (BX Γ r)
noncomputable def aC(i:Nat):DE:=λZ=>match Z[i]? with
 |some (some s)=>some (if s.m=.val then .val s.d else .slot i,Z)
 |_=>none
def Uw(h:PE X e (mD i)):GE X e (aC i):=.mk λl=>Bq h λf H Q z=>by
 obtain⟨Z,o,j,g,e,k⟩:=z;unfold aC at e;split at e;rename_i s c;cases e;obtain⟨v,a,r⟩:=o.rel i s c;refine⟨v,a,k v H o ?_ .refl (by split<;>exact λ_ _ e=>nomatch e)⟩;by_cases b:s.m=.val;obtain⟨m,d⟩:=s;cases b;exact r;rw[a0m b];exact⟨a,s,c⟩;cases e
noncomputable def dC(d:D):DE:=λZ=>some (.val d,Z)
def Kh(h:PE X e (tC v))(a:∀H,Rp H d v):GE X e (dC d):=.mk λf=>Bq h λb H Q z=>by
 obtain⟨Z,o,r,c,e,k⟩:=z;cases e;exact k v H o (a H) .refl eU
def Ux:GE X (.Constant (.int i) j pos) (dC (.int i)):=Kh QI λ_=>.int i
def Uy:GE X (.Constant (.bool i) j pos) (dC (.bl i)):=Kh QJ λ_=>.bl i
def Uz:GE X (.Constant (.str i) j pos) (dC (.str i)):=Kh Lx λ_=>.str i
def vC(H h:Hp)(r:kN)(v:V):Prop:=match r with
 |.val d=>Rp h d v
 |.own d=>∃p,v=.ref p/\H p=none/\cE h d p
 |.slot _=>False
def vC.frh(h:vC H f r v):EU H r v:=λd p a b=>by
 subst a b;obtain⟨q,e,c,_⟩:=h
 lia
def vC.res(h:vC H j r v)(ok:dY g H Z f):gC g j Z f r v:=by
 cases r with
 |val d=>exact h
 | own d=>
   obtain⟨p,a,b,c⟩:=h;refine⟨p,a,c,λz=>?_,ok.dom p b⟩;obtain⟨o,e,_⟩:=ok.mutObj z
   lia
 |slot i=>exact h.elim
abbrev F1:=D->Option kN
abbrev F2:=D->D->Option kN
abbrev FN:=List D->Option kN
def UA(a:V->Hp->VK->Prop)(f:F1):Prop:=∀H d x Q r,AV H d x->f d=some r->(∀v h,lG H h->vC H h r v->Q v h)->a x H Q
def oH(c:R2)(f:F2):Prop:=∀H a b x y Q r,AV H a x->AV H b y->f a b=some r->(∀v h,lG H h->vC H h r v->Q v h)->c x y H Q
def vW(b:List V->Hp->VK->Prop)(f:FN):Prop:=∀H a c Q r,ET H a c->f a=some r->(∀v h,lG H h->vC H h r v->Q v h)->b c H Q
def HG(f:F1)(a:DE):DE:=λZ=>(a Z).bind λx=>(rd x.2 x.1).bind λd=>(f d).bind λr=>some (r,x.2)
def aJ(f:F2)(a b:DE):DE:=λZ=>(a Z).bind λx=>(b x.2).bind λy=>(rd y.2 x.1).bind λd=>(rd y.2 y.1).bind λe=>(f d e).bind λr=>some (r,y.2)
def aB{c d:Type}{o:Option c}{f:c->Option d}{b:d}(h:o.bind f=some b):∃a,o=some a/\f a=some b:=by
 cases o with
 |none=>cases h
 |some a=>exact⟨a,rfl,h⟩
def iS(q:oH l f)(h:Bd L (aJ f m n) J H Q):Ei l (Bd L m) (Bd L n) J H Q:=by
 obtain⟨Z,O,N,M,e,k⟩:=h;obtain⟨⟨x,c⟩,s,e⟩:=aB e;obtain⟨⟨y,i⟩,t,e⟩:=aB e;obtain⟨u,w,e⟩:=aB e;obtain⟨z,A,e⟩:=aB e;obtain⟨r,B,e⟩:=aB e;cases e;refine⟨Z,O,x,c,s,λC I d D g _=>⟨c,d,y,i,t,λE F a G b _=>?_⟩⟩;have j:=D.step d b;refine q F u z C E Q _ (j.vw a w) (G.vw a A) B λv T o p=>?_;exact k v T (a.same o) (p.res a) ((g.trans b).trans (.same o)) (p.frh.back (g.trans b))
def nA(e:Ar X (binaryOp c) d)(g:oH d f)(H:GE X a i)(hb:GE X b r):GE X (.BinOp a c b pos) (aJ f i r):=
 .mk λh=>Bq (Rn e (H.to h) (hb.to h)) λ_ _ _=>iS g
def tL(e:Ar X (compareOp c) d)(g:oH d f)(H:GE X a j)(hb:GE X b r)(h:behindInMarks c b=false):GE X (.Compare a [c] [b] pos) (aJ f j r):=
 .mk λi=>Bq (Rx e (H.to i) (hb.to i) h) λ_ _ _=>iS g
def cJ(r:DE):DT:=λZ=>(r Z).bind λx=>(rd x.2 x.1).bind λd=>match d with
 |.bl b=>some (b,x.2)
 |_=>none
def zK(h:cJ r Z=some (b,g)):∃x,r Z=some (x,g)/\rd g x=some (.bl b):=by
 obtain⟨⟨x,a⟩,c,e⟩:=aB h;obtain⟨d,f,e⟩:=aB e;split at e
 ·simp_all
 ·cases e
def ID(h:AV H (.bl b) v):v=.bl b:=by
 rcases h with h|⟨p,_,h⟩;cases h;rfl;exact h.elim
def zL(h:Cw l (cJ r) g H Q):Bd l r g H (λx j=>∃k,x=.bl k/\Q k j):=by
 obtain⟨Z,o,b,i,e,k⟩:=h;obtain⟨x,c,d⟩:=zK e;refine⟨Z,o,x,i,c,λv j a f s _=>⟨b,ID (f.vw a d),k j a s⟩⟩
def pD(e:Ar X (compareOp c) d)(g:oH d f)(l:GE X a k)(hb:GE X b r)(i:behindInMarks c b=false):GT X (.Compare a [c] [b] pos) (cJ (aJ f k r)):=
 .mk λj=>Kg (Rz e (l.to j) (hb.to j) i) λZ H Q h=>iS g (zL h)
def UB(h:GE X e r)(b:∀a,isTrue e X.env a=(do let v ← a;standAt e.pos;holding [v] (truthy v)):=by intro _;rfl):GT X e (cJ r):=
 .mk λc=>Kg (QL (h.to c) b) λ_ _ _ h=>zL h
noncomputable def Ki:D->Option Bool
 |.non=>some false
 |.bl b=>some b
 |.int i=>some (i != 0)
 |.str x=>if x.length<=sizeLine then some ((x.length:Int) != 0)else none
 |.lst l|.tup l=>some (!l.isEmpty)
 |_=>none
def HH(r:DE):DT:=λZ=>(r Z).bind λx=>(rd x.2 x.1).bind λd=>(Ki d).bind λb=>some (b,x.2)
def fJ(h:AV H (.tup l) v):∃ p xs,v=.ref p/\H p=some (.tup xs)/\Rps H l xs:=by
 rcases h with h|⟨p,_,h⟩
 ·cases h with
  |tup h r=>exact⟨_,_,rfl,h,r⟩
 ·exact h.elim
def cY(h:AV H (.lst l) v):∃ p xs,v=.ref p/\cG H p=some (true,xs)/\Rps H l xs:=by
 rcases h with h|⟨p,e,xs,h,r⟩
 ·cases h with
  |lst h r=>exact⟨_,_,rfl,mE h,r⟩
 ·exact⟨p,xs,e,zB h,r⟩
def cA(h:AV H (.int i) v):v=.int i:=by
 rcases h with h|⟨p,_,h⟩;cases h;rfl;exact h.elim
def iF(h:AV H (.str i) v):v=.str i:=by
 rcases h with h|⟨p,_,h⟩;cases h;rfl;exact h.elim
def UC(h:AV H .non v):v=.non:=by
 rcases h with h|⟨p,_,h⟩;cases h;rfl;exact h.elim
noncomputable def Dk:D->Option (Bool×List D)
 |.lst l=>some (true,l)
 |.tup l=>some (false,l)
 |_=>none
def zM(h:AV H d v)(e:Dk d=some (b,l)):∃p xs,v=.ref p/\cG H p=some (b,xs)/\Rps H l xs:=by
 cases d with
 |lst a=>cases e;exact cY h
 |tup a=>cases e;obtain⟨p,xs,c,f,g⟩:=fJ h;exact⟨p,xs,c,bL f,g⟩
 |_=>cases e
def UD(J:GE X a I)(o:∀f,isTrue a X.env f=(do let v ← f;standAt a.pos;holding [v] (truthy v))):GT X a (HH I):=.mk λE=>Kg (RF (J.to E) o) λB H Q L=>by
 obtain⟨Z,O,b,C,e,k⟩:=L;obtain⟨⟨x,q⟩,r,e⟩:=aB e;obtain⟨d,s,e⟩:=aB e;obtain⟨t,g,e⟩:=aB e;cases e;refine⟨Z,O,x,_,r,λv M h u G _=>⟨b,?_,k M h G⟩⟩;have y:=u.vw h s;cases d with
 |non=>cases g;rw[UC y];rfl
 |bl c=>cases g;rw[ID y];rfl
 |int i=>cases g;rw[cA y];rfl
 | str z=>
   rw[iF y];have j:(if z.length<=sizeLine then some ((z.length:Int) != 0)else none)=some b:=g;split at j;rename_i w;cases j;exact⟨w,rfl⟩
   simp_all
 | lst l=>
   cases g;obtain⟨p,A,rfl,m,n⟩:=cY y;refine .inl ⟨A,dE m,?_⟩;have:=n.length;cases l<;>cases A<;>simp_all
 | tup l=>
   cases g;obtain⟨p,A,rfl,m,n⟩:=fJ y;refine .inr (.inl ⟨A,cX (bL m),?_⟩);have:=n.length;cases l<;>cases A<;>simp_all
 |dic T N=>cases g
noncomputable def Dl(t u:DT):DT:=λZ=>(t Z).bind λx=>if x.1=true then u x.2 else some (false,x.2)
def UE(h:GT X a t):GW X (.BoolOp .And [a] pos) t:=.mk λb=>QN (h.to b)
def UG{t:DT}{q:List Expr}(s:GT X a T)(hb:GW X (.BoolOp .And (b::q) pos) t):GW X (.BoolOp .And (a::b::q) pos) (Dl T t):=.mk λp=>Uu (QO (s.to p) (hb.to p)) λr H Q z=>by
 obtain⟨Z,O,c,o,e,k⟩:=z;obtain⟨⟨x,d⟩,j,e⟩:=aB e;refine⟨Z,O,x,d,j,λn f g=>?_⟩;split at e;rename_i l;rw[eH l];exact⟨d,f,c,o,e,λm h i=>k m h (g.trans i)⟩
 simp_all
def Gx(t u:DE):DE:=λZ=>(cJ t Z).bind λx=>if x.1=true then u x.2 else some (.val (.bl false),x.2)
def UH(h:GE X a r):GE X (.BoolOp o [a] pos) r:=.mk λb=>QQ (h.to b)
def UI{z:List Expr}(E:GE X a C)(hb:GE X (.BoolOp .And (b::z) pos) B):GE X (.BoolOp .And (a::b::z) pos) (Gx C B):=.mk λw=>Bq (QR (E.to w) (hb.to w)) λA H Q G=>by
 obtain⟨Z,O,c,u,e,k⟩:=G;obtain⟨⟨x,g⟩,l,e⟩:=aB e;obtain⟨y,m,n⟩:=zK l;refine⟨Z,O,y,g,m,λv o d p f _=>⟨x,ID (p.vw d n),?_⟩⟩;split at e;rename_i h;rw[eH h];exact⟨g,d,c,u,e,λq r i s j t=>k q r i s (f.trans j) (t.back f)⟩;rename_i h;rw[a0m h];cases e;exact k _ o d (.bl false) f eU
noncomputable def FD(t:DT)(a r:DE):DE:=λZ=>(t Z).bind λx=>if x.1=true then a x.2 else r x.2
def UJ(hc:GT X c T)(y:GE X a w)(hb:GE X b v):GE X (.IfExp c a b pos) (FD T w v):=.mk λt=>Bq (QV (hc.to t) (y.to t) (hb.to t)) λu H Q z=>by
 obtain⟨Z,O,r,s,e,k⟩:=z;obtain⟨⟨x,f⟩,p,e⟩:=aB e;refine⟨Z,O,x,f,p,λq i d=>?_⟩;split at e;rename_i j;rw[eH j];exact⟨f,i,r,s,e,λl m g n h o=>k l m g n (d.trans h) (o.back d)⟩;rename_i j;rw[a0m j];exact⟨f,i,r,s,e,λl m g n h o=>k l m g n (d.trans h) (o.back d)⟩
def Fz:HO->Prop
 |.lst _|.dK _|.dT _|.dM _=>True
 |_=>False
def vX{Z:St}(I:dX X A Z H s)(h:H p=some u)(d:Fz u):∃ o,dX X A Z (gV H p (.frz o u)) s:=by
 have E:∀b w,H b=some (.tup w)->b≠p:=λb w e z=>by subst z;rw[h]at e;cases e;exact d
 have i:∀b o x,H b=some (.frz o x)->b≠p:=λb o x e z=>by subst z;rw[h]at e;cases e;exact d
 have L:∀b x,H b=some (.own x)->b≠p:=λb x e z=>by subst z;rw[h]at e;cases e;exact d
 have M:∀b x,H b=some (.tbl x)->b≠p:=λb x e z=>by subst z;rw[h]at e;cases e;exact d
 have N:∀b,H b=none->b≠p:=λb e z=>by lia
 obtain⟨o,j⟩:∃ o,s.heap.get? p=some o:=by
  have:=I.hok p u h;have l:=this.lt;cases q:s.heap.get? p with
  |some o=>exact⟨o,rfl⟩
  | none=>
    cases u with
    |lst w=>obtain⟨_,_,_,_,e⟩:=this;rw[q]at e;cases e
    |dK B|dT B|dM B=>obtain⟨_,_,_,_,O,_,_,e,_⟩:=this;rw[q]at e;cases e
    |_=>exact d.elim
 have C:∀a x,cH X.prog X.w H s.heap a x->cH X.prog X.w (gV H p (.frz o u)) s.heap a x:=λa x k=>
  k.stay (λ_ _ _ e=>e) (λb e=>by rw[aF (L b _ e)];exact e) λb w e=>by rw[aF (E b _ e)];exact e
 refine⟨o,{I with base:=?_,free:=?_,freeC:=?_,pin:=?_,hok:=?_}⟩
 ·exact⟨I.base.keep,I.base.slot,λb O q n r=>by
    have:=I.base.free b O q n r;rw[aF (N b this)];exact this,I.base.there,λb w e=>by
    have:=I.base.tups b w e;rw[aF (E b _ this)];exact this,λb O x e=>by
    have:=I.base.frzs b O x e;rw[aF (i b _ _ this)];exact this,λb J e=>by
    obtain⟨m,f⟩:=I.base.tbls b J e;exact⟨m,by rw[aF (M b _ f)];exact f⟩⟩
 ·rw[aF (N _ I.free)];exact I.free
 ·intro x c e;rw[aF (N _ (I.freeC x c e))];exact I.freeC x c e
 ·intro q t;obtain⟨v,g,y⟩:=I.pin q t;exact⟨v,by rw[aF (N _ g)];exact g,y⟩
 ·intro a x e;by_cases G:a=p;subst G;rw[aH]at e;cases e;exact⟨j,C a u (I.hok a u h)⟩;rw[aF G]at e;exact C a x (I.hok a x e)
def UL(t:TE):TE:=λZ H Q=>t Z H λv h=>Q v h\/∃p u,v=.ref p/\h p=some u/\Fz u/\∀o,Q v (gV h p (.frz o u))
def UM(h:PE X e t):PE X e (UL t):=λk s Z H Q I q=>
 thn (h k s Z H _ I q) λu l z=>by
  obtain⟨v,d,b,c,a⟩:=z;rcases a with a|⟨p,x,j,f,g,a⟩;exact⟨v,d,b,c,a⟩;obtain⟨o,i⟩:=vX b f g;exact⟨v,_,i,c,a o⟩
def Mv(h:cE H d p):∃ u,H p=some u/\Fz u/\∀ o f,Bb H f->f p=some (.frz o u)->Rp f d (.ref p):=by
 unfold cE at h;split at h;obtain⟨g,b,a⟩:=h;exact⟨_,b,True.intro,λo f x e=>.lst e (a.mono x)⟩
 ·obtain⟨u,w,b,a,c⟩:=h;refine⟨u,b,?_,λo f x e=>.dic e a (c.mono x)⟩;cases u with
  |dK _|dT _|dM _=>exact True.intro
  |_=>exact a.elim
 simp_all
def Mw(h:H p=some u)(a:Fz u):Bb H (gV H p (.frz o u)):=
 ⟨λb c e=>by rw[aF (λz=>by subst z;rw[h]at e;cases e;exact a)];exact e,λb O x e=>by rw[aF (λz=>by subst z;rw[h]at e;cases e;exact a)];exact e⟩
noncomputable def Mx(Z:Sg):kN->Option (D×Sg)
 |.val d|.own d=>some (d,Z)
 | .slot i=>match Z[i]? with
   |some (some s)=>if s.m=.own then some (s.d,Z.set i (some ⟨.val,s.d⟩))else if s.m=.val then some (s.d,Z)else none
   |_=>none
def hJ(r:DE):DE:=λZ=>(r Z).bind λx=>(Mx x.2 x.1).bind λy=>some (.val y.1,y.2)
def aQ{a:Type}{l:List a}{x y:a}(h:(l.set i x)[j]?=some y):(j=i/\y=x/\i<l.length)\/(j≠i/\l[j]?=some y):=by
 rw[List.getElem?_set]at h;split at h
 ·simp_all
 ·rename_i e;exact .inr ⟨λz=>e z.symm,h⟩
def UN(h:GE X e r):GE X e (hJ r):=.mk λΓ=>Bq (UM (h.to Γ)) λσV H Q Z1=>by
 obtain⟨Z,ok,res,σ',e,k⟩:=Z1;obtain⟨⟨x,O⟩,V,e⟩:=aB e;obtain⟨⟨d,M⟩,C,e⟩:=aB e;cases e;refine⟨Z,ok,x,O,V,λv T b A c W=>?_⟩;dsimp only at C;cases x with
 |val d'=>cases C;exact .inl (k v T b A c eU)
 | own d'=>
   cases C;obtain⟨p,rfl,N,Y,σ⟩:=A;obtain⟨u,F,G,π⟩:=Mv N;have hn:H p=none:=W _ p rfl rfl;refine .inr ⟨p,u,rfl,F,G,λo=>?_⟩;have x:=Mw (o:=o) F G;refine k _ _ ⟨λi s e=>?_,b.dis,b.own,b.par,λa ob e n=>?_,λa e=>?_,b.len⟩ (π o _ x aH) ⟨λa ob e n=>?_,λa e=>?_,c.mu,c.nv,c.kp,c.fix,c.lt⟩ eU;obtain⟨w,D,B⟩:=b.rel i s e;refine⟨w,D,B.mono x λq ob P m C=>?_⟩;rw[aF (λz=>Y ⟨i,s,e,m,by rw[D,P,z]⟩)];exact C;rw[aF (λz=>by subst z;rw[σ]at e;cases e)];exact b.keep a ob e n;by_cases z:a=p;subst z;rw[aH]at e;cases e;rw[aF z]at e;exact b.dom a e;rw[aF (λz=>by subst z;rw[hn]at e;cases e)];exact c.fr a ob e n;by_cases z:a=p;subst z;rw[aH]at e;cases e;rw[aF z]at e;exact c.dom a e
 | slot i=>
   obtain⟨A,s,hs⟩:=A;have g:(match O[i]? with|some (some s)=>if s.m=.own then some (s.d,O.set i (some ⟨.val,s.d⟩))else if s.m=.val then some (s.d,O)else none|_=>none)=some (d,M):=C;rw[hs]at g;dsimp only at g;obtain⟨w,D,B⟩:=b.rel i s hs;rw[A]at D;cases D;split at g
   ·rename_i I;cases g;obtain⟨m,d⟩:=s;cases I;obtain⟨p,rfl,N⟩:=(cV (s:=⟨.own,d⟩) (λz=>nomatch z)).mp B;obtain⟨u,F,G,π⟩:=Mv N;refine .inr ⟨p,u,rfl,F,G,λo=>?_⟩;have x:=Mw (o:=o) F G;have U:=π o _ x aH;have il:i < O.length:=(hR.mp hs).1;have pm:hZ O σV p:=⟨i,_,hs,rfl,A⟩;have sub:∀ (j:Nat) t,(O.set i (some ⟨.val,d⟩))[j]? = some (some t)->t.m≠.val->j≠i/\O[j]? = some (some t):=λj t f I=>by
     rcases aQ f with⟨_,z,_⟩|z;cases z;exact absurd rfl I;exact z
    have J:∀t:Sl,t.m.mt=true->t.m≠.val:=λt h z=>by rw[z]at h;cases h
    refine k _ _ ⟨λj t f=>?_,λj l t E q n f el m m'=>?_,λj t q f m=>?_,λj t q f m=>?_,λa ob e n=>?_,λa e=>?_,?_⟩ U
     ⟨λa ob e n=>?_,λa e=>?_,λa ⟨j,t,f,m,R⟩=>?_,λa ⟨j,t,f,m,R⟩=>?_,λj t f=>?_,λj t f m=>?_,λj t f m=>c.lt j t (sub j t f (by rw[m];exact λz=>nomatch z)).2 m⟩ eU
    ·rcases aQ f with⟨z,L,_⟩|⟨z,L⟩;cases L;rw[z];exact⟨_,A,U⟩;obtain⟨w,D,S⟩:=b.rel j t L;refine⟨w,D,S.mono x λq ob P m C=>?_⟩;rw[aF (λy=>b.dis i j _ t p (oI z) hs L rfl m A (by rw[D,P,y]))];exact C
    ·exact b.dis j l t E q n (sub j t f (J t m)).2 (sub l E el m').2 m m'
    ·exact b.own j t q (sub j t f (by rw[m];exact λz=>nomatch z)).2 m
    ·exact b.par j t q (sub j t f (by rw[m];exact λz=>nomatch z)).2 m
    ·have hp:=b.own i _ p hs rfl A;rw[aF (λz=>by subst z;rw[hp]at e;cases e)];exact b.keep a ob e n
    ·by_cases z:a=p;subst z;rw[aH]at e;cases e;rw[aF z]at e;exact b.dom a e
    ·rw[CS];exact b.len
    ·by_cases z:a=p;subst z;rcases c.mu a pm with y|y;exact absurd y n;rw[e]at y;cases y;rw[aF z];exact c.fr a ob e n
    ·by_cases z:a=p;subst z;rw[aH]at e;cases e;rw[aF z]at e;exact c.dom a e
    ·exact c.mu a ⟨j,t,(sub j t f (J t m)).2,m,R⟩
    ·exact c.nv a ⟨j,t,(sub j t f m).2,m,R⟩
    ·obtain⟨E,K⟩:=c.kp j t f;by_cases z:j=i;subst z;exact⟨_,by rw[Bo il]⟩;exact⟨E,by rw[Ae (oI z)];exact K⟩
    ·obtain⟨E,K,h⟩:=c.fix j t f m;refine⟨E,?_,h⟩;rw[Ae (λz=>?_)];exact K;subst z;rw[hs]at K;cases K;rcases m with m|m;have:=h.1;rw[m]at this;cases this;have:=h.1;rw[m]at this;cases this
   ·split at g;rename_i I;cases g;obtain⟨m,d⟩:=s;cases I;exact .inl (k v T b B c eU);cases g
noncomputable def aE:DA:=λZ=>some ([],Z)
noncomputable def aA(r:DE)(a:DA):DA:=λZ=>(r Z).bind λx=>(a x.2).bind λy=>some (x.1::y.1,y.2)
def FE(Z:Sg):List kN->Option (List D)
 |[]=>some []
 |r::b=>(rd Z r).bind λd=>(FE Z b).bind λa=>some (d::a)
noncomputable def vals:List kN->Option (List D)
 |[]=>some []
 |.val d::r=>(vals r).bind λa=>some (d::a)
 |_=>none
def vY(ok:dY g H Z c)(h:Ag g H Z c r v)(e:FE Z r=some f):ET H f v:=by
 induction h generalizing f with
 |nil=>cases e;exact .nil
 | cons h _ _ i=>
   obtain⟨d,a,e⟩:=aB e;obtain⟨f,b,e⟩:=aB e;cases e;exact .cons (h.vw ok a) (i b)
def jV(h:Ag g H Z c f v)(e:vals f=some b):Rps H b v:=by
 induction h generalizing b with
 |nil=>cases e;exact .nil
 | @cons r _ _ _ h _ _ i=>
   cases r with
   | val d=>
     obtain⟨b,a,e⟩:=aB e;cases e;exact .cons h (i a)
   |_=>cases e
def My:GA X [] aE:=.mk λc=>Mu JS λa H Q z=>by
 obtain⟨Z,o,r,b,e,k⟩:=z;cases e;exact k [] H o .nil .refl (λj d p e=>by simp)
def Mz(ha:GE X e r)(n:GA X G N)(hs:starEach (e::G) X.env=(false,eval e X.env)::starEach G X.env:=by kernel_rfl):GA X (e::G) (aA r N):=.mk λI=>Mu (LP (ha.to I) (n.to I) hs) λJ H Q Z1=>by
 obtain⟨Z,U,O,L,e,k⟩:=Z1;obtain⟨⟨x,a⟩,s,e⟩:=aB e;obtain⟨⟨Y,t⟩,u,e⟩:=aB e;cases e;refine⟨Z,U,x,a,s,λv C b l c w=>⟨a,b,Y,_,u,λM y i z f m=>?_⟩⟩;refine k (v::M) y i (.cons (l.step b f) z λd p g h j d' A B=>?_) (c.trans f) λj d p g h=>?_
 ·subst g h;obtain⟨q,D,T,_⟩:=l;obtain⟨o,E,_⟩:=T.obj;have:=m j d' p A B
  lia
 ·cases j with
  |zero=>simp at g h;subst g h;exact w d p rfl rfl
  |succ j=>exact c.dom p (m j d p (by simp_all) (by simp_all))
def hB(f:FN)(a:DA):DE:=λZ=>(a Z).bind λx=>(FE x.2 x.1).bind λb=>(f b).bind λr=>some (r,x.2)
def jW(j:vW c f)(h:∀u,PE X e (Gs c (BX u d))):GE X e (hB f d):=.mk λu=>Bq (h u) λw H Q B=>by
 obtain⟨Z,O,A,y,e,k⟩:=B;obtain⟨⟨x,l⟩,m,e⟩:=aB e;obtain⟨n,o,e⟩:=aB e;obtain⟨r,p,e⟩:=aB e;cases e;refine⟨Z,O,x,_,m,λz q a s b t=>?_⟩;refine j q n z Q _ (vY a s o) p λv C g i=>?_;exact k v C (a.same g) (i.res a) (b.trans (.same g)) (i.frh.back b)
def pE(b:DA):DE:=λZ=>(b Z).bind λx=>(vals x.1).bind λa=>if a.length<=sizeLine then some (.val (.tup a),x.2)else none
def fT(b:DA):DE:=λZ=>(b Z).bind λx=>(vals x.1).bind λa=>if a.length<=sizeLine then some (.own (.lst a),x.2)else none
def UO(h:GA X E w):GE X (.Tuple E g pos) (pE w):=.mk λu=>Bq (RM (h.to u)) λs H Q z=>by
 obtain⟨Z,O,y,t,e,k⟩:=z;obtain⟨⟨x,i⟩,j,e⟩:=aB e;obtain⟨q,l,e⟩:=aB e;split at e;rename_i m;cases e;refine⟨Z,O,x,_,j,λv d a n b r=>?_⟩;have f:=jV n l;refine⟨by rw[← f.length];exact m,λp o=>?_⟩;have c:lG d (gV d p (.tup v)):=aN o;exact k _ _ (a.same c) (.tup aH (f.mono (.same c))) (b.trans (.same c)) eU;cases e
def UP(h:GA X E w):GE X (.List E pos) (fT w):=.mk λu=>Bq (LQ (h.to u)) λs H Q z=>by
 obtain⟨Z,O,y,t,e,k⟩:=z;obtain⟨⟨x,j⟩,l,e⟩:=aB e;obtain⟨m,n,e⟩:=aB e;split at e;rename_i o;cases e;refine⟨Z,O,x,_,l,λv c a q b r=>?_⟩;have f:=jV q n;refine⟨by rw[← f.length];exact o,λp g=>?_⟩;have d:lG c (gV c p (.lst v)):=aN g;have i:vC c (gV c p (.lst v)) (.own (.lst m)) (.ref p):=⟨p,rfl,g,v,aH,f.mono (.same d)⟩;exact k _ _ (a.same d) (i.res a) (b.trans (.same d)) (i.frh.back b);cases e
def dY.ownAt{i:Nat}(ok:dY d H Z c)(h:Z[i]?=some (some s))(a:s.m≠.val):∃p,c[i]?=some (some (.ref p))/\cE H s.d p:=by
 obtain⟨v,e,r⟩:=ok.rel i s h;obtain⟨p,rfl,b⟩:=(cV a).mp r;exact⟨p,e,b⟩
def fU{m:Md}(h:m.mt=true):m≠.val:=λz=>by rw[z]at h;cases h
def cE.ext(h:cE H d p):Bb H (gV H p o'):=by
 obtain⟨o,e,N,n⟩:=h.obj;exact⟨λb a q=>by rw[aF (λz=>by grind)];exact q,λb O x q=>by rw[aF (λz=>by grind)];exact q⟩
def dY.write(ok:dY Q H Z M)(N:Z[i]? = some (some s))(g:s.m.mt=true)(k:M[i]? = some (some (.ref p)))(U:cE (gV H p o') d' p) :
  dY Q (gV H p o') (Z.set i (some ⟨s.m,d'⟩)) M/\hF Z M H (Z.set i (some ⟨s.m,d'⟩)) M (gV H p o'):=by
 obtain⟨K,A,r⟩:=ok.ownAt N (fU g);rw[k]at A;cases A;have x:Bb H (gV H p o'):=r.ext;have B:i<Z.length:=(hR.mp N).1;have L:∀(j:Nat) t,(Z.set i (some ⟨s.m,d'⟩))[j]?=some (some t)->∃T,Z[j]?=some (some T)/\T.m=t.m:=λj t b=>by
  rcases aQ b with⟨z,h,_⟩|⟨z,h⟩;cases h;subst z;exact⟨s,N,rfl⟩;exact⟨t,h,rfl⟩
 refine⟨⟨λj t b=>?_,λj l t T q n b D m Y=>?_,λj t q b m=>?_,λj t q b m=>?_,λa O e n=>?_,λa e=>?_,by rw[CS];exact ok.len⟩,
  ⟨λa O e n=>?_,λa e=>?_,λa ⟨j,t,b,m,u⟩=>?_,λa ⟨j,t,b,m,u⟩=>?_,λj t b=>?_,λj t b m=>?_,λj t b m=>?_⟩⟩
 ·rcases aQ b with⟨z,h,_⟩|⟨z,h⟩;cases h;subst z;exact⟨_,k,(cV (s:=⟨s.m,d'⟩) (fU g)).mpr ⟨p,rfl,U⟩⟩;obtain⟨w,C,v⟩:=ok.rel j t h;refine⟨w,C,v.mono x λq O E m F=>?_⟩;rw[aF (λy=>ok.dis i j _ t p (oI z) N h g m k (by rw[C,E,y]))];exact F
 ·obtain⟨c,d,f⟩:=L j t b;obtain⟨G,I,J⟩:=L l T D;exact ok.dis j l c G q n d I (by rw[f];exact m) (by rw[J];exact Y)
 ·obtain⟨c,d,f⟩:=L j t b;exact ok.own j c q d (f.trans m)
 ·obtain⟨c,d,f⟩:=L j t b;exact ok.par j c q d (f.trans m)
 ·have:a≠p:=λz=>by
   subst z;cases o:s.m with
   |own=>rw[ok.own i s a N o k]at e;cases e
   |par=>exact n (ok.par i s a N o k)
   |val|lent=>rw[o]at g;cases g
  rw[aF this];exact ok.keep a O e n
 ·by_cases z:a=p;subst z;rw[aH]at e;cases e;rw[aF z]at e;exact ok.dom a e
 ·rw[aF (λz=>n ⟨i,s,N,g,by rw[z];exact k⟩)];exact e
 ·by_cases z:a=p;subst z;rw[aH]at e;cases e;rw[aF z]at e;exact e
 ·obtain⟨c,d,f⟩:=L j t b;exact .inl ⟨j,c,d,by rw[f];exact m,u⟩
 ·obtain⟨c,d,f⟩:=L j t b;exact .inl ⟨j,c,d,by rw[f];exact m,u⟩
 ·by_cases z:j=i;subst z;exact⟨_,by rw[Bo B]⟩;exact⟨t,by rw[Ae (oI z)];exact b⟩
 ·by_cases z:j=i;subst z;rw[N]at b;cases b;exact⟨⟨s.m,d'⟩,by rw[Bo B],rfl,λq=>(by rw[q]at g;cases g),rfl⟩;exact⟨t,by rw[Ae (oI z)];exact b,rfl,λ_=>rfl,rfl⟩
 ·obtain⟨c,d,f⟩:=L j t b;exact⟨c,d,f.trans m⟩
abbrev FM:=D->List D->Option (D×D)
def FF(r:V->List V->Hp->VK->Prop)(f:FM):Prop:=∀H d p a b Q c e,cE H d p->Rps H a b->f d a=some (c,e)->(∀o v,cE (gV H p o) c p->Rp (gV H p o) e v->Q v (gV H p o))->r (.ref p) b H Q
def MA(r:V->List V->Hp->VK->Prop)(f:FM):Prop:=∀H d p a b Q c e,cE H d p->ET H a b->f d a=some (c,e)->(∀o v,cE (gV H p o) c p->Rp (gV H p o) e v->Q v (gV H p o))->r (.ref p) b H Q
def zN(f:FM)(i:Nat)(d:List D)(Z:Sg):Option (kN×Sg):=match Z[i]? with
 |some (some s)=>if s.m.mt=true then(f s.d d).bind λy=>some (.val y.2,Z.set i (some ⟨s.m,y.1⟩))else none
 |_=>none
noncomputable def Em(T:String):D->Bool
 |.lst _=>T=="list"
 |_=>false
def EV(T:String)(i:Nat)(Z:Sg):Bool:=match Z[i]? with
 |some (some s)=>decide (s.m≠.val)&&Em T s.d
 |_=>false
def dF(T:String)(i:Nat)(f:FM)(a:DA):DE:=λZ=>if EV T i Z=true then(a Z).bind λx=>(vals x.1).bind λb=>zN f i b x.2 else none
def lY(T:String)(i:Nat)(f:FM)(a:DA):DE:=λZ=>if EV T i Z=true then(a Z).bind λx=>(FE x.2 x.1).bind λb=>zN f i b x.2 else none
def vZ(T:String)(i:Nat)(f:FM):DE:=λZ=>if EV T i Z=true then zN f i [] Z else none
def Kj(h:cE H d p)(e:Em T d=true):Hz K T (.ref p) H:=by
 unfold cE at h;split at h;obtain⟨x,a,_⟩:=h;exact .inl ⟨by simpa[Em]using e,x,AU.of a⟩;cases e
 simp_all
set_option tactic.hygienic true in
def eZ(h:zN f i j Z=some (res,g)):∃s d e,Z[i]?=some (some s)/\s.m.mt=true/\f s.d j=some (d,e)/\res=.val e/\g=Z.set i (some ⟨s.m,d⟩):=by
 unfold zN at h;split at h;rename_i s H;split at h;rename_i a;obtain⟨⟨d,e⟩,b,c⟩:=aB h;cases c;exact⟨s,d,e,H,a,b,rfl,rfl⟩;cases h;cases h
def mG(h:EV T i Z=true):∃s,Z[i]?=some (some s)/\s.m≠.val/\Em T s.d=true:=by
 unfold EV at h;split at h
 ·simp_all
 ·cases h
def qM(w:FF r f)(h:∀d,PE X e (DP K T r (mD i) (BX d ra))):GE X e (dF T i f ra):=.mk λd=>Bq (h d) λN H Q Z1=>by
 obtain⟨Z,O,res,U,e,k⟩:=Z1;unfold dF at e;split at e;rename_i hn;obtain⟨⟨x,c⟩,z,e⟩:=aB e;obtain⟨A,B,e⟩:=aB e;obtain⟨s,d',y,M,u,C,rfl,rfl⟩:=eZ e;obtain⟨G,g,j,l⟩:=mG hn;obtain⟨p,L,ow⟩:=O.ownAt g j;refine⟨_,L,Kj ow l,Z,O,x,c,z,λY D a E m I=>?_⟩;obtain⟨J,b,n⟩:=a.ownAt M (fU u);rw[L]at b;cases b;refine w D s.d p A Y Q d' y n (jV E B) C λo' v o F=>?_;obtain⟨q,t⟩:=a.write M u L o;exact k v _ q F (m.trans t) eU;cases e
def UQ(w:MA r f)(h:∀d,PE X e (DP K T r (mD i) (BX d ra))):GE X e (lY T i f ra):=.mk λd=>Bq (h d) λN H Q Z1=>by
 obtain⟨Z,O,res,U,e,k⟩:=Z1;unfold lY at e;split at e;rename_i hn;obtain⟨⟨x,c⟩,z,e⟩:=aB e;obtain⟨A,B,e⟩:=aB e;obtain⟨s,d',y,M,u,C,rfl,rfl⟩:=eZ e;obtain⟨G,g,j,l⟩:=mG hn;obtain⟨p,L,ow⟩:=O.ownAt g j;refine⟨_,L,Kj ow l,Z,O,x,c,z,λY D a E m I=>?_⟩;obtain⟨J,b,n⟩:=a.ownAt M (fU u);rw[L]at b;cases b;refine w D s.d p A Y Q d' y n (vY a E B) C λo' v o F=>?_;obtain⟨q,t⟩:=a.write M u L o;exact k v _ q F (m.trans t) eU;cases e
def UR(q:FF r f)(h:PE X e (JV K T r (mD i))):GE X e (vZ T i f):=.mk λL=>Bq h λz H Q J=>by
 obtain⟨Z,O,B,A,e,k⟩:=J;unfold vZ at e;split at e;rename_i G;obtain⟨s,I,y,d,o,t,rfl,rfl⟩:=eZ e;obtain⟨w,b,c,g⟩:=mG G;obtain⟨p,E,C⟩:=O.ownAt b c;refine⟨_,E,Kj C g,?_⟩;obtain⟨x,a,j⟩:=O.ownAt d (fU o);rw[E]at a;cases a;refine q H s.d p [] [] Q I y j .nil t λM v l u=>?_;obtain⟨m,n⟩:=O.write d o E l;exact k v _ m u n eU;cases e
inductive BR where
 |nx (Z:Sg)|rt (r:kN) (Z:Sg)|bk (Z:Sg)|ct (Z:Sg)|ex (c:Str) (f:Option (Str×D)) (Z:Sg)
abbrev DS:=Sg->Option BR
structure Ex where
 ok:Hp->Str->Option (Str×D)->Value->Option Addr->Prop
 to:St->XK
noncomputable def Ex.no:Ex:=⟨λ_ _ _ _ _=>False,λ_ _ _ _=>False⟩
def qN(g:Gm)(E:Ex)(Z:Sg)(e:St)(H:Hp)(o:BR)(D:AG):Prop:=match o with
 |.nx b=>∀a h,dY g h b a->hF Z e H b a h->D.nx a h
 |.rt r b=>∀v a h,dY g h b a->gC g h b a r v->hF Z e H b a h->D.rt v h
 |.bk b=>∀a h,dY g h b a->hF Z e H b a h->D.bk a h
 |.ct b=>∀a h,dY g h b a->hF Z e H b a h->D.ct a h
 |.ex c f b=>∀x d a h,dY g h b a->E.ok h c f x d->hF Z e H b a h->E.to a x d h
def Ba(b:Gm)(E:Ex)(r:DS):TS:=λD a H=>∃Z,dY b H Z a/\∃o,r Z=some o/\qN b E Z a H o D
structure GS(E:Ex)(X:Cx)(s:Stmt)(r:DS):Prop where
 to:∀Γ,PS X s (Ba Γ E r)
structure Cy(E:Ex)(X:Cx)(s:List Stmt)(r:DS):Prop where
 to:∀Γ,BB X s (Ba Γ E r)
def qN.after{D:AG}(h:qN m E Z l H o D)(k:hF Z l H b a e):qN m E b a e o D:=by
 cases o with
 |nx i=>exact λg j O s=>h g j O (k.trans s)
 |rt r i=>exact λv g j O q s=>h v g j O q (k.trans s)
 |bk i | ct i=>exact λg j O s=>h g j O (k.trans s)
 |ex c f i=>exact λx d g j O q s=>h x d g j O q (k.trans s)
noncomputable def dU:DS:=λZ=>some (.nx Z)
noncomputable def aR(a b:DS):DS:=λZ=>(a Z).bind λo=>match o with
 |.nx c=>b c
 |o=>some o
noncomputable def dA(r:DE):DS:=λZ=>(r Z).bind λx=>some (.nx x.2)
noncomputable def iC(r:DE):DS:=λZ=>(r Z).bind λx=>some (.rt x.1 x.2)
noncomputable def jF(c:DT)(a b:DS):DS:=λZ=>(c Z).bind λx=>if x.1=true then a x.2 else b x.2
def US:Cy E X [] dU:=.mk λb=>Gw Ly λD a H z=>by
 obtain⟨Z,O,o,e,k⟩:=z;cases e;exact k a H O .refl
def MB(h:GS E X s a):Cy E X [s] a:=.mk λb=>jD (h.to b)
def UT{D:AG}(h:Ba s E (aR a b) D q H):CG (Ba s E a) (Ba s E b) D q H:=by
 obtain⟨Z,O,o,e,k⟩:=h;obtain⟨j,m,e⟩:=aB e;refine⟨Z,O,j,m,?_⟩;cases j with
 |nx d=>exact λl n g i=>⟨d,g,o,e,k.after i⟩
 |rt r p | bk p | ct p | ex c f p=>cases e;exact k
def zO{f:List Stmt}(h:GS E X s a)(c:Cy E X f b):Cy E X (s::f) (aR a b):=.mk λd=>Gw (eF (h.to d) (c.to d)) λ_ _ _=>UT
def UU(d:GE X e r)(l:swapsWith e none pos.line X.env=pure false:=by rfl):GS E X (.Expr e pos) (dA r):=.mk λj=>Cd (vJ (d.to j) l) λD i H z=>by
 obtain⟨Z,O,o,e,k⟩:=z;obtain⟨⟨x,a⟩,f,e⟩:=aB e;cases e;exact⟨Z,O,x,a,f,λv g b h c _=>k i g b c⟩
def UW(d:GE X e r):GS E X (.Return (some e) pos) (iC r):=.mk λj=>Cd (Lz (d.to j)) λD i H z=>by
 obtain⟨Z,O,o,e,k⟩:=z;obtain⟨⟨x,a⟩,f,e⟩:=aB e;cases e;exact⟨Z,O,x,a,f,λv g b h c _=>k v i g b h c⟩
def UX(hc:GT X c t)(q:Cy E X l a)(hb:Cy E X m b):GS E X (.If c l m pos) (jF t a b):=.mk λn=>Cd (JJ (hc.to n) (q.to n) (hb.to n)) λD p H z=>by
 obtain⟨Z,O,o,e,k⟩:=z;obtain⟨⟨x,d⟩,i,e⟩:=aB e;refine⟨Z,O,x,d,i,λj f g=>?_⟩;split at e;rename_i h;rw[eH h];exact⟨d,f,o,e,k.after g⟩;rename_i h;rw[a0m h];exact⟨d,f,o,e,k.after g⟩
noncomputable def dZ(Z:Sg)(i:Nat):Bool:=match Z[i]? with
 |some none=>true
 |some (some s)=>decide (s.m=.val)||decide (s.m=.own)
 |none=>false
def zP(h:dZ Z i=true):i<Z.length:=by
 unfold dZ at h;split at h;rename_i e;exact(hR.mp e).1;rename_i e;exact(hR.mp e).1;cases h
def UY(h:dZ Z i=true)(H:Z[i]?=some (some s)):s.m=.val\/s.m=.own:=by
 unfold dZ at h
 simp_all
def dY.put(ok:dY x H Z u)(p:dZ Z i=true)(r:Rp H d v):dY x H (Z.set i (some ⟨.val,d⟩)) (u.set i (some v)) where
 rel:=λj t c=>by
  rcases aQ c with⟨z,a,_⟩|⟨z,a⟩;cases a;subst z;exact⟨v,by rw[Bo (by rw[← ok.len];simp_all)],r⟩;obtain⟨w,h,f⟩:=ok.rel j t a;exact⟨w,by rw[Ae (oI z)];exact h,f⟩
 dis:=λj l t k q n c o m M b e=>by
  rcases aQ c with⟨z,a,_⟩|⟨z,a⟩;cases a;cases m;rcases aQ o with⟨y,g,_⟩|⟨y,g⟩
  ·lia
  ·rw[Ae (oI z)]at b;rw[Ae (oI y)]at e;exact ok.dis j l t k q n a g m M b e
 own:=λj t q c m b=>by
  rcases aQ c with⟨z,a,_⟩|⟨z,a⟩
  ·simp_all
  ·rw[Ae (oI z)]at b;exact ok.own j t q a m b
 par:=λj t q c m b=>by
  rcases aQ c with⟨z,a,_⟩|⟨z,a⟩
  ·simp_all
  ·rw[Ae (oI z)]at b;exact ok.par j t q a m b
 keep:=ok.keep
 dom:=ok.dom
 len:=by rw[CS,CS];exact ok.len
def hF.put(y:hF C A E Z B H)(n:dZ Z i=true)(m:Md)(o:m=.val\/m=.own/\∀ p,v=.ref p->E p=none):hF C A E (Z.set i (some ⟨m,d⟩)) (B.set i (some v)) H:=by
 have b:m≠.lent:=by lia
 have x:=zP n;have q:∀t,Z[i]?=some (some t)->t.m≠.par/\t.m≠.lent:=λt e=>by
  rcases UY n e with z|z<;>(lia)
 refine⟨y.fr,y.dom,λa ⟨j,t,f,M,g⟩=>?_,λa ⟨j,t,f,N,g⟩=>?_,λj t f=>?_,λj t f h=>?_,λj t f h=>?_⟩
 ·rcases aQ f with⟨z,c,_⟩ | ⟨z,c⟩
  ·cases c;subst z;rcases o with rfl|⟨_,r⟩;cases M;have:=hR.mp g
   simp_all
  ·rw[Ae (oI z)]at g;exact y.mu a ⟨j,t,c,M,g⟩
 ·rcases aQ f with⟨z,c,_⟩ | ⟨z,c⟩
  ·cases c;subst z;rcases o with rfl|⟨_,r⟩;exact absurd rfl N;have:=hR.mp g
   simp_all
  ·rw[Ae (oI z)]at g;exact y.nv a ⟨j,t,c,N,g⟩
 ·obtain⟨k,l⟩:=y.kp j t f;by_cases z:j=i
  ·simp_all
  ·exact⟨k,by rw[Ae (oI z)];exact l⟩
 ·obtain⟨k,l,s,u,w⟩:=y.fix j t f h;have z:j≠i:=λz=>by grind
  exact⟨k,by rw[Ae (oI z)];exact l,s,u,by rw[Ae (oI z)];exact w⟩
 ·rcases aQ f with⟨z,c,_⟩|⟨z,c⟩;cases c;exact absurd h b;exact y.lt j t c h
def dY.putOwn(ok:dY x H Z u)(r:dZ Z i=true)(O:cE H d p)(A:¬ zJ Z u p)(B:x.H₀ p=none):dY x H (Z.set i (some ⟨.own,d⟩)) (u.set i (some (.ref p))) where
 rel:=λj t e=>by
  rcases aQ e with⟨z,a,_⟩|⟨z,a⟩;cases a;subst z;exact⟨.ref p,by rw[Bo (by rw[← ok.len];simp_all)],p,rfl,O⟩;obtain⟨w,s,g⟩:=ok.rel j t a;exact⟨w,by rw[Ae (oI z)];exact s,g⟩
 dis:=λj l t h q n e k m M c b=>by
  have o:i<u.length:=by rw[← ok.len];exact zP r
  rcases aQ e with⟨z,a,_⟩|⟨z,a⟩
  ·subst z;rw[Bo o]at c;cases c;rcases aQ k with⟨y,f,_⟩|⟨y,f⟩
   ·simp_all
   ·rw[Ae (oI y)]at b;exact A ⟨l,h,f,M,b⟩
  ·rw[Ae (oI z)]at c;rcases aQ k with⟨y,f,_⟩|⟨y,f⟩;subst y;rw[Bo o]at b;cases b;exact A ⟨j,t,a,fU m,c⟩;rw[Ae (oI y)]at b;exact ok.dis j l t h q n a f m M c b
 own:=λj t q e m c=>by
  rcases aQ e with⟨z,a,_⟩|⟨z,a⟩
  ·subst z;rw[Bo (by rw[← ok.len];simp_all)]at c
   lia
  ·rw[Ae (oI z)]at c;exact ok.own j t q a m c
 par:=λj t q e m c=>by
  rcases aQ e with⟨z,a,_⟩|⟨z,a⟩
  ·lia
  ·rw[Ae (oI z)]at c;exact ok.par j t q a m c
 keep:=ok.keep
 dom:=ok.dom
 len:=by rw[CS,CS];exact ok.len
def IE(i:Nat)(r:kN)(Z:Sg):Option Sg:=match r with
 |.val d=>if dZ Z i=true then some (Z.set i (some ⟨.val,d⟩))else none
 |.own d=>if dZ Z i=true then some (Z.set i (some ⟨.own,d⟩))else none
 |.slot _=>none
def aU(i:Nat)(r:DE):DS:=λZ=>(r Z).bind λx=>(IE i x.1 x.2).bind λa=>some (.nx a)
def qO{D:AG}(h:Ba A E (aU i r) D z H):Bd A r z H (λx n=>D.nx (z.set i (some x)) n):=by
 obtain⟨Z,O,o,e,k⟩:=h;obtain⟨⟨x,a⟩,s,e⟩:=aB e;obtain⟨c,m,e⟩:=aB e;cases e;refine⟨Z,O,x,a,s,λv n f q g t=>?_⟩;cases x with
 | val d=>
   have b:(if dZ a i=true then some (a.set i (some ⟨.val,d⟩))else none)=some c:=m;split at b;rename_i l;cases b;exact k _ _ (f.put l q) (g.put l .val (.inl rfl))
   simp_all
 | own d=>
   have b:(if dZ a i=true then some (a.set i (some ⟨.own,d⟩))else none)=some c:=m;split at b;rename_i l;cases b;obtain⟨p,rfl,u,w,y⟩:=q;exact k _ _ (f.putOwn l u w y) (g.put l .own (.inr ⟨rfl,λp e=>t _ p rfl e⟩))
   simp_all
 |slot j=>cases m
def UZ(h:∀a,PS X s (ER (Bd a r) (fS i))):GS E X s (aU i r):=.mk λa=>Cd (h a) λ_ _ _ h=>qO h
noncomputable def iZ(x:Str):List D:=x.cps.toList.map λc=>.str ⟨#[c]⟩
def tM(x:Str):Rps H (iZ x) (eG x):=by
 unfold iZ eG
 induction x.cps.toList with
 |nil=>exact .nil
 |cons a r b=>exact .cons (.str _) b
abbrev DG:=D->Sg->Option Sg
abbrev HI:=List D->Sg->Option Sg
def zQ(own:List Nat)(g:TG)(G:DG):Prop:=∀j H b a c Z f d v h Q,dY j H Z f->hF b a c Z f H->Rp H d v->G d Z=some h ->
 (∀e,dY j H h e->hF b a c h e H->e.length=f.length->(∀i,i∉own->e[i]?=f[i]? /\ h[i]?=Z[i]?)->Q e H)->g v f H Q
def IF(own:List Nat)(g:EO)(G:HI):Prop:=∀j H b a c Z f d v h Q,dY j H Z f->hF b a c Z f H->Rps H d v->G d Z=some h ->
 (∀e,dY j H h e->hF b a c h e H->e.length=f.length->(∀i,i∉own->e[i]?=f[i]? /\ h[i]?=Z[i]?)->Q e H)->g v f H Q
def gY(i:Nat):DG:=λd Z=>if dZ Z i=true then some (Z.set i (some ⟨.val,d⟩))else none
noncomputable def fA:HI:=λa Z=>if a.isEmpty then some Z else none
noncomputable def aM(g:DG)(b:HI):HI:=λc Z=>match c with
 |d::r=>(g d Z).bind λa=>b r a
 |[]=>none
def eA(n:Nat)(a:HI):DG:=λd Z=>match d with
 |.tup l=>if l.length=n then a l Z else none
 |.str z=>if z.length=n then a (iZ z) Z else none
 |_=>none
def eB(h:i∈own):zQ own (fS i) (gY i):=by
 intro n H c a f Z g d v l Q o s r e k;unfold gY at e;split at e
 ·rename_i b;cases e;refine k _ (o.put b r) (s.put b .val (.inl rfl)) (by simp) λj m=>?_;have:i≠j:=λz=>m (by simp_all)
  simp_all
 ·cases e
def nB:IF own Gk fA:=by
 intro h H b a c Z f d v g Q o s r e k;cases r with
 |nil=>cases e;exact⟨rfl,k _ o s rfl λ_ _=>⟨rfl,rfl⟩⟩
 |cons _ _=>cases e
def dG(G:zQ own g I)(v:IF own p c):IF own (pZ g p) (aM I c):=by
 intro B H d b q Z z x J A Q O C r e k;cases r with
 |nil=>cases e
 | cons a t=>
   obtain⟨f,w,e⟩:=aB e;refine⟨_,_,rfl,G B H d b q Z z _ _ f _ O C a w λh l m E s=>?_⟩;refine v B H d b q f h _ _ A _ l m t e λj n o L u=>?_;exact k j n o (L.trans E) λi y=>⟨(u i y).1.trans (s i y).1,(u i y).2.trans (s i y).2⟩
def tN(h:IF own i a):zQ own (qI K n i) (eA n a):=by
 intro t H c b j Z s d v q Q O u r e k;cases d with
 | tup l=>
   have f:(if l.length=n then a l Z else none)=some q:=e;split at f;rename_i g;obtain⟨p,x,rfl,o,m⟩:=fJ (.inl r);exact⟨x,bL o,by rw[← m.length];exact g,h t H c b j Z s l x q Q O u m f k⟩
   simp_all
 | str z=>
   have f:(if z.length=n then a (iZ z) Z else none)=some q:=e;split at f;rename_i g;cases r;exact⟨g,h t H c b j Z s _ _ q Q O u (tM z) f k⟩
   simp_all
 |_=>cases e
noncomputable def HJ(g:DG)(r:DE):DS:=λZ=>(r Z).bind λx=>match x.1 with
 |.val d=>(g d x.2).bind λa=>some (.nx a)
 |_=>none
def Va(n:zQ own g G)(h:∀w,PS X y (ER (Bd w r) g)):GS E X y (HJ G r):=.mk λw=>Cd (h w) λD u H z=>by
 obtain⟨Z,O,o,e,k⟩:=z;obtain⟨⟨x,a⟩,p,e⟩:=aB e;refine⟨Z,O,x,a,p,λv m c q f t=>?_⟩;cases x with
 | val d=>
   obtain⟨i,s,e⟩:=aB e;cases e;exact n w m Z u H a u d v i _ c f q s λb j l _ _=>k b m j l
 |own d|slot d=>cases e
def HL(i j:Nat)(a:DA):DS:=λZ=>(a Z).bind λx=>(vals x.1).bind λb=>match b with
 |[d,e]=>if dZ x.2 i=true/\dZ x.2 j=true/\i≠j then some (.nx ((x.2.set i (some ⟨.val,d⟩)).set j (some ⟨.val,e⟩)))else none
 |_=>none
set_option tactic.hygienic true in
def Vc(h:∀ A,PS X C (LF i j (BX A p))):GS E X C (HL i j p):=.mk λA=>Cd (h A) λD B H G=>by
 obtain⟨Z,O,o,e,k⟩:=G;obtain⟨⟨x,c⟩,q,e⟩:=aB e;obtain⟨v,r,e⟩:=aB e;refine⟨Z,O,x,c,q,λI w l s m z=>?_⟩;have u:=jV s r;split at e
 ·split at e
  ·rename_i d y g;cases e;cases u with
   | cons a t=>cases t with
     | cons b t=>cases t with
       | nil=>
         refine⟨_,_,rfl,?_⟩;have n:=l.put g.1 a;have f:dZ (c.set i (some ⟨.val,d⟩)) j=true:=by
          unfold dZ;rw[Ae g.2.2];exact g.2.1
         exact k _ _ (n.put f b) ((m.put g.1 .val (.inl rfl)).put f .val (.inl rfl))
  ·cases e
 ·cases e
def lend(i:Nat)(Z:Sg):Sg:=match Z[i]? with
 |some (some s)=>if s.m.mt=true then Z.set i (some ⟨.lent,s.d⟩)else Z
 |_=>Z
def CV(i:Nat)(a Z:Sg):Sg:=match a[i]?,Z[i]? with
 |some (some b),some (some s)=>if b.m.mt=true then Z.set i (some ⟨b.m,s.d⟩)else Z
 |_,_=>Z
def lendO(l:Option Nat)(Z:Sg):Sg:=match l with
 |some i=>lend i Z
 |none=>Z
def sI(l:Option Nat)(a Z:Sg):Sg:=match l with
 |some i=>CV i a Z
 |none=>Z
def qQ(h:Z[i]?=some (some s))(a:s.m.mt=true):lend i Z=Z.set i (some ⟨.lent,s.d⟩):=by
 unfold lend;simp_all
def wA(h:∀s,Z[i]?=some (some s)->s.m.mt=false):lend i Z=Z:=by
 unfold lend;split
 ·simp_all
 rfl
theorem dY.lend(ok:dY u H Z r):dY u H (lend i Z) r:=by
 by_cases g:∃s,Z[i]?=some (some s)/\s.m.mt=true
 ·obtain⟨s,d,e⟩:=g;rw[qQ d e];obtain⟨p,E,O⟩:=ok.ownAt d (fU e);have B:∀ (j:Nat) t,(Z.set i (some ⟨.lent,s.d⟩))[j]? = some (some t)->(j=i/\t=⟨.lent,s.d⟩)\/(j≠i/\Z[j]? = some (some t)):=λj t a=>by
   rcases aQ a with⟨z,h,_⟩|z;cases h;exact .inl ⟨z,rfl⟩;exact .inr z
  refine⟨λj t a=>?_,λj l t f q n a k m M b c=>?_,λj t q a m b=>?_,λj t q a m b=>?_,ok.keep,ok.dom,by rw[CS];exact ok.len⟩;rcases B j t a with⟨rfl,rfl⟩|⟨_,z⟩;exact⟨_,E,p,rfl,O⟩;exact ok.rel j t z;rcases B j t a with⟨rfl,rfl⟩|⟨_,z⟩;cases m;rcases B l f k with⟨rfl,rfl⟩|⟨_,y⟩;exact ok.dis j l t s q n z d m (fU e) b c;exact ok.dis j l t f q n z y m M b c;rcases B j t a with⟨rfl,rfl⟩|⟨_,z⟩;cases m;exact ok.own j t q z m b;rcases B j t a with⟨rfl,rfl⟩|⟨_,z⟩;cases m;exact ok.par j t q z m b
 ·rw[wA λs d=>by grind];exact ok
set_option tactic.hygienic true in
def Vd(ok:dY Γ H1 d σV)(c:dY Γ H2 σ2 σV2)(st:hF (lend i d) σV H1 σ2 σV2 H2):dY Γ H2 (CV i d σ2) σV2/\hF d σV H1 (CV i d σ2) σV2 H2:=by
 by_cases P:∃s,d[i]?=some (some s)/\s.m.mt=true
 ·obtain⟨s,hs,v⟩:=P;have V:i < d.length:=(hR.mp hs).1;rw[qQ hs v]at st;have J:(d.set i (some ⟨.lent,s.d⟩))[i]? = some (some ⟨.lent,s.d⟩):=by rw[Bo V]
  obtain⟨s2,I,W,d2,Q⟩:=st.fix i _ J (.inr rfl);have B:s2.m=.lent:=W;have C:i<σ2.length:=(hR.mp I).1;have K:CV i d σ2=σ2.set i (some ⟨s.m,s2.d⟩):=by unfold CV;rw[hs,I];simp only[v,if_true]
  rw[K];obtain⟨p,ep,ow⟩:=ok.ownAt hs (fU v);have f:σV2[i]?=some (some (.ref p)):=Q.trans ep;obtain⟨p',R,L⟩:=c.ownAt I (by rw[B];exact λz=>nomatch z);rw[f]at R;cases R;have D:∀(j:Nat) t,j≠i->σ2[j]?=some (some t)->t.m=.lent->σV2[j]? ≠ some (some (.ref p)):=λj t hj b M e=>by
   obtain⟨E,A,F⟩:=st.lt j t b M;rw[Ae (oI hj)]at A;have X:(d.set i (some ⟨.lent,s.d⟩))[j]?=some (some E):=by rw[Ae (oI hj)];exact A
   obtain⟨_,_,_,_,Y⟩:=st.fix j E X (.inr F);rw[Y]at e;exact ok.dis i j s E p (oI hj) hs A v (by rw[F];exact λz=>nomatch z) ep e
  have r:∀ (j:Nat) t,j≠i->σ2[j]? = some (some t)->t.m≠.val->σV2[j]? ≠ some (some (.ref p)):=λj t hj b M e=>by
   by_cases S:t.m=.lent;exact D j t hj b S e;have N:t.m.mt=true:=by
    cases q:t.m with
    |val=>exact absurd q M
    |own|par=>rfl
    |lent=>exact absurd q S
   exact c.dis j i t s2 p hj b I N (by rw[B];exact λz=>nomatch z) e f
  have O:∀(j:Nat) t,(σ2.set i (some ⟨s.m,s2.d⟩))[j]?=some (some t)->(j=i/\t=⟨s.m,s2.d⟩)\/(j≠i/\σ2[j]?=some (some t)):=λj t b=>by
   rcases aQ b with⟨z,w,_⟩|z;cases w;exact .inl ⟨z,rfl⟩;exact .inr z
  have sub:∀a,hZ (d.set i (some ⟨.lent,s.d⟩)) σV a->hZ d σV a:=λa Z1=>by
   obtain⟨j,t,b,m,k⟩:=Z1;rcases aQ b with⟨z,w,_⟩|⟨z,w⟩;cases w;cases m;exact⟨j,t,w,m,k⟩
  have G:∀a,zJ (d.set i (some ⟨.lent,s.d⟩)) σV a->zJ d σV a:=λa Z1=>by
   obtain⟨j,t,b,m,k⟩:=Z1;rcases aQ b with⟨z,w,_⟩|⟨z,w⟩;subst z;exact⟨j,s,hs,fU v,k⟩;exact⟨j,t,w,m,k⟩
  constructor
  ·refine⟨λj t b=>?_,λj l t x q n b T m m' g u=>?_,λj t q b m g=>?_,λj t q b m g=>?_,c.keep,c.dom,by rw[CS];exact c.len⟩;rcases O j t b with⟨rfl,rfl⟩|⟨_,z⟩;exact⟨_,f,(cV (s:=⟨s.m,s2.d⟩) (fU v)).mpr ⟨p,rfl,L⟩⟩;exact c.rel j t z
   ·rcases O j t b with⟨rfl,rfl⟩|⟨zn,z⟩;rw[f]at g;have g:=Ap (Ap g);cases g;rcases O l x T with⟨rfl,rfl⟩|⟨U,y⟩;exact n rfl;exact r l x U y m' u;rcases O l x T with⟨rfl,rfl⟩|⟨U,y⟩;rw[f]at u;have u:=Ap (Ap u);cases u;exact r j t zn z (fU m) g;exact c.dis j l t x q n z y m m' g u
   ·rcases O j t b with⟨rfl,rfl⟩|⟨_,z⟩;rw[f]at g;have g:=Ap (Ap g);cases g;exact ok.own j s p hs m ep;exact c.own j t q z m g
   ·rcases O j t b with⟨rfl,rfl⟩|⟨_,z⟩;rw[f]at g;have g:=Ap (Ap g);cases g;exact ok.par j s p hs m ep;exact c.par j t q z m g
  ·refine⟨λa o e n=>st.fr a o e λz=>n (sub a z),st.dom,λa ⟨j,t,b,m,k⟩=>?_,λa ⟨j,t,b,m,k⟩=>?_,λj t b=>?_,λj t b m=>?_,λj t b m=>?_⟩;rcases O j t b with⟨rfl,rfl⟩|⟨_,z⟩;rw[f]at k;have k:=Ap (Ap k);cases k;exact .inl ⟨j,s,hs,v,ep⟩;rcases st.mu a ⟨j,t,z,m,k⟩with y|y;exact .inl (sub a y);exact .inr y;rcases O j t b with⟨rfl,rfl⟩|⟨_,z⟩;rw[f]at k;have k:=Ap (Ap k);cases k;exact .inl ⟨j,s,hs,fU v,ep⟩;rcases st.nv a ⟨j,t,z,m,k⟩with y|y;exact .inl (G a y);exact .inr y;by_cases z:j=i;subst z;exact⟨_,by rw[Bo C]⟩;obtain⟨x,π⟩:=st.kp j t (by rw[Ae (oI z)];exact b);exact⟨x,by rw[Ae (oI z)];exact π⟩;by_cases z:j=i;subst z;rw[hs]at b;cases b;refine⟨⟨s.m,s2.d⟩,by rw[Bo C],rfl,λq=>?_,Q⟩;rw[q]at v;cases v;obtain⟨x,π,h⟩:=st.fix j t (by rw[Ae (oI z)];exact b) m;exact⟨x,by rw[Ae (oI z)];exact π,h⟩;rcases O j t b with⟨rfl,rfl⟩|⟨zn,z⟩;have m':s.m=.lent:=m;rw[m']at v;cases v;obtain⟨E,A,σ⟩:=st.lt j t z m;rw[Ae (oI zn)]at A;exact⟨E,A,σ⟩
 ·have H:∀ s,d[i]? = some (some s)->s.m.mt=false:=λs hs=>by
   cases e:s.m.mt with
   |false=>rfl
   |true=>exact absurd ⟨s,hs,e⟩ P
  rw[wA H]at st;have K:CV i d σ2=σ2:=by
   unfold CV;split;rename_i s0 s' h0 h';rw[a0m (by rw[H s0 h0];exact Ec)];rfl
  rw[K];exact⟨c,st⟩
theorem dY.lendO(ok:dY c H Z b):dY c H (lendO l Z) b:=by
 cases l with
 |none=>exact ok
 |some i=>exact ok.lend
def jG(ok:dY f h c e)(a:dY f H d b)(s:hF (lendO l c) e h d b H):dY f H (sI l c d) b/\hF c e h (sI l c d) b H:=by
 cases l with
 |none=>exact⟨a,s⟩
 |some i=>exact Vd ok a s
set_option tactic.hygienic true in
def MD(G:hF (lendO l y) B J x w H)(h:gC C H x w r v):gC C H (sI l y x) w r v:=by
 cases l with
 |none=>exact h
 | some i=>
   show gC C H (CV i y x) w r v;have A:hF (lend i y) B J x w H:=G;unfold CV;split
   ·rename_i f L E I;split
    ·rename_i g;cases r with
     |val d=>exact h
     | own d=>
       obtain⟨p,a,b,k,n⟩:=h;refine⟨p,a,b,λ⟨j,t,o,m,c⟩=>k ?_,n⟩;rcases aQ o with⟨z,e,_⟩|⟨z,e⟩;subst z;rw[qQ E g]at A;obtain⟨q,s,u,_⟩:=A.fix j ⟨.lent,f.d⟩ (by rw[Bo (hR.mp E).1]) (.inr rfl);exact⟨j,q,s,by lia,c⟩
       ·exact⟨j,t,e,m,c⟩
     | slot j=>
       obtain⟨a,t,b⟩:=h;refine⟨a,?_⟩;by_cases z:j=i;subst z;exact⟨_,by rw[Bo (hR.mp I).1]⟩
       ·exact⟨t,by rw[Ae (oI z)];exact b⟩
    ·exact h
   ·exact h
structure IG(J:It)(items:List D)(P:Hp->Prop):Prop where
 go:∀H i d,P H->items[i]?=some d->J.go i H
 yld:∀H i d y H',P H->items[i]?=some d->J.yld i H y H'->lG H H'/\Rp H' d y
 stop:∀H,P H->J.stop items.length H
def zR(w:Dj J xs P):IG J I (λH=>P H/\Rps H I xs) where
 go:=λH i d ⟨h,r⟩ e=>by
  obtain⟨x,E,_⟩:=r.get e;exact w.go H i x h E
 yld:=λH i d y b ⟨h,r⟩ e q=>by
  obtain⟨x,E,a⟩:=r.get e;obtain⟨rfl,rfl⟩:=w.yld H i x y b h E q;exact⟨.refl _,a⟩
 stop:=λH z=>by
  obtain⟨h,r⟩:=z;refine w.stop H _ h ?_;have:=r.length
  grind
abbrev DI:=Sg->Option (List D×Option Nat×Sg)
def Dm(g:Gm)(r:DI):TI:=λf H R=>∃Z,dY g H Z f/\∃i l a,r Z=some (i,l,a)/\∀J c P,dY g c a f->hF Z f H a f c->IG J i P ->
 (∀d b e,hF (lendO l a) f c d b e->P e)->R J c
structure GI(X:Cx)(tg iter:Expr)(ri:DI):Prop where
 to:∀Γ,PI X tg iter (Dm Γ ri)
def IH(h:PI X T e t)(w:∀Z H Q,a Z H Q->t Z H Q):PI X T e a:=λp s Z H Q I q=>h p s Z H Q I (w Z H Q q)
def nD:D->Option (List D)
 |.lst l|.tup l=>some l
 |.str x=>some (iZ x)
 |_=>none
def Ad(r:DE):DI:=λZ=>(r Z).bind λx=>(rd x.2 x.1).bind λd=>(nD d).bind λl=>some (l,(match x.1 with|.slot i=>some i|_=>none),x.2)
def fE(h:H p=some o)(b:a p=some o):cG a p=cG H p:=by unfold cG;rw[h,b]
def nE(u:dY Γ g a Y)(h:gC Γ g a Y x v)(N:rd a x=some d)(C:nD d=some items)(vw:AV g d v) :
  ∀p b xs,v=.ref p->cG g p=some (b,xs)->Rps g items xs->∀y k A,hF (lendO (match x with|.slot i=>some i|_=>none) a) Y g y k A->cG A p=some (b,xs)/\Rps A items xs:=by
 intro p b xs n r S y k A l;have O:Bb g A:=l.ext (Γ:=Γ) u.lendO;refine⟨?_,S.mono O⟩;cases x with
 | val d'=>
   cases N;subst n;cases d with
   |tup G=>obtain⟨_,_,e,f,_⟩:=fJ vw;cases e;rw[fE f (O.tup _ _ f)];exact r
   | lst G=>
     cases h with
     |lst f _=>rw[fE f (O.frz _ _ _ f)];exact r
   |dic ks vs=>cases C
   |str z=>cases h
   |_=>cases C
 | own d'=>
   obtain⟨q,π,ow,nn,_⟩:=h;rw[n]at π;cases π;obtain⟨o,B,_⟩:=ow.obj;rw[fE B (l.fr p o B (λz=>nn z.nv))];exact r
 | slot i=>
   obtain⟨h,s,hs⟩:=h;have c:dY Γ g a Y:=u;by_cases E:s.m=.val
   ·obtain⟨w,P,H⟩:=c.rel i s hs;rw[h]at P;cases P;subst n;obtain⟨m,Q⟩:=s;cases E;have I:some Q=some d:=by
     have:rd a (.slot i)=some Q:=by show(match a[i]? with|some (some s)=>some s.d|_=>none)=_;rw[hs]
     rw[← this];exact N
    cases I;have J:Rp g d (.ref p):=H;cases d with
    |tup G=>obtain⟨_,_,e,f,_⟩:=fJ (.inl J);cases e;rw[fE f (O.tup _ _ f)];exact r
    | lst G=>
      cases J with
      |lst f _=>rw[fE f (O.frz _ _ _ f)];exact r
    |dic ks vs=>cases C
    |str z=>cases J
    |_=>cases C
   ·obtain⟨q,K,ow⟩:=c.ownAt hs E;rw[h]at K;rw[n]at K;cases K;obtain⟨o,B,_⟩:=ow.obj;have T:¬ hZ (lend i a) Y p:=by
     rintro⟨j,t,F,m,R⟩;by_cases L:s.m.mt=true;rw[qQ hs L]at F;rcases aQ F with⟨_,M,_⟩|⟨z,M⟩;cases M;cases m;exact c.dis j i t s p z M hs m E R (by rw[h,n]);rw[wA (λs' U=>by lia)]at F;by_cases z:j=i
     ·lia
     ·exact c.dis j i t s p z F hs m E R (by rw[h,n])
    rw[fE B (l.fr p o B T)];exact r
def Ve(K:W.Frag)(w:X.K=K)(h:GE X e r):GI X T e (Ad r):=.mk λL=>IH (Mo K w (h.to L)) λJ H R N=>by
 obtain⟨Z,O,I,l,y,e,k⟩:=N;obtain⟨⟨x,A⟩,B,e⟩:=aB e;obtain⟨d,t,e⟩:=aB e;obtain⟨M,i,e⟩:=aB e;cases e;refine⟨Z,O,x,_,B,λv n b u g D=>?_⟩;have G:=u.vw b t;have E:=nE b u t i G;cases d with
 | lst C=>
   cases i;obtain⟨p,xs,rfl,j,o⟩:=cY G;refine .inl ⟨xs,j,k _ n _ b g (zR (Th (xs:=xs))) λc a m f=>?_⟩;obtain⟨q,s⟩:=E p true xs rfl j o c a m f;exact⟨dE q,s⟩
 | tup C=>
   cases i;obtain⟨p,xs,rfl,j,o⟩:=fJ G;refine .inr ⟨xs,bL j,k _ n _ b g (zR (Ti (xs:=xs))) λc a m f=>?_⟩;obtain⟨q,s⟩:=E p false xs rfl (bL j) o c a m f;exact⟨cX q,s⟩
 | str z=>
   cases i;obtain rfl:=iF G;exact k _ n (λH=>True/\Rps H (iZ z) (eG z)) b g (zR Tn) λc a m f=>⟨True.intro,tM z⟩
 |_=>cases i
noncomputable def zS(l:Int)(n:Nat):List D:=(range n).map λ(i:Nat)=>D.int (l+(i:Int))
def Vf(l:Int)(n:Nat):Rps H (zS l n) (FC l n):=by
 unfold zS FC
 induction range n with
 |nil=>exact .nil
 |cons a r b=>exact .cons (.int _) b
def sJ(a:DA):DI:=λZ=>(a Z).bind λx=>(FE x.2 x.1).bind λb=>match b with
 |[.int j]=>if -(2^62)<=j/\j<2^62 then some (zS 0 j.toNat,none,x.2)else none
 |[.int i,.int j]=>if(-(2^62)<=i/\i<2^62) /\ -(2^62)<=j/\j<2^62 then some (zS i (j-i).toNat,none,x.2)else none
 |_=>none
def Vg(h:∀ C,PI X T e (LI (BX C d)))(M:∀ Z G B,d Z=some (G,B)->G.length=1):GI X T e (sJ d):=.mk λC=>IH (h C) λL H R N=>by
 obtain⟨Z,O,I,l,m,e,k⟩:=N;obtain⟨⟨x,n⟩,g,e⟩:=aB e;obtain⟨o,p,e⟩:=aB e;refine⟨Z,O,x,_,g,λQ r c i f w=>?_⟩;have E:=vY c i p;have s:=M _ _ _ g;dsimp only at e;rcases o with _|⟨q,_|⟨y,z⟩⟩;exact aG e
 ·cases q<;>try exact aG e
  dsimp only at e;split at e
  ·rename_i J;cases e;cases E with
   | cons a t=>
     cases t;obtain rfl:=cA a;exact⟨_,rfl,J.1,J.2,k _ r (λH=>True/\Rps H _ _) c f (zR Tj) λu j A v=>⟨True.intro,Vf _ _⟩⟩
  ·cases e
 ·exfalso;cases E with
  | cons a t=>cases t with
    | cons b t=>
      cases i with
      | cons _ q _=>cases q with
        |cons _ q _=>simp at s
theorem cU8:∀Z b a,aA r aE Z=some (b,a)->b.length=1:=λZ b a e=>by
 obtain⟨x,_,e⟩:=aB e;cases e;rfl
noncomputable def EW(g:DG)(b:DS):List D->Sg->Option BR
 |[],Z=>some (.nx Z)
 | d::r,Z=>(g d Z).bind λe=>(b e).bind λo=>match o with
   |.nx a|.ct a=>EW g b r a
   |.bk a=>some (.nx a)
   |.rt x a=>some (.rt x a)
   |.ex c f a=>some (.ex c f a)
def jA(l:Option Nat)(a:Sg):BR->BR
 |.nx Z=>.nx (sI l a Z)
 |.rt r Z=>.rt r (sI l a Z)
 |.bk Z=>.bk (sI l a Z)
 |.ct Z=>.ct (sI l a Z)
 |.ex c f Z=>.ex c f (sI l a Z)
def kQ(r:DI)(g:DG)(b:DS):DS:=λZ=>(r Z).bind λx=>(EW g b x.1 (lendO x.2.1 x.2.2)).bind λo=>some (jA x.2.1 x.2.2 o)
def Vh{D:AG}(hg:zQ own g gd)(h:Ba Γ E (kQ ri gd b) D σV H):DN (Dm Γ ri) g (Ba Γ E b) D σV H:=by
 obtain⟨Z,ok,o,e,k⟩:=h;obtain⟨⟨O,l,u⟩,e1,e⟩:=aB e;obtain⟨T,e2,e⟩:=aB e;cases e;refine⟨Z,ok,O,l,u,e1,λJ S P F M N stay=>?_⟩;have K:∀n a w,dY Γ w n a->hF (lendO l u) σV S n a w->∀U,U=T->(∀σ',U=.nx σ'->∀σV' H',dY Γ H' σ' σV'->hF (lendO l u) σV S σ' σV' H'->D.nx σV' H'):=by
  intro n a w G B U ho σ' V σV' H' W st';subst ho V;obtain⟨π,Q⟩:=jG F W st';exact k σV' H' π (M.trans Q)
 refine⟨λi m a w=>m=O.length-i/\i<=O.length/\∃n,EW gd b (O.drop i) n=some T/\dY Γ w n a/\hF (lendO l u) σV S n a w,⟨O.length,by simp,sS _,lendO l u,by simpa using e2,F.lendO,.refl⟩,?_⟩;rintro i m a w ⟨rfl,hi,n,A,G,B⟩;have X:=stay n a w B;by_cases I:i<O.length
 ·have ei:O[i]? = some O[i]:=nL I;refine .inr ⟨N.go w i _ X ei,λC R=>∃ m',m' < O.length-i/\m'=O.length-(i+1)/\i+1<=O.length/\∃ z,EW gd b (O.drop (i+1)) z=some T/\dY Γ R z C/\hF (lendO l u) σV S z C R,λσ' H' q=>q,λy R hy=>?_⟩;obtain⟨sm,ry⟩:=N.yld w i _ y R X ei hy;rw[drop_eq_getElem_cons I]at A;obtain⟨z,eg,A⟩:=aB A;obtain⟨ob,eb,A⟩:=aB A;refine hg Γ R _ _ _ n a _ y z _ (G.same sm) (B.trans (.same sm)) ry eg λC Y t _ _=>?_;refine⟨z,Y,ob,eb,?_⟩;cases ob with
  |nx s|ct s=>exact λj L r p=>⟨_,by lia,rfl,I,s,A,r,t.trans p⟩
  | bk s=>
    cases A;exact λj L r p=>K s j L r (t.trans p) _ rfl s rfl j L r (t.trans p)
  | rt x s=>
    cases A;intro v j L r σ p;obtain⟨π,Q⟩:=jG F r (t.trans p);exact k v j L π (MD (t.trans p) σ) (M.trans Q)
  | ex c f s=>
    cases A;intro v d j L r σ p;obtain⟨π,Q⟩:=jG F r (t.trans p);exact k v d j L π σ (M.trans Q)
 ·have e0:i=O.length:=by lia
  subst e0;rw[drop_length]at A;cases A;exact .inl ⟨N.stop w X,K n a w G B _ rfl n rfl a w G B⟩
def Kk(a:zQ own g G)(h:∀c,PS X s (DN (Dm c r) g (Ba c E b))):GS E X s (kQ r G b):=.mk λc=>Cd (h c) λ_ _ _=>Vh a
def ME:∃n:Nat,1000000<=n:=⟨_,hC _⟩
noncomputable def Gy:Nat:=Classical.choose ME
def Vi:1000000<=Gy:=Classical.choose_spec ME
noncomputable def lK(c:DT)(b:DS):Nat->Sg->Option BR
 |0,_=>none
 | n+1,Z=>(c Z).bind λx=>if x.1=true then(b x.2).bind λo=>match o with
   |.nx a|.ct a=>lK c b n a
   |.bk a=>some (.nx a)
   |.rt r a=>some (.rt r a)
   |.ex c f a=>some (.ex c f a)else some (.nx x.2)
def tO(c:DT)(b:DS):DS:=λZ=>lK c b Gy Z
def Vj{D:AG}(h:Ba M E (tO c b) D L H):JM (Cw M c) (Ba M E b) D L H:=by
 obtain⟨Z,Q,o,e,k⟩:=h;refine⟨λm l A=>∃u,lK c b m u=some o/\dY M A u l/\hF Z L H u l A,⟨Gy,Z,e,Q,.refl⟩,?_⟩;rintro m l A ⟨u,s,B,p⟩;cases m with
 |zero=>cases s
 | succ n=>
   obtain⟨⟨t,y⟩,G,s⟩:=aB s;refine⟨u,B,t,y,G,λI z r=>?_⟩;split at s
   ·rename_i C;rw[eH C];obtain⟨O,J,s⟩:=aB s;refine⟨λa w=>∃N,N < n+1/\∃g,lK c b N g=some o/\dY M w g a/\hF Z L H g a w,λ_ _ q=>q,y,z,O,J,?_⟩;cases O with
    |nx g|ct g=>exact λa w i j=>⟨n,EJ n,g,s,i,(p.trans r).trans j⟩
    |bk g=>cases s;exact λa w i j=>k a w i ((p.trans r).trans j)
    |rt x g=>cases s;exact λv a w i F j=>k v a w i F ((p.trans r).trans j)
    |ex c f g=>cases s;exact λv d a w i F j=>k v d a w i F ((p.trans r).trans j)
   ·rename_i C;rw[a0m C];cases s;exact k l I z (p.trans r)
def Vk(h:∀a,PS X s (JM (Cw a c) (Ba a E b))):GS E X s (tO c b):=.mk λa=>Cd (h a) λ_ _ _=>Vj
noncomputable def aW(o:List Nat)(Z:Sg):Sg:=o.foldl (λZ i=>Z.set i none) Z
noncomputable def iY(o:List Nat)(Z a:Sg):Sg:=o.foldl (λa i=>a.set i (Z[i]?.getD none)) a
theorem fK{a:Type}:∀(o:List Nat) (Z:List (Option a)),(o.foldl (λZ i=>Z.set i none) Z).length=Z.length
 |[],_=>rfl
 |i::r,Z=>(fK r (Z.set i none)).trans (by simp)
theorem eI{a:Type}:∀ (o:List Nat) (Z:List (Option a)) (j:Nat),j∉o->(o.foldl (λZ i=>Z.set i none) Z)[j]? = Z[j]?
 |[],_,_,_=>rfl
 | i::r,Z,j,h=>by
   have b:i≠j:=λz=>h (by rw[z];simp);have c:j∉r:=λz=>h (Af _ z);show(r.foldl _ (Z.set i none))[j]?=_;rw[eI r _ j c,Ae b]
theorem bD{a:Type}:∀ (o:List Nat) (Z:List (Option a)) (j:Nat) (x:a),(o.foldl (λZ i=>Z.set i none) Z)[j]? = some (some x)->j∉o/\Z[j]? = some (some x)
 |[],_,_,_,h=>⟨by simp,h⟩
 | i::r,Z,j,x,h=>by
   obtain⟨c,b⟩:=bD r (Z.set i none) j x h;rcases aQ b with⟨_,z,_⟩|⟨z,d⟩;cases z
   simp_all
theorem lL:∀(o:List Nat) (Z a:Sg),(iY o Z a).length=a.length
 |[],_,_=>rfl
 |i::r,Z,a=>(lL r Z (a.set i (Z[i]?.getD none))).trans (by simp)
theorem iG:∀ (o:List Nat) (Z a:Sg) (j:Nat),j∉o->(iY o Z a)[j]? = a[j]?
 |[],_,_,_,_=>rfl
 | i::r,Z,a,j,h=>by
   have b:i≠j:=λz=>h (by rw[z];simp);have c:j∉r:=λz=>h (Af _ z);show(iY r Z (a.set i (Z[i]?.getD none)))[j]?=_;rw[iG r Z _ j c,Ae b]
theorem mH:∀ (o:List Nat) (Z a:Sg) (j:Nat),j∈o->Z.length=a.length->(iY o Z a)[j]? = Z[j]?
 |[],_,_,_,h,_=>by simp at h
 | i::r,Z,a,j,h,H=>by
   show(iY r Z (a.set i (Z[i]?.getD none)))[j]?=_;by_cases b:j∈r;exact mH r Z _ j b (by simp[H])
   ·rw[iG r Z _ j b]
    grind
def dY.blank(ok:dY x H w u)(h:r.length=u.length)(e:∀ j,j∉O->r[j]? = u[j]?):dY x H (aW O w) r where
 rel:=λj t b=>by
  obtain⟨c,d⟩:=bD O w j t b;rw[e j c];exact ok.rel j t d
 dis:=λj l t g q n b i m M a f=>by
  obtain⟨c,d⟩:=bD O w j t b;obtain⟨k,o⟩:=bD O w l g i;rw[e j c]at a;rw[e l k]at f;exact ok.dis j l t g q n d o m M a f
 own:=λj t q b m a=>by
  obtain⟨c,d⟩:=bD O w j t b;rw[e j c]at a;exact ok.own j t q d m a
 par:=λj t q b m a=>by
  obtain⟨c,d⟩:=bD O w j t b;rw[e j c]at a;exact ok.par j t q d m a
 keep:=ok.keep
 dom:=ok.dom
 len:=by rw[aW,fK,h];exact ok.len
def hF.blank(hb:∀ (j:Nat) t,c[j]? = some (some t)->j∉O)(l:hF c r v n q u)(i:∀ j,j∉O->p[j]? = q[j]?):hF c r v (aW O n) p u where
 fr:=l.fr
 dom:=l.dom
 mu:=λa z=>by
  obtain⟨j,t,b,m,f⟩:=z;obtain⟨e,d⟩:=bD O n j t b;rw[i j e]at f;exact l.mu a ⟨j,t,d,m,f⟩
 nv:=λa z=>by
  obtain⟨j,t,b,m,f⟩:=z;obtain⟨e,d⟩:=bD O n j t b;rw[i j e]at f;exact l.nv a ⟨j,t,d,m,f⟩
 kp:=λj t b=>by
  obtain⟨g,h⟩:=l.kp j t b;exact⟨g,by rw[aW,eI O n j (hb j t b)];exact h⟩
 fix:=λj t b m=>by
  obtain⟨g,h,e,d,k⟩:=l.fix j t b m;exact⟨g,by rw[aW,eI O n j (hb j t b)];exact h,e,d,by simp_all⟩
 lt:=λj t b m=>by
  obtain⟨e,d⟩:=bD O n j t b;exact l.lt j t d m
def Vl(c:dY Γ H1 O σV)(ok:dY Γ H τ σV2)(x:∀ j,j∉Y->σV2[j]? = σV[j]?)(N:σV2.length=σV.length)(st:hF (aW Y O) σV2 H1 τ σV2 H) :
  dY Γ H (iY Y O τ) σV/\hF O σV H1 (iY Y O τ) σV H:=by
 have A:O.length=τ.length:=by rw[c.len,ok.len,N]
 have π:dY Γ H1 (aW Y O) σV2:=c.blank N x;have ext:Bb H1 H:=st.ext π;have get:∀(j:Nat) t,(iY Y O τ)[j]?=some (some t)->(j∈Y/\O[j]?=some (some t))\/(j∉Y/\τ[j]?=some (some t)):=λj t e=>by
  by_cases h:j∈Y;rw[mH Y O τ j h A]at e;exact .inl ⟨h,e⟩;rw[iG Y O τ j h]at e;exact .inr ⟨h,e⟩
 have B:∀(j:Nat) t,(aW Y O)[j]?=some (some t)->j∉Y/\O[j]?=some (some t):=λj t e=>bD Y O j t e;have G:∀(j:Nat),j∉Y->(aW Y O)[j]?=O[j]?:=λj h=>eI Y O j h;have s:∀a,hZ (aW Y O) σV2 a->∃(j:Nat) (t:Sl),j∉Y/\O[j]?=some (some t)/\t.m.mt=true/\σV[j]?=some (some (.ref a)):=λa Z1=>by
  obtain⟨j,t,b,m,u⟩:=Z1;obtain⟨k,f⟩:=B j t b;rw[x j k]at u;exact⟨j,t,k,f,m,u⟩
 have I:∀a,zJ (aW Y O) σV2 a->∃(j:Nat) (t:Sl),j∉Y/\O[j]?=some (some t)/\t.m≠.val/\σV[j]?=some (some (.ref a)):=λa Z1=>by
  obtain⟨j,t,b,m,u⟩:=Z1;obtain⟨k,f⟩:=B j t b;rw[x j k]at u;exact⟨j,t,k,f,m,u⟩
 have C:∀(j l:Nat) t g q,j∈Y->O[j]?=some (some t)->l∉Y->τ[l]?=some (some g)->t.m≠.val->g.m≠.val->(t.m.mt=true\/g.m.mt=true)->σV[j]?=some (some (.ref q))->σV[l]?=some (some (.ref q))->False:=by
  intro j l t g q hj b P K m m' L i d;rw[← x l P]at d;obtain⟨p,ep,Q⟩:=c.ownAt b m;rw[i]at ep;have ep:=Ap (Ap ep);cases ep;obtain⟨o,S,_⟩:=Q.obj;rcases L with L|L;rcases st.nv q ⟨l,g,K,m',d⟩with z|z;obtain⟨D,E,k,f,v,F⟩:=I q z;exact c.dis j D t E q (λy=>k (by rw[← y];exact hj)) b f L v i F;rw[S]at z;cases z;rcases st.mu q ⟨l,g,K,L,d⟩with z|z;obtain⟨D,E,k,f,v,F⟩:=s q z;exact c.dis D j E t q (λy=>k (by rw[y];exact hj)) f b v m F i;rw[S]at z;cases z
 constructor
 ·refine⟨λj t b=>?_,λj l t g q n b K m m' i d=>?_,λj t q b m i=>?_,λj t q b m i=>?_,ok.keep,ok.dom,by rw[lL,ok.len,N]⟩;rcases get j t b with⟨h,e⟩|⟨h,e⟩;obtain⟨w,M,r⟩:=c.rel j t e;refine⟨w,M,r.mono ext λp o ep m U=>st.fr p o U λz=>?_⟩;obtain⟨D,E,k,f,v,F⟩:=s p z;exact c.dis D j E t p (λy=>k (by rw[y];exact h)) f e v m F (by rw[M,ep]);obtain⟨w,M,r⟩:=ok.rel j t e;exact⟨w,by rw[← x j h];exact M,r⟩
  ·rcases get j t b with⟨h,e⟩|⟨h,e⟩;rcases get l g K with⟨h',J⟩|⟨h',J⟩;exact c.dis j l t g q n e J m m' i d;exact C j l t g q h e h' J (fU m) m' (.inl m) i d;rcases get l g K with⟨h',J⟩|⟨h',J⟩;exact C l j g t q h' J h e m' (fU m) (.inr m) d i;rw[← x j h]at i;rw[← x l h']at d;exact ok.dis j l t g q n e J m m' i d
  ·rcases get j t b with⟨h,e⟩|⟨h,e⟩;exact c.own j t q e m i;rw[← x j h]at i;exact ok.own j t q e m i
  ·rcases get j t b with⟨h,e⟩|⟨h,e⟩;exact c.par j t q e m i;rw[← x j h]at i;exact ok.par j t q e m i
 ·refine⟨λa o e n=>st.fr a o e λz=>?_,st.dom,λa ⟨j,t,b,m,u⟩=>?_,λa ⟨j,t,b,m,u⟩=>?_,λj t b=>?_,λj t b m=>?_,λj t b m=>?_⟩;obtain⟨D,E,k,f,v,F⟩:=s a z;exact n ⟨D,E,f,v,F⟩;rcases get j t b with⟨h,e⟩|⟨h,e⟩;exact .inl ⟨j,t,e,m,u⟩;rw[← x j h]at u;rcases st.mu a ⟨j,t,e,m,u⟩with z|z;obtain⟨D,E,k,f,v,F⟩:=s a z;exact .inl ⟨D,E,f,v,F⟩;exact .inr z;rcases get j t b with⟨h,e⟩|⟨h,e⟩;exact .inl ⟨j,t,e,m,u⟩;rw[← x j h]at u;rcases st.nv a ⟨j,t,e,m,u⟩with z|z;obtain⟨D,E,k,f,v,F⟩:=I a z;exact .inl ⟨D,E,f,v,F⟩;exact .inr z;by_cases h:j∈Y;exact⟨t,by rw[mH Y O τ j h A];exact b⟩;obtain⟨g,R⟩:=st.kp j t (by rw[G j h];exact b);exact⟨g,by rw[iG Y O τ j h];exact R⟩;by_cases h:j∈Y;exact⟨t,by rw[mH Y O τ j h A];exact b,rfl,λ_=>rfl,rfl⟩;obtain⟨g,R,k,f,v⟩:=st.fix j t (by rw[G j h];exact b) m;exact⟨g,by rw[iG Y O τ j h];exact R,k,f,rfl⟩;rcases get j t b with⟨h,e⟩|⟨h,e⟩;exact⟨t,e,m⟩;obtain⟨T,V,W⟩:=st.lt j t e m;exact⟨T,(B j T V).2,W⟩
def wB(o:List Nat)(g:DG)(t:DT)(e:DE):List D->Sg->Option (List D×Sg)
 |[],a=>some ([],a)
 | d :: r,a=>(g d a).bind λb=>(t b).bind λx=>if x.1=true then(e x.2).bind λy=>match y.1 with
     |.val c=>(wB o g t e r (aW o y.2)).bind λz=>some (c::z.1,z.2)
     |_=>none else wB o g t e r (aW o x.2)
noncomputable def cO:DT:=λZ=>some (true,Z)
def bB(o:List Nat)(r:DI)(g:DG)(t:DT)(e:DE):DE:=λZ=>(r Z).bind λx=>if x.1.length<=sizeLine then(wB o g t e x.1 (aW o (lendO x.2.1 x.2.2))).bind λy=>
 some (.own (.lst y.1),sI x.2.1 x.2.2 (iY o (lendO x.2.1 x.2.2) y.2))else none
set_option tactic.hygienic true in
def tP(hg:zQ ow g gd)(h:Bd Γ (bB ow ri gd t e) a H Q) :
  HB ow (Dm Γ ri) g (Cw Γ t) (Bd Γ e) a H Q:=by
 obtain⟨Z,ok,res,σ',w,k⟩:=h;obtain⟨⟨O,l,c⟩,e1,w⟩:=aB w;dsimp only at w;split at w
 case isFalse=>cases w
 case isTrue hlen=>
 obtain⟨⟨all,τe⟩,e2,w⟩:=aB w;cases w;refine⟨Z,ok,O,l,c,e1,λJ G P I K A stay=>?_⟩;have bl:(blank ow a).length=a.length:=fK ow a;have bo:∀j,j∉ow->(blank ow a)[j]?=a[j]?:=λj hj=>eI ow a j hj;have L:dY Γ G (lendO l c) a:=I.lendO;have okB:dY Γ G (aW ow (lendO l c)) (blank ow a):=L.blank bl bo;have hb:∀(j:Nat) t,(aW ow (lendO l c))[j]?=some (some t)->j∉ow:=λj t ej=>(bD ow _ j t ej).1
 have q:∀o d,dY Γ d o (blank ow a)->hF (aW ow (lendO l c)) (blank ow a) G o (blank ow a) d->dY Γ d (iY ow (lendO l c) o) a/\hF (lendO l c) a G (iY ow (lendO l c) o) a d:=
  λo d r s=>Vl L r bo bl s
 refine⟨λi m ys d=>m=O.length-i/\i<=O.length/\∃o don fH,wB ow gd t e (O.drop i) o=some (fH,τe)/\don++fH=all/\don.length<=i/\Rps d don ys/\dY Γ d o (blank ow a)/\hF (aW ow (lendO l c)) (blank ow a) G o (blank ow a) d,
  ⟨O.length,by simp,zero_le _,aW ow (lendO l c),[],all,by simpa using e2,rfl,sS _,.nil,okB,.refl⟩,?_⟩
 rintro i m ys d ⟨rfl,hi,o,don,fH,f,n,M,X,r,s⟩;have hyl:=X.length;obtain⟨okw,N⟩:=q o d r s;have hP:=stay _ a d N;refine⟨by lia,?_⟩;by_cases u:i<O.length
 ·have ei:O[i]?=some O[i]:=nL u;refine .inr ⟨A.go d i _ hP ei,λy Y hy=>?_⟩;obtain⟨B,ry⟩:=A.yld d i _ y Y hP ei hy;rw[drop_eq_getElem_cons u]at f;obtain⟨π,eg,f⟩:=aB f;obtain⟨⟨b,C⟩,et,f⟩:=aB f;refine hg Γ Y _ _ _ o (blank ow a) _ y π _ (r.same B) (s.trans (.same B)) ry eg λσV3 R S l3 σ=>?_;have x:Bb d Y:=.same B;refine⟨π,R,b,C,et,λH4 D E=>?_⟩;have z:Bb Y H4:=E.ext R;dsimp only at f;split at f;rename_i hbt;dsimp only;rw[eH hbt];obtain⟨⟨r5,T⟩,ee,f⟩:=aB f;refine⟨C,D,r5,T,ee,λv H5 ok5 r5' U f5=>?_⟩;dsimp only at f;split at f;rename_i d';obtain⟨⟨F,τe'⟩,ec',f⟩:=aB f;cases f;refine⟨_,by lia,rfl,u,aW ow T,don++[d'],F,ec',by rw[← n];simp,by simp;exact M,?_,ok5.blank (by rw[l3]) (λj hj=>((σ j hj).1).symm),hF.blank hb ((S.trans E).trans U) λj hj=>((σ j hj).1).symm⟩;exact((X.mono x).mono z |>.mono (U.ext D)).append (.cons r5' .nil);cases f;rename_i hbf;dsimp only;rw[a0m hbf];refine⟨_,by lia,rfl,u,aW ow C,don,fH,f,n,le_succ_of_le M,(X.mono x).mono z,D.blank (by rw[l3]) (λj hj=>((σ j hj).1).symm),hF.blank hb (S.trans E) λj hj=>((σ j hj).1).symm⟩
 ·have e0:i=O.length:=by lia
  subst e0;rw[drop_length]at f;cases f;rw[Ci]at n;subst n;refine .inl ⟨A.stop d hP,λp hp=>?_⟩;obtain⟨V,W⟩:=jG I okw N;have B:lG d (gV d p (.lst ys)):=aN hp;have nw:vC d (gV d p (.lst ys)) (.own (.lst don)) (.ref p):=⟨p,rfl,hp,ys,aH,X.mono (.same B)⟩;exact k _ _ (V.same B) (nw.res V) ((K.trans W).trans (.same B)) (nw.frh.back (K.trans W))
def MF(a:zQ o g G)(h:∀b,PE X ex (HB o (Dm b r) g (Cw b t) (Bd b e))):GE X ex (bB o r G t e):=.mk λb=>Bq (h b) λ_ _ _=>tP a
def Vm:DR X [] (Cw d cO):=λp s Z H Q I ⟨a,o,b,c,e,k⟩=>SV p s Z H Q I (by cases e;exact k H o .refl)
def Vn(h:GT X c t):DR X [c] (Cw a t):=SW (h.to a)
def Vo(a:zQ o g G)(h:∀c,PS X s (λD Z H=>HB o (Dm c r) g (Cw c t) (Bd c e) Z H λv b=>D.nx (Z.set i (some v)) b)):GS E X s (aU i (bB o r G t e)):=.mk λc=>Cd (h c) λD d H h=>tP a (qO h)
abbrev Aa4:=List Sl->Option (kN×List Sl)
structure BD(H:Hp)(as:List Sl)(vs:List V):Prop where
 len:as.length=vs.length
 rel:∀(i:Nat) s,as[i]?=some s->∃v,vs[i]?=some v/\El H s v
 dis:∀(i j:Nat) s t p,i≠j->as[i]?=some s->as[j]?=some t->s.m.mt=true->t.m≠.val->vs[i]?=some (.ref p)->vs[j]?=some (.ref p)->False
 own:∀(i:Nat) s,as[i]?=some s->s.m≠.own
def Gz(A:List Sl)(v:List V)(a:Addr):Prop:=∃(i:Nat) (s:Sl),A[i]?=some s/\s.m.mt=true/\v[i]?=some (.ref a)
structure Bk(as:List Sl)(vs:List V)(H:Hp)(as':List Sl)(H':Hp):Prop where
 rel:∀(i:Nat) s,as[i]?=some s->s.m.mt=true->∃s' v,as'[i]?=some s'/\s'.m=s.m/\vs[i]?=some v/\El H' s' v
 fr:∀a o,H a=some o->¬Gz as vs a->H' a=some o
 dom:∀a,H' a=none->H a=none
def AW(n:Nat)(b:Aa4):Sp:=λc H Q _=>∃A r a,BD H A c/\A.length=n/\b A=some (r,a)/\∀v h,Bk A c H a h->vC H h r v->Q v h
noncomputable def II(Z:Sg):kN->Option kN
 |.val d=>some (.val d)
 |.own d=>some (.own d)
 | .slot i=>match Z[i]? with
   |some (some s)=>if s.m=.own then some (.own s.d)else if s.m=.val then some (.val s.d)else none
   |_=>none
noncomputable def qR:List Sl->Sg->List Sl
 |[],_=>[]
 |a::A,some s::Z=>(if a.m=.val then a else s)::qR A Z
 |a::A,_::Z=>a::qR A Z
 |a::A,[]=>a::A
noncomputable def Eo(len:Nat)(a:List Sl):Sg:=a.map some++replicate (len-a.length) none
def lM(len:Nat)(a:DS):Aa4:=λA=>(a (Eo len A)).bind λo=>match o with
 |.nx Z=>some (.val .non,qR A Z)
 |.rt r Z=>(II Z r).bind λb=>some (b,qR A Z)
 |_=>none
def jH{i:Nat}:(Eo len a)[i]?=some (some s)↔a[i]?=some s:=by
 unfold Eo;by_cases h:i<a.length;rw[Bz (by simp_all),An];simp;rw[CP (by simp_all),List.getElem?_replicate,EG.mpr (DK h)];simp
def gD{i:Nat}:(PySem.hX N a)[i]?=some (some v)↔a[i]?=some v:=by
 unfold PySem.hX;by_cases h:i<a.length;rw[Bz (by simp_all),An];simp;rw[CP (by simp_all),List.getElem?_replicate,EG.mpr (DK h)];simp
theorem zT:∀ {as:List Sl} {Z:Sg} {i:Nat} {a s:Sl},as[i]? = some a->Z[i]? = some (some s)->(qR as Z)[i]? = some (if a.m=.val then a else s)
 |[],_,_,_,_,h,_|_::_,[],_,_,_,_,h=>by simp at h
 | a::as,o::Z,0,b,s,h,H=>by
   simp at h H;subst h H;rfl
 | a::as,o::Z,i+1,b,s,h,H=>by
   have:=zT (as:=as) (Z:=Z) (i:=i) (a:=b) (s:=s) (by simpa using h) (by simpa using H);cases o<;>(unfold qR;simp_all)
abbrev MS:=Sg->(BR->Prop)->Prop
abbrev MC:=List Sl->(kN->List Sl->Prop)->Prop
def pF(m:MS):Prop:=∀Z (Q a:BR->Prop),(∀o,Q o->a o)->m Z Q->m Z a
def FG(b:Gm)(E:Ex)(m:MS):TS:=λD a H=>∃Z,dY b H Z a/\m Z λo=>qN b E Z a H o D
structure GM(E:Ex)(X:Cx)(ss:List Stmt)(m:MS):Prop where
 to:∀Γ,BB X ss (FG Γ E m)
 mon:pF m
def CW(n:Nat)(C:MC):Sp:=λb H Q _=>∃a,BD H a b/\a.length=n/\C a λr A=>∀v h,Bk a b H A h->vC H h r v->Q v h
def MG(A:List Sl)(K:kN->List Sl->Prop)(o:BR):Prop:=match o with
 |.nx Z=>K (.val .non) (qR A Z)
 |.rt r Z=>∃a,II Z r=some a/\K a (qR A Z)
 |_=>False
def GB(len:Nat)(m:MS):MC:=λa K=>m (Eo len a) (MG a K)
def wC(F:DQ K x qual st f fd)(S:Ax N ps (bZ st))(T:ps.length<=N.length)(m:MS)(B:pF m)
  (hb:∀(cdv:Value) (A:Around) (outer:List Env) (s:Shared) (H:Hp) (E:XK),Ah k (A.deeper (PyProof.Rows.envOfC qual (bZ st) s.heap.objs.size f cdv))->∀Γ,BB (ES CU P w K mg base N qual (bZ st) f cdv A outer s H E).nox (jE st) (FG Γ Ex.no m)) :
  AH P w K mg base CU (k+1) f fd ps (CW ps.length (GB N.length m)):=by
 refine F.ok S (λvs H Q E Z1=>by obtain⟨as,ok,L,_⟩:=Z1;rw[← ok.len];exact L) λcdv A outer s H vs Q E U h=>?_;obtain⟨as,ok,L,h⟩:=h;refine⟨_,hb cdv A outer s H E U ⟨H,Gz as vs⟩,Eo N.length as,?_,B _ _ _ (λo k=>?_) h⟩;refine⟨λi s e=>?_,λi j s t p n l I m m' e V=>?_,λi s p l m=>?_,λi s p l m e=>?_,λa o e _=>e,λa e=>e,?_⟩;obtain⟨v,y,r⟩:=ok.rel i s (jH.mp e);exact⟨v,gD.mpr y,r⟩;exact ok.dis i j s t p n (jH.mp l) (jH.mp I) m m' (gD.mp e) (gD.mp V);exact absurd m (ok.own i s (jH.mp l));exact⟨i,s,jH.mp l,by rw[m];rfl,gD.mp e⟩;unfold Eo PySem.hX;have:=ok.len;simp;lia;have u:∀ Z O H',dY ⟨H,Gz as vs⟩ H' Z O->hF (Eo N.length as) (PySem.hX N vs) H Z O H'->Bk as vs H (qR as Z) H':=λZ O H' b st'=>by
  have W:∀a,hZ (Eo N.length as) (PySem.hX N vs) a->Gz as vs a:=λa ⟨j,t,I,m,X⟩=>⟨j,t,jH.mp I,m,gD.mp X⟩;refine⟨λi a l m=>?_,λa o e n=>st'.fr a o e λz=>n (W a z),st'.dom⟩;have M:a.m=.par:=by
   have h0:=ok.own i a l;cases q:a.m with
   |par=>rfl
   |own=>exact absurd q h0
   |val|lent=>rw[q]at m;cases m
  obtain⟨s',es,Y,_,D⟩:=st'.fix i a (jH.mpr l) (.inl M);obtain⟨v,y,r⟩:=b.rel i s' es;obtain⟨σ,π,_⟩:=ok.rel i a l;have:some (some v)=some (some σ):=by rw[← y,D];exact gD.mpr π
  cases this;refine⟨s',v,?_,Y,π,r⟩;rw[zT l es,a0m (by rw[M];exact λz=>nomatch z)]
 cases o with
 | nx Z=>
   exact λO H' b st'=>k .non H' (u Z O H' b st') .non
 | rt r Z=>
   obtain⟨res,y,k⟩:=k;intro v O H' b J st';refine k v H' (u Z O H' b st') ?_;cases r with
   |val d=>cases y;exact J
   | own d=>
     cases y;obtain⟨p,G,C,q3,q4⟩:=J;exact⟨p,G,q4,C⟩
   | slot i=>
     obtain⟨G,s',C⟩:=J;have g:(match Z[i]? with|some (some s)=>if s.m=.own then some (kN.own s.d)else if s.m=.val then some (.val s.d)else none|_=>none)=some res:=y;rw[C]at g;dsimp only at g;obtain⟨v',D,R⟩:=b.rel i s' C;rw[G]at D;cases D;split at g
     ·rename_i B;cases g;obtain⟨p,rfl,ow⟩:=(cV (by rw[B];exact λz=>nomatch z)).mp R;exact⟨p,rfl,b.own i s' p C B G,ow⟩
     ·split at g;rename_i B;cases g;obtain⟨m,d⟩:=s';cases B;exact R;cases g
 |bk Z|ct Z|ex c f Z=>exact k.elim
def bE(F:DQ K x n p f z)(S:Ax N t (bZ p))(d:t.length<=N.length)(b:DS)
  (hb:∀(C:Value) (A:Around) (outer:List Env) (s:Shared) (H:Hp) (E:XK),Ah k (A.deeper (PyProof.Rows.envOfC n (bZ p) s.heap.objs.size f C))->Cy Ex.no (ES CU P w K mg base N n (bZ p) f C A outer s H E).nox (jE p) b) :
  AH P w K mg base CU (k+1) f z t (AW t.length (lM N.length b)):=
 (wC F S d (λZ Q=>∃ o,b Z=some o/\Q o) (λZ Q l w ⟨o,e,q⟩=>⟨o,e,w o q⟩) λC A outer s H E g v=>Gw ((hb C A outer s H E g).to v) λD u H ⟨Z,O,o,e,q⟩=>⟨Z,O,o,e,q⟩).imp
  λJ H Q E I=>by
   obtain⟨G,y,B,O,h,a,k⟩:=I;obtain⟨o,i,a⟩:=aB a;refine⟨G,O,h,o,i,?_⟩;cases o with
   |nx Z=>cases a;exact k
   | rt r Z=>
     obtain⟨m,j,a⟩:=aB a;cases a;exact⟨_,j,k⟩
   |bk Z|ct Z|ex c f Z=>cases a
def wD(Z:Sg):kN->Option Sl
 |.val d=>some ⟨.val,d⟩
 |.own d=>some ⟨.par,d⟩
 | .slot i=>match Z[i]? with
   |some (some s)=>some ⟨if s.m.mt=true then .par else s.m,s.d⟩
   |_=>none
def nF(Z:Sg):List kN->Option (List Sl)
 |[]=>some []
 |r::b=>(wD Z r).bind λa=>(nF Z b).bind λA=>some (a::A)
noncomputable def EX(i:Nat):List kN->Bool
 |[]=>false
 |.slot j::r=>decide (i=j)||EX i r
 |_::r=>EX i r
def dH:List kN->Bool
 |[]=>true
 |.slot i::r=>!EX i r&&dH r
 |_::r=>dH r
noncomputable def iH(j:Nat):List kN->List Sl->Option Sl
 |.slot i::r,a::A=>if i=j then some a else iH j r A
 |_::r,_::A=>iH j r A
 |_,_=>none
def iA(r:List kN)(A:List Sl):Nat->Sg->Sg
 |_,[]=>[]
 | k,some s::Z=>(match iH k r A with
   |some a=>some (if s.m.mt=true then⟨s.m,a.d⟩else s)
   |none=>some s)::iA r A (k+1) Z
 |k,none::Z=>none::iA r A (k+1) Z
def aI(n:Nat)(r:Aa4)(a:DA):DE:=λZ=>(a Z).bind λx=>(nF x.2 x.1).bind λA=>if A.length=n/\dH x.1=true then(r A).bind λy=>some (y.1,iA x.1 y.2 0 x.2)else none
theorem pG:∀ {f:List kN} {A:List Sl},nF Z f=some A->A.length=f.length/\∀ (k:Nat) r,f[k]? = some r->∃ a,A[k]? = some a/\wD Z r=some a
 |[],A,h=>by cases h;exact⟨rfl,λk r e=>by simp at e⟩
 | r::f,A,h=>by
   obtain⟨a,b,h⟩:=aB h;obtain⟨i,c,h⟩:=aB h;cases h;obtain⟨l,g⟩:=pG c;refine⟨by simp[l],λk d e=>?_⟩;cases k with
   |zero=>simp at e;subst e;exact⟨a,rfl,b⟩
   | succ k=>
     simp_all
def Ag.get(h:Ag f H Z a c b):c.length=b.length/\∀(k:Nat) r,c[k]?=some r->∃v,b[k]?=some v/\gC f H Z a r v:=by
 induction h with
 |nil=>exact⟨rfl,λk r e=>by cases e⟩
 | cons h _ _ i=>
   refine⟨BO (· + 1) i.1,λk r e=>?_⟩;cases k with
   |zero=>obtain rfl:=Ap e;exact⟨_,rfl,h⟩
   |succ k=>exact i.2 k r e
def Ag.dis(h:Ag o H Z n m g):∀ (k l:Nat) d f p,k < l->m[k]? = some (.own d)->m[l]? = some (.own f)->g[k]? = some (.ref p)->g[l]? ≠ some (.ref p):=by
 induction h with
 |nil=>intro k l d f p _ e;cases e
 | cons h t q i=>
   intro k l d f p a e b c;cases l with
   |zero=>lia
   | succ l=>
     cases k with
     | zero=>
       simp_all
     | succ k=>
       exact i k l d f p (DF a) e b c
theorem mI:∀ {rs:List kN} {k:Nat},rs[k]? = some (.slot i)->EX i rs=true
 |[],_,h=>by simp at h
 |r::rs,0,h=>by simp at h;subst h;simp[EX]
 | r::rs,k+1,h=>by
   have:=mI (rs:=rs) (k:=k) (by simpa using h);cases r<;>simp[EX,this]
theorem kS:∀ {b:List kN},dH b=true->∀ (k l i:Nat),b[k]? = some (.slot i)->b[l]? = some (.slot i)->k=l
 |[],_,k,l,i,h,_=>by simp at h
 | r::b,H,k,l,i,h,c=>by
   cases k with
   | zero=>
     cases l with
     |zero=>rfl
     | succ l=>
       simp at h;subst h;unfold dH at H;rw[mI (k:=l) (by simpa using c)]at H;simp at H
   | succ k=>
     cases l with
     | zero=>
       simp at c;subst c;unfold dH at H;rw[mI (k:=k) (by simpa using h)]at H;simp at H
     | succ l=>
       have a:dH b=true:=by
        cases r with
        |slot j=>unfold dH at H;lia
        |val d|own d=>exact H
       exact BO Nat.succ (kS a k l i (by simpa using h) (by simpa using c))
theorem fF:∀ {rs:List kN} {as:List Sl} {a:Sl},iH j rs as=some a->∃ k:Nat,rs[k]? = some (.slot j)/\as[k]? = some a
 |[],_,_,h=>by simp[iH]at h
 |r::rs,[],_,h=>by cases r<;>simp[iH]at h
 | r::rs,a::as,b,h=>by
   cases r with
   | slot i=>
     have H:(if i=j then some a else iH j rs as)=some b:=h;split at H;rename_i e;cases H;subst e;exact⟨0,rfl,rfl⟩
     ·obtain⟨k,c,f⟩:=fF H;exact⟨k+1,by simp_all,by simp_all⟩
   |val d|own d=>obtain⟨k,c,f⟩:=fF (rs:=rs) (as:=as) h;exact⟨k+1,by simp_all,by simp_all⟩
def jX(r:List kN)(A:List Sl)(k:Nat)(o:Option Sl):Option Sl:=match o with
 | some s=>(match iH k r A with
   |some a=>some (if s.m.mt=true then⟨s.m,a.d⟩else s)
   |none=>some s)
 |none=>none
theorem iI:∀ (k:Nat) (Z:Sg) (j:Nat),(iA rs as k Z)[j]? = (Z[j]?).map (jX rs as (k+j))
 |_,[],_=>rfl
 |k,o::Z,0=>by cases o<;>simp[iA,jX]
 | k,o::Z,j+1=>by
   have:=iI (rs:=rs) (as:=as) (k+1) Z j;have e:k+1+j=k+(j+1):=by lia
   rw[e]at this;cases o<;>simpa[iA]using this
theorem lO:∀(k:Nat) (Z:Sg),(iA r a k Z).length=Z.length
 |_,[]=>rfl
 |k,o::Z=>by cases o<;>simp[iA,lO (k+1) Z]
set_option tactic.hygienic true in
def tQ(e2:nF c rs=some as)(hc:dH rs=true)(x:dY Γ H1 c σV)(r1:Ag Γ H1 c σV rs vs)(D:hF Z σV H c σV H1)
  (f1:∀(j:Nat) d p,rs[j]?=some (.own d)->vs[j]?=some (.ref p)->H p=none) :
  BD H1 as vs/\∀r as' v H2,Bk as vs H1 as' H2->vC H1 H2 r v->dY Γ H2 (iA rs as' 0 c) σV/\gC Γ H2 (iA rs as' 0 c) σV r v/\hF Z σV H (iA rs as' 0 c) σV H2/\EU H r v:=by
 obtain⟨la,ga⟩:=pG e2;obtain⟨lv,gv⟩:=r1.get;have P:∀(i:Nat) a,as[i]?=some a->∃r v,rs[i]?=some r/\wD c r=some a/\vs[i]?=some v/\gC Γ H1 c σV r v:=λi a A=>by
  have hi:i<rs.length:=by rw[← la];exact(hR.mp A).1
  have Q:rs[i]?=some rs[i]:=nL hi;obtain⟨a',R,h2⟩:=ga i _ Q;rw[A]at R;cases R;obtain⟨v,h3,h4⟩:=gv i _ Q;exact⟨_,v,Q,h2,h3,h4⟩
 have f:∀i a,wD c (.slot i)=some a->∃s,c[i]?=some (some s)/\a=⟨if s.m.mt=true then .par else s.m,s.d⟩:=λi a A=>by
  have Y:(match c[i]? with|some (some s)=>some (⟨if s.m.mt=true then .par else s.m,s.d⟩:Sl)|_=>none)=some a:=A;split at Y
  ·rename_i s O;cases Y;exact⟨s,O,rfl⟩
  ·cases Y
 have L:∀ a,Gz as vs a->hZ c σV a\/(H a=none/\¬ zJ c σV a/\Γ.H₀ a=none):=λa Z1=>by
  obtain⟨i,s,S,m,G⟩:=Z1;obtain⟨r,v,Q,A,E,M⟩:=P i s S;rw[G]at E;cases E;cases r with
  |val d=>cases A;cases m
  | own d=>
    obtain⟨p,C,T,σ,q4⟩:=M;cases C;exact .inr ⟨f1 i d a Q G,σ,q4⟩
  | slot j=>
    obtain⟨s',O,rfl⟩:=f j s A;obtain⟨C,_⟩:=M;refine .inl ⟨j,s',O,?_,C⟩;by_cases w:s'.m.mt=true;exact w;simp only[w]at m;exact absurd m w
 have J:BD H1 as vs:=by
  refine⟨by rw[la,lv],λi a S=>?_,λi j s t p nij S g m m' G E=>?_,λi a S=>?_⟩
  ·obtain⟨r,v,Q,A,G,M⟩:=P i a S;refine⟨v,G,?_⟩;cases r with
   |val d=>cases A;exact M
   |own d=>cases A;obtain⟨p,C,T,_⟩:=M;exact⟨p,C,T⟩
   | slot j=>
     obtain⟨s',O,rfl⟩:=f j a A;obtain⟨C,_⟩:=M;obtain⟨v',e4,r4⟩:=x.rel j s' O;rw[C]at e4;cases e4;by_cases w:s'.m.mt=true;simp only[w,if_true];exact(cV (s:=⟨.par,s'.d⟩) (λz=>nomatch z)).mpr ((cV (fU w)).mp r4);simp only[w];exact r4
  ·obtain⟨r,v,Q,A,U,M⟩:=P i s S;obtain⟨r2,v2,er2,ea2,ev2,rv2⟩:=P j t g;rw[G]at U;cases U;rw[E]at ev2;cases ev2;have F:∀ l a,wD c (.slot l)=some a->a.m≠.val->∃ s,c[l]? = some (some s)/\s.m≠.val/\(a.m.mt=true->s.m.mt=true):=λl a A w=>by
    obtain⟨s',O,rfl⟩:=f l a A;refine⟨s',O,?_,?_⟩;intro z;simp only[z,Md.mt]at w;exact w rfl;intro z;by_cases W:s'.m.mt=true;exact W;simp only[W]at z;exact z
   cases r with
   |val d=>cases A;cases m
   | own d=>
     obtain⟨q,C,T,σ,q4⟩:=M;cases C;cases r2 with
     |val d=>cases ea2;exact m' rfl
     | own d2=>
       rcases Nat.lt_or_gt_of_ne nij with z|z;exact r1.dis i j d d2 p z Q er2 G E
       ·exact r1.dis j i d2 d p z er2 Q E G
     | slot l=>
       obtain⟨s',O,W,_⟩:=F l t ea2 m';exact σ ⟨l,s',O,W,rv2.1⟩
   | slot l=>
     obtain⟨s',O,W,hmt⟩:=F l s A (fU m);cases r2 with
     |val d=>cases ea2;exact m' rfl
     | own d2=>
       obtain⟨q,C,T,σ,q4⟩:=rv2;cases C;exact σ ⟨l,s',O,W,M.1⟩
     | slot l2=>
       obtain⟨s2,hs2,hm2,_⟩:=F l2 t ea2 m';refine x.dis l l2 s' s2 p (λz=>?_) O hs2 (hmt m) hm2 M.1 rv2.1;subst z;exact nij (kS hc i j l Q er2)
  ·obtain⟨r,v,Q,A,U,M⟩:=P i a S;cases r with
   |val d|own d=>cases A;exact λz=>nomatch z
   | slot j=>
     obtain⟨s',O,rfl⟩:=f j a A;intro z;by_cases w:s'.m.mt=true;simp only[w,if_true]at z;cases z;simp only[w]at z;have z':s'.m=.own:=z;rw[z']at w;exact w rfl
 refine⟨J,λr as' v H2 po nw=>?_⟩;have extA:Bb H1 H2:=by
  refine⟨λp xs h=>po.fr p _ h λz=>?_,λp o u h=>po.fr p _ h λz=>?_⟩;obtain⟨i,s,S,m,G⟩:=z;obtain⟨v,e4,r4⟩:=J.rel i s S;rw[G]at e4;cases e4;obtain⟨q,eq,ow⟩:=(cV (fU m)).mp r4;cases eq;obtain⟨o,ho,n1,_⟩:=ow.obj;rw[h]at ho;cases ho;exact n1 _ rfl;obtain⟨i,s,S,m,G⟩:=z;obtain⟨v,e4,r4⟩:=J.rel i s S;rw[G]at e4;cases e4;obtain⟨q,eq,ow⟩:=(cV (fU m)).mp r4;cases eq;obtain⟨o',ho,_,n1⟩:=ow.obj;rw[h]at ho;cases ho;exact n1 _ _ rfl
 have back:∀ (j:Nat) t,(iA rs as' 0 c)[j]? = some (some t)->∃ s,c[j]? = some (some s)/\t.m=s.m/\(t=s\/(s.m.mt=true/\∃ (k:Nat) (a:Sl),rs[k]? = some (.slot j)/\as'[k]? = some a/\t=⟨s.m,a.d⟩)):=λj t g=>by
  rw[iI,Bj]at g;cases q:c[j]? with
  |none=>rw[q]at g;cases g
  | some o=>
    rw[q]at g;cases o with
    |none=>cases g
    | some s=>
      have B:jX rs as' j (some s)=some t:=Ap g;unfold jX at B;refine⟨s,rfl,?_⟩;dsimp only at B;split at B;rename_i a ha;obtain⟨X,R,h2⟩:=fF ha;have N:=Ap B;by_cases w:s.m.mt=true;rw[eH w]at N;subst N;exact⟨rfl,.inr ⟨w,X,a,R,h2,rfl⟩⟩;rw[a0m w]at N;subst N;exact⟨rfl,.inl rfl⟩;cases B;exact⟨rfl,.inl rfl⟩
 have fwd:∀(j:Nat) s,c[j]?=some (some s)->∃t,(iA rs as' 0 c)[j]?=some (some t)/\t.m=s.m/\(s.m.mt=false->t=s):=λj s g=>by
  rw[iI,Bj,g];show ∃t,some (jX rs as' j (some s))=some (some t)/\_;unfold jX;dsimp only;split;refine⟨_,rfl,?_,λz=>?_⟩;split<;>rfl;rw[a0m (by rw[z];exact Ec)];exact⟨s,rfl,rfl,λ_=>rfl⟩
 have quiet:∀ (j:Nat) s t p,c[j]? = some (some s)->(iA rs as' 0 c)[j]? = some (some t)->t=s->s.m≠.val->σV[j]? = some (some (.ref p))->(∀ k:Nat,s.m.mt=true->rs[k]? ≠ some (.slot j))->¬ Gz as vs p:=by
  intro j s t p O _ _ w G hno ⟨i,a,S,m,evi⟩;obtain⟨r,v,Q,A,U,M⟩:=P i a S;rw[evi]at U;cases U;cases r with
  |val d=>cases A;cases m
  | own d=>
    obtain⟨q,C,T,σ,q4⟩:=M;cases C;exact σ ⟨j,s,O,w,G⟩
  | slot l=>
    obtain⟨s',I,rfl⟩:=f l a A;have hmt:s'.m.mt=true:=by
     by_cases h':s'.m.mt=true;exact h';simp only[h']at m;exact absurd m h'
    by_cases z:l=j;subst z;rw[O]at I;cases I;exact hno i hmt Q;exact x.dis l j s' s p z I O hmt w M.1 G
 have okB:dY Γ H2 (iA rs as' 0 c) σV:=by
  refine⟨λj t g=>?_,λj l t t' q n g el m m' eq eq'=>?_,λj t q g m eq=>?_,λj t q g m eq=>?_,λa o e n=>?_,λa e=>x.dom a (po.dom a e),by rw[lO];exact x.len⟩
  ·obtain⟨s,O,π,hc'⟩:=back j t g;obtain⟨w',ew,rw'⟩:=x.rel j s O;refine⟨w',ew,?_⟩;by_cases K:s.m.mt=true/\∃ X:Nat,rs[X]? = some (.slot j)
   ·obtain⟨w,X,hk'⟩:=K;obtain⟨a,ha,hao⟩:=ga X _ hk';obtain⟨v',hv',rv'⟩:=gv X _ hk';have E:σV[j]? = some (some v'):=rv'.1;rw[ew]at E;cases E;obtain⟨s',I,Y⟩:=f j a hao;rw[O]at I;cases I;have am:a.m=.par:=by rw[Y,eH w]
    obtain⟨a2,w2,R,h2,h3,h4⟩:=po.rel X a ha (by rw[am];rfl);rw[hv']at h3;cases h3;have ht:t=⟨s.m,a2.d⟩:=by
     rw[iI,Bj,O]at g;have B:jX rs as' j (some s)=some t:=Ap g;unfold jX at B;dsimp only at B;split at B;rename_i b hb;obtain⟨k2,C,T⟩:=fF hb;obtain rfl:=kS hc k2 X j C hk';rw[R]at T;cases T;have:=Ap B;rw[eH w]at this;exact this.symm;rename_i hb
     exfalso;have:∀ {rs:List kN} {as:List Sl} {kk:Nat} {a:Sl},rs[kk]? = some (.slot j)->as[kk]? = some a->iH j rs as≠none:=by
      intro rs
      induction rs with
      |nil=>intro as kk a h;simp at h
      | cons r rs ih=>
        intro as kk a h h';cases as with
        |nil=>simp at h'
        | cons b as=>
          cases kk with
          |zero=>simp at h;subst h;simp[iH]
          | succ kk=>
            have:=ih (as:=as) (kk:=kk) (a:=a) (by simpa using h) (by simpa using h');cases r with
            |slot i=>simp only[iH];split;exact λz=>nomatch z;exact this
            |val d|own d=>exact this
     exact this hk' R hb
    subst ht;have h5:=(cV (s:=a2) (by rw[h2,am];exact λz=>nomatch z)).mp h4;exact(cV (s:=⟨s.m,a2.d⟩) (fU w)).mpr h5
   ·have ht:t=s:=by
     rcases hc' with h|⟨w,X,a,R,_⟩;exact h;exact absurd ⟨w,X,R⟩ K
    rw[ht];refine rw'.mono extA λp o ep m hp=>po.fr p o hp ?_;exact quiet j s t p O g ht m (by rw[ew,ep]) λX w hk=>K ⟨w,X,hk⟩
  ·obtain⟨s,O,π,_⟩:=back j t g;obtain⟨s',I,mm',_⟩:=back l t' el;exact x.dis j l s s' q n O I (by rw[← π];exact m) (by rw[← mm'];exact m') eq eq'
  ·obtain⟨s,O,π,_⟩:=back j t g;exact x.own j s q O (π.symm.trans m) eq
  ·obtain⟨s,O,π,_⟩:=back j t g;exact x.par j s q O (π.symm.trans m) eq
  ·refine po.fr a o (x.keep a o e n) λz=>?_;rcases L a z with⟨j,s,O,m,G⟩ | ⟨_,_,z0⟩
   ·cases hq:s.m with
    |own=>rw[x.own j s a O hq G]at e;cases e
    |par=>exact n (x.par j s a O hq G)
    |val|lent=>rw[hq]at m;cases m
   ·rw[z0]at e;cases e
 have stB:hF Z σV H (iA rs as' 0 c) σV H2:=by
  refine⟨λa o e n=>?_,λa e=>D.dom a (po.dom a e),λa ⟨j,t,g,m,A⟩=>?_,λa ⟨j,t,g,m,A⟩=>?_,λj t g=>?_,λj t g m=>?_,λj t g m=>?_⟩
  ·refine po.fr a o (D.fr a o e n) λz=>?_;rcases L a z with y|⟨y,_⟩;rcases D.mu a y with y|y;exact n y;rw[e]at y;cases y;rw[e]at y;cases y
  ·obtain⟨s,O,π,_⟩:=back j t g;exact D.mu a ⟨j,s,O,by rw[← π];exact m,A⟩
  ·obtain⟨s,O,π,_⟩:=back j t g;exact D.nv a ⟨j,s,O,by rw[← π];exact m,A⟩
  ·obtain⟨s,O⟩:=D.kp j t g;obtain⟨t',R,_⟩:=fwd j s O;exact⟨t',R⟩
  ·obtain⟨s,O,C,T,σ⟩:=D.fix j t g m;obtain⟨t',R,h2,h3⟩:=fwd j s O;refine⟨t',R,h2.trans C,λz=>?_,σ⟩;rw[h3 (by rw[C,z];rfl)];exact T z
  ·obtain⟨s,O,π,_⟩:=back j t g;exact D.lt j s O (π.symm.trans m)
 refine⟨okB,?_,stB,nw.frh.back D⟩;cases r with
 |val d=>exact nw
 | own d=>
   obtain⟨p,C,T,σ⟩:=nw;refine⟨p,C,σ,λZ0=>?_,x.dom p T⟩;obtain⟨j,t,g,m,A⟩:=Z0;obtain⟨s,O,π,_⟩:=back j t g;obtain⟨o,ho,_⟩:=x.mutObj ⟨j,s,O,by rw[← π];exact m,A⟩;rw[T]at ho;cases ho
 |slot i=>exact nw.elim
def Vp{z:Aa4}(h:Bd G (aI n z f) B H Q):Ir (AW n z) [] E (BX G f) B H Q:=by
 obtain⟨Z,O,L,C,e,k⟩:=h;obtain⟨⟨J,a⟩,i,e⟩:=aB e;obtain⟨M,j,e⟩:=aB e;split at e
 case isFalse=>cases e
 case isTrue hc=>
 obtain⟨⟨r,A⟩,l,e⟩:=aB e;cases e;refine⟨Z,O,J,a,i,λI m b o d p=>?_⟩;show AW n z (I++[]) m Q E;rw[Ci];obtain⟨q,c⟩:=tQ j hc.2 b o d p;refine⟨M,r,A,q,hc.1,l,λv g s t=>?_⟩;obtain⟨u,w,x,y⟩:=c r A v g s t;exact k v g u w x y
def Vq{r:Aa4}(h:∀b,PE X e (Ir (AW n r) [] E (BX b a))):GE X e (aI n r a):=.mk λb=>Bq (h b) λ_ _ _=>Vp
def nG(i j:Int):Prop:=Hx i j\/(Builtin.Int.intBits i<=2^20/\Builtin.Int.intBits j<=2^20)
theorem nG.ok(h:nG i j):IntMulOk i j:=by
 rcases h with h|h;exact h.ok;exact IntMulOk.of_bits h.1 h.2
def Vr:Ar X (binaryOp .Mult) (rI nG λi j=>.int (i*j)):=Hw λ_ _ _ _ _ _ _ hc q=>PyProof.Rows.mul_int q hc.ok
section
open Classical
noncomputable def ii(f:Int->Int->D):F2:=λd e=>match d,e with
 |.int i,.int j=>some (.val (f i j))
 |_,_=>none
noncomputable def HM(C:Int->Int->Prop)(f:Int->Int->D):F2:=λd e=>match d,e with
 |.int i,.int j=>if C i j then some (.val (f i j))else none
 |_,_=>none
end
def zU(h:∀H i j,Rp H (f i j) (g i j)):oH (CT g) (ii f):=by
 intro H c d x y Q r a b e k;unfold ii at e;split at e;cases e;obtain rfl:=cA a;obtain rfl:=cA b;exact⟨_,_,rfl,rfl,k _ H (.refl _) (h H _ _)⟩;cases e
def wE(h:∀H i j,Rp H (f i j) (g i j)):oH (rI C g) (HM C f):=by
 intro H c d x y Q r a b e k;unfold HM at e;split at e;split at e;rename_i hc;cases e;obtain rfl:=cA a;obtain rfl:=cA b;exact⟨_,_,rfl,rfl,hc,k _ H (.refl _) (h H _ _)⟩;cases e;cases e
def GC:F2:=ii λi j=>.int (i-j)
def zV:F2:=HM (λ_ j=>0<j) λi j=>.int (i % j)
def IJ:F2:=HM Gn λi j=>.int (i^j.toNat)
def DU:F2:=ii λi j=>.bl (decide (i<j))
def Ce:F2:=ii λi j=>.bl (decide (j<i))
def IK:F2:=ii λi j=>.bl (decide (j<=i))
def Vs:oH (CT λi j=>.int (i-j)) GC:=zU λ_ _ _=>.int _
def Vt:oH (rI (λ_ j=>0<j) λi j=>.int (i % j)) zV:=wE λ_ _ _=>.int _
def Vu:oH (rI Gn λi j=>.int (i^j.toNat)) IJ:=wE λ_ _ _=>.int _
def MH:oH (CT λi j=>.bl (decide (i<j))) DU:=zU λ_ _ _=>.bl _
def MI:oH (CT λi j=>.bl (decide (j<i))) Ce:=zU λ_ _ _=>.bl _
def Vv:oH (CT λi j=>.bl (decide (j<=i))) IK:=zU λ_ _ _=>.bl _
def qS{Z:St}(I:dX X p Z H s)(h:cG H l=some (true,xs)):xs.length<=sizeLine/\∃(i:List Value) (n:Nat),bC xs i/\xs.length=i.length/\s.heap.get? l=some {cls:=.type "list",data:=.seq i.toArray n}:=by
 rcases qF h with⟨_,e⟩|⟨z,_⟩|⟨_,o,e⟩;exact I.lstM e;cases z;obtain⟨_,z,i,n,r,e⟩:=I.hok l _ e;exact⟨z,i,n,r,r.length,e⟩
def MJ:R2:=λx y H Q=>∃l b a z,x=.ref l/\y=.ref b/\cG H l=some (true,a)/\cG H b=some (true,z)/\a.length+z.length<=sizeLine/\∀p,H p=none->Q (.ref p) (gV H p (.lst (a++z)))
def Vx:Ar X (binaryOp .Add) MJ:=by
 intro A s Z H x y v u Q I c d h;obtain⟨l,b,C,B,rfl,rfl,f,g,o,q⟩:=h;cases c;cases d;obtain⟨z,w,n,r,p,e⟩:=qS I f;obtain⟨t,a,N,i,j,k⟩:=qS I g;refine PySem.P.add_list e k ?_ (by grind);have m:w.toArray++a.toArray=(w++a).toArray:=by simp
 rw[m];exact⟨.ref _,_,I.lnew (t':=s.toks) (r.append i) (by simp_all),rfl,q _ I.fresh⟩
def ML:R2:=λx y H Q=>Kb x y H Q\/MJ x y H Q
def Vy:Ar X (binaryOp .Add) ML:=TC.or Vx
noncomputable def fB:F2:=λd e=>match d,e with
 |.int i,.int j=>some (.val (.int (i+j)))
 |.str a,.str b=>if a.length+b.length<=sizeLine then some (.val (.str (a++b)))else none
 |.lst l,.lst m=>if l.length+m.length<=sizeLine then some (.own (.lst (l++m)))else none
 |.tup l,.tup m=>if l.length+m.length<=sizeLine then some (.val (.tup (l++m)))else none
 |_,_=>none
def nH(a:H p=none)(r:Rps H l xs):vC H (gV H p (.lst xs)) (.own (.lst l)) (.ref p):=⟨p,rfl,a,xs,aH,r.mono (.same (aN a))⟩
def wF(a:H p=none)(r:Rps H l xs):vC H (gV H p (.tup xs)) (.val (.tup l)) (.ref p):=.tup aH (r.mono (.same (aN a)))
set_option tactic.hygienic true in
def Vz:oH ML fB:=by
 intro H o s x y Q w d f e k;unfold fB at e;cases o<;>(try exact aG e)<;>cases s<;>try exact aG e
 ·cases e;obtain rfl:=cA d;obtain rfl:=cA f;exact .inl (k _ H (.refl _) (.int _))
 ·dsimp only at e;split at e;rename_i j;cases e;obtain rfl:=iF d;obtain rfl:=iF f;exact .inl ⟨j,k _ H (.refl _) (.str _)⟩;cases e
 ·dsimp only at e;split at e;rename_i l m j;cases e;obtain⟨p,v,rfl,g,a⟩:=fJ d;obtain⟨q,Y,rfl,h,b⟩:=fJ f;have t:=a.length;have u:=b.length;refine .inl (.inr ⟨v,Y,bL g,bL h,by lia,λi=>?_,λi n=>?_,λi n r c=>k _ _ (aN c) (wF c (a.append b))⟩);subst i;have:l=[]:=DB t;subst this;exact k _ H (.refl _) (.tup h b);subst n;have:m=[]:=DB u;subst this;rw[Ci]at k;exact k _ H (.refl _) (.tup g a);cases e
 ·dsimp only at e;split at e;cases e;obtain⟨p,v,rfl,g,a⟩:=cY d;obtain⟨q,Y,rfl,h,b⟩:=cY f;have:=a.length;have:=b.length;exact .inr ⟨p,q,v,Y,rfl,rfl,g,h,by lia,λr c=>k _ _ (aN c) (nH c (a.append b))⟩;cases e
section
open Classical
noncomputable def pH:F2:=λd e=>match d,e with
 |.int i,.int j=>if nG i j then some (.val (.int (i*j)))else none
 |.str z,.int i=>if z.length<=1000/\0<=i/\i<=1000 then some (.val (.str (Txt.mul z i)))else none
 |_,_=>none
end
def MM:R2:=λx y H Q=>rI nG (λi j=>.int (i*j)) x y H Q\/Ka x y H Q
def VA:Ar X (binaryOp .Mult) MM:=Vr.or Tz
def VB:oH MM pH:=by
 intro H c d x y Q r a b e k;unfold pH at e;cases c<;>(try exact aG e)<;>cases d<;>try exact aG e
 ·dsimp only at e;split at e;rename_i hc;cases e;obtain rfl:=cA a;obtain rfl:=cA b;exact .inl ⟨_,_,rfl,rfl,hc,k _ H (.refl _) (.int _)⟩;cases e
 ·dsimp only at e;split at e;rename_i hc;cases e;obtain rfl:=iF a;obtain rfl:=cA b;exact .inr ⟨hc.1,hc.2.1,hc.2.2,λy _ e=>by subst e;exact k _ H (.refl _) (.str _)⟩;cases e
def rN:F2:=λd e=>match d,e with
 |.lst l,.int i|.tup l,.int i=>(atI l i).map .val
 |.str z,.int i=>if z.length<=sizeLine then(atI z.cps.toList i).map λc=>.val (.str ⟨#[c]⟩)else none
 |_,_=>none
theorem Rps.atI(r:Rps H l xs)(h:PySem.atI l i=some d):∃x,PySem.atI xs i=some x/\Rp H d x:=by
 unfold PySem.atI at h ⊢;obtain⟨j,a,b⟩:=aB h;rw[← r.length,a];exact r.get b
def VC:oH HC rN:=by
 intro H l m x y Q q f g e k;unfold rN at e;cases l<;>(try exact aG e)<;>cases m<;>try exact aG e
 ·dsimp only at e;split at e;rename_i n;obtain rfl:=cA g;obtain rfl:=iF f;obtain⟨c,a,b⟩:=Bg.mp e;cases b;exact⟨_,Tp n a,k _ H (.refl _) (.str _)⟩
  lia
 ·obtain rfl:=cA g;obtain⟨p,o,rfl,h,i⟩:=fJ f;obtain⟨d,a,b⟩:=Bg.mp e;cases b;obtain⟨x,j,r⟩:=i.atI a;exact⟨x,Mi (bL h) j,k _ H (.refl _) r⟩
 ·obtain rfl:=cA g;obtain⟨p,o,rfl,h,i⟩:=cY f;obtain⟨d,a,b⟩:=Bg.mp e;cases b;obtain⟨x,j,r⟩:=i.atI a;exact⟨x,Mi h j,k _ H (.refl _) r⟩
def VD(H:GE X a c)(hb:GE X b d)(h:LS b):GE X (.Subscript a b pos) (aJ rN c d):=.mk λe=>Bq (LU Mc (H.to e) (hb.to e) h) λ_ _ _=>iS VC
noncomputable def iB:FN:=λa=>match a with
 |[.lst l]|[.tup l]=>some (.val (.int l.length))
 |[.str z]=>if z.length<=sizeLine then some (.val (.int z.length))else none
 |_=>none
def zW(h:ET H [d] v):∃x,v=[x]/\AV H d x:=by
 cases h with
 |cons a t=>cases t;exact⟨_,rfl,a⟩
def Kl(h:ET H [d,e] v):∃x y,v=[x,y]/\AV H d x/\AV H e y:=by
 cases h with
 | cons a t=>
   obtain⟨y,rfl,b⟩:=zW t;exact⟨_,_,rfl,a,b⟩
def VE:vW Me iB:=by
 intro H c i Q r g e k;unfold iB at e;rcases c with _|⟨d,_|_⟩<;>(try exact aG e)<;>cases d<;>try exact aG e
 ·dsimp only at e;split at e;rename_i f;cases e;obtain⟨x,rfl,v⟩:=zW g;obtain rfl:=iF v;exact⟨_,_,rfl,To f,k _ H (.refl _) (.int _)⟩;cases e
 ·cases e;obtain⟨x,rfl,v⟩:=zW g;obtain⟨p,h,rfl,a,b⟩:=fJ v;refine⟨_,_,rfl,zD (bL a),?_⟩;rw[← b.length];exact k _ H (.refl _) (.int _)
 ·cases e;obtain⟨x,rfl,v⟩:=zW g;obtain⟨p,h,rfl,a,b⟩:=cY v;refine⟨_,_,rfl,zD a,?_⟩;rw[← b.length];exact k _ H (.refl _) (.int _)
def CY(l:List D)(L h:Option Int):List D:=(l.drop (PySem.sIx l.length 0 L)).take (PySem.sIx l.length l.length h-PySem.sIx l.length 0 L)
def Rps.cut(r:Rps H l xs)(L h:Option Int):Rps H (CY l L h) (vL xs L h):=by
 unfold CY vL;rw[r.length];exact(r.drop _).take _
def VF(h:PySem.sIx xs.length 0 l=0/\PySem.sIx xs.length xs.length H=xs.length):vL xs l H=xs:=by
 unfold vL
 simp_all
section
open PyProof.Rows Spec
def getItem_tuple_all{l H:Option Int}(a:IsTup s.heap t I)(n:s.heap.IsSliceOf m f g .none)(p:IsPart f l)(i:IsPart g H)
  (k:sIx I.size 0 l=0/\sIx I.size I.size H=I.size) (h:Q (.ref t) s):wpAny (model prog w) A (getItem (.ref t) (.ref m)) Q E s:=by
 obtain⟨o,c,d,j⟩:=id n;have e:s.TypeIs (.ref m) "slice":=⟨o,c,d⟩;unfold getItem
 try with_reducible refine AS ?_
 refine dV (wpAny_sequenceKey a.typeIs (rfl) ?_);refine dV (wpAny_callSpecial?_slot (name:=ofString "__getitem__") a.typeIs Gd
  (Cr Gd a.typeIs entry_tuple_getitem ?_ (args_tuple_getitem _ _)))
 show wpAny _ _ (tupleItemsOf (.ref t) >>= _) _ _ s;refine dV (tupleItemsOf_ a ?_);refine dV (Ft e ?_);refine dV (hW n p i ?_);have b:(((sIx I.size 0 l:Nat):Int)==0&&(1:Int)==1&&(sIx I.size I.size H-sIx I.size 0 l)==I.size)=true:=by simp_all
 show wpAny _ _ (if(((sIx I.size 0 l:Nat):Int)==0&&(1:Int)==1&&(sIx I.size I.size H-sIx I.size 0 l)==I.size)=true then _ else _) _ _ s;rw[eH b];refine dV ?_;refine dV (Ft a.typeIs (gX ?_));refine dV (Cf ?_);exact gX ⟨_,rfl,gX h⟩
end
def MN:V->Option Int->Option Int->Hp->VK->Prop:=λx l h H Q=>match x with
 |.str z=>z.length<=sizeLine/\Q (.str (slice z l h)) H
 | .ref p=>(∃ a,cG H p=some (true,a)/\∀ r,H r=none->Q (.ref r) (gV H r (.lst (vL a l h)))) \/
   ∃a,cG H p=some (false,a)/\(vL a l h=a->Q (.ref p) H)/\∀r,H r=none->Q (.ref r) (gV H r (.tup (vL a l h)))
 |_=>False
set_option tactic.hygienic true in
def VG:Gu X MN:=by
 intro m s Z H x v d e L t u Q I b q o c h;unfold MN at h;split at h;exact JY m s Z H _ v d e L t u Q I b q o c h
 ·rename_i p;rcases h with h | ⟨n,g,j,k⟩;exact JY m s Z H _ v d e L t u Q I b q o c (.inl h);by_cases f:PySem.sIx n.length 0 L=0/\PySem.sIx n.length n.length t=n.length
  ·cases b;obtain⟨w,r,i,l⟩:=I.tuple (cX g);have a:w.toArray.size=n.length:=by exact r.length.symm
   refine⟨"tuple",_,Gd.lookup,i.typeIs,?_⟩;exact PySem.getItem_tuple_all i q o c (by rw[a];exact f) ⟨.ref p,H,I,rfl,j (VF f)⟩
  ·exact JY m s Z H _ v d e L t u Q I b q o c (.inr ⟨n,g,f,k⟩)
 simp_all
abbrev DO:=Sg->Option (Option Int×Sg)
def VH(c:Gm)(r:DO):TO:=λa H Q=>∃Z,dY c H Z a/\∃o b,r Z=some (o,b)/\∀h,dY c h b a->hF Z a H b a h->Q o h
structure GO(X:Cx)(e:Option Expr)(r:DO):Prop where
 to:∀Γ,PO X e (VH Γ r)
def MO(h:PO X e t)(w:∀Z H Q,T Z H Q->t Z H Q):PO X e T:=λp s Z H Q I q=>h p s Z H Q I (w Z H Q q)
noncomputable def pI:DO:=λZ=>some (none,Z)
def dP(r:DE):DO:=λZ=>(r Z).bind λx=>(rd x.2 x.1).bind λd=>match d with
 |.int i=>some (some i,x.2)
 |_=>none
def VI:GO X none pI:=.mk λc=>MO RZ λa H Q z=>by obtain⟨Z,O,o,b,e,k⟩:=z;cases e;exact k H O .refl
def VJ(h:GE X e r):GO X (some e) (dP r):=.mk λn=>MO (Sa (h.to n)) λl H Q z=>by
 obtain⟨Z,O,o,m,e,k⟩:=z;obtain⟨⟨x,c⟩,f,e⟩:=aB e;obtain⟨d,g,e⟩:=aB e;split at e;cases e;exact⟨Z,O,x,_,f,λv i a j b _=>⟨_,cA (j.vw a g),k i a b⟩⟩;cases e
def Km(d:D)(L h:Option Int):Option kN:=match d with
 |.str z=>if z.length<=sizeLine then some (.val (.str (slice z L h)))else none
 |.lst l=>some (.own (.lst (CY l L h)))
 |.tup l=>some (.val (.tup (CY l L h)))
 |_=>none
def Bu(r:DE)(a b:DO):DE:=λZ=>(r Z).bind λx=>(a x.2).bind λy=>(b y.2).bind λz=>(rd z.2 x.1).bind λd=>(Km d y.1 z.1).bind λw=>some (w,z.2)
def VM(C:GE X e r)(ha:GO X O a)(hb:GO X T b):GE X (.Subscript e (.Slice O T none B) pos) (Bu r a b):=.mk λY=>Bq (Sd VG (C.to Y) (ha.to Y) (hb.to Y)) λσV H Q Z1=>by
 obtain⟨Z,ok,res,σ',e,k⟩:=Z1;obtain⟨⟨x,i⟩,D,e⟩:=aB e;obtain⟨⟨O,j⟩,E,e⟩:=aB e;obtain⟨⟨T,y⟩,F,e⟩:=aB e;obtain⟨d,G,e⟩:=aB e;obtain⟨w,h,e⟩:=aB e;cases e;refine⟨Z,ok,x,i,D,λv L l I m _=>⟨i,l,O,j,E,λM n c=>⟨j,n,T,y,F,λs f g=>?_⟩⟩⟩;have vw:=((I.step l c).step n g).vw f G;have N:∀v U,lG s U->vC s U res v->Q v U:=λv U z A=>k v U (f.same z) (A.res f) (((m.trans c).trans g).trans (.same z)) (A.frh.back ((m.trans c).trans g));unfold Km at h;split at h
 ·split at h;rename_i J;cases h;obtain rfl:=iF vw;exact⟨J,N _ s (.refl _) (.str _)⟩
  simp_all
 ·cases h;obtain⟨p,xs,rfl,t,u⟩:=cY vw;exact .inl ⟨xs,t,λq o=>N _ _ (aN o) (nH o (u.cut O T))⟩
 ·cases h;obtain⟨p,xs,rfl,t,u⟩:=fJ vw;refine .inr ⟨xs,bL t,λK=>N _ s (.refl _) ?_,λq o=>N _ _ (aN o) (wF o (u.cut O T))⟩;have:=u.cut O T;rw[K]at this;exact .tup t this
 simp_all
def MQ(K:W.Frag):List V->Hp->VK->Prop:=λx H Q=>∃(a:Addr) (b:List Bool),x=[.ref a]/\AU K H a (b.map V.bl)/\Q (.bl (b.all id)) H
noncomputable def GD:List D->Option (List Bool)
 |[]=>some []
 |.bl b::r=>(GD r).bind λB=>some (b::B)
 |_=>none
def VN(h:GD l=some z):l=z.map D.bl:=by
 induction l generalizing z with
 |nil=>cases h;rfl
 | cons d r i=>
   cases d with
   | bl s=>
     obtain⟨l,a,b⟩:=aB h;cases b;rw[i a];rfl
   |_=>cases h
def VO(B:List Bool):GD (B.map D.bl)=some B:=by
 induction B with
 |nil=>rfl
 |cons b r a=>show(GD (r.map D.bl)).bind _=_;simp_all
def EY:FN:=λa=>match a with
 |[.lst l]=>(GD l).map λb=>.val (.bl (b.all id))
 |_=>none
def VP:vW (MQ K) EY:=by
 intro H f i Q r g e k;unfold EY at e;split at e;obtain⟨B,c,d⟩:=Bg.mp e;cases d;obtain⟨x,rfl,v⟩:=zW g;obtain⟨p,h,rfl,a,b⟩:=cY v;rw[VN c]at b;rw[b.bls_inv]at a;exact⟨p,B,rfl,dE a,k _ H (.refl _) (.bl _)⟩;cases e
def VQ(K:W.Frag)(a:X.K=K)(hc:X.calm=true):iE X (.builtin "all") (MQ K):=by rw[← a];exact Ta hc
noncomputable def GF:FN:=λa=>match a with
 |[.int i,.int j]=>some (.val (.int (if j > i then j else i)))
 |_=>none
noncomputable def oJ:FN:=λa=>match a with
 |[.int i,.int j]=>some (.val (.int (if j<i then j else i)))
 |_=>none
def VR:vW (λxs H Q=>∃i j,xs=[.int i,.int j]/\Q (.int (if j > i then j else i)) H) GF:=by
 intro H c g Q r v e k;unfold GF at e;rcases c with _|⟨d,_|⟨f,_|_⟩⟩<;>(try exact aG e)<;>cases d<;>(try exact aG e)<;>cases f<;>try exact aG e
 ·cases e;obtain⟨x,y,rfl,a,b⟩:=Kl v;obtain rfl:=cA a;obtain rfl:=cA b;exact⟨_,_,rfl,k _ H (.refl _) (.int _)⟩
def VS:vW (λxs H Q=>∃i j,xs=[.int i,.int j]/\Q (.int (if j<i then j else i)) H) oJ:=by
 intro H c g Q r v e k;unfold oJ at e;rcases c with _|⟨d,_|⟨f,_|_⟩⟩<;>(try exact aG e)<;>cases d<;>(try exact aG e)<;>cases f<;>try exact aG e
 ·cases e;obtain⟨x,y,rfl,a,b⟩:=Kl v;obtain rfl:=cA a;obtain rfl:=cA b;exact⟨_,_,rfl,k _ H (.refl _) (.int _)⟩
noncomputable def Ep:FN:=λa=>match a with
 |[.int i]=>some (.val (.int i))
 |[.bl b]=>some (.val (.int (if b then 1 else 0)))
 |_=>none
def VT:vW (λxs H Q=>(∃i,xs=[.int i]/\Q (.int i) H)\/∃k,xs=[.bl k]/\Q (.int (if k then 1 else 0)) H) Ep:=by
 intro H b d Q r v e k;unfold Ep at e;rcases b with _|⟨c,_|_⟩<;>(try exact aG e)<;>cases c<;>try exact aG e
 ·cases e;obtain⟨x,rfl,a⟩:=zW v;obtain rfl:=ID a;exact .inr ⟨_,rfl,k _ H (.refl _) (.int _)⟩
 ·cases e;obtain⟨x,rfl,a⟩:=zW v;obtain rfl:=cA a;exact .inl ⟨_,rfl,k _ H (.refl _) (.int _)⟩
noncomputable def nJ:FN:=λa=>match a with
 |[.lst l]|[.tup l]=>some (.own (.lst l))
 |_=>none
def VU:vW Mj nJ:=by
 intro H f i Q r v e k;unfold nJ at e;rcases f with _|⟨g,_|_⟩<;>(try exact aG e)<;>cases g<;>try exact aG e
 ·cases e;obtain⟨x,rfl,a⟩:=zW v;obtain⟨p,h,rfl,c,d⟩:=fJ a;exact⟨p,false,h,rfl,bL c,λq b=>k _ _ (aN b) (nH b d)⟩
 ·cases e;obtain⟨x,rfl,a⟩:=zW v;obtain⟨p,h,rfl,c,d⟩:=cY a;exact⟨p,true,h,rfl,c,λq b=>k _ _ (aN b) (nH b d)⟩
noncomputable def lP:FN:=λa=>match a with
 |[.lst l]|[.tup l]=>some (.val (.tup l))
 |_=>none
def VW:vW Ml lP:=by
 intro H f i Q r v e k;unfold lP at e;rcases f with _|⟨g,_|_⟩<;>(try exact aG e)<;>cases g<;>try exact aG e
 ·cases e;obtain⟨x,rfl,a⟩:=zW v;obtain⟨p,h,rfl,b,c⟩:=fJ a;exact⟨p,false,h,rfl,bL b,k _ H (.refl _) (.tup b c)⟩
 ·cases e;obtain⟨x,rfl,a⟩:=zW v;obtain⟨p,h,rfl,b,c⟩:=cY a;exact⟨p,true,h,rfl,b,λq d=>k _ _ (aN d) (wF d c)⟩
noncomputable def pJ:FM:=λd a=>match d,a with
 |.lst l,[e]=>if l.length<sizeLine then some (.lst (l++[e]),.non)else none
 |_,_=>none
def jI(h:cE H (.lst l) p):∃xs,H p=some (.lst xs)/\Rps H l xs:=h
set_option tactic.hygienic true in
def VX:FF mW pJ:=by
 intro H d p h v Q j e o r b k;unfold pJ at b;split at b
 ·split at b
  ·rename_i l x f;cases b;obtain⟨i,g,c⟩:=jI o;cases r with
   | cons a t=>
     cases t;exact⟨p,i,_,rfl,rfl,g,by rw[← c.length];exact f,k _ _ ⟨_,aH,(c.append (.cons a .nil)).mono (cE.ext o)⟩ .non⟩
  simp_all
 simp_all
noncomputable def Dp:FM:=λd a=>match d,a with
 |.lst l,[.lst m]=>if l.length+m.length<=sizeLine then some (.lst (l++m),.non)else none
 |_,_=>none
def MR:V->List V->Hp->VK->Prop:=λx v H Q=>∃l b a z,x=.ref l/\v=[.ref b]/\H l=some (.lst a)/\cG H b=some (true,z)/\a.length+z.length<=sizeLine/\Q .non (gV H l (.lst (a++z)))
def VY:Fy X "list.extend" MR:=by
 intro B s Z H x G v U Q I g i h;obtain⟨l,b,E,C,rfl,rfl,f,j,t,q⟩:=h;cases g;obtain⟨u,rfl,k⟩:=i.one;cases k;obtain⟨z,A,n,r,w,e⟩:=I.lstM f;obtain⟨y,a,N,m,o,p⟩:=qS I j;have d:A.toArray.size+a.toArray.size<=sizeLine:=by grind
 have c:¬(!A.toArray.isEmpty&&listTooLong (A.toArray.size+a.toArray.size))=true:=by
  rw[qB d,Bool.and_false];simp
 refine Dy F.slot_list_extend ⟨_,e,rfl⟩ F.entry_list_extend (F.args_list_extend_2 _ _)
  (AutoSeq1.list_extend_list_list_0 l A.toArray n b a.toArray N c (by lia) (le_succ_of_le d)) ⟨e,p,?_⟩
 refine⟨.non,_,I.lset (its':=A++a) f e (by simp) (r.append m) ?_,rfl,q⟩
 simp_all
def VZ:MA MR Dp:=by
 intro H d p g v Q m e o r b k;unfold Dp at b;cases d<;>(try exact aG b)<;>rcases g with _|⟨h,_|_⟩<;>(try exact aG b)<;>cases h<;>try exact aG b
 ·dsimp only at b;split at b;cases b;obtain⟨l,i,c⟩:=jI o;obtain⟨x,rfl,a⟩:=zW r;obtain⟨q,y,rfl,j,f⟩:=cY a;have:=c.length;have:=f.length;exact⟨p,q,l,y,rfl,rfl,i,j,by lia,k _ _ ⟨_,aH,(c.append f).mono (cE.ext o)⟩ .non⟩
  simp_all
noncomputable def HN:FM:=λd a=>match d,a with
 |.lst l,[]=>(l[l.length-1]?).map λy=>(.lst l.dropLast,y)
 |_,_=>none
theorem Rps.dropLast(r:Rps H l xs):Rps H l.dropLast xs.dropLast:=by
 rw[List.dropLast_eq_take,List.dropLast_eq_take,r.length];exact r.take _
def Wa:FF LY HN:=by
 intro H d p i v Q l e o r a k;unfold HN at a;split at a;obtain⟨y,c,f⟩:=Bg.mp a;cases f;cases r;obtain⟨j,g,b⟩:=jI o;obtain⟨x,E,h⟩:=b.get c;exact⟨p,j,x,rfl,rfl,g,by rw[← b.length];exact E,k _ _ ⟨_,aH,b.dropLast.mono (cE.ext o)⟩ (h.mono (cE.ext o))⟩
 simp_all
def tR:FM:=λd a=>match d,a with
 |.lst l,[.int i]=>if -(2^63)<=i/\i<2^63 then(AL l.length i).bind λj=>(l[j]?).map λy=>(.lst (l.eraseIdx j),y)else none
 |_,_=>none
set_option tactic.hygienic true in
def Wb:FF LZ tR:=by
 intro H d p f v Q w e O r b k;unfold tR at b;cases d<;>(try exact aG b)<;>rcases f with _|⟨g,_|_⟩<;>(try exact aG b)<;>cases g<;>try exact aG b
 ·dsimp only at b;split at b
  ·rename_i l i s;obtain⟨j,h,b⟩:=aB b;obtain⟨y,m,n⟩:=Bg.mp b;cases n;obtain⟨u,o,c⟩:=jI O;obtain⟨x,E,q⟩:=c.get m;cases r with
   | cons a t=>
     cases t;cases a;exact⟨p,u,i,j,x,rfl,rfl,o,s.1,s.2,by rw[← c.length];exact(vM h).1,E,k _ _ ⟨_,aH,(c.eraseIdx j).mono (cE.ext O)⟩ (q.mono (cE.ext O))⟩
  lia
def IL(i:Int)(e:D):D->Option D
 |.lst l=>(AL l.length i).map λj=>.lst (l.set j e)
 |_=>none
def FH(k:Nat)(r c:DE):DS:=λZ=>(c Z).bind λx=>match x.1 with
 | .val d=>if EV "list" k x.2=true then(r x.2).bind λy=>(rd y.2 y.1).bind λe=>match e with
   |.int i=>(zN (λa _=>(IL i d a).map λb=>(b,.non)) k [] y.2).bind λz=>some (.nx z.2)
   |_=>none else none
 |_=>none
set_option tactic.hygienic true in
def Wc(h:∀ O,PS X st (ER (Bd O G) (LC (mD k) (Bd O ri) LW))):GS E X st (FH k ri G):=.mk λO=>Cd (h O) λD σV H Z1=>by
 obtain⟨Z,ok,o,e,M⟩:=Z1;obtain⟨⟨x,f⟩,N,e⟩:=aB e;refine⟨Z,ok,x,f,N,λv H1 g π u f1=>?_⟩;cases x with
 |own d|slot d=>cases e
 | val d=>
   have c:(if EV "list" k f=true then(ri f).bind λy=>(rd y.2 y.1).bind λI=>match I with
    |.int i=>(zN (λa _=>(IL i d a).map λb=>(b,.non)) k [] y.2).bind λz=>some (.nx z.2)
    |_=>none else none)=some o:=e
   split at c
   ·rename_i hn;obtain⟨⟨y,w⟩,P,c⟩:=aB c;obtain⟨I,Q,c⟩:=aB c;obtain⟨s0,A,B,R⟩:=mG hn;obtain⟨p,ep,ow⟩:=g.ownAt A B;dsimp only at c;split at c
    ·rename_i i;obtain⟨⟨z,S⟩,T,c⟩:=aB c;cases c;obtain⟨s,d',y',hs,J,U,rfl,rfl⟩:=eZ T;obtain⟨b,K,V⟩:=Bg.mp U;cases V;refine⟨_,ep,f,g,y,w,P,λvi W n Y q f2=>?_⟩;obtain rfl:=cA (Y.vw n Q);obtain⟨p',r,t⟩:=n.ownAt hs (fU J);rw[ep]at r;cases r;have σ:Rp W d v:=Rp.mono (q.ext g) π;obtain⟨m,sd⟩:=s;cases sd with
     | lst l=>
       obtain⟨j,e8,e9⟩:=Bg.mp K;cases e9;obtain⟨xs,h1,L⟩:=jI t;refine⟨p,xs,i,j,rfl,rfl,h1,by rw[← L.length];exact e8,?_⟩;obtain⟨C,F⟩:=n.write (d':=.lst (l.set j d)) (o':=.lst (xs.set j v)) hs J ep ⟨_,aH,(L.set j σ).mono (cE.ext t)⟩;exact M _ _ C ((u.trans q).trans F)
     |_=>cases K
    simp_all
   simp_all
def GG(i j:Int):Prop:=0<j/\j<340282366920938463463374607431768211456
def Wd:Ar X (binaryOp .FloorDiv) (rI GG λi j=>.int (i / j)):=Hw λi j _ _ _ _ _ hc q=>by
 have a:(0:Int)<j:=hc.1;have c:j<340282366920938463463374607431768211456:=hc.2;refine PyProof.Rows.floordiv_int (by lia) (by rw[Int.fdiv_eq_ediv_of_nonneg i (Int.le_of_lt a)];exact q) (.inl (PyProof.noPylong_of_log2 ?_));have h:j.natAbs≠0:=by lia
 have b:j.natAbs.log2<128:=(Nat.log2_lt h).mpr (by lia);lia
def GH:F2:=HM GG λi j=>.int (i / j)
def We:oH (rI GG λi j=>.int (i / j)) GH:=wE λ_ _ _=>.int _
mutual
def cK:D->PyData
 |.non=>.none
 |.bl b=>.bool b
 |.int i=>.int i
 |.str x=>.str x
 |.tup l=>.tuple (toPys l)
 |.lst l=>.list (toPys l)
 |.dic _ _=>.dict []
def toPys:List D->List PyData
 |[]=>[]
 |d::r=>cK d::toPys r
end
def tS{Z:St}(I:dX X B Z H s)(h:Rps H l y):bC y U->canLayAll0 (toPys l)=true->∃ A,ReadsAll s.heap U (toPys l) A:=by
 refine Rps.rec (motive_1:=λd v _=>∀u,cC v u->(cK d).canLay0=true->∃A,Reads s.heap u (cK d) A) (motive_2:=λl y _=>∀U,bC y U->canLayAll0 (toPys l)=true->∃A,ReadsAll s.heap U (toPys l) A) ?_ ?_ ?_ ?_ ?_ ?_ ?_ ?_ ?_ h U;intro u r _;cases r;exact⟨_,.none⟩;intro b u r _;cases r;exact⟨_,.bool b⟩;intro i u r _;obtain⟨t,rfl⟩:=r;exact⟨_,.int i t⟩;intro x u r _;obtain⟨t,rfl⟩:=r;exact⟨_,.str x t⟩;intro _ _ _ h _ i u r hc;cases r;obtain⟨_,z,c,⟨o,k,f,n,C⟩,_⟩:=I.hok _ _ h;obtain⟨A,g⟩:=i _ c hc;exact⟨_,.tuple k f C (by simpa using g)⟩;intro _ _ _ _ h _ i u r hc;cases r;obtain⟨_,_,z,n,c,e⟩:=I.hok _ _ h;obtain⟨A,g⟩:=i _ c hc;exact⟨_,.list e rfl rfl (by simpa using g)⟩
 ·intros;contradiction
 ·intro U r _;cases r;exact⟨_,.nil⟩
 ·intro d l _ _ _ _ i j U r hc;cases r with
  | cons m p=>
    have a:(cK d).canLay0=true/\canLayAll0 (toPys l)=true:=by simpa[toPys,canLayAll0]using hc
    obtain⟨A,q⟩:=i _ m a.1;obtain⟨E,w⟩:=j _ p a.2;exact⟨_,.cons q w⟩
def Wf{Z:St}(I:dX X p Z H s)(h:Rp H d v)(r:cC v u)(hc:(cK d).canLay0=true):∃A,Reads s.heap u (cK d) A:=by
 obtain⟨A,q⟩:=tS I (.cons h .nil) (.cons r .nil) (by simp[toPys,canLayAll0,hc]);cases q with|cons a _=>exact⟨_,a⟩
def fC{Z:St}(I:dX X g Z H s)(h:AV H d v)(r:cC v u)(hc:(cK d).canLay0=true):∃A,Reads s.heap u (cK d) A:=by
 rcases h with h|⟨p,rfl,h⟩;exact Wf I h r hc;cases r;cases d with
 | lst l=>
   obtain⟨x,a,b⟩:=jI h;obtain⟨_,i,n,c,e⟩:=I.hok _ _ a;obtain⟨A,f⟩:=tS I b c hc;exact⟨_,.list e rfl rfl (by simpa using f)⟩
 |dic k j=>exact nomatch hc
 |_=>exact h.elim
noncomputable def tU(d e:D):Bool:=PyData.eqv (cK d) (cK e)
noncomputable def cW(d:D):Bool:=(cK d).canLay0&&decide ((cK d).depth<=60)
def Kn(neg:Bool):R2:=λx y H Q=>∃d e,AV H d x/\AV H e y/\cW d=true/\cW e=true/\Q (.bl (if neg then !tU d e else tU d e)) H
def cF(h:cW d=true):(cK d).canLay0=true/\(cK d).depth<=60:=by
 unfold cW at h
 simp_all
def MT(l:X.A.units+64<cLine):Ar X (compareOp .Eq) (Kn false):=by
 intro p s Z H x y v u Q I a b h;obtain⟨d,e,c,f,g,i,q⟩:=h;obtain⟨o,m⟩:=cF g;obtain⟨A,n⟩:=cF i;obtain⟨r,j⟩:=fC I c a o;obtain⟨B,k⟩:=fC I f b A;exact SeqAt.rcAt_reads j k o A (by lia) _ _ _ _ ⟨.bl _,H,I,rfl,q⟩
def Wg(l:X.A.units+64<cLine):Ar X (compareOp .NotEq) (Kn true):=by
 intro p s Z H x y v u Q I a b h;obtain⟨d,e,c,f,g,i,q⟩:=h;obtain⟨o,m⟩:=cF g;obtain⟨A,n⟩:=cF i;obtain⟨r,j⟩:=fC I c a o;obtain⟨B,k⟩:=fC I f b A;exact SeqAt.rcNeAt_reads j k o A (by lia) _ _ _ _ ⟨.bl _,H,I,rfl,q⟩
def AE(neg:Bool):F2:=λd e=>if cW d=true/\cW e=true then some (.val (.bl (if neg then !tU d e else tU d e)))else none
def Ko:oH (Kn neg) (AE neg):=by
 intro H a b x y Q r c d e k;unfold AE at e;split at e;rename_i hc;cases e;exact⟨a,b,c,d,hc.1,hc.2,k _ H (.refl _) (.bl _)⟩;cases e
def Kp(neg:Bool):R2:=λx y H Q=>(∃i j,x=.str i/\y=.str j/\Q (.bl (if neg then(occurrences j i 0 j.length 1).isEmpty else !(occurrences j i 0 j.length 1).isEmpty)) H) \/
 ∃d e b l,AV H d x/\AV H e y/\Dk e=some (b,l)/\cW d=true/\cW e=true/\Q (.bl (if neg then !(l.any λy=>tU y d)else l.any λy=>tU y d)) H
theorem nK(d:D):∀l:List D,(toPys l).any (λy=>PyData.eqv y (cK d))=l.any λy=>tU y d
 |[]=>rfl
 |e::r=>by show(PyData.eqv (cK e) (cK d)||(toPys r).any _)=_;rw[nK d r];rfl
def tV(h:Dk e=some (b,l)):depthAll (toPys l)<=(cK e).depth/\((cK e).canLay0=true->canLayAll0 (toPys l)=true):=by
 cases e with
 |lst a=>cases h;exact⟨by show _<=depth (.list (toPys l));simp only[depth];lia,λz=>z⟩
 |tup a=>cases h;exact⟨by show _<=depth (.tuple (toPys l));simp only[depth];lia,λz=>z⟩
 |_=>cases h
def MU(p:X.A.units+64<cLine):Ar X (compareOp .In) (Kp false):=by
 intro w s Z H x y v u Q I a c h;rcases h with⟨i,j,rfl,rfl,q⟩|⟨d,e,b,l,G,E,A,m,n,q⟩;exact Rw w s Z H _ _ v u Q I a c ⟨_,_,rfl,rfl,by simp_all⟩;obtain⟨C,r⟩:=cF m;obtain⟨B,t⟩:=cF n;obtain⟨M,f⟩:=fC I G a C;obtain⟨L,g⟩:=fC I E c B;obtain⟨J,k⟩:=tV A;have z:EP X w Z Q (.bool ((toPys l).any λy=>PyData.eqv y (cK d))) s:=⟨.bl _,H,I,by rw[nK];rfl,q⟩;cases e with
 |lst o=>cases A;exact SeqAt.in_list_reads g f (k B) C (by lia) z
 |tup o=>cases A;exact SeqAt.in_tuple_reads g f (k B) C (by lia) z
 |_=>cases A
def Wi(p:X.A.units+64<cLine):Ar X (compareOp .NotIn) (Kp true):=by
 intro w s Z H x y v u Q I a c h;rcases h with⟨i,j,rfl,rfl,q⟩|⟨d,e,b,l,G,E,A,m,n,q⟩;exact sN w s Z H _ _ v u Q I a c ⟨_,_,rfl,rfl,by simp_all⟩;obtain⟨C,r⟩:=cF m;obtain⟨B,t⟩:=cF n;obtain⟨M,f⟩:=fC I G a C;obtain⟨L,g⟩:=fC I E c B;obtain⟨J,k⟩:=tV A;have z:EP X w Z Q (.bool (!(toPys l).any λy=>PyData.eqv y (cK d))) s:=⟨.bl _,H,I,by rw[nK];rfl,q⟩;cases e with
 |lst o=>cases A;exact SeqAt.notIn_list_reads g f (k B) C (by lia) z
 |tup o=>cases A;exact SeqAt.notIn_tuple_reads g f (k B) C (by lia) z
 |_=>cases A
def AM(neg:Bool):F2:=λd e=>match d,e with
 |.str i,.str j=>some (.val (.bl (if neg then(occurrences j i 0 j.length 1).isEmpty else !(occurrences j i 0 j.length 1).isEmpty)))
 | d,e=>match Dk e with
   |some (_,l)=>if cW d=true/\cW e=true then some (.val (.bl (if neg then !(l.any λy=>tU y d)else l.any λy=>tU y d)))else none
   |none=>none
set_option tactic.hygienic true in
def Kq:oH (Kp neg) (AM neg):=by
 intro H d f x y Q r a c e k;unfold AM at e;split at e;cases e;obtain rfl:=iF a;obtain rfl:=iF c;exact .inl ⟨_,_,rfl,rfl,k _ H (.refl _) (.bl _)⟩;split at e;rename_i b l h;split at e;rename_i hc;cases e;exact .inr ⟨d,f,b,l,a,c,h,hc.1,hc.2,k _ H (.refl _) (.bl _)⟩;cases e;cases e
def gE(h:GE X e r)(a:Gm):PE X e (Bd a r):=h.to a
def gA(h:GA X e r)(a:Gm):PA X e (BX a r):=h.to a
def gT(h:GT X e r)(a:Gm):PT X e (Cw a r):=h.to a
def gI(h:GI X t e r)(a:Gm):PI X t e (Dm a r):=h.to a
def IM(h:Cy E X e r)(a:Gm):BB X e (Ba a E r):=h.to a
noncomputable def Kr(K:W.Frag):Bool:=K.all λp=>match p.2.cls with
 |.type n=>!(n=="list")
 |_=>true
def Wj{N:List Int}(b:Kr K=true)(f:HA H)(v:AU K H a (N.map V.int)):BD H [⟨.val,.lst (N.map D.int)⟩] [.ref a]:=by
 have c:∃ o,H a=some (.frz o (.lst (N.map V.int))):=by
  rcases v with v|⟨o,I,n,g,hc,_⟩
  ·rcases v with v|⟨o,v⟩;rcases f a with z|⟨o,x,z⟩;rw[v]at z;cases z;rw[v]at z;cases z;exact⟨o,v⟩
  ·exfalso;unfold Kr at b;rw[DJ]at b;have k:(a,o)∈K:=by
    clear b f;have:∀ (l:List (Addr×Obj)),List.lookup a l=some o->(a,o)∈l:=by
     intro l
     induction l with
     |nil=>intro h;simp at h
     | cons p r q=>
       intro h;rw[lookup_cons]at h;split at h
       ·rename_i e;have:a=p.1:=by simpa using e
        cases h;rw[this];exact pL
       ·exact Af _ (q h)
    exact this K g
   have:=b _ k;rw[hc]at this;simp at this
 obtain⟨o,c⟩:=c;refine⟨rfl,λi s e=>?_,λi j s t p n d u m=>?_,λi s e=>?_⟩
 ·cases i with
  |zero=>simp at e;subst e;exact⟨_,rfl,.lst c (iR N)⟩
  |succ i=>simp at e
 ·cases i with
  |zero=>simp at d;subst d;cases m
  |succ i=>simp at d
 ·cases i with
  |zero=>simp at e;subst e;exact λz=>nomatch z
  |succ i=>simp at e
def eD{b:Type}(o:Option b)(K:b->Prop):Prop:=match o with
 |some a=>K a
 |none=>False
def RE(r:DE)(Z:Sg)(Q:kN->Sg->Prop):Prop:=eD (r Z) λx=>Q x.1 x.2
def RT(r:DT)(Z:Sg)(Q:Bool->Sg->Prop):Prop:=eD (r Z) λx=>Q x.1 x.2
def RA(r:DA)(Z:Sg)(Q:List kN->Sg->Prop):Prop:=eD (r Z) λx=>Q x.1 x.2
def RS(r:DS)(Z:Sg)(Q:BR->Prop):Prop:=eD (r Z) Q
def RI(r:DI)(Z:Sg)(Q:List D->Option Nat->Sg->Prop):Prop:=eD (r Z) λx=>Q x.1 x.2.1 x.2.2
def RO(r:DO)(Z:Sg)(Q:Option Int->Sg->Prop):Prop:=eD (r Z) λx=>Q x.1 x.2
theorem aK{f:b->Option c}:eD (o.bind f) K=eD o λa=>eD (f a) K:=by cases o<;>rfl
theorem aV{K:b->Prop}:eD (some a) K=K a:=rfl
def tW{f:b->c}:eD (o.map f) K=eD o λa=>K (f a):=by cases o<;>rfl
theorem aP{a:Type}{c:Prop}[Decidable c]{o:Option a}{K:a->Prop}:eD (if c then o else none) K=(c/\eD o K):=by
 by_cases h:c
 ·lia
 ·rw[a0m h];exact propext ⟨λq=>q.elim,λq=>h q.1⟩
def bM{K:b->Prop}:eD o K↔∃a,o=some a/\K a:=by
 cases o with
 |none=>exact⟨λq=>q.elim,λ⟨_,e,_⟩=>nomatch e⟩
 |some a=>exact⟨λq=>⟨a,rfl,q⟩,λz=>by obtain⟨_,e,q⟩:=z;cases e;exact q⟩
def aS{K c:b->Prop}(h:eD o K)(w:∀a,K a->c a):eD o c:=by
 cases o with
 |none=>exact h
 |some a=>exact w a h
def Er:Nat->Sg->Nat->Sg->(kN->Sg->Prop)->Prop
 |0,some s::_,i,Z,Q=>Q (if s.m=.val then .val s.d else .slot i) Z
 |n+1,_::r,i,Z,Q=>Er n r i Z Q
 |_,_,_,_,_=>False
def Wk:∀(n:Nat) (r:Sg) (i:Nat) (Z:Sg) (Q:kN->Sg->Prop),Er n r i Z Q=eD (match r[n]? with|some (some s)=>some (if s.m=.val then kN.val s.d else kN.slot i,Z)|_=>none) λx=>Q x.1 x.2:=by
 intro n r i Z Q
 induction n generalizing r with
 |zero=>cases r with|nil=>rfl|cons o r=>cases o<;>rfl
 |succ n j=>cases r with|nil=>rfl|cons o r=>exact j r
def GK:Nat->Sg->(D->Prop)->Prop
 |0,some s::_,K=>K s.d
 |n+1,_::r,K=>GK n r K
 |_,_,_=>False
theorem MV:∀ (n:Nat) (r:Sg) (K:D->Prop),GK n r K=eD (match r[n]? with | some (some s)=>some s.d | _=>none) K
 |0,[],_ | 0,none::_,_ | 0,some s::_,_|n+1,[],_=>rfl
 | n+1,_::r,K=>by
   show GK n r K=_;rw[MV n r K,EH]
def RD(Z:Sg)(r:kN)(K:D->Prop):Prop:=eD (rd Z r) K
def PK:Nat->Sg->Sl->(Sg->Prop)->Prop
 |0,none::r,s,K | 0,some ⟨.val,_⟩::r,s,K | 0,some ⟨.own,_⟩::r,s,K=>K (some s::r)
 |n+1,o::r,s,K=>PK n r s λa=>K (o::a)
 |_,_,_,_=>False
def Wl{r:Sg}:dZ (o::r) (n+1)=dZ r n:=rfl
theorem IP:∀ (n:Nat) (r:Sg) (s:Sl) (K:Sg->Prop),PK n r s K=eD (if dZ r n=true then some (r.set n (some s))else none) K
 |0,[],s,K | 0,none::r,s,K | 0,some ⟨.val,_⟩::r,s,K | 0,some ⟨.own,_⟩::r,s,K | 0,some ⟨.par,_⟩::r,s,K | 0,some ⟨.lent,_⟩::r,s,K|n+1,[],s,K=>rfl
 | n+1,o::r,s,K=>by
   show PK n r s (λa=>K (o::a))=_;rw[IP n r s _,aP,aP,Wl,List.set_cons_succ];rfl
def MK:Nat->Sg->FM->List D->(D->Sg->Prop)->Prop
 |0,some ⟨.own,d⟩::r,f,b,K=>eD (f d b) λy=>K y.2 (some ⟨.own,y.1⟩::r)
 |0,some ⟨.par,d⟩::r,f,b,K=>eD (f d b) λy=>K y.2 (some ⟨.par,y.1⟩::r)
 |n+1,o::r,f,b,K=>MK n r f b λe a=>K e (o::a)
 |_,_,_,_,_=>False
def MW:∀(n:Nat) (r:Sg) (f:FM) (a:List D) (K:D->Sg->Prop),MK n r f a K=eD (zN f n a r) λx=>eD (match x.1 with|.val d=>some d|_=>none) λd=>K d x.2
:=by
 intro n r f a K
 induction n generalizing r K with
 | zero=>
   cases r with|nil=>rfl|cons o r=>
   cases o with|none=>rfl|some s=>
   obtain⟨m,d⟩:=s;cases m with
   |val|lent=>rfl
   | own=>
     show eD (f d a) _=eD ((f d a).bind λy=>some (kN.val y.2,some (⟨.own,y.1⟩:Sl)::r)) _;rw[aK];rfl
   | par=>
     show eD (f d a) _=eD ((f d a).bind λy=>some (kN.val y.2,some (⟨.par,y.1⟩:Sl)::r)) _;rw[aK];rfl
 | succ n i=>
   cases r with|nil=>rfl|cons o r=>
   show MK n r f a (λe b=>K e (o::b))=_;rw[i r _];unfold zN;rw[EH];cases q:r[n]? with
   |none=>rfl
   | some x=>cases x with
     |none=>rfl
     | some s=>
       dsimp only;by_cases h:s.m.mt=true;rw[eH h,eH h,aK,aK];rfl;rw[a0m h,a0m h];rfl
def TK:String->Nat->Sg->Prop->Prop
 |T,0,some ⟨.own,d⟩::_,P|T,0,some ⟨.par,d⟩::_,P|T,0,some ⟨.lent,d⟩::_,P=>Em T d=true/\P
 |T,n+1,_::r,P=>TK T n r P
 |_,_,_,_=>False
def IQ:False=(false=true/\P):=propext ⟨elim,λh=>nomatch h.1⟩
def IS(T:String)(n:Nat)(r:Sg)(P:Prop):TK T n r P=(EV T n r=true/\P):=by
 induction n generalizing r with
 | zero=>
   cases r with
   |nil=>exact IQ
   | cons o r=>
     cases o with
     |none=>exact IQ
     |some s=>obtain⟨m,d⟩:=s;cases m<;>first|rfl|exact IQ
 | succ n i=>
   cases r with
   |nil=>exact IQ
   |cons o r=>exact i r
theorem Wm:RE (dC d) Z Q=Q (.val d) Z:=rfl
theorem zX{a:Sg}:RE (aC i) (b::a) Q=Er i (b::a) i (b::a) Q:=(Wk i (b::a) i (b::a) Q).symm
theorem zY{r:Sg}:Er (n+1) (o::r) i Z Q=Er n r i Z Q:=rfl
theorem zZ{r:Sg}:Er 0 (some ⟨.val,d⟩::r) i Z Q=Q (.val d) Z:=rfl
theorem MX{r:Sg}:Er 0 (some ⟨.own,d⟩::r) i Z Q=Q (.slot i) Z:=rfl
theorem Wn{r:Sg}:Er 0 (some ⟨.par,d⟩::r) i Z Q=Q (.slot i) Z:=rfl
theorem Wo{r:Sg}:Er 0 (some ⟨.lent,d⟩::r) i Z Q=Q (.slot i) Z:=rfl
theorem Wq{h:Sg}:RE (aJ f a b) (i::h) Q=RE a (i::h) λx g=>RE b g λy c=>RD c x λd=>RD c y λe=>eD (f d e) λr=>Q r c:=by
 unfold RE aJ RD;simp only[aK,aV]
theorem Wr{c:Sg}:RE (HG f a) (e::c) Q=RE a (e::c) λx b=>RD b x λd=>eD (f d) λr=>Q r b:=by
 unfold RE HG RD;simp only[aK,aV]
theorem Ws:RD Z (.val d) K=K d:=rfl
theorem MY:RD Z (.own d) K=K d:=rfl
theorem Wt{a:Sg}:RD (b::a) (.slot i) K=GK i (b::a) K:=(MV i (b::a) K).symm
theorem MZ{r:Sg}:GK 0 (some ⟨m,d⟩::r) K=K d:=rfl
theorem Na{r:Sg}:GK (n+1) (o::r) K=GK n r K:=rfl
theorem Wu{e:Sg}:RT (cJ a) (f::e) Q=RE a (f::e) λx c=>RD c x λd=>eD (match d with|.bl b=>some b|_=>none) λb=>Q b c:=by
 unfold RT RE cJ RD;simp only[aK];congr 1;funext x;congr 1;funext d;cases d<;>rfl
theorem Wv{e:Sg}:RT (HH a) (f::e) Q=RE a (f::e) λx c=>RD c x λd=>eD (Ki d) λb=>Q b c:=by
 unfold RT RE HH RD;simp only[aK,aV]
theorem Ww{c:Sg}:RT (Dl t u) (d::c) Q=RT t (d::c) λb a=>if b=true then RT u a Q else Q false a:=by
 unfold RT Dl;simp only[aK];congr 1;funext x;by_cases h:x.1=true<;>simp[h,eD]
theorem qT:RT cO Z Q=Q true Z:=rfl
theorem wG{d:Sg}:RE (Gx a b) (e::d) Q=RT (cJ a) (e::d) λt c=>if t=true then RE b c Q else Q (.val (.bl false)) c:=by
 unfold RT RE Gx;simp only[aK];congr 1;funext x;by_cases h:x.1=true<;>simp[h,eD]
theorem Wx{d:Sg}:RE (FD t a b) (e::d) Q=RT t (e::d) λt c=>if t=true then RE a c Q else RE b c Q:=by
 unfold RT RE FD;simp only[aK];congr 1;funext x;by_cases h:x.1=true<;>simp[h]
theorem Wy:RA aE Z Q=Q [] Z:=rfl
theorem wH{d:Sg}:RA (aA a r) (e::d) Q=RE a (e::d) λx b=>RA r b λxs c=>Q (x::xs) c:=by
 unfold RA RE aA;simp only[aK,aV]
def DV(Z:Sg)(r:List kN)(K:List D->Prop):Prop:=eD (FE Z r) K
def CZ(r:List kN)(K:List D->Prop):Prop:=eD (vals r) K
theorem wI:DV Z [] K=K []:=rfl
theorem wJ{a:Sg}:DV (b::a) (x::xs) K=RD (b::a) x λd=>DV (b::a) xs λc=>K (d::c):=by
 show eD ((rd (b::a) x).bind λd=>(FE (b::a) xs).bind λc=>some (d::c)) K=_;unfold DV RD;simp only[aK,aV]
theorem Wz:CZ [] K=K []:=rfl
theorem WA:CZ (.val d::xs) K=CZ xs λa=>K (d::a):=by
 show eD ((vals xs).bind λa=>some (d::a)) K=_;unfold CZ;simp only[aK,aV]
theorem Nb{b:Sg}:RE (hB fn d) (c::b) Q=RA d (c::b) λxs a=>DV a xs λe=>eD (fn e) λr=>Q r a:=by
 unfold RE RA DV hB;simp only[aK,aV]
theorem WB{b:Sg}:RE (pE r) (c::b) Q=RA r (c::b) λxs a=>CZ xs λd=>d.length<=sizeLine/\Q (.val (.tup d)) a:=by
 unfold RE RA CZ pE;simp only[aK,aP,aV]
theorem WC{b:Sg}:RE (fT r) (c::b) Q=RA r (c::b) λxs a=>CZ xs λd=>d.length<=sizeLine/\Q (.own (.lst d)) a:=by
 unfold RE RA CZ fT;simp only[aK,aP,aV]
def FK(r:kN)(Z:Sg)(K:D->Sg->Prop):Prop:=eD (Mx Z r) λx=>K x.1 x.2
def FI:Nat->Sg->(D->Sg->Prop)->Prop
 |0,some ⟨.own,d⟩::r,K | 0,some ⟨.val,d⟩::r,K=>K d (some ⟨.val,d⟩::r)
 |n+1,o::r,K=>FI n r λd a=>K d (o::a)
 |_,_,_=>False
def WD:∀ (n:Nat) (r:Sg) (K:D->Sg->Prop),FI n r K=FK (.slot n) r K:=by
 intro n r K
 induction n generalizing r K with
 |zero=>cases r with|nil=>rfl|cons o r=>cases o with|none=>rfl|some s=>obtain⟨m,d⟩:=s;cases m<;>rfl
 | succ n i=>
   cases r with|nil=>rfl|cons o r=>
   show FI n r (λd c=>K d (o::c))=_;rw[i r _];show eD (match r[n]? with|some (some s)=>if s.m=.own then some (s.d,r.set n (some ⟨.val,s.d⟩))else if s.m=.val then some (s.d,r)else none|_=>none) _ =
    eD (match (o::r)[n+1]? with|some (some s)=>if s.m=.own then some (s.d,(o::r).set (n+1) (some ⟨.val,s.d⟩))else if s.m=.val then some (s.d,o::r)else none|_=>none) _
   rw[EH];cases r[n]? with
   |none=>rfl
   | some x=>cases x with
     |none=>rfl
     | some s=>
       dsimp only;by_cases a:s.m=.own;rw[eH a,eH a];rfl;rw[a0m a,a0m a];by_cases b:s.m=.val;rw[eH b,eH b];rfl;rw[a0m b,a0m b];rfl
theorem WE{e:Sg}:RE (hJ a) (f::e) Q=RE a (f::e) λx b=>FK x b λd c=>Q (.val d) c:=by
 unfold RE hJ FK;simp only[aK,aV]
theorem WG:FK (.val d) Z K=K d Z:=rfl
theorem WH:FK (.own d) Z K=K d Z:=rfl
theorem WI{a:Sg}:FK (.slot i) (b::a) K=FI i (b::a) K:=(WD i (b::a) K).symm
theorem WJ{r:Sg}:FI 0 (some ⟨.own,d⟩::r) K=K d (some ⟨.val,d⟩::r):=rfl
theorem WK{r:Sg}:FI (n+1) (o::r) K=FI n r λd a=>K d (o::a):=rfl
theorem wK:RS dU Z Q=Q (.nx Z):=rfl
def IT(y:DS)(Q:BR->Prop):BR->Prop
 |.nx Z=>RS y Z Q
 |o=>Q o
def Nc:RS (aR x y) Z Q=RS x Z (IT y Q):=by
 unfold RS aR;rw[aK];congr 1;funext o;cases o<;>rfl
theorem tX{a:Sg}:RS (aR x y) (b::a) Q=RS x (b::a) (IT y Q):=Nc
theorem pK{a:Sg}:IT y Q (.nx (b::a))=RS y (b::a) Q:=rfl
theorem WL:IT y Q (.rt v Z)=Q (.rt v Z):=rfl
theorem wL{c:Sg}:RS (dA a) (d::c) Q=RE a (d::c) λ_ b=>Q (.nx b):=by unfold RS RE dA;simp only[aK,aV]
theorem WM{c:Sg}:RS (iC a) (d::c) Q=RE a (d::c) λx b=>Q (.rt x b):=by unfold RS RE iC;simp only[aK,aV]
theorem WN{c:Sg}:RS (jF t x y) (d::c) Q=RT t (d::c) λb a=>if b=true then RS x a Q else RS y a Q:=by
 unfold RS RT jF;simp only[aK];congr 1;funext z;by_cases h:z.1=true<;>simp[h]
def PtK(i:Nat)(r:kN)(Z:Sg)(K:Sg->Prop):Prop:=eD (IE i r Z) K
theorem Nd{d:Sg}:RS (aU i a) (e::d) Q=RE a (e::d) λx b=>PtK i x b λc=>Q (.nx c):=by unfold RS RE PtK aU;simp only[aK,aV]
theorem WO{a:Sg}:PtK i (.val d) (b::a) K=PK i (b::a) ⟨.val,d⟩ K:=(IP i (b::a) _ K).symm
theorem WQ{a:Sg}:PtK i (.own d) (b::a) K=PK i (b::a) ⟨.own,d⟩ K:=(IP i (b::a) _ K).symm
theorem WR{r:Sg}:PK 0 (none::r) s K=K (some s::r):=rfl
theorem Nf{r:Sg}:PK 0 (some ⟨.val,d⟩::r) s K=K (some s::r):=rfl
theorem Ng{r:Sg}:PK 0 (some ⟨.own,d⟩::r) s K=K (some s::r):=rfl
theorem Nh{r:Sg}:PK (n+1) (o::r) s K=PK n r s λa=>K (o::a):=rfl
theorem wM{c:Sg}:RE (vZ T i b) (f::c) Q=TK T i (f::c) (MK i (f::c) b [] λd a=>Q (.val d) a):=by
 rw[IS,MW];unfold RE vZ;rw[aP];congr 1;apply propext;rw[bM,bM];constructor;rintro⟨⟨x,s⟩,e,q⟩;obtain⟨_,_,_,_,_,_,rfl,_⟩:=eZ e;exact⟨_,e,q⟩;rintro⟨⟨x,s⟩,e,q⟩;obtain⟨_,_,_,_,_,_,rfl,_⟩:=eZ e;exact⟨_,e,q⟩
theorem Ks{Q:kN->Sg->Prop}:eD (zN b i c Z) (λx=>Q x.1 x.2)=MK i Z b c λd a=>Q (.val d) a:=by
 rw[MW];apply propext;rw[bM,bM];constructor;rintro⟨⟨x,s⟩,e,q⟩;obtain⟨_,_,_,_,_,_,rfl,_⟩:=eZ e;exact⟨_,e,q⟩;rintro⟨⟨x,s⟩,e,q⟩;obtain⟨_,_,_,_,_,_,rfl,_⟩:=eZ e;exact⟨_,e,q⟩
theorem wN{e:Sg}:RE (dF T i c r) (f::e) Q=TK T i (f::e) (RA r (f::e) λxs a=>CZ xs λg=>MK i a c g λd b=>Q (.val d) b):=by
 rw[IS];unfold RE dF RA CZ;rw[aP];simp only[aK,Ks]
theorem wO{e:Sg}:RE (lY T i c r) (f::e) Q=TK T i (f::e) (RA r (f::e) λxs a=>DV a xs λg=>MK i a c g λd b=>Q (.val d) b):=by
 rw[IS];unfold RE lY RA DV;rw[aP];simp only[aK,Ks]
theorem WS{r:Sg}:TK T 0 (some ⟨.own,d⟩::r) P=(Em T d=true/\P):=rfl
theorem WT{r:Sg}:TK T 0 (some ⟨.par,d⟩::r) P=(Em T d=true/\P):=rfl
theorem WU{r:Sg}:TK T (n+1) (o::r) P=TK T n r P:=rfl
theorem WV{r:Sg}:MK 0 (some ⟨.own,d⟩::r) a b K=eD (a d b) λy=>K y.2 (some ⟨.own,y.1⟩::r):=rfl
theorem WW{r:Sg}:MK 0 (some ⟨.par,d⟩::r) a b K=eD (a d b) λy=>K y.2 (some ⟨.par,y.1⟩::r):=rfl
theorem WX{r:Sg}:MK (n+1) (o::r) a d K=MK n r a d λe b=>K e (o::b):=rfl
theorem WY{h:Sg}:RS (FH i a b) (j::h) q=RE b (j::h) λx c=>eD (match x with | .val d=>some d | _=>none) λd=>TK "list" i c (RE a c λy f=>RD f y λg=>eD (match g with | .int k=>some k | _=>none) λk=>
  MK i f (λa _=>(IL k d a).map λb=>(b,.non)) [] λ_ e=>q (.nx e)):=by
 unfold RS RE RD FH;rw[aK];congr 1;funext x;obtain⟨x,c⟩:=x;cases x with
 |own d|slot d=>rfl
 | val d=>
   show eD _ _=TK _ _ _ _;rw[IS];rw[aP];simp only[aK];congr 1;congr 1;funext y;congr 1;funext g;cases g with
   | int k=>
     rw[aK];show _=MK _ _ _ _ _;rw[← Ks (Q:=λ_ e=>q (.nx e))];rfl
   |_=>rfl
theorem WZ{e:Sg}:RS (HJ g a) (f::e) Q=RE a (f::e) λx b=>eD (match x with | .val d=>some d | _=>none) λd=>eD (g d b) λc=>Q (.nx c):=by
 unfold RS RE HJ;rw[aK];congr 1;funext x;obtain⟨x,b⟩:=x;cases x with
 |own d|slot d=>rfl
 | val d=>
   rw[aK];rfl
theorem Ni{a:Sg}:eD (gY i d (b::a)) K=PK i (b::a) ⟨.val,d⟩ K:=(IP i (b::a) _ K).symm
theorem qU{b:Sg}:eD (eA n a (.tup l) (c::b)) K=(l.length=n/\eD (a l (c::b)) K):=by
 show eD (if l.length=n then a l (c::b)else none) K=_;rw[aP]
theorem mJ{c:Sg}:eD (aM g b (d::l) (e::c)) K=eD (g d (e::c)) λa=>eD (b l a) K:=by
 show eD ((g d (e::c)).bind λa=>b l a) K=_;rw[aK]
theorem qV:eD (fA [] Z) K=K Z:=rfl
theorem Xa{c:Sg}:RS (HL i j r) (f::c) Q=RA r (f::c) λxs a=>CZ xs λb=>eD (match b with|[d,e]=>some (d,e)|_=>none) λp=>(dZ a i=true/\dZ a j=true/\i≠j)/\Q (.nx ((a.set i (some ⟨.val,p.1⟩)).set j (some ⟨.val,p.2⟩))):=by
 unfold RS RA CZ HL;simp only[aK];congr 1;funext x;congr 1;funext b
 match b with
 |[]|[_]=>rfl
 |[d,e]=>rw[aP];rfl
 |_::_::_::_=>rfl
def CK(r:Aa4)(a:List Sl)(K:kN->List Sl->Prop):Prop:=eD (r a) λy=>K y.1 y.2
def AK(Z:Sg)(r:List kN)(K:List Sl->Prop):Prop:=eD (nF Z r) K
def A1(Z:Sg)(r:kN)(K:Sl->Prop):Prop:=eD (wD Z r) K
def HK:Nat->Sg->(Sl->Prop)->Prop
 |0,some ⟨m,d⟩::_,K=>K ⟨if m.mt=true then .par else m,d⟩
 |n+1,_::r,K=>HK n r K
 |_,_,_=>False
theorem Nj:∀ (n:Nat) (r:Sg) (K:Sl->Prop),HK n r K=A1 r (.slot n) K
 |0,[],_ | 0,none::_,_ | 0,some s::_,_|n+1,[],_=>rfl
 | n+1,_::r,K=>by
   show HK n r K=_;rw[Nj n r K];rfl
def UK:Nat->Sg->D->(Sg->Prop)->Prop
 |0,some ⟨.own,_⟩::r,d,K=>K (some ⟨.own,d⟩::r)
 |0,some ⟨.par,_⟩::r,d,K=>K (some ⟨.par,d⟩::r)
 |0,o::r,_,K=>K (o::r)
 |n+1,o::r,d,K=>UK n r d λa=>K (o::a)
 |_,[],_,K=>K []
def uS(Z:Sg)(i:Nat)(d:D):Sg:=match Z[i]? with
 |some (some s)=>if s.m.mt=true then Z.set i (some ⟨s.m,d⟩)else Z
 |_=>Z
theorem Nk:∀ (n:Nat) (r:Sg) (d:D) (K:Sg->Prop),UK n r d K=K (uS r n d)
 |0,[],_,_|n+1,[],_,_ | 0,none::r,d,K | 0,some ⟨.val,_⟩::r,d,K | 0,some ⟨.own,_⟩::r,d,K | 0,some ⟨.par,_⟩::r,d,K | 0,some ⟨.lent,_⟩::r,d,K=>rfl
 | n+1,o::r,d,K=>by
   show UK n r d (λa=>K (o::a))=_;rw[Nk n r d _];unfold uS;rw[EH];cases r[n]? with
   |none=>rfl
   | some x=>cases x with
     |none=>rfl
     | some s=>
       grind
def sB:List kN->List Sl->Sg->Sg
 |.slot i::r,a::A,Z=>sB r A (uS Z i a.d)
 |_::r,_::A,Z=>sB r A Z
 |_,_,Z=>Z
def Xb:(uS Z i d)[j]? = (Z[j]?).map λo=>if j=i then(match o with | some s=>some (if s.m.mt=true then⟨s.m,d⟩else s) | none=>none)else o:=by
 unfold uS;by_cases H:j=i
 ·subst H;cases h:Z[j]? with
  |none=>rw[h];rfl
  | some o=>
    cases o with
    |none=>simp_all
    | some s=>
      dsimp only;by_cases a:s.m.mt=true;rw[eH a,Bo (hR.mp h).1];simp[a]
      simp_all
 ·have:∀ x:Option Sl,(Z.set i x)[j]? = Z[j]?:=λx=>Ae (oI H);split
  ·split
   ·simp_all
   simp
  simp_all
theorem Kt:∀ (f:List kN) (A:List Sl) (Z:Sg) (j:Nat),dH f=true->(sB f A Z)[j]? = (Z[j]?).map (jX f A j)
 |[],A,Z,j,_=>by cases A<;>(show Z[j]?=_;cases Z[j]? with|none=>rfl|some o=>cases o<;>simp[jX,iH])
 |r::f,[],Z,j,_=>by cases r<;>(show Z[j]?=_;cases Z[j]? with|none=>rfl|some o=>cases o<;>simp[jX,iH])
 |.val d::f,a::A,Z,j,h|.own d::f,a::A,Z,j,h=>Kt f A Z j h
 | .slot i::f,a::A,Z,j,h=>by
   have g:dH f=true/\EX i f=false:=by
    unfold dH at h
    lia
   show(sB f A (uS Z i a.d))[j]?=_;rw[Kt f A _ j g.1,Xb];cases Z[j]? with
   |none=>rfl
   | some o=>
     cases o with
     |none=>by_cases H:j=i<;>simp[jX,H]
     | some s=>
       by_cases H:j=i
       ·subst H;have c:iH j f A=none:=by
         cases q:iH j f A with
         |none=>rfl
         | some b=>
           obtain⟨k,e,_⟩:=fF q;rw[mI e]at g;lia
        simp[jX,c,iH]
       ·have:¬i=j:=λz=>H z.symm;simp[jX,H,iH,this]
def Ku(h:dH r=true):iA r a 0 Z=sB r a Z:=by
 apply EK;intro j;rw[iI,Kt r a Z j h,Bj]
def BK(r:List kN)(a:List Sl)(Z:Sg)(K:Sg->Prop):Prop:=K (sB r a Z)
def GJ(A:List Sl)(K:kN->List Sl->Prop):BR->Prop
 |.nx Z=>K (.val .non) (qR A Z)
 |.rt r Z=>eD (II Z r) λa=>K a (qR A Z)
 |_=>False
theorem wP{e:Sg}{r:Aa4}:RE (aI n r g) (f::e) Q=RA g (f::e) λc a=>AK a c λd=>(d.length=n/\dH c=true)/\CK r d λy A=>BK c A a λb=>Q y b:=by
 unfold RE RA AK CK aI;simp only[aK,aP,aV];congr 1;funext x;congr 1;funext d;apply propext;constructor;rintro⟨h,q⟩;refine⟨h,aS q λy q=>?_⟩;unfold BK;rw[← Ku h.2];exact q;rintro⟨h,q⟩;refine⟨h,aS q λy q=>?_⟩;unfold BK at q;rw[← Ku h.2]at q;exact q
theorem Xc:BK [] a Z K=K Z:=rfl
theorem Xd:BK (.val d::r) (a::A) Z K=BK r A Z K:=rfl
theorem Xe:BK (.own d::r) (a::A) Z K=BK r A Z K:=rfl
theorem Xf{b:Sg}:BK (.slot i::r) (⟨m,d⟩::A) (c::b) K=UK i (c::b) d λa=>BK r A a K:=by
 rw[Nk];rfl
theorem Xg{r:Sg}:UK 0 (some ⟨.own,e⟩::r) d K=K (some ⟨.own,d⟩::r):=rfl
theorem Xh{r:Sg}:UK 0 (some ⟨.par,e⟩::r) d K=K (some ⟨.par,d⟩::r):=rfl
theorem Xi{r:Sg}:UK (n+1) (o::r) d K=UK n r d λa=>K (o::a):=rfl
def cB:CK (lM len b) a K=RS b (Eo len a) (GJ a K):=by
 unfold CK RS lM;rw[aK];congr 1;funext o;cases o with
 |rt x s=>rw[aK];rfl
 |_=>rfl
def FJ:Nat->Sg->(kN->Prop)->Prop
 |0,some ⟨.own,d⟩::_,K=>K (.own d)
 |0,some ⟨.val,d⟩::_,K=>K (.val d)
 |n+1,_::r,K=>FJ n r K
 |_,_,_=>False
theorem Nl:∀ (n:Nat) (r:Sg) (K:kN->Prop),FJ n r K=eD (II r (.slot n)) K
 |0,[],_ | 0,none::_,_ | 0,some ⟨.val,_⟩::r,K | 0,some ⟨.own,_⟩::r,K | 0,some ⟨.par,_⟩::r,K | 0,some ⟨.lent,_⟩::r,K|n+1,[],_=>rfl
 | n+1,o::r,K=>by
   show FJ n r K=_;rw[Nl n r K];rfl
theorem wQ:GJ a K (.rt (.val d) Z)=K (.val d) (qR a Z):=rfl
theorem wR:GJ a K (.rt (.own d) Z)=K (.own d) (qR a Z):=rfl
theorem wS{a:Sg}:GJ A K (.rt (.slot i) (b::a))=FJ i (b::a) λr=>K r (qR A (b::a)):=(Nl i (b::a) _).symm
theorem Xj{r:Sg}:FJ 0 (some ⟨.own,d⟩::r) k=k (.own d):=rfl
theorem Xk{r:Sg}:FJ (n+1) (o::r) k=FJ n r k:=rfl
theorem wT:qR [] Z=[]:=rfl
theorem wU{r:Sg}:qR (⟨.val,d⟩::a) (some s::r)=⟨.val,d⟩::qR a r:=rfl
theorem wV{r:Sg}:qR (⟨.par,d⟩::a) (some s::r)=s::qR a r:=rfl
theorem Xl:AK Z [] K=K []:=rfl
theorem Xm{b:Sg}:AK (c::b) (x::xs) K=A1 (c::b) x λa=>AK (c::b) xs λA=>K (a::A):=by
 show eD ((wD (c::b) x).bind λa=>(nF (c::b) xs).bind λA=>some (a::A)) K=_;unfold AK A1;simp only[aK,aV]
theorem Xn:A1 Z (.val d) K=K ⟨.val,d⟩:=rfl
theorem Xo:A1 Z (.own d) K=K ⟨.par,d⟩:=rfl
theorem Xp{a:Sg}:A1 (b::a) (.slot i) K=HK i (b::a) K:=(Nj i (b::a) K).symm
theorem Xq{r:Sg}:HK 0 (some ⟨.own,d⟩::r) K=K ⟨.par,d⟩:=rfl
theorem Xr{r:Sg}:HK 0 (some ⟨.par,d⟩::r) K=K ⟨.par,d⟩:=rfl
theorem Xs{r:Sg}:HK (n+1) (o::r) K=HK n r K:=rfl
def Xt{c:Sg}:RS (kQ r g b) (d::c) Q=RI r (d::c) λi l a=>eD (EW g b i (lendO l a)) λo=>Q (jA l a o):=by
 unfold RS RI kQ;simp only[aK,aV]
theorem Nm{c:Sg}:RI (Ad a) (e::c) K=RE a (e::c) λx b=>RD b x λd=>eD (nD d) λl=>K l (match x with|.slot i=>some i|_=>none) b:=by
 unfold RI RE RD Ad;simp only[aK,aV];try rfl
def Nn:List D->Option (List D)
 |[.int j]=>if -(2^62)<=j/\j<2^62 then some (zS 0 j.toNat)else none
 |[.int i,.int j]=>if(-(2^62)<=i/\i<2^62) /\ -(2^62)<=j/\j<2^62 then some (zS i (j-i).toNat)else none
 |_=>none
theorem Xu{b:Sg}:RI (sJ r) (c::b) K=RA r (c::b) λxs a=>DV a xs λd=>eD (Nn d) λl=>K l none a:=by
 unfold RI RA DV sJ;simp only[aK];congr 1;funext x;congr 1;funext d
 match d with
 |[]=>rfl
 |[.int j]=>show eD (if -(2^62)<=j/\j<2^62 then _ else none) _=eD (if -(2^62)<=j/\j<2^62 then _ else none) _;rw[aP,aP];rfl
 |[.int i,.int j]=>show eD (if(-(2^62)<=i/\i<2^62) /\ -(2^62)<=j/\j<2^62 then _ else none) _=eD (if(-(2^62)<=i/\i<2^62) /\ -(2^62)<=j/\j<2^62 then _ else none) _;rw[aP,aP];rfl
 |[.non]|[.bl _]|[.str _]|[.tup _]|[.lst _]|[.dic _ _]|.non::_::_|.bl _::_::_|.str _::_::_|.tup _::_::_|.lst _::_::_|.dic _ _::_::_|.int _::.non::_|.int _::.bl _::_|.int _::.str _::_|.int _::.tup _::_|.int _::.lst _::_|.int _::.dic _ _::_|.int _::.int _::_::_=>rfl
theorem wW:eD (Nn [.int j]) K=((-(2^62)<=j/\j<2^62)/\K (zS 0 j.toNat)):=by
 show eD (if -(2^62)<=j/\j<2^62 then some (zS 0 j.toNat)else none) K=_;rw[aP];rfl
def Xv(P:Nat->Sg->Prop)(q:P 0 Z)(H:∀i d Z,I[i]?=some d->P i Z->eD (g d Z) λc=>RS b c λo=>∃a,(o=.nx a\/o=.ct a)/\P (i+1) a)(k:∀n,P I.length n->K (.nx n)):eD (EW g b I Z) K:=by
 induction I generalizing P Z with
 |nil=>exact k Z q
 | cons d r f=>
   show eD ((g d Z).bind _) K;rw[aK];refine aS (H 0 d Z rfl q) λc h=>?_;rw[aK];refine aS h λo j=>?_;obtain⟨a,l,m⟩:=j;have G:eD (EW g b r a) K:=f (λi=>P (i+1)) m (λi d Z e p=>H (i+1) d Z (by simp_all) p) λn p=>k n (by simp_all);rcases l with rfl|rfl;exact G
   simp_all
theorem pM(P:Nat->Sg->Prop)(H:∀ m Z,P m Z->RT c Z λt d=>if t=true then RS b d λo=>(∃ a M,(o=.nx a\/o=.ct a)/\M < m/\P M a)\/(∃ x a,o=.rt x a/\K (.rt x a))\/(∃ a,o=.bk a/\K (.nx a))else K (.nx d)) :
  ∀(n m:Nat) (Z:Sg),m<n->P m Z->eD (lK c b n Z) K
 |0,m,Z,h,_=>by lia
 | n+1,m,Z,h,p=>by
   show eD ((c Z).bind _) K;rw[aK];refine aS (H m Z p) λx e=>?_;dsimp only at e;by_cases f:x.1=true
   ·rw[eH f]at e ⊢;rw[aK];refine aS e λo g=>?_;rcases g with⟨a,M,i,k,j⟩ | ⟨x,a,rfl,q⟩ | ⟨a,rfl,q⟩
    ·have G:=pM P H n M a (by lia) j;rcases i with rfl|rfl;exact G
     simp_all
    ·exact q
    ·exact q
   ·rw[a0m f]at e ⊢;exact e
def Xw(P:Nat->Sg->Prop)(m:Nat)(e:m<1000000)(H:P m Z)(h:∀m Z,P m Z->RT c Z λt d=>if t=true then RS b d λo=>(∃a M,(o=.nx a\/o=.ct a)/\M < m/\P M a)\/(∃x a,o=.rt x a/\Q (.rt x a))\/(∃a,o=.bk a/\Q (.nx a))else Q (.nx d)):eD (lK c b Gy Z) Q:=
 pM P h Gy m Z (Au e Vi) H
def Xx{b:Sg}:RE (bB o r g t e) (c::b) Q=RI r (c::b) λi l a=>i.length<=sizeLine/\eD (wB o g t e i (aW o (lendO l a))) λy=>Q (.own (.lst y.1)) (sI l a (iY o (lendO l a) y.2)):=by
 unfold RE RI bB;simp only[aK,aP,aV]
def Xy(I:List D):∀ (w:Sg) (P:Nat->List D->Sg->Prop),P 0 [] w ->
  (∀i d A w,I[i]?=some d->P i A w->eD (g d w) λc=>RT t c λb f=>if b=true then RE e f λr l=>∃v,r=.val v/\P (i+1) (A++[v]) (aW O l)else P (i+1) A (aW O f)) ->
  (∀A w,P I.length A w->K (A,w))->eD (wB O g t e I w) K:=by
 induction I generalizing K with
 |nil=>exact λw P z _ k=>k [] w z
 | cons d r m=>
   intro w P z H k;show eD ((g d w).bind _) K;rw[aK];refine aS (H 0 d [] w rfl z) λc o=>?_;rw[aK];refine aS o λx h=>?_;dsimp only at h;by_cases n:x.1=true;rw[eH n]at h ⊢;rw[aK];refine aS h λy q=>?_;obtain⟨v,s,p⟩:=q;rw[s];rw[aK];exact m _ (λi A w=>P (i+1) (v::A) w) p (λi B A a u j=>by simpa using H (i+1) B (v::A) a (by simp_all) j) λA a j=>k (v::A) a (by simp_all);rw[a0m n]at h ⊢;exact m _ (λi A w=>P (i+1) A w) h (λi B A a u j=>H (i+1) B A a (by simp_all) j) λA a j=>k A a (by simp_all)
theorem Xz:eD (fB (.int i) (.int j)) K=K (.val (.int (i+j))):=rfl
theorem wX:eD (fB (.lst l) (.lst m)) K=(l.length+m.length<=sizeLine/\K (.own (.lst (l++m)))):=by
 show eD (if l.length+m.length<=sizeLine then some (kN.own (.lst (l++m)))else none) K=_;rw[aP];rfl
theorem wY:eD (fB (.tup l) (.tup m)) K=(l.length+m.length<=sizeLine/\K (.val (.tup (l++m)))):=by
 show eD (if l.length+m.length<=sizeLine then some (kN.val (.tup (l++m)))else none) K=_;rw[aP];rfl
theorem wZ:eD (fB (.str x) (.str y)) K=(x.length+y.length<=sizeLine/\K (.val (.str (x++y)))):=by
 show eD (if x.length+y.length<=sizeLine then some (kN.val (.str (x++y)))else none) K=_;rw[aP];rfl
theorem XA:eD (GC (.int i) (.int j)) K=K (.val (.int (i-j))):=rfl
theorem XB:eD (pH (.int i) (.int j)) K=(nG i j/\K (.val (.int (i*j)))):=@aP _ (nG i j) (Classical.propDecidable _) _ _
theorem XC:eD (GH (.int i) (.int j)) K=(GG i j/\K (.val (.int (i / j)))):=@aP _ (GG i j) (Classical.propDecidable _) _ _
theorem XD:eD (zV (.int i) (.int j)) K=(0<j/\K (.val (.int (i % j)))):=@aP _ (0<j) (Classical.propDecidable _) _ _
theorem XE:eD (IJ (.int i) (.int j)) K=(Gn i j/\K (.val (.int (i^j.toNat)))):=@aP _ (Gn i j) (Classical.propDecidable _) _ _
theorem XF:eD (DU (.int i) (.int j)) K=K (.val (.bl (decide (i<j)))):=rfl
theorem XG:eD (Ce (.int i) (.int j)) K=K (.val (.bl (decide (j<i)))):=rfl
theorem XH:eD (IK (.int i) (.int j)) K=K (.val (.bl (decide (j<=i)))):=rfl
theorem XI:eD (rN (.lst l) (.int i)) K=eD (atI l i) λd=>K (.val d):=by
 show eD ((atI l i).map kN.val) K=_;rw[tW]
theorem XJ:eD (rN (.tup l) (.int i)) K=eD (atI l i) λd=>K (.val d):=by
 show eD ((atI l i).map kN.val) K=_;rw[tW]
theorem xA:eD (iB [.lst l]) K=K (.val (.int l.length)):=rfl
theorem xB:eD (iB [.tup l]) K=K (.val (.int l.length)):=rfl
theorem xC:eD (Ep [.bl b]) K=K (.val (.int (if b then 1 else 0))):=rfl
theorem XM:eD (GF [.int i,.int j]) K=K (.val (.int (if j > i then j else i))):=rfl
theorem XN:eD (oJ [.int i,.int j]) K=K (.val (.int (if j<i then j else i))):=rfl
theorem xD:eD (nJ [.lst l]) K=K (.own (.lst l)):=rfl
theorem qW:eD (nJ [.tup l]) K=K (.own (.lst l)):=rfl
theorem XO:eD (lP [.lst l]) K=K (.val (.tup l)):=rfl
theorem xE:eD (lP [.tup l]) K=K (.val (.tup l)):=rfl
theorem XP:eD (AE false (.int i) (.int j)) K=K (.val (.bl (decide (i=j)))):=rfl
theorem XQ:eD ((IL k e (.lst l)).map λb=>(b,D.non)) K=eD (AL l.length k) λj=>K (.lst (l.set j e),.non):=by
 show eD (((AL l.length k).map λj=>D.lst (l.set j e)).map λb=>(b,D.non)) K=_;rw[tW,tW]
theorem XR:eD (pJ (.lst l) [e]) K=(l.length<sizeLine/\K (.lst (l++[e]),.non)):=by
 show eD (if l.length<sizeLine then some (D.lst (l++[e]),D.non)else none) K=_;rw[aP];rfl
theorem XS{b:List Bool}:eD (EY [.lst (b.map D.bl)]) K=K (.val (.bl (b.all id))):=by
 show eD ((GD (b.map D.bl)).map λb=>kN.val (.bl (b.all id))) K=_;rw[VO];rfl
def SK(d:D)(l h:Option Int)(K:kN->Prop):Prop:=eD (Km d l h) K
theorem XT:RE (Bu a x y) Z Q=RE a Z λr c=>RO x c λl e=>RO y e λh b=>RD b r λd=>SK d l h λv=>Q v b:=by
 unfold RE RO RD SK Bu;simp only[aK,aV]
theorem XU:RO pI Z K=K none Z:=rfl
theorem XW:RO (dP a) Z K=RE a Z λx b=>RD b x λd=>eD (match d with|.int k=>some k|_=>none) λk=>K (some k) b:=by
 unfold RO RE RD dP;simp only[aK];congr 1;funext x;congr 1;funext d;cases d<;>rfl
theorem XX:SK (.lst l) L h K=K (.own (.lst (CY l L h))):=rfl
theorem XY:SK (.tup l) L h K=K (.val (.tup (CY l L h))):=rfl
theorem XZ{K:D->Prop}:eD (atI (x::l) 0) K=K x:=by
 show eD ((AL (x::l).length 0).bind λj=>(x::l)[j]?) K=_;unfold AL;rw[eH (Int.le_refl 0),eH (by simp)];rfl
theorem Ya{K:D->Prop}:eD (atI (x::y::l) 1) K=K y:=by
 show eD ((AL (x::y::l).length 1).bind λj=>(x::y::l)[j]?) K=_;unfold AL;rw[eH (by decide),eH (by first|rfl|(simp;lia))];rfl
theorem Yb{x:D}:eD (AL (x::l).length 0) K=K 0:=by
 unfold AL;rw[eH (Int.le_refl 0),eH (by simp)];rfl
theorem Yc{x y:D}:eD (AL (x::y::l).length 1) K=K 1:=by
 unfold AL;rw[eH (by decide),eH (by first|rfl|(simp;lia))];rfl
theorem Yd(h:-(2^64)<j)(a:j<2^64):nG i j=True:=eq_true (.inl (.inr ⟨h,a⟩))
theorem Ye(h:-(2^64)<i)(a:i<2^64):nG i j=True:=eq_true (.inl (.inl ⟨h,a⟩))
theorem Yf[Decidable p]:nG i (if p then 1 else 0)=True:=eq_true (.inl (.inr (by split<;>decide)))
theorem Np(h:0<j)(a:j<18446744073709551616):GG i j=True:=eq_true ⟨h,Int.lt_trans a (by decide)⟩
theorem Yg(h:0<=j)(a:j<=1000000)(b:-18446744073709551616<i)(c:i<18446744073709551616):Gn i j=True:=eq_true ⟨h,a,by lia⟩
theorem Yh:lendO none Z=Z:=rfl
theorem Yi:jA none Z o=o:=by cases o<;>rfl
theorem Yj:sI none Z a=a:=rfl
theorem Yk:(Em "list" (.lst l)=true)=True:=by simp[Em]
noncomputable def lZ:List D->Option (List Str)
 |[]=>some []
 |.str s::r=>(lZ r).bind λl=>some (s::l)
 |_::_=>none
def mK(h:lZ l=some z):l=z.map D.str:=by
 induction l generalizing z with
 |nil=>cases h;rfl
 | cons d r i=>
   cases d with
   | str s=>
     obtain⟨l,a,b⟩:=aB h;cases b;rw[i a];rfl
   |_=>cases h
def jY(z:List Str):lZ (z.map D.str)=some z:=by
 induction z with
 |nil=>rfl
 |cons b r a=>show(lZ (r.map D.str)).bind _=_;simp_all
def GL(sep:Str):F1:=λd=>match d with
 |.lst l=>(lZ l).bind λy=>if(y.map (·.length)).sum+y.length*sep.length<=16777216 then some (.val (.str (Txt.join sep y)))else none
 |_=>none
def Yl(K:W.Frag)(h:∀ y,PE X e (DP K "str" (Iw K) (tC (.str sep)) (BX y (aA r aE)))):GE X e (HG (GL sep) r):=.mk λy=>Bq (h y) λA H Q m=>by
 have n:UA (λx H Q=>Iw K (.str sep) [x] H Q) (GL sep):=by
  intro H d x Q z o e k;unfold GL at e;split at e;obtain⟨Y,f,e⟩:=aB e;split at e;rename_i C;cases e;obtain⟨p,G,rfl,i,b⟩:=cY o;rw[mK f]at b;rw[b.strs_inv]at i;exact⟨sep,p,Y,rfl,rfl,dE i,C,k _ H (.refl _) (.str _)⟩;cases e;cases e
 obtain⟨Z,O,z,B,e,k⟩:=m;obtain⟨⟨x,g⟩,f,e⟩:=aB e;obtain⟨q,s,e⟩:=aB e;obtain⟨r,u,e⟩:=aB e;cases e;refine⟨rfl,Z,O,[x],g,?_,λI w a b c _=>?_⟩;show((_:Option _).bind _)=_;rw[f];rfl;cases b with
 | cons b t=>
   cases t;refine n w q _ Q _ (b.vw a s) u λv E j l=>?_;exact k v E (a.same j) (l.res a) (c.trans (.same j)) (l.frh.back c)
def Ym:eD (GL sep (.lst (z.map D.str))) K=((z.map (·.length)).sum+z.length*sep.length<=16777216/\K (.val (.str (Txt.join sep z)))):=by
 show eD ((lZ (z.map D.str)).bind _) K=_;rw[jY];show eD (if _ then _ else none) K=_;rw[aP];rfl
def Yn(K:W.Frag)(a:X.K=K):Ek X "str.join" (Iw K):=by rw[← a];exact Te
def HP:FM:=λd a=>match d,a with
 |.lst l,[.str z]=>(lZ l).bind λb=>if z∈b/\b.Nodup then some (.lst ((b.erase z).map D.str),.non)else none
 |_,_=>none
theorem mL:∀ {c:List Str} {z:Str} {j:Nat},c.Nodup->c[j]? = some z->c.eraseIdx j=c.erase z
 |[],_,_,_,h=>rfl
 |y::r,z,0,_,h=>by simp_all
 | y::r,z,j+1,H,h=>by
   have a:z∈r:=Ao h;rw[CD]at H;have b:y≠z:=λe=>H.1 (e▸a);rw[List.eraseIdx_cons_succ,List.erase_cons_tail (by simp_all),mL H.2 h]
set_option tactic.hygienic true in
def Yo:FF Mm HP:=by
 intro H d p h v Q s e o r b k;unfold HP at b;cases d<;>(try exact aG b)<;>rcases h with _|⟨i,_|_⟩<;>(try exact aG b)<;>cases i<;>try exact aG b
 ·dsimp only at b;obtain⟨n,m,b⟩:=aB b;split at b
  ·rename_i l z _ c;cases b;obtain⟨x,f,g⟩:=jI o;rw[mK m]at g;rw[g.strs_inv]at f;cases r with
   | cons a t=>
     cases t;cases a;refine⟨p,n,z,rfl,rfl,f,c.1,λj q=>?_⟩;rw[mL c.2 q];exact k _ _ ⟨_,aH,qK _⟩ .non
  simp_all
def Yp{a:List Str}:eD (HP (.lst (a.map D.str)) [.str z]) K=((z∈a/\a.Nodup)/\K (.lst ((a.erase z).map D.str),.non)):=by
 show eD ((lZ (a.map D.str)).bind _) K=_;rw[jY];show eD (if _ then _ else none) K=_;rw[aP];rfl
theorem Nq:∀{l:List D} {xs:List V},l.length=xs.length->(∀(j:Nat) d x,l[j]?=some d->xs[j]?=some x->Rp H d x)->Rps H l xs
 |[],[],_,_=>.nil
 |[],_::_,e,_|_::_,[],e,_=>by simp at e
 |d::l,x::xs,e,h=>.cons (h 0 d x rfl rfl) (Nq (by simp_all) λj f a b c=>h (j+1) f a (by simp_all) (by simp_all))
noncomputable def GP(l m:List D):List D:=(l.zip m).map λp=>.tup [p.1,p.2]
def GQ:FN:=λa=>match a with
 |[.lst l,.lst m]=>some (.val (.tup (GP l m)))
 |_=>none
def Yq(a:s.heap.IsTupleIter I t i)(e:s.heap.IsTuple t j)(f:j[i]? = some x)
  (q:∀h',h'.IsTupleIter I t (i+1)->SameBut I s.heap h'->Q x {s with heap:=h'}):wpAny (model prog w) A (nextOf (.ref I)) Q E s:=by
 obtain⟨o,b,hc,h⟩:=id a;obtain⟨g,c,_,n,d⟩:=e;refine dV (wpAny_callSpecial?_slot (name:=ofString "__next__") a.typeIs Ij (Cr Ij a.typeIs F.entry_tuple_iterator_next ?_ (F.args_tuple_iterator_next_1 _)));show wpAny _ _ (field (.ref I) 0 >>= _) _ _ s;refine dV (Bs b h (x:=.ref t) rfl ?_);refine dV (Bs b h (x:=.int i 0) rfl ?_);refine dV (Df c d ?_);simp only[toNat_natCast,f];refine dV (Hk b h (by simp) (wpAny_pure ⟨x,rfl,wpAny_pure (q _ ⟨_,Heap.get?_update_self _ b (Obj.isFreed_of_fields (Obj.data_mapFields h _)),(Obj.cls_mapFields ..).trans hc,by rw[Obj.data_mapFields h];rfl⟩ (Eb ..))⟩))
def tY(g:A.handled=none)(b:s.heap.IsTupleIter l t i)(h:s.heap.IsTuple t I)(j:I[i]? = none)
  (q:∀h' e,ExtBut l s.heap h'->(∃o,h'.get? e=some o/\o.cls=.type "StopIteration")->E (.ref e) {s with heap:=h'}):wpAny (model prog w) A (nextOf (.ref l)) Q E s:=by
 obtain⟨o,c,hc,H⟩:=id b;obtain⟨k,d,_,n,f⟩:=h;refine dV (wpAny_callSpecial?_slot (name:=ofString "__next__") b.typeIs Ij (Cr Ij b.typeIs F.entry_tuple_iterator_next ?_ (F.args_tuple_iterator_next_1 _)));show wpAny _ _ (field (.ref l) 0 >>= _) _ _ s;refine dV (Bs c H (x:=.ref t) rfl ?_);refine dV (Bs c H (x:=.int i 0) rfl ?_);refine dV (Df d f ?_);simp only[toNat_natCast,j];refine dV (Cf (dV (Hk c H (by simp) ?_)));refine dV ?_;refine dV (m:=firstArgMember _ _) (wpAny_of_eq (a:=Value.none) (rfl) ?_);refine EE ?_ (by size_fits);refine dV (wpAny_handled ?_);rw[show A.in1.handled=none from g];refine dV (gX (wpAny_throw ?_));exact q _ _ (((Eb ..).extBut.push _).push _) ⟨_,Al _ rfl,rfl⟩
def Draws.tup(f:A.handled=none)(l t:Addr)(c:t≠l)(I:Array Value) :
  Draws prog w A l [l,t] I.size (λi v=>I[i]?=some v) (λi h=>h.IsTupleIter l t i/\h.IsTuple t I) where
 live:=λ_ _ k=>k.1.imp λ_ z=>z.1
 frame:=λ_ _ _ k d=>⟨k.1.at λo e=>d l (by simp) o e,k.2.at λo e=>d t (by simp) o e⟩
 item:=λi s Q E m k g=>Yq k.1 k.2 (x:=I[i]) (by simp) λH a b=>g _ H s.toks (by simp) ⟨a,k.2.at λo e=>(b.2 t c).trans e⟩ b
 done:=λs Q E k j=>tY f k.1 k.2 (by simp) j
section
open PyProof.Rows
def dX.spun{Z:St}{ch:List Addr}{a:Addr}(I:dX X B Z H s)(d:∀ b∈ch,Di X B H b)(k:∀ b u,b∉ch->s.heap.get? b=some u->h'.get? b=some u)(f:s.heap.objs.size<=a)
  (g:cH X.prog X.w (gV H a o) h' a o):dX X B Z (gV H a o) {s with heap:=h',toks:=t'}:=by
 have C:H a=none:=I.hok.fresh f;have h:∀b u,H b=some u->b∉ch:=λb u e z=>by rw[(d b z).1]at e;lia
 refine I.step (g':=s.gens) (d':=s.drawn) (ch:=ch) (λb E=>?_) (λb u _ _ hc e _=>k b u hc e) (λb u _ _ hc e _=>⟨u.slots,k b u hc e⟩) (λb u _ e n=>?_) (λb u hc e=>⟨u,k b u hc e⟩)
  (λb G e=>by rw[aF (bK e C)];exact e) (λb u v e=>by rw[aF (bK e C)];exact e) (λb M e=>⟨#[],by rw[aF (bK e C),e];simp⟩) (λm i=>?_) (λb u e=>?_) I.bare
 ·obtain⟨y,j,A,l,p,t⟩:=d b E;exact⟨l,j,p,t⟩
 ·rw[aF (Ay (Au (sL e) f))];exact n
 ·obtain⟨u,J,L,x,r⟩:=i;exact⟨u,J,L,k _ u (λz=>(d _ z).2.1 rfl) x,r⟩
 ·by_cases E:b=a;subst E;rw[aH]at e;lia;rw[aF E]at e;refine(I.hok b u e).stay (λc v hc q=>k c v ?_ q) (λc q=>by rw[aF (bK q C)];exact q) λc G q=>by rw[aF (bK q C)];exact q
  rcases hc with z|z
  ·simp_all
  simp_all
def dX.spun0{Z:St}{ch:List Addr}(I:dX X t Z H s)(a:∀ b∈ch,Di X t H b)(k:∀ b u,b∉ch->s.heap.get? b=some u->h'.get? b=some u):dX X t Z H {s with heap:=h',toks:=t'}:=by
 have d:∀b u,H b=some u->b∉ch:=λb u e z=>by rw[(a b z).1]at e;lia
 refine I.step (g':=s.gens) (d':=s.drawn) (ch:=ch) (λb A=>?_) (λb u _ _ hc e _=>k b u hc e) (λb u _ _ hc e _=>⟨u.slots,k b u hc e⟩) (λb u _ e n=>n) (λb u hc e=>⟨u,k b u hc e⟩)
  (λb y e=>e) (λb u v e=>e) (λb C e=>⟨#[],by simp_all⟩) (λm f=>?_) (λb u e=>?_) I.bare
 ·obtain⟨o,g,p,h,i,j⟩:=a b A;exact⟨h,g,i,j⟩
 ·obtain⟨u,E,B,l,r⟩:=f;exact⟨u,E,B,k _ u (λz=>(a _ z).2.1 rfl) l,r⟩
 ·refine(I.hok b u e).stay (λc v hc q=>k c v ?_ q) (λc q=>q) λc y q=>q;rcases hc with z|z
  ·simp_all
  simp_all
def Kv(K:W.Frag)(a:Addr):It:=
 ⟨λi H=>∃b x,Bp K H a b/\b[i]?=some x,λi H v h=>∃T x,v=.ref T/\H T=none/\h=gV H T (.tup [.int i,x])/\∀b,Bp K H a b->b[i]?=some x,λi H=>∃b,Bp K H a b/\b.length=i⟩
def Yr{h b:Heap}{e it T:Addr}{i:Nat}(f:h.get? T=some {cls:=.type "tuple",data:=.seq #[.int i t,u]})(d:b.get? T=h.get? T)(c:cC x u):cH P w (gV H T (.tup [.int i,x])) b T (.tup [.int i,x]):=by
 have a:=d.trans f;exact⟨by show 2<=sizeLine;decide,[.int i t,u],.cons ⟨t,rfl⟩ (.cons c .nil),⟨_,a,rfl,_,rfl⟩,⟨_,a,rfl⟩⟩
def Ys{K:W.Frag}(a e it:Addr)(l:e≠it) :
  BV P w K (.Tuple B k pos) (Kv K a) [e,it] e (λi h=>(∃f,IsEnum h e it i f)/\h.IsTupleIter it a i) where
 mem:=by simp
 obj:=λi h st b hb=>by
  obtain⟨⟨f,g⟩,o,C,c,d⟩:=st;rcases sY.mp hb with z|hb;subst z;exact⟨_,g,λv z=>by cases z⟩;rw[Aa.mp hb];exact⟨o,C,λv z=>by rw[d]at z;cases z⟩
 keep:=λi h h' st k=>by
  obtain⟨⟨f,g⟩,hi⟩:=st;exact⟨⟨f,k e (by simp) _ g⟩,hi.at λo q=>k it (by simp) o q⟩
 item:=by
  intro X L M N hc i pins s Z H E I F st π;subst L M N;obtain⟨⟨f,g⟩,hi⟩:=st;obtain⟨xs,x,G,J⟩:=π;obtain⟨O,Q,p,hz⟩:=I.tuple G;obtain⟨u,hu,ru⟩:=Q.get J;have r:s.heap.IsTuple a O.toArray:=p;have m:a≠it:=λz=>by
   obtain⟨o,j,t,_⟩:=r;obtain⟨o',R,D1,_⟩:=id hi;rw[z,R]at j;cases j;rw[t]at D1;injection D1 with q;exact absurd q (by decide)
  have S:e≠a:=λz=>by
   obtain⟨o,j,t,_⟩:=r;rw[← z,g]at j;cases j;have T:type "enumerate"=type "tuple":=t;injection T with q;exact absurd q (by decide)
  have U:i<O.toArray.size:=by
   have:=(hR.mp hu).1;simpa using this
  refine wpAny_pyNext_enum_itemD (Draws.tup (A:=X.A.in1) (I.ok.hd hc) it a m O.toArray) g ⟨hi,r⟩ U l (by simp[l,S]) λy j tk hy C V hT hsz hk=>?_;obtain rfl:y=u:=by
   rw[BS,hu]at hy;exact(Ap hy).symm
  refine⟨_,rfl,wpAny_letOwnedTupleGo_enum C λt Y n=>?_⟩;have σ:s.heap.objs.size≠e:=λz=>absurd (sL g) (by rw[← z];exact Bt _);have ha:H s.heap.objs.size=none:=I.hok.fresh (hC _);refine⟨.ref s.heap.objs.size,gV H s.heap.objs.size (.tup [.int i,x]),?_,rfl,⟨_,x,rfl,ha,rfl,λys hys=>by rw[I.tuple_inj hys G];exact J⟩,⟨⟨_,Y⟩,V.1.at λo q=>(n.2 it l.symm).trans q⟩,λb hb=>?_⟩;exact I.spun (ch:=[e,it]) (t':=tk+1) F (λb u hb q=>(n.2 b λz=>hb (by simp[z])).trans (hk b u (λz=>hb (by simp[z])) (λz=>hb (by simp[z])) q)) (hC _) (Yr (e:=e) (it:=it) hT (n.2 _ σ) ru);rw[aF (λz=>?_)];exact(F b hb).1;obtain⟨o,C⟩:∃o,s.heap.get? b=some o:=by
   rcases sY.mp hb with z|hb;rw[z];exact⟨_,g⟩;rw[Aa.mp hb];exact hi.imp λ_ q=>q.1
  exact absurd (sL C) (by rw[z];exact Bt _)
 done:=by
  intro X L M N hc i pins s Z H E I F st π;subst L M N;obtain⟨⟨f,g⟩,hi⟩:=st;obtain⟨xs,G,J⟩:=π;obtain⟨O,Q,p,hz⟩:=I.tuple G;have r:s.heap.IsTuple a O.toArray:=p;have m:a≠it:=λz=>by
   obtain⟨o,j,t,_⟩:=r;obtain⟨o',R,D1,_⟩:=id hi;rw[z,R]at j;cases j;rw[t]at D1;injection D1 with q;exact absurd q (by decide)
  have hl:O.toArray.size=i:=by rw[BU,← Q.length];exact J
  refine wpAny_pyNext_enum_endD (Draws.tup (A:=X.A.in1) (I.ok.hd hc) it a m O.toArray) g ⟨by rw[hl];exact hi,r⟩ λh' hx'=>⟨rfl,I.spun0 (ch:=[e,it]) (t':=s.toks) F λb u hb q=>hx' b u (λz=>hb (by simp[z])) q⟩
 self:=λ_ _ _ _ _ st h=>wpAny_pyIter_enum st.1.choose_spec h
end
section
open AutoSeq1(wpAny_loadPart')
noncomputable abbrev HQ(l:Addr):Obj:={cls:=.type "tuple_iterator",data:=.fields #[.ref l,.int 0 0]}
noncomputable abbrev Kw(i:Addr):Obj:={cls:=.type "enumerate",data:=.fields #[.none,.bool false,.ref i,rawInt 0,.none,.none]}
def Yt{x:Bool}(h:∀b,Q b s):wpAny (model prog w) A (pure x) Q E s:=gX (h x)
def Yu(l:Addr)(I:Array Value)(n:Nat)(a:Option Addr)(j:Array (Option Value)) :
  Meets (Builtin.«enumerate.__new__» ⟨[.type "enumerate",.ref l],[]⟩) (λ_ R s=>s.heap.get? l=some {cls:=.type "tuple",dict:=a,data:=.seq I n,slots:=j} /\
   R (.ok (.ret (.ref (s.heap.push (HQ l)).objs.size))) {s with heap:=(s.heap.push (HQ l)).push (Kw s.heap.objs.size)}):=
 .of_wp λp w A R s h=>by
  obtain⟨f,g,d,t,o⟩:=s;obtain⟨c,h⟩:=h;have e:=sub_enumerate;have i:IsTuple (Shared.heap ⟨f,g,d,t,o⟩) l I:=⟨_,c,rfl,n,rfl⟩
  wp_walk using JA c
  refine wpAny_stack_any λk=>Yt λb=>?_;cases b<;>(wp_walk using JA c,Hg i;exact⟨_,rfl,h⟩)
def Yv{s:Shared}(i:s.heap.IsTuple l I)
  (h:∀h',IsEnum h' (s.heap.objs.size+1) s.heap.objs.size 0 .none->h'.IsTupleIter s.heap.objs.size l 0->h'.objs.size=s.heap.objs.size+2->(∀b o,s.heap.get? b=some o->h'.get? b=some o)->Q (.ref (s.heap.objs.size+1)) {s with heap:=h'}) :
  wpAny (model prog w) A (call (.type "enumerate") [.ref l]) Q E s:=by
 obtain⟨⟨c,a,m,j⟩,H,hc,n,k⟩:=i;have d:c=.type "tuple":=hc;have e:m=.seq I n:=k;subst d e;refine callType_new F.called_enumerate (by decide) (F.typeCall_enumerate_1 _) (F.newCall_enumerate_1 _) (λO=>F.args_object_init_2 O _) F.entry_enumerate_new (Yu l I n a j) ⟨H,?_⟩;have f:(s.heap.push (HQ l)).objs.size=s.heap.objs.size+1:=DL ..;show _/\_;rw[f];have g:IsEnum ((s.heap.push (HQ l)).push (Kw s.heap.objs.size)) (s.heap.objs.size+1) s.heap.objs.size 0 .none:=by
  have:=Al (s.heap.push (HQ l)) (o:=Kw s.heap.objs.size) rfl;rw[f]at this;exact this
 exact⟨⟨_,g,rfl⟩,h _ g ⟨_,Ac _ (Al _ rfl),rfl,rfl⟩ (by rw[DL,f]) λb o x=>Ac _ (Ac _ x)⟩
end
section
open PyProof.Rows
def Nr(K:W.Frag)(b:TA):TI:=λZ H R=>b Z H λv a=>∃p x,v=[.ref p]/\cG a p=some (false,x)/\R (Kv K p) a
def Yw(K:W.Frag)(m:X.K=K)(n:Gl X "enumerate")(o:X.mg "enumerate"=none)(i:bootBuiltins "enumerate"=some (.type "enumerate"))(N:PA X [a] j)(L:starEach [a] X.env=[(false,eval a X.env)]:=by rfl):PI X (.Tuple d k e) (.Call (.Name "enumerate" p) [a] [] pos) (Nr K j):=by
 subst m;intro G s Z H R I h;refine Call_ (iD I n o i (Fu (thn (N pos G s Z H _ I h) λU E O=>?_) L rfl));obtain⟨T,r,g,t,v⟩:=O;obtain⟨b,Q,rfl,w,q⟩:=v;obtain⟨u,rfl,x⟩:=t.one;cases x;have f:∀c,c∈[E.heap.objs.size+1,E.heap.objs.size]->E.heap.objs.size<=c:=λc hc=>by
  rcases sY.mp hc with z|hc;lia;rw[Aa.mp hc];exact hC _
 obtain⟨J,C,y,D1⟩:=g.tuple (cX w);refine Yv (show E.heap.IsTuple b J.toArray from y) λY l M A B=>wpAny_pyIter_enum l ?_;exact⟨_,[E.heap.objs.size+1,E.heap.objs.size],_,_,r,rfl,g.kept (t':=E.toks) B,Ys b _ _ (Nat.succ_ne_self _),⟨⟨_,l⟩,M⟩,λc hc=>g.fpOk (f c hc) (g.hok.fresh (f c hc)),q⟩
end
noncomputable def oK(n:Nat):List D->List D
 |[]=>[]
 |d::r=>.tup [.int (n:Int),d]::oK (n+1) r
theorem fX:∀(n:Nat) (l:List D),(oK n l).length=l.length
 |_,[]=>rfl
 |n,_::r=>by show(oK (n+1) r).length+1=r.length+1;rw[fX]
theorem iJ:∀ {n:Nat} {l:List D} {i:Nat} {d:D},(oK n l)[i]? = some d->∃ y,l[i]? = some y/\d=.tup [.int ((n+i:Nat):Int),y]
 |_,[],_,_,h=>by simp[oK]at h
 | n,y::r,0,d,h=>by
   simp[oK]at h;exact⟨y,rfl,by rw[← h];rfl⟩
 | n,y::r,i+1,d,h=>by
   obtain⟨z,e,q⟩:=iJ (n:=n+1) (l:=r) (i:=i) (d:=d) (by simpa[oK]using h);exact⟨z,by simpa using e,by rw[q,show n+1+i=n+(i+1) by lia]⟩
def Yx:IG (Kv K p) (oK 0 l) (λH=>Bp K H p xs/\Rps H l xs) where
 go:=λH i d ⟨h,r⟩ e=>by
  obtain⟨y,a,_⟩:=iJ e;obtain⟨x,E,_⟩:=r.get a;exact⟨xs,x,h,E⟩
 yld:=λH i d v m ⟨h,r⟩ e ⟨T,x,b,k,c,f⟩=>by
  obtain⟨y,a,rfl⟩:=iJ e;obtain⟨j,E,g⟩:=r.get a;have:=f xs h;rw[E]at this;cases this;subst b c;refine⟨aN k,.tup aH (.cons ?_ (.cons (g.mono (Bb.same (aN k))) .nil))⟩;rw[Bj];exact .int _
 stop:=λH ⟨h,r⟩=>⟨xs,h,by rw[fX,r.length]⟩
noncomputable def Nt:D->Option (List D)
 |.tup l=>some l
 |_=>none
def GR(r:DE):DI:=λZ=>(r Z).bind λx=>(rd x.2 x.1).bind λd=>(Nt d).bind λl=>some (oK 0 l,(match x.1 with|.slot i=>some i|_=>none),x.2)
def Yy(K:W.Frag)(h:∀ C,PI X T e (Nr K (BX C (aA r aE)))):GI X T e (GR r):=.mk λC=>IH (h C) λG H R J=>by
 obtain⟨Z,O,items,l,q,e,k⟩:=J;obtain⟨⟨x,f⟩,s,e⟩:=aB e;obtain⟨d,m,e⟩:=aB e;obtain⟨I,n,e⟩:=aB e;cases e;refine⟨Z,O,[x],f,?_,λL u a c g A=>?_⟩;show((_:Option _).bind _)=_;rw[s];rfl
 cases c with
 | cons c t _=>
   cases t;have E:=c.vw a m;cases d with
   | tup B=>
     cases n;obtain⟨p,xs,rfl,o,v⟩:=fJ E;refine⟨p,xs,rfl,bL o,k _ u _ a g (Yx (xs:=xs)) λi b w j=>?_⟩;obtain⟨y,z⟩:=nE a c m (items:=I) rfl E p false xs rfl (bL o) v i b w j;exact⟨cX y,z⟩
   |_=>cases n
theorem xF{c:Sg}:RI (GR a) (e::c) K=RE a (e::c) λx b=>RD b x λd=>eD (Nt d) λl=>K (oK 0 l) (match x with|.slot i=>some i|_=>none) b:=by
 unfold RI RE RD GR;simp only[aK,aV];try rfl
noncomputable def Bc(i:Nat):Stmt:=PySem.Challenge.pw_mostrows_k22_levels_and_looks.main.body.getD i (.Pass ⟨0,0,0,0⟩)
structure Fi where
 n:Str
 s:Stmt
 N:List Str
 p:Nat
def tb:List Fi:=[⟨"_law_box",Bc 16,["_law_script","_law_k","_law_cell","_law_seed"],2⟩,
 ⟨"_law_take",Bc 17,["_law_box_here","_law_many","_law_digit","_law_one"],2⟩,
 ⟨"_law_names",Bc 19,["_law_box_here","_law_many","_law_letters","_law_stem","_law_at","_law_first","_law_form","_law_x","_law_y","_law_z","_law_some","_law_found","_law_k","_law_word","_law_own"],2⟩,
 ⟨"_law_order",Bc 18,["_law_box_here","_law_things","_law_left","_law_found"],2⟩,
 ⟨"_law_some_columns",Bc 20,["_law_box_here","_law_names_here","_law_many"],3⟩,
 ⟨"_law_any_tables",Bc 21,["_law_box_here","_law_names_here","_law_pool","_law_found","_law_k"],2⟩,
 ⟨"_law_ear_tables",Bc 22,["_law_box_here","_law_names_here","_law_left","_law_found","_law_k","_law_own","_law_one","_law_j"],2⟩,
 ⟨"_law_ring_tables",Bc 23,["_law_box_here","_law_names_here","_law_many","_law_ring","_law_sets","_law_one","_law_own","_law_k","_law_column"],2⟩,
 ⟨"_law_question",Bc 24,["_law_box_here","_law_kind","_law_columns_here","_law_tables","_law_way","_law_sets"],2⟩,
 ⟨"_law_columns",Bc 25,["_law_question_here","_law_found","_law_kt","_law_own","_law_column"],1⟩,
 ⟨"_law_value",Bc 26,["_law_box_here","_law_span","_law_value_here"],2⟩,
 ⟨"_law_house",Bc 27,["_law_box_here","_law_question_here","_law_ceiling","_law_columns_here","_law_span","_law_planted","_law_even","_law_room","_law_is_even","_law_found","_law_kt","_law_own","_law_limit","_law_rows","_law_k","_law_column","_law_row"],3⟩,
 ⟨"tables_of",Bc 9,["question","house","pair","rows"],2⟩,
 ⟨"first_rows",Bc 11,["house","rows"],1⟩,
 ⟨"picked",Bc 5,["row","places","place"],2⟩,
 ⟨"places_of",Bc 4,["columns","some","column"],2⟩,
 ⟨"grouped",Bc 7,["table","columns","others","places","other_places","groups","row"],3⟩,
 ⟨"table_of",Bc 3,["columns","rows"],2⟩,
 ⟨"cut",Bc 6,["table","columns","places","row"],2⟩,
 ⟨"tellers_of",Bc 12,["tables","gone","column","tellers","table","known","lists","one"],3⟩,
 ⟨"in_all",Bc 13,["end","lists","one"],2⟩,
 ⟨"columns_of",Bc 1,["question","found","name","columns","column"],1⟩,
 ⟨"by_columns",Bc 14,["question","house","order","tables","rows","levels","looks","at","column","tellers","longer","row","told","shortest","places","lists","end"],3⟩,
 ⟨"_law_lists",Bc 28,["_law_own","_law_rows","_law_gone","_law_column","_law_places","_law_at","_law_found","_law_row","_law_key","_law_one","_law_k"],4⟩,
 ⟨"_law_due",Bc 29,["_law_question_here","_law_house_here","_law_order_here","_law_here","_law_levels","_law_looks","_law_k","_law_column","_law_tables","_law_kt","_law_own","_law_rows","_law_places","_law_behind","_law_row","_law_lists_here","_law_lists_by","_law_at","_law_value_here","_law_one"],3⟩,
 ⟨"law",Bc 30,["_law_script","_law_k","_law_box_here","_law_question_here","_law_house_here","_law_handed","_law_orders","_law_order_here","_law_turn"],1⟩]
def pz(i:Nat):List Str:=match tb[i]? with
 |some f=>f.N.take f.p
 |none=>[]
structure IU where
 p:Nat->Addr
 d:Nat->FuncData
structure Txt(K:W.Frag)(mg:Str->Option Value)(a:IU):Prop where
 m:∀i f,tb[i]?=some f->mg f.n=some (.ref (a.p i))
 F:∀i f,tb[i]?=some f->DQ K f.n f.n f.s (a.p i) (a.d i)
 o:∀x:Str,x∈(["all","enumerate","int","len","list","max","min","range","repr","set","sorted","tuple","zip"]:List Str)->mg x=none
def Yz:bootBuiltins "all"=some (.builtin "all"):=by decide +kernel
def oM:bootBuiltins "enumerate"=some (.type "enumerate"):=by decide +kernel
def YA:bootBuiltins "int"=some (.type "int"):=by decide +kernel
def Nu:bootBuiltins "len"=some (.builtin "len"):=by decide +kernel
def YB:bootBuiltins "list"=some (.type "list"):=by decide +kernel
def YC:bootBuiltins "max"=some (.builtin "max"):=by decide +kernel
def qX:bootBuiltins "min"=some (.builtin "min"):=by decide +kernel
def YD:bootBuiltins "repr"=some (.builtin "repr"):=by decide +kernel
def Nv:bootBuiltins "set"=some (.type "set"):=by decide +kernel
def jJ:bootBuiltins "sorted"=some (.builtin "sorted"):=by decide +kernel
def pN:bootBuiltins "tuple"=some (.type "tuple"):=by decide +kernel
def Nw:bootBuiltins "zip"=some (.type "zip"):=by decide +kernel
def qY{a:Type}{Q:Nat->a->Prop}{x:a}{l:List a}(h:Q 0 x)(t:∀i f,l[i]?=some f->Q (i+1) f):∀i f,(x::l)[i]?=some f->Q i f
 |0,_,e=>by cases e;exact h
 |i+1,f,e=>t i f e
def IV{a:Type}{Q:Nat->a->Prop}:∀i f,([]:List a)[i]?=some f->Q i f:=λ_ _ e=>nomatch e
def sc:∀i f,tb[i]?=some f->Ax f.N (pz i) (bZ f.s):=by
 unfold tb
 repeat' first|exact IV|refine qY ⟨rfl,rfl,rfl,by decide +kernel,rfl,by decide +kernel,by decide +kernel⟩ ?_
@[elab_as_elim] def IW{P:List Value->Prop}{n:Nat}{u:List Value}(b:u.length=n+1)(h:∀ a r,r.length=n->P (a::r)):P u:=by
  cases u with
  |nil=>cases b
  |cons a r=>exact h a r (Nat.succ.inj b)
@[elab_as_elim] def Nx{P:List Value->Prop}(b:u.length=1)(h:∀a,P [a]):P u:=IW b λa r c=>List.length_eq_zero_iff.mp c▸h a
@[elab_as_elim] def Ny{P:List Value->Prop}(c:u.length=2)(h:∀a b,P [a,b]):P u:=IW c λa r d=>Nx (P:=λr=>P (a::r)) d (h a)
@[elab_as_elim] def Nz{P:List Value->Prop}(d:u.length=3)(h:∀a b c,P [a,b,c]):P u:=IW d λa r e=>Ny (P:=λr=>P (a::r)) e (h a)
@[elab_as_elim] def YE{P:List Value->Prop}(e:u.length=4)(h:∀a b c d,P [a,b,c,d]):P u:=IW e λa r f=>Nz (P:=λr=>P (a::r)) f (h a)
def YF:∀i f,tb[i]?=some f->∀(k d p:Value) (A:Option Addr) (c ct:Value) (u:List Value),u.length=(pz i).length->bindArgs (W.fnOf f.n f.n (qC f.s) (jE f.s) (bZ f.s) .none k d p A c ct) ⟨u,[]⟩=pure ((pz i).zip u):=by
 unfold tb
 repeat' first|exact IV|refine qY (λ_ _ _ _ _ _ u a=>?_) ?_
 all_goals first|exact Nx a λ_=>rfl|exact Ny a λ_ _=>rfl|exact Nz a λ_ _ _=>rfl|exact YE a λ_ _ _ _=>rfl|exact us5 a λ_ _ _ _ _=>rfl|exact us6 a λ_ _ _ _ _ _=>rfl
def bn(T:Txt K mg a)(i:Nat)(f:Fi)(h:tb[i]?=some f):Gr K (a.d i) (pz i) []:=(T.F i f h).binds (YF i f h)
abbrev Fk(P:Program)(w:World)(K:W.Frag)(mg:Str->Option Value)(base:Heap)(a:IU)(i k:Nat)(s:Sp):Prop:=AH P w K mg base CU k (a.p i) (a.d i) (pz i) s
def YG(b:X.N.Nodup)(H:X.N[i]? = some x)(c:Gi X.env.scope x)(d:GE X e r)(h:swapsWith e (some (.Name x a)) pos.line X.env=pure false:=by rfl)(f:X.fn x=true\/X.env.scope.names.lookup x=some .local:=by first | exact .inl rfl | exact .inr rfl | assumption) :
  GS E X (.Assign [.Name x a] e pos) (aU i r):=UZ λg=>yX b H c (d.to g) h f
theorem YH:eD (rN (.str z) (.int i)) K=(z.length<=sizeLine/\eD (atI z.cps.toList i) λc=>K (.val (.str ⟨#[c]⟩))):=by
 show eD (if _ then _ else none) K=_;rw[aP,tW]
def YI(h:z.length<=sizeLine):eD (iB [.str z]) K=K (.val (.int z.length)):=by
 show eD (if _ then _ else none) K=_;rw[aP];exact propext ⟨λh=>h.2,λk=>⟨h,k⟩⟩
noncomputable def fo(x:Option (Bool×D)):Option Sl:=x.map λp=>⟨if p.1=true then .own else .val,p.2⟩
theorem YJ{r:Sg}:PK 0 (fo x::r) s K=K (some s::r):=by
 cases x with
 |none=>rfl
 | some p=>
   obtain⟨b,d⟩:=p;cases b<;>rfl
@[irreducible] def qZ(o:List Nat)(g:DG)(t:DT)(e:DE)(i:List D)(a:Sg):=wB o g t e i a
@[irreducible] def EZ(g:DG)(b:DS)(i:List D)(Z:Sg):=EW g b i Z
@[irreducible] def IZ(c:DT)(b:DS)(Z:Sg):=lK c b Gy Z
theorem xG{c:Sg}:RS (kQ r g b) (d::c) Q=RI r (d::c) λi l a=>eD (EZ g b i (lendO l a)) λo=>Q (jA l a o):=by
 unfold EZ;exact Xt
theorem nM{a:Sg}:RS (tO c b) (d::a) Q=eD (IZ c b (d::a)) Q:=by unfold IZ;rfl
theorem mM{b:Sg}:RE (bB o r g t e) (c::b) Q=RI r (c::b) λi l a=>i.length<=sizeLine/\eD (qZ o g t e i (aW o (lendO l a))) λy=>Q (.own (.lst y.1)) (sI l a (iY o (lendO l a) y.2)):=by
 unfold qZ;exact Xx
def cP(P:Nat->Sg->Prop)(H:P 0 Z)(h:∀i d Z,I[i]?=some d->P i Z->eD (g d Z) λc=>RS b c λo=>∃a,(o=.nx a\/o=.ct a)/\P (i+1) a)(k:∀e,P I.length e->K (.nx e)):eD (EZ g b I Z) K:=by
 unfold EZ;exact Xv P H h k
def YK(P:Nat->Sg->Prop)(m:Nat)(e:m<1000000)(H:P m Z)(h:∀m Z,P m Z->RT c Z λt d=>if t=true then RS b d λo=>(∃a M,(o=.nx a\/o=.ct a)/\M < m/\P M a)\/(∃x a,o=.rt x a/\Q (.rt x a))\/(∃a,o=.bk a/\Q (.nx a))else Q (.nx d)):eD (IZ c b Z) Q:=by
 unfold IZ;exact Xw P m e H h
def dI(I:List D)(h:Sg)(P:Nat->List D->Sg->Prop)(j:P 0 [] h)
  (H:∀i d A h,I[i]?=some d->P i A h->eD (g d h) λc=>RT t c λb a=>if b=true then RE e a λr f=>∃v,r=.val v/\P (i+1) (A++[v]) (aW o f)else P (i+1) A (aW o a))
  (k:∀A h,P I.length A h->K (A,h)):eD (qZ o g t e I h) K:=by
 unfold qZ;exact Xy I h P j H k
section
open PyProof.Rows Spec
def NA:R2:=λx y H Q=>∃(l:Addr) (k:Int) (a:List V),x=.ref l/\y=.int k/\cG H l=some (true,a)/\0<=k/\k<=1000/\a.length<=1000/\∀r,H r=none->Q (.ref r) (gV H r (.lst (replicate k.toNat a).flatten))
def YL:Ar X (binaryOp .Mult) NA:=by
 intro pins s Z H x y v u Q I B C h;obtain⟨l,k,xs,rfl,rfl,D1,J,K,E,q⟩:=h;cases B;obtain⟨t,rfl⟩:=C;obtain⟨O,r,⟨⟨c,d,L,Y⟩,n,e,w,z,A⟩,M⟩:=I.list (dE D1);simp only at w z A;subst w z A;have G:=r.length;have N:xs.length*k.toNat<=1000*1000:=Nat.mul_le_mul E (by lia);have f:O.toArray.size*k.toNat<=sizeLine:=by rw[BU,← G,Ct];lia
 have g:¬O.toArray.size*k.toNat > (2^63-1) / 8:=by
  have:(sizeLine:Nat)<=(2^63-1) / 8:=by decide
  lia
 have i:¬(!Builtin.List.listFitsIndex k)=true:=by
  rw[fitsIndex_both (by lia) (by lia)];exact Ec
 have b:¬listTooLong (O.toArray.size*k.toNat)=true:=by
  rw[qB f];exact Ec
 have j:foldl (λo p=>o++p) #[] (replicate (if O.toArray.isEmpty=true then 0 else k.toNat) O.toArray)=(replicate k.toNat O).flatten.toArray:=by
  rw[show ∀m:Nat,foldl (λo p=>o++p) #[] (replicate m O.toArray)=(replicate m O).flatten.toArray from λm=>by simpa using sZ O m []];cases O with
  |nil=>simp
  |cons a π=>rw[a0m (by simp)]
 refine wpAny_binaryOp_repeat_ref (T:="list") (U:="int") (by decide) ⟨_,e,rfl⟩ (λs'=>typeIs_int s' k t) noFill_list_mul F.fills_int_mul F.slot_int_rmul repeat_list F.slot_int_index.lookup
  (Dy F.slot_int_rmul (typeIs_int s k t) F.entry_int_rmul (F.args_int_rmul_2 _ _) (lm_int_rmul_list_any k t l O.toArray n none Y)
   ⟨e,rfl,⟨_,e,rfl⟩,Dy F.slot_list_mul ⟨_,e,rfl⟩ F.entry_list_mul (F.args_list_mul_2 _ _) (lm_list_mul_any l O.toArray n none Y k t i g b) ⟨e,?_⟩⟩)
 rw[j];exact⟨.ref _,_,I.lnew (t':=s.toks) (r.rep k.toNat) (by rw[SJ,Eg,Ct];lia),rfl,q _ I.fresh⟩
end
noncomputable def HR:F2:=λd e=>match d,e with
 |.lst l,.int i=>if 0<=i/\i<=1000/\l.length<=1000 then some (.own (.lst (replicate i.toNat l).flatten))else none
 |_,_=>none
theorem Rps.rep(h:Rps H l xs):∀ k:Nat,Rps H (replicate k l).flatten (replicate k xs).flatten
 |0=>.nil
 | k+1=>by
   rw[replicate_succ,replicate_succ,flatten_cons,flatten_cons];exact h.append (h.rep k)
def YM:oH NA HR:=by
 intro H g h x y Q j c d e k;unfold HR at e;split at e;split at e;rename_i hc;cases e;obtain⟨p,i,rfl,f,a⟩:=cY c;obtain rfl:=cA d;exact⟨p,_,i,rfl,rfl,f,hc.1,hc.2.1,by rw[← a.length];exact hc.2.2,λr b=>k _ _ (aN b) (nH b (a.rep _))⟩;cases e;cases e
def YN:eD (HR (.lst l) (.int i)) K=((0<=i/\i<=1000/\l.length<=1000)/\K (.own (.lst (replicate i.toNat l).flatten))):=by
 show eD (if _ then _ else none) K=_;rw[aP];rfl
section
open SetTable
noncomputable def gS:Nat->Nat
 |0=>0
 |n+1=>5*gS n+1
def tZ(n:Nat):4*gS n+1=5^n:=by
 induction n with
 |zero=>rfl
 |succ n a=>rw[EL,← a];show 4*(5*gS n+1)+1=_;lia
def NB(a b:Nat):gS (a+b)=gS a*5^b+gS b:=by
 have c:=tZ (a+b);have d:=tZ a;have e:=tZ b
 grind
def NC(n:Nat):5^n % 4=1:=by
 have:=tZ n;lia
def YO(n:Nat)(h:n % 2=1):gS n % 2=1:=by
 have a:∀m,gS m % 2=m % 2:=λm=>by
  induction m with
  |zero=>rfl
  |succ m b=>show(5*gS m+1) % 2=_;lia
 simp_all
def pO(hb:b % 2=1)(h:2 ^ k ∣ a*b):2 ^ k ∣ a:=by
 have hc:Nat.Coprime (2 ^ k) b:=by
  refine Nat.Coprime.pow_left k ?_;have:Nat.gcd 2 b=1:=by
   rw[Nat.gcd_rec,hb];rfl
  exact this
 exact Nat.Coprime.dvd_of_dvd_mul_right hc h
theorem ND:∀ (k n:Nat),2 ^ k ∣ gS n->2 ^ k ∣ n
 |0,n,_=>by simp
 | k+1,n,h=>by
   rcases Nat.mod_two_eq_zero_or_one n with e|e
   ·obtain⟨m,rfl⟩:∃ m,n=m+m:=⟨n / 2,by lia⟩;rw[NB]at h;have f:=NC m;obtain⟨q,a⟩:∃ q,5 ^ m+1=2*q:=⟨(5 ^ m+1) / 2,by lia⟩;have b:q % 2=1:=by lia
    have c:gS m*5^m+gS m=2*(gS m*q):=by
     have:gS m*5^m+gS m=gS m*(5^m+1):=rfl;rw[this,a,Nat.mul_left_comm]
    rw[c,EL,Eg (2^k) 2]at h;have d:2^k ∣ gS m*q:=Nat.dvd_of_mul_dvd_mul_left (by decide) h;have g:=ND k m (pO b d);have i:m+m=2*m:=by lia
    rw[i,EL,Eg (2^k) 2];exact Nat.mul_dvd_mul_left 2 g
   ·have o:=YO n e;have:2 ∣ gS n:=Nat.dvd_trans ⟨2^k,by rw[EL,Eg]⟩ h;lia
noncomputable def CI(k:Nat):Nat->Nat->Nat
 |0,x=>x % 2^k
 |n+1,x=>(5*CI k n x+1) % 2^k
def Kx(k n x:Nat):CI k n x=(5 ^ n*x+gS n) % 2 ^ k:=by
 induction n with
 |zero=>simp[CI,gS]
 | succ n a=>
   show(5*CI k n x+1) % 2^k=_;rw[a];have e:5^(n+1)*x+gS (n+1)=5*(5^n*x+gS n)+1:=by
    show _+(5*gS n+1)=_
    grind
   rw[e,Nat.add_mod,Nat.mul_mod];simp
def NF(l:a < b)(hb:b < 2 ^ k)(h:CI k a x=CI k b x):False:=by
 rw[Kx,Kx]at h;obtain⟨d,rfl⟩:∃d,b=a+d:=⟨b-a,by lia⟩;have H:2^k ∣ (5^(a+d)*x+gS (a+d))-(5^a*x+gS a):=by
  exact Nat.dvd_of_mod_eq_zero (Nat.sub_mod_eq_zero_of_mod_eq h.symm)
 have e:(5 ^ (a+d)*x+gS (a+d))-(5 ^ a*x+gS a)=gS d*((4*x+1)*5 ^ a):=by
  have c:=tZ d;have g:5^(a+d)*x=gS d*(4*x*5^a)+5^a*x:=by
   rw[Nat.pow_add,← c,mul_assoc,Nat.add_mul,Nat.one_mul,Nat.mul_add];rw[Eg (4*x),Eg 4 (gS d),mul_assoc,Nat.mul_left_comm]
  have i:gS (a+d)=gS d*5^a+gS a:=by rw[add_comm a d,NB]
  rw[g,i,Nat.add_mul,Nat.one_mul,Nat.mul_add];lia
 rw[e]at H;have j:((4*x+1)*5^a) % 2=1:=by
  have f:=NC a
  lia
 have:=Nat.le_of_dvd (by lia) (ND k d (pO j H));lia
theorem nN:∀ (N:Nat) (f:Nat->Nat),(∀ i,i < N->f i < N)->(∀ i j,i < j->j < N->f i≠f j)->∀ c,c < N->∃ i,i < N/\f i=c
 |0,_,_,_,c,h=>absurd h (Ef c)
 | N+1,f,q,p,c,hc=>by
   by_cases d:∃i,i<N+1/\f i=c;exact d
   ·exfalso
    have b:∀i,i<N+1->f i≠c:=λi h e=>d ⟨i,h,e⟩
    let g:Nat->Nat:=λi=>if f i=N then c else f i
    have k:∀i,i<N+1->g i<N:=λi h=>by
     show(if f i=N then c else f i)<N;have l:=q i h;have m:=b i h
     lia
    have G:∀i j,i<j->j<N+1->g i≠g j:=λi j a H=>by
     show(if f i=N then c else f i)≠if f j=N then c else f j
     have l:=p i j a H;have m:=b i (Ck a H);have o:=b j H
     lia
    obtain⟨i,n,e⟩:=nN N g (λi h=>k i (lt_succ_of_lt h)) (λi j a H=>G i j a (by lia)) (g N) (k N (by lia))
    simp_all
def NG(hc:c<2^k):∃n,n<2^k/\CI k n x=c:=
 nN (2^k) (λn=>CI k n x) (λi _=>by rw[Kx];exact mod_lt _ (Nat.two_pow_pos k)) (λi j a h e=>NF a h e) c hc
noncomputable def Es(m:Nat)(p:Probe):Probe:=
 if p.more > 0 then{p with j:=p.j+1,more:=p.more-1}else
 {p with j:=(leap m p.i p.perturb).1,more:=runEnd m (leap m p.i p.perturb).1-(leap m p.i p.perturb).1,i:=(leap m p.i p.perturb).1,perturb:=(leap m p.i p.perturb).2}
noncomputable def YP(m:Nat)(h:Int):Probe:=⟨bits h % (m+1),runEnd m (bits h % (m+1))-bits h % (m+1),bits h % (m+1),bits h,none⟩
def wk(m:Nat)(h:Int):Nat->Probe
 |0=>YP m h
 |n+1=>Es m (wk m h n)
noncomputable def lp(m:Nat)(h:Int):Nat->Nat×Nat
 |0=>(bits h % (m+1),bits h)
 |l+1=>leap m (lp m h l).1 (lp m h l).2
noncomputable def rA(m i:Nat):Nat:=runEnd m i-i
def YQ(m i:Nat):rA m i<=9:=by unfold rA runEnd;lia
def tm(m:Nat)(h:Int):Nat->Nat
 |0=>0
 |l+1=>tm m h l+rA m (lp m h l).1+1
def NH(m:Nat)(h:Int)(l:Nat):tm m h l<=10*l:=by
 induction l with
 |zero=>exact hC _
 | succ l a=>
   have:=YQ m (lp m h l).1;show tm m h l+rA m (lp m h l).1+1<=_;lia
theorem Ky{m:Nat}(e:wk m h (tm m h l)=⟨(lp m h l).1,rA m (lp m h l).1,(lp m h l).1,(lp m h l).2,none⟩) :
  ∀r,r<=rA m (lp m h l).1->wk m h (tm m h l+r)=⟨(lp m h l).1+r,rA m (lp m h l).1-r,(lp m h l).1,(lp m h l).2,none⟩
 |0,_=>e
 | r+1,a=>by
   have b:=Ky e r (Aq a);show Es m (wk m h (tm m h l+r))=_;rw[b];unfold Es
   lia
theorem rB(m:Nat)(h:Int):∀ l,wk m h (tm m h l)=⟨(lp m h l).1,rA m (lp m h l).1,(lp m h l).1,(lp m h l).2,none⟩
 |0=>rfl
 | l+1=>by
   have a:=Ky (rB m h l) (rA m (lp m h l).1) (hC _);show Es m (wk m h (tm m h l+rA m (lp m h l).1))=_;rw[a];unfold Es;rw[a0m (by simp)];rfl
theorem NI(m:Nat)(h:Int):∀ l,(lp m h l).2=bits h / 32 ^ l
 |0=>by show bits h=_;simp
 | l+1=>by
   show(lp m h l).2 / 32=_;rw[NI m h l,Nat.div_div_eq_div_mul,EL]
def YR(h:Int):bits h<2^64:=by
 unfold bits
 lia
def YS(m:Nat)(h:Int)(a:13<=l):(lp m h l).2=0:=by
 rw[NI];refine Nat.div_eq_of_lt (Au (YR h) ?_);refine hQ (by decide:2^64<=32^13) (Nat.pow_le_pow_right (by decide) a)
def NJ(m:Nat)(h:Int):∀l,(lp m h l).1<m+1
 |0|l+1=>mod_lt _ (succ_pos _)
theorem Ja{m k:Nat}(a:m+1=2 ^ k)(h:Int):∀ n,(lp m h (13+n)).1=CI k n (lp m h 13).1
 | 0=>by
   show _=_ % 2^k;rw[Nat.mod_eq_of_lt (by rw[← a];exact NJ m h 13)]
 | n+1=>by
   have e:(lp m h (13+(n+1))).1=((lp m h (13+n)).1*5+1+(lp m h (13+n)).2 / 32) % (m+1):=rfl;rw[e,YS m h (by simp),Ja a h n,a];show _=(5*CI k n _+1) % 2^k;rw[Eg 5]
def YT{M k c:Nat}(a:M+1=2^k)(h:Int)(hc:c<=M):∃m,m<10*turns M/\(wk M h m).j=c:=by
 obtain⟨n,H,e⟩:=NG (k:=k) (x:=(lp M h 13).1) (c:=c) (by lia);refine⟨tm M h (13+n),?_,?_⟩;have:=NH M h (13+n);show _<10*(M+15);lia;rw[rB,← e,← Ja a h n]
def Kz{m i:Nat}(h:i<=m)(r:Nat)(a:r<=rA m i):i+r<=m:=by
 unfold rA runEnd at a
 lia
theorem KA{mask:Nat}(h:Int):∀ n,(wk mask h n).dummy=none/\(wk mask h n).j+(wk mask h n).more<=mask
 | 0=>⟨rfl,by
   have a:bits h % (mask+1)<=mask:=DF (mod_lt _ (succ_pos _));exact Kz a _ (hC _)⟩
 | n+1=>by
   obtain⟨a,b⟩:=KA (mask:=mask) h n;show(Es mask (wk mask h n)).dummy=none/\(Es mask (wk mask h n)).j+(Es mask (wk mask h n)).more<=mask;unfold Es;split
   ·lia
   ·refine⟨a,?_⟩;exact Kz (DF (mod_lt _ (succ_pos _))) _ (hC _)
def NK{mask:Nat}(h:Int)(n:Nat):(wk mask h n).j<=mask:=by
 have:=(KA (mask:=mask) h n).2;lia
def HS(xs:Array Nat):Prop:=∀(i j:Nat) (a b:Nat),i<j->xs[i]?=some a->xs[j]?=some b->a<b
structure NL(xs:Array Nat)(j r:Nat):Prop where
 le:r<=xs.size
 lo:∀(i a:Nat),i<r->xs[i]?=some a->a<j
 hi:∀(i a:Nat),r<=i->xs[i]?=some a->j<=a
theorem rC(n:HS xs):∀ (b L H:Nat),H-L<=b->L<=H->H<=xs.size->(∀ (i a:Nat),i < L->xs[i]? = some a->a < j)->(∀ (i a:Nat),H<=i->xs[i]? = some a->j<=a)->NL xs j (below.go xs j b L H)
 | 0,L,H,p,o,c,d,f=>by
   have:L=H:=by lia
   subst this;exact⟨c,d,f⟩
 | b+1,L,H,p,o,c,d,f=>by
   unfold below.go;split
   ·rename_i l;have h:(L+H) / 2 < xs.size:=by lia
    have E:xs[(L+H) / 2]?=some xs[(L+H) / 2]:=BP h;have m:xs.getD ((L+H) / 2) j=xs[(L+H) / 2]:=by rw[Array.getD_eq_getD_getElem?,E];rfl
    dsimp only;rw[m];split
    ·rename_i k;refine rC n b _ H (by lia) (by lia) c (λi a g e=>?_) f;by_cases z:i=(L+H) / 2
     ·simp_all
     ·exact Ck (n i _ a _ (by lia) e E) k
    ·rename_i k;refine rC n b L _ (by lia) (by lia) (Aq h) d (λi a g e=>?_);by_cases z:i=(L+H) / 2
     ·lia
     ·have:=n _ i _ a (by lia) E e;lia
   ·have:L=H:=by lia
    subst this;exact⟨c,d,f⟩
def gF(H:HS xs)(j:Nat):NL xs j (below xs j):=
 rC H _ _ _ (by simp) (sS _) (hC _) (λi a h _=>absurd h (Ef _)) λi a h e=>by grind
def gZ(H:HS xs)(h:xs[i]? = some j):below xs j=i:=by
 have c:=gF H j;have b:below xs j<=i:=by
  refine DK λz=>?_;have:=c.lo i j z h;lia
 have d:i<=below xs j:=by
  refine DK λz=>?_;have e:below xs j<xs.size:=Ck z (Fv.mp h).1;have a:xs[below xs j]?=some xs[below xs j]:=BP e;have:=H _ i _ j z a h;have:=c.hi _ _ (hC _) a;lia
 lia
def uA{t:SetTable}(H:HS t.place)(h:t.place[i]?=some j):t.slot j=.live i:=by
 unfold slot;dsimp only;rw[gZ H h,h];simp
def YU{t:SetTable}(H:t.dummies=#[])(h:∀i:Nat,t.place[i]? ≠ some j):t.slot j=.empty:=by
 unfold slot;rw[a0m (by simp_all),if_neg (by rw[H];simp[has])]
def AI(t:SetTable)(j:Nat):Prop:=∃i:Nat,t.place[i]?=some j
structure Bl(t:SetTable)(hs:List Int):Prop where
 pw:∃k,t.mask+1=2^k
 m7:7<=t.mask
 dm:t.dummies=#[]
 ri:HS t.place
 lt:∀(i j:Nat),t.place[i]?=some j->j<=t.mask
 len:t.place.size=hs.length
 fit:t.place.size<=t.mask
 rea:∀(i:Nat) h,hs[i]?=some h->∃m j,t.place[i]?=some j/\(wk t.mask h m).j=j/\∀m',m' < m->AI t (wk t.mask h m').j
def Bl.free(T:Bl t s):∃ c,c<=t.mask/\¬ AI t c:=by
 refine AB λg=>?_;have d:∀c,c<=t.mask->AI t c:=λc hc=>AB λz=>g ⟨c,hc,z⟩;have r:=T.m7;have l:=T.fit
 have p:t.place.size+1<=t.mask+1:=lt_succ_of_le l
 let f:Nat->Nat:=λc=>below t.place c
 have k:∀c,c<=t.mask->f c<t.place.size/\t.place[f c]?=some c:=λc hc=>by
  obtain⟨i,e⟩:=d c hc;have:f c=i:=gZ T.ri e;rw[this];exact⟨(Fv.mp e).1,e⟩
 have m:∀a b,a<b->b<=t.mask->f a≠f b:=λa b j H e=>by
  have n:=(k a (by lia)).2;have q:=(k b H).2;rw[e,q]at n;have:=Ap n;lia
 obtain⟨i,o,e⟩:=nN t.place.size f (λi h=>(k i (by lia)).1) (λa b j H=>m a b j (by lia)) (f t.place.size) (k t.place.size l).1;exact m i t.place.size o (by lia) e
def Bl.stop(T:Bl t s)(h:Int):∃ M,M < 10*turns t.mask/\¬ AI t (wk t.mask h M).j/\∀ m,m < M->AI t (wk t.mask h m).j:=by
 obtain⟨c,hc,r⟩:=T.free;obtain⟨k,f⟩:=T.pw;obtain⟨m,g,e⟩:=YT f h hc;have d:∀ n,(∃ m,m < n/\¬ AI t (wk t.mask h m).j)->∃ M,M < n/\¬ AI t (wk t.mask h M).j/\∀ m,m < M->AI t (wk t.mask h m).j:=by
  intro n
  induction n with
  |zero=>rintro⟨m,h,_⟩;exact absurd h (Ef _)
  | succ n i=>
    rintro⟨m,l,o⟩;by_cases H:∃m,m<n/\¬AI t (wk t.mask h m).j;obtain⟨M,a,b,c⟩:=i H;exact⟨M,lt_succ_of_lt a,b,c⟩;refine⟨m,l,o,λq p=>AB λz=>H ⟨q,by lia,z⟩⟩
 exact d _ ⟨m,g,by rw[e];exact r⟩
theorem xH(T:Bl t x)(p:¬ AI t (wk t.mask h M).j)(hb:∀ m,m < M->AI t (wk t.mask h m).j) :
  ∀ (a n:Nat),n<=M->M-n < a ->
    (∃m i,n<=m/\m<M/\t.place[i]?=some (wk t.mask h m).j/\hashAt i=h/\(∀j I,n<=j->j < m->t.place[I]?=some (wk t.mask h j).j->hashAt I≠h)/\probe.go t hashAt h a (wk t.mask h n)=some (.candidate (wk t.mask h m).j i (wk t.mask h (m+1)))) \/
    ((∀j I,n<=j->j < M->t.place[I]?=some (wk t.mask h j).j->hashAt I≠h)/\probe.go t hashAt h a (wk t.mask h n)=some (.empty (wk t.mask h M).j none))
 |0,n,_,s=>by lia
 | a+1,n,H,s=>by
   have g:=(KA (mask:=t.mask) h n).1;unfold probe.go;by_cases b:n=M;subst b;refine .inr ⟨λj I k f=>by lia,?_⟩;have:t.slot (wk t.mask h n).j=.empty:=YU T.dm λi e=>p ⟨i,e⟩;rw[this];dsimp only;rw[g]
   ·obtain⟨i,l⟩:=hb n (lt_of_le_of_ne H b);have o:=uA T.ri l;rw[o];dsimp only;by_cases c:hashAt i=h;refine .inl ⟨n,i,hC _,by lia,l,c,λj I k f=>by lia,?_⟩;rw[eH (by simpa using c)];rfl
    ·rw[a0m (by simpa using c)];have d:∀ I,t.place[I]? = some (wk t.mask h n).j->I=i:=λI e=>by
      rw[← gZ T.ri e,← gZ T.ri l]
     rcases xH T p hb a (n+1) (by lia) (by lia)with⟨m,r,q,A,w,v,y,u⟩|⟨q,A⟩
     ·refine .inl ⟨m,r,Aq q,A,w,v,λj I k f e=>?_,u⟩;by_cases z:j=n;subst z;rw[d I e];exact c
      grind
     ·refine .inr ⟨λj I k f e=>?_,A⟩;by_cases z:j=n;subst z;rw[d I e];exact c;exact q j I (by lia) f e
def Fb(xs:Array b)(d:p<=xs.size)(x:b)(i:Nat):(insertAt xs p x)[i]?=if i<p then xs[i]? else if i=p then some x else xs[i-1]?:=by
 rw[← Bh,toList_insertAt];have c:(xs.toList.take p).length=p:=by grind
 by_cases a:i<p;rw[eH a,Bz (by lia),List.getElem?_take_of_lt a,Bh];rw[a0m a,CP (by lia),c]
 grind
def iT(xs:Array a)(b:p<=xs.size)(x:a):(insertAt xs p x).size=xs.size+1:=by
 rw[← BA,toList_insertAt,Av,Ee,Bi,DH,BA];lia
noncomputable def uB{a:Type}(l:List a)(p:Nat)(x:a):List a:=l.take p++x::l.drop p
def NM(l:List a)(b:p<=l.length)(x:a)(i:Nat):(uB l p x)[i]?=if i<p then l[i]? else if i=p then some x else l[i-1]?:=by
 have:=Fb l.toArray (p:=p) (by simp_all) x i;rw[← Bh,toList_insertAt]at this;simpa[uB]using this
def nO(l:List a)(b:p<=l.length)(x:a):(uB l p x).length=l.length+1:=by
 unfold uB
 grind
def nP(t:SetTable)(j:Nat)(h:t.dummies=#[]):t.put j=({t with place:=insertAt t.place (below t.place j) j},below t.place j):=by
 unfold put;rw[h];rfl
def YV(a:below t.place j<=t.place.size)(e:T.place=insertAt t.place (below t.place j) j):AI T c↔AI t c\/c=j:=by
 constructor
 ·rintro⟨i,h⟩;rw[e,Fb _ a]at h;split at h;exact .inl ⟨i,h⟩;split at h
  ·simp_all
  ·exact .inl ⟨i-1,h⟩
 ·rintro(⟨i,h⟩|rfl);by_cases H:i<below t.place j;exact⟨i,by rw[e,Fb _ a,eH H];exact h⟩;exact⟨i+1,by rw[e,Fb _ a,a0m (by lia),a0m (by lia)];exact h⟩;exact⟨below t.place c,by rw[e,Fb _ a,a0m (by lia),eH rfl]⟩
theorem Bl.put(T:Bl t C)(r:¬ AI t (wk t.mask h M).j)(hb:∀ m,m < M->AI t (wk t.mask h m).j)(s:t.place.size+1<=t.mask) :
  Bl (t.put (wk t.mask h M).j).1 (uB C (below t.place (wk t.mask h M).j) h):=by
 have c:=gF T.ri (wk t.mask h M).j;rw[nP t _ T.dm];have l:=c.le;have n:below t.place (wk t.mask h M).j<=C.length:=by rw[← T.len];exact l
 have g:∀x,AI {t with place:=insertAt t.place (below t.place (wk t.mask h M).j) (wk t.mask h M).j} x↔AI t x\/x=(wk t.mask h M).j:=λx=>YV l rfl;refine⟨T.pw,T.m7,T.dm,?_,?_,?_,?_,?_⟩
 ·intro L i2 a b E f d;have q:∀i a,t.place[i]?=some a->a≠(wk t.mask h M).j:=λi a e z=>r ⟨i,by rw[e,z]⟩;dsimp only at f d;rw[Fb _ l]at f d;generalize (wk t.mask h M).j=j at *;split at f;split at d;exact T.ri _ _ _ _ E f d;split at d;cases d;exact c.lo _ _ (by assumption) f;exact T.ri _ _ _ _ (by lia) f d;split at f;cases f;rw[a0m (by lia),a0m (by lia)]at d;have y:=c.hi _ _ (by lia:below t.place a<=i2-1) d;have A:=q _ _ d;lia;rw[a0m (by lia),a0m (by lia)]at d;exact T.ri _ _ _ _ (by lia) f d
 ·intro i j e;rcases(g j).mp ⟨i,e⟩with⟨u,v⟩|rfl;exact T.lt u j v;exact NK h M
 ·show(insertAt _ _ _).size=_;rw[iT _ l,nO _ n,T.len]
 ·show(insertAt _ _ _).size<=_;rw[iT _ l];exact s
 ·intro i H e;rw[NM _ n]at e;show ∃ m j,(insertAt t.place (below t.place (wk t.mask h M).j) (wk t.mask h M).j)[i]? = some j/\_;rw[Fb _ l];have o:∀ p,C[p]? = some H->∃ m j,t.place[p]? = some j/\(wk t.mask H m).j=j/\∀ B,B < m->AI {t with place:=insertAt t.place (below t.place (wk t.mask h M).j) (wk t.mask h M).j} (wk t.mask H B).j:=λp w=>by
   obtain⟨m,j,J,I,G⟩:=T.rea p H w;exact⟨m,j,J,I,λB k=>(g _).mpr (.inl (G B k))⟩
  split at e;rw[eH (by assumption)];exact o i e;split at e;cases e;rw[a0m (by assumption),eH (by assumption)];exact⟨M,_,rfl,rfl,λB k=>(g _).mpr (.inl (hb B k))⟩;rw[a0m (by assumption),a0m (by assumption)];exact o (i-1) e
def CJ(o:Array (Option Nat))(j:Nat):Prop:=∃k,o[j]?=some (some k)
structure Fc(mask:Nat)(ow:Array (Option Nat))(hs:List Int):Prop where
 sz:ow.size=mask+1
 bd:∀(j k:Nat),ow[j]?=some (some k)->k<hs.length
 one:∀(j j' k:Nat),ow[j]?=some (some k)->ow[j']?=some (some k)->j=j'
 rea:∀(k:Nat) h,hs[k]?=some h->∃m,ow[(wk mask h m).j]?=some (some k)/\∀m',m' < m->CJ ow (wk mask h m').j
def KC(hj:j < o.size):(o.getD j (some 0)).isNone=true↔¬ CJ o j:=by
 have e:o[j]?=some o[j]:=BP hj;rw[Array.getD_eq_getD_getElem?,e];constructor
 ·rintro h ⟨k,a⟩
  simp_all
 ·intro h;cases hc:o[j]with
  |none=>rfl
  |some k=>exact absurd ⟨k,by rw[e,hc]⟩ h
set_option tactic.hygienic true in
theorem uC{j:Nat}(u:O.size=j+1)(h:Int)(o:¬ CJ O (lp j h L).1) :
  ∀ (fuel l:Nat),l<=L->L < l+fuel->(∀ m,m < tm j h l->CJ O (wk j h m).j) ->
    ∃M,layClean.free j O fuel (lp j h l).1 (lp j h l).2=some (wk j h M).j/\¬CJ O (wk j h M).j/\∀m,m<M->CJ O (wk j h m).j
 |0,l,p,s,_=>by lia
 | fuel+1,l,p,s,H=>by
   have b:∀r,r<=rA j (lp j h l).1->(lp j h l).1+r<O.size:=λr e=>by
    have:=Kz (DF (NJ j h l)) r e;lia
   have f:runEnd j (lp j h l).1+1-(lp j h l).1=rA j (lp j h l).1+1:=by
    unfold rA runEnd;split<;>lia
   have g:∀r,r<=rA j (lp j h l).1->(wk j h (tm j h l+r)).j=(lp j h l).1+r:=λr e=>by rw[Ky (rB j h l) r e]
   unfold layClean.free;split;rename_i k i;obtain⟨w,A,v⟩:=List.find?_range_eq_some.mp i;rw[Cc,f]at A;have c:k<=rA j (lp j h l).1:=DF A;refine⟨tm j h l+k,by rw[g k c],?_,λm q=>?_⟩;rw[g k c];exact(KC (b k c)).mp w;by_cases d:m<tm j h l;exact H m d;obtain⟨r,rfl⟩:∃r,m=tm j h l+r:=⟨m-tm j h l,by lia⟩;rw[g r (by lia)];have:=v r (by lia);refine AB λz=>?_;rw[(KC (b r (by lia))).mpr z]at this;cases this
   ·rename_i i;have a:∀ r,r<=rA j (lp j h l).1->CJ O ((lp j h l).1+r):=λr e=>by
     have:=List.find?_eq_none.mp i r (by rw[Cc,f];exact lt_succ_of_le e);exact AB λz=>this ((KC (b r e)).mpr z)
    have n:l≠L:=λz=>by
     subst z;exact o (by simpa using a 0 (sS _))
    refine uC u h o fuel (l+1) (lt_of_le_of_ne p n) (by lia) λm q=>?_;have t:m<tm j h l+rA j (lp j h l).1+1:=q;by_cases d:m<tm j h l;exact H m d;obtain⟨r,rfl⟩:∃r,m=tm j h l+r:=⟨m-tm j h l,by lia⟩;rw[g r (by lia)];exact a r (by lia)
def Fc.free{M:Nat}(T:Fc M o H)(q:H.length<=M):∃ c,c<=M/\¬ CJ o c:=by
 refine AB λl=>?_;have d:∀c,c<=M->CJ o c:=λc hc=>AB λz=>l ⟨c,hc,z⟩
 let f:Nat->Nat:=λc=>(o.getD c none).getD 0
 have j:∀ c,c<=M->o[c]? = some (some (f c)):=λc hc=>by
  obtain⟨k,e⟩:=d c hc;have:f c=k:=by
   show(o.getD c none).getD 0=k
   simp_all
  simp_all
 have n:∀a b,a<b->b<=M->f a≠f b:=λa b g p e=>by
  have m:=j a (by lia);rw[e]at m;have:=T.one a b _ m (j b p);lia
 obtain⟨i,r,e⟩:=nN H.length f (λi h=>T.bd _ _ (j i (by lia))) (λa b g p=>n a b g (by lia)) (f H.length) (T.bd _ _ (j H.length q))
 simp_all
def Fc.lay{A:Nat}(r:A+1=2 ^ k)(T:Fc A O H)(G:H.length<=A)(h:Int):∃ j,layClean.free A O (turns A) (bits h % (A+1)) (bits h)=some j/\Fc A (O.setIfInBounds j (some H.length)) (H++[h]):=by
 obtain⟨c,hc,s⟩:=T.free G;obtain⟨n,t,e⟩:=NG (k:=k) (x:=(lp A h 13).1) (c:=c) (by lia);have u:¬CJ O (lp A h (13+n)).1:=by rw[Ja r h n,e];exact s
 obtain⟨M,v,q,w⟩:=uC T.sz h u (turns A) 0 (sS _) (by show 13+n<0+(A+15);lia) (λm y=>absurd y (Ef _));refine⟨_,v,?_⟩;have hj:(wk A h M).j<O.size:=by rw[T.sz];exact lt_succ_of_le (NK h M)
 have g:∀c,(O.setIfInBounds (wk A h M).j (some H.length))[c]?=if(wk A h M).j=c then some (some H.length)else O[c]?:=λc=>by
  rw[Array.getElem?_setIfInBounds];split
  ·first|rfl|rw[eH hj]
  ·rfl
 have i:∀{c},CJ O c->CJ (O.setIfInBounds (wk A h M).j (some H.length)) c:=λ{c} J=>by
  obtain⟨b,a⟩:=J;refine⟨b,?_⟩;rw[g,a0m (λz=>q ⟨b,by rw[z];exact a⟩)];exact a
 refine⟨by rw[Array.size_setIfInBounds];exact T.sz,λj b a=>?_,λj L b l f=>?_,λb C a=>?_⟩;rw[g]at a;rw[Av];split at a;cases a;simp;have:=T.bd _ _ a;simp;lia
 ·rw[g]at l f;split at l;cases l;split at f;lia;have:=T.bd _ _ f;lia;split at f;cases f;have:=T.bd _ _ l;lia;exact T.one _ _ _ l f
 ·by_cases o:b<H.length;rw[Bz o]at a;obtain⟨m,E,I⟩:=T.rea b C a;refine⟨m,?_,λB d=>i (I B d)⟩;rw[g,a0m (λz=>q ⟨b,by rw[z];exact E⟩)];exact E;rw[CP (DK o)]at a;have p:b=H.length:=by grind
  subst p;have:C=h:=by simpa using a.symm
  subst this;exact⟨M,by rw[g,eH rfl],λB d=>i (w B d)⟩
theorem jZ{m k:Nat}(b:m+1=2 ^ k):∀ (g:List Int) (H:List Int) (O:Array (Option Nat)),Fc m O H->H.length+g.length<=m+1 ->
  ∃ a,g.foldl (λA h=>do
    let (o,k) ← A
    let j ← layClean.free m o (turns m) (bits h % (m+1)) (bits h)
    pure (o.setIfInBounds j (some k),k+1)) (some (O,H.length))=some (a,H.length+g.length)/\Fc m a (H++g)
 |[],H,O,T,_=>⟨O,by simp,by simp_all⟩
 | h::g,H,O,T,i=>by
   rw[Ee]at i;obtain⟨j,e,c⟩:=T.lay b (by lia) h;obtain⟨a,d,f⟩:=jZ b g (H++[h]) _ c (by grind);refine⟨a,?_,by simp_all⟩;rw[Av,length_singleton]at d
   grind
def YW(m:Nat):Fc m (Array.replicate (m+1) none) []:=by
 refine⟨by simp,λj k e=>?_,λj J k e=>?_,λk h e=>by simp at e⟩
 all_goals
  rw[Array.getElem?_replicate]at e
  simp_all
def uD{mask k finger moves:Nat}{led plain:Bool}(G:mask+1=2 ^ k)(J:7<=mask)(hn:hashes.size<=mask) :
  ∃t Y,laid mask finger moves led plain hashes=some (t,Y)/\Bl t (Y.toList.filterMap (hashes[·]?))/\Y.toList.Perm (range hashes.size)/\t.mask=mask/\t.place.size=hashes.size/\t.led=led/\t.plain=plain:=by
 obtain⟨ow,e,T⟩:=jZ G hashes.toList [] _ (YW mask) (by rw[BA];simp;lia);rw[List.nil_append]at T;have K:layClean mask hashes=some ow:=by
  unfold layClean;rw[← Array.foldl_toList];have n:=e;rw[length_nil,Bj]at n;rw[n];rfl
 let g:Nat->Option (Nat×Nat):=λj=>(ow.getD j none).map (j,·)
 have gd:∀ j p,g j=some p↔p.1=j/\ow[j]? = some (some p.2):=λj p=>by
  show(ow.getD j none).map (j,·)=some p↔_;rw[Array.getD_eq_getD_getElem?];cases H:ow[j]? with
  |none=>simp
  | some o=>
    cases o with
    |none=>simp
    | some A=>
      obtain⟨a,b⟩:=p;simp;intro _;exact⟨λz=>z.symm,λz=>z.symm⟩
 let d:=(range (mask+1)).filterMap g
 have O:∀p,p∈d↔ow[p.1]?=some (some p.2):=λp=>by
  rw[Hq];constructor;rintro⟨j,_,h⟩;obtain⟨rfl,h'⟩:=(gd j p).mp h;exact h';intro h;have:p.1<mask+1:=by rw[← T.sz];exact(Fv.mp h).1
  exact⟨p.1,Cc.mpr this,(gd _ _).mpr ⟨rfl,h⟩⟩
 have pw:d.Pairwise (λa b=>a.1<b.1):=List.Pairwise.filterMap g (λa S h b hb U B=>by
  rw[((gd _ _).mp hb).1,((gd _ _).mp B).1];exact h) List.pairwise_lt_range
 have ri:∀(i j:Nat) p q,i<j->d[i]?=some p->d[j]?=some q->p.1<q.1:=λi j p q s L M=>by
  obtain⟨hi,rfl⟩:=hR.mp L;obtain⟨hj,rfl⟩:=hR.mp M;exact List.pairwise_iff_getElem.mp pw i j hi hj s
 have nd:(d.map (·.2)).Nodup:=by
  rw[Ca,List.pairwise_map];refine imp_of_mem (λ{a b} ha hb N e=>?_) pw;have u:=(O a).mp ha;have w:=(O b).mp hb;rw[← e]at w;have:=T.one _ _ _ u w;lia
 have x:hashes.toList.length=hashes.size:=BA;have perm:(d.map (·.2)).Perm (range hashes.size):=(List.perm_ext_iff_of_nodup nd List.nodup_range).mpr λa=>by
  rw[oT,Cc];constructor;rintro⟨p,v,rfl⟩;rw[← x];exact T.bd _ _ ((O p).mp v);intro ha;obtain⟨m,u,_⟩:=T.rea a hashes.toList[a] (nL ha);exact⟨((wk mask hashes.toList[a] m).j,a),(O _).mpr u,rfl⟩
 have I:d.length=hashes.size:=by have:=perm.length_eq;simpa using this
 have y:(d.map (·.2)).filterMap (hashes[·]?)=d.map λp=>hashes.toList.getD p.2 0:=by
  have C:∀ l:List (Nat×Nat),(∀ p∈l,p.2 < hashes.toList.length)->(l.map (·.2)).filterMap (hashes[·]?)=l.map λp=>hashes.toList.getD p.2 0:=by
   intro l
   induction l with
   |nil=>intro _;rfl
   | cons p r π=>
     intro hb;have u:=hb p pL;have f:hashes[p.2]?=some (hashes.toList.getD p.2 0):=by
      rw[← Bh,CC,nL u];rfl
     rw[Cj,List.filterMap_cons,f,Cj,π λq H=>hb q (Af _ H)]
  exact C d λp v=>T.bd _ _ ((O p).mp v)
 refine⟨⟨mask,(d.map (·.1)).toArray,#[],finger,led,moves,plain⟩,(d.map (·.2)).toArray,?_,?_,perm,rfl,by simpa using I,rfl,rfl⟩;unfold laid;rw[K];rfl;have pl:∀(i j:Nat),(d.map (·.1)).toArray[i]?=some j↔∃p,d[i]?=some p/\p.1=j:=λi j=>by
  rw[BS,An];exact Bg
 have D1:∀c,AI (⟨mask,(d.map (·.1)).toArray,#[],finger,led,moves,plain⟩:SetTable) c↔CJ ow c:=λc=>by
  constructor;rintro⟨i,h⟩;obtain⟨p,f,rfl⟩:=(pl i c).mp h;exact⟨p.2,(O p).mp (Ao f)⟩;rintro⟨A,h⟩;obtain⟨i,hi,f⟩:=Cv ((O (c,A)).mpr h);exact⟨i,(pl i c).mpr ⟨(c,A),by rw[nL hi,f],rfl⟩⟩
 refine⟨⟨k,G⟩,J,rfl,?_,?_,?_,?_,?_⟩;intro i j a b s P Q;obtain⟨p,f,rfl⟩:=(pl i a).mp P;obtain⟨q,E,rfl⟩:=(pl j b).mp Q;exact ri i j p q s f E;intro i j n;obtain⟨p,f,rfl⟩:=(pl i j).mp n;have u:=(O p).mp (Ao f);have w:=(Fv.mp u).1;rw[T.sz]at w;exact DF w;show(d.map (·.1)).toArray.size=((d.map (·.2)).toArray.toList.filterMap (hashes[·]?)).length;rw[show(d.map (·.2)).toArray.toList=d.map (·.2)from rfl,y];simp;show(d.map (·.1)).toArray.size<=mask;simp[I];exact hn;intro i h' n;rw[show(d.map (·.2)).toArray.toList=d.map (·.2)from rfl,y,An]at n;obtain⟨p,f,E⟩:=Bg.mp n;have v:=(O p).mp (Ao f);have hb:=T.bd _ _ v;have R:hashes.toList[p.2]?=some h':=by
  rw[← E,CC,nL hb];rfl
 obtain⟨m,a1,a2⟩:=T.rea p.2 h' R;have:=T.one _ _ _ a1 v;exact⟨m,p.1,(pl i p.1).mpr ⟨p,f,rfl⟩,this,λm' F=>(D1 _).mpr (a2 m' F)⟩
end
structure Et(prog:Program)(w:World)(A:Around)(S I:Addr)(n:Nat)(P:Nat->Value->Prop)(J:Nat->Heap->Prop):Prop where
 put:∀i v (s:Shared) (Q:Bool->Shared->Prop) (E:Value->Shared->Prop),i<n->P i v->J i s.heap ->
  (∀b h' tk,J (i+1) h'->(∀c o,c≠S->s.heap.get? c=some o->h'.get? c=some o)->Q b {s with heap:=h',toks:=tk})->wpAny (model prog w) A (setAdd S v) Q E s
 stay:∀i h h',J i h->(∀c o,c≠I->h.get? c=some o->h'.get? c=some o)->J i h'
theorem uE(W:Walks prog w A.in1 I O [I] n P H)(F:Et prog w A.in1 S I n P J)(N:S∉O) :
  ∀ (k i:Nat) (s:Shared),i+k=n->H i s.heap->J i s.heap ->
    (∀h' T,J n h'->(∀c o,c≠S->c≠I->s.heap.get? c=some o->h'.get? c=some o)->R (.ok (.ret .none)) {s with heap:=h',toks:=T}) ->
    codeAny (model prog w) A (.builtin "set.update.loop" ⟨[.ref S,.ref I],[]⟩) R s
 | 0,i,s,h,M,j,q=>by
   have L:i=n:=h;subst L;refine EF PyProof.Rows.F.entry_set_update_loop ?_;rw[Gf JE _]
   (show wpAny _ A.in1 (pyNext (.ref I) >>= _) _ _ s;refine dV (W.done s _ _ M λh' T a=>?_))
   have l:∀c o,c≠I->s.heap.get? c=some o->h'.get? c=some o:=λc o hc e=>a c o (by simpa using hc) e;exact gX (q h' T (F.stay _ _ _ j l) λc o _ hc e=>l c o hc e)
 | k+1,i,s,h,M,j,q=>by
   have L:i<n:=by lia
   refine EF PyProof.Rows.F.entry_set_update_loop ?_;rw[Gf JE _]
   (show wpAny _ A.in1 (pyNext (.ref I) >>= _) _ _ s;refine dV (W.item i s _ _ L M λv u x y d f=>?_))
   have m:∀c o,c≠I->s.heap.get? c=some o->u.get? c=some o:=λc o hc e=>f c o (by simpa using hc) e
   (show wpAny _ A.in1 (holding [v] (setAdd S v) >>= _) _ _ _;refine dV (AS ?_))
   refine F.put i v _ _ _ L y (F.stay _ _ _ j m) λb B C Q p=>?_;refine gX ⟨Ga JE _,?_⟩;have g:H (i+1) B:=W.frame _ _ _ d λc hc o e=>p c o (λz=>N (z▸hc)) e;exact uE W F N k (i+1) _ (by lia) g Q λh' T E G=>q h' T E λc o r t e=>G c o r t (p c o r (m c o t e))
def YX(k:TypeCalled T b a)(l:checkTypeCall T ⟨args,[]⟩=pure ())
  (g:codeAny (model prog w) A.in1 (.call (.builtin b) ⟨.type T::args,[]⟩) (wants Q₁ E) s)
  (h:∀obj d,Q₁ obj d->d.TypeIs obj T/\codeAny (model prog w) A.in1 (.call (.builtin a) ⟨obj::args,[]⟩) (wants (λr i=>r=.none/\Q obj i) E) d) :
  wpAny (model prog w) A (call (.type T) args) Q E s:=by
 obtain⟨B,z,⟨c,n,N⟩,o,p,q,j⟩:=k;have t:=j.lookup;refine wpAny_call (codeAny_of_tree (gX ⟨Code.quiet_builtin _ (by decide +kernel),EF F.entry_type_call ?_⟩));rw[Around.under_plain (weight_type_call_type T args []) rfl]
 repeat (any_goals (first|assumption|wp_step))
 refine Gb g λr v f=>?_
 match r,f with
 |.error e,f=>exact f
 | .ok (.ret obj),f=>
   obtain⟨G,H⟩:=h obj v f;have C:=j.bind obj
   repeat (any_goals (first|assumption|wp_step))
   refine Gb H λr y f=>?_
   match r,f with
   |.error e,f=>exact f
   | .ok (.ret x),⟨m,u⟩=>
     subst m
     repeat (any_goals (first|assumption|wp_step))
noncomputable abbrev CL(e:Array (Int×Value))(E:Nat)(t:SetTable):Obj:={cls:=.type "set",dict:=none,data:=.set e E t}
noncomputable def eJ(w:World):Bool:=!w.params.followText "set-order"
def YY(a:Value)(h:Q (.ref s.heap.objs.size) {s with heap:=s.heap.push (CL #[] 0 (.fresh 0 0 (eJ w)))}) :
  codeAny (model prog w) A (.call (.builtin "set.__new__") ⟨[.type "set",a],[]⟩) (wants Q E) s:=by
 refine codeAny_call_builtin F.plain_set_new F.entry_set_new (wpAny_of_eq (F.newCall_set_1 a) ?_);have b:=sub_set_self
 wp_walk
 refine Hj (gX ?_);exact dV (wpAny_alloc (gX (gX h)))
structure Fd(prog:Program)(w:World)(A:Around)(h₀:Heap)(l:Addr)(n:Nat)(P:Nat->Value->Prop) where
 T:String
 St:Addr->Nat->Heap->Prop
 ob:Obj
 ty:∃o,h₀.get? l=some o/\o.cls=.type T
 n1:isSubtype (.type T) (.type "set")=pure false
 n2:isSubtype (.type T) (.type "frozenset")=pure false
 n3:(type T==type "dict")=false
 iter:∀(A:Around) (s:Shared) (Q:Value->Shared->Prop) (E:Value->Shared->Prop),(∀b o,h₀.get? b=some o->s.heap.get? b=some o)->Q (.ref s.heap.objs.size) {s with heap:=s.heap.push ob}->wpAny (model prog w) A (pyIter (.ref l)) Q E s
 free:ob.isFreed=false
 walk:∀(A':Around),A'.handled=A.handled->∀I,l≠I->Walks prog w A' I [I,l] [I] n P (St I)
 hX:∀h:Heap,(∀b o,h₀.get? b=some o->h.get? b=some o)->St h.objs.size 0 (h.push ob)
def NN{s:Shared}(c:Fd prog w A s.heap l n P)
  (L:∀U:Around,U.handled=A.handled->U.units<=A.units+8->Et prog w U s.heap.objs.size (s.heap.objs.size+1) n P J)
  (v:∀(h':Heap),h'.get? s.heap.objs.size=some (CL #[] 0 (.fresh 0 0 (eJ w)))->(∀b o,s.heap.get? b=some o->h'.get? b=some o)->J 0 h')
  (q:∀h' N,J n h'->(∀b o,s.heap.get? b=some o->h'.get? b=some o)->Q (.ref s.heap.objs.size) {s with heap:=h',toks:=N}) :
  wpAny (model prog w) A (call (.type "set") [.ref l]) Q E s:=by
 obtain⟨T,St,Y,⟨⟨t,k,m,j⟩,f,g⟩,n1,n2,n3,M,free,I,hX⟩:=c;simp only at g;subst g;have h:l<s.heap.objs.size:=sL f;refine YX (Q₁:=λO H=>O=.ref s.heap.objs.size/\H={s with heap:=s.heap.push (CL #[] 0 (.fresh 0 0 (eJ w)))}) F.called_set (F.typeCall_set_1 _) (YY _ ⟨rfl,rfl⟩) λO H Z0=>?_;obtain⟨x,y⟩:=Z0;subst x y;have hS:(s.heap.push (CL #[] 0 (.fresh 0 0 (eJ w)))).get? s.heap.objs.size=some (CL #[] 0 (.fresh 0 0 (eJ w))):=Al _ rfl;have a:∀b o,s.heap.get? b=some o->(s.heap.push (CL #[] 0 (.fresh 0 0 (eJ w)))).get? b=some o:=λb o e=>Ac _ e;have hT:Shared.TypeIs {s with heap:=s.heap.push (CL #[] 0 (.fresh 0 0 (eJ w)))} (.ref s.heap.objs.size) "set":=⟨_,hS,rfl⟩;have B:Shared.TypeIs {s with heap:=s.heap.push (CL #[] 0 (.fresh 0 0 (eJ w)))} (.ref l) T:=⟨_,a l _ f,rfl⟩;refine⟨hT,codeAny_call_builtin F.called_set.init.plain F.entry_set_init (check_set_init_1 hT ?_)⟩;have C:=a l _ f;unfold Builtin.«set.__init__» noKeywords Builtin.Frozenset.updateFrom;generalize p:pyIter=PI1
 wp_walk
 subst p;refine M _ _ _ _ a ?_;refine dV (wpAny_runValue ?_);have u:(s.heap.push (CL #[] 0 (.fresh 0 0 (eJ w)))).objs.size=s.heap.objs.size+1:=DL ..;have ne:l≠s.heap.objs.size+1:=λz=>absurd h (by rw[z];exact EM.mpr (le_succ _));have i:=hX _ a;rw[u]at i;have r:((s.heap.push (CL #[] 0 (.fresh 0 0 (eJ w)))).push Y).get? s.heap.objs.size=some (CL #[] 0 (.fresh 0 0 (eJ w))):=Ac _ hS;have d:∀b o,s.heap.get? b=some o->((s.heap.push (CL #[] 0 (.fresh 0 0 (eJ w)))).push Y).get? b=some o:=λb o e=>Ac _ (a b o e);show codeAny (model prog w) A.in1.in1 (.builtin "set.update.loop" ⟨[.ref s.heap.objs.size,.ref (s.heap.push (CL #[] 0 (.fresh 0 0 (eJ w)))).objs.size],[]⟩) _ _;rw[u];refine uE (I A.in1.in1.in1 rfl (s.heap.objs.size+1) ne) (L A.in1.in1.in1 rfl (by show A.units+1+1+1<=A.units+8;simp)) ?_ n 0 _ (Bj n) i (v _ r d) λh' N D1 G=>?_;simp only[mem_cons,not_mem_nil,or_false,not_or];exact⟨Ay (EJ _),Gg h⟩;refine gX (gX ⟨rfl,q h' N D1 λb o e=>?_⟩);have hb:=sL e;exact G b o (Ay hb) (Ay (lt_succ_of_lt hb)) (d b o e)
def Fd.list{s:Shared}(d:A.handled=none)(a:s.heap.IsList l j):Fd prog w A s.heap l j.size (λi v=>j[i]?=some v) where
 T:="list"
 St:=λI i h=>h.IsListIter I l i/\h.IsList l j
 ob:={cls:=.type "list_iterator",data:=.fields #[.ref l,.int 0 0]}
 ty:=by obtain⟨o,f,hc,_⟩:=a;exact⟨o,f,hc⟩
 n1:=F.sub_list_set
 n2:=F.sub_list_frozenset
 n3:=by decide
 iter:=λk m Q E b g=>wpAny_pyIter_list (a.at λo e=>b l o e) g
 free:=rfl
 walk:=λk H I c=>Walks.list (H.trans d) I l c j
 hX:=λh b=>⟨⟨_,Al _ rfl,rfl,rfl⟩,(a.at λo e=>b l o e).push _⟩
def xI:isSubtype (.type "tuple") (.type "set")=pure false:=by rw[isSubtype_type];kernel_rfl
def oN:isSubtype (.type "tuple") (.type "frozenset")=pure false:=by rw[isSubtype_type];kernel_rfl
def Fd.tup{s:Shared}(d:A.handled=none)(a:s.heap.IsTuple l j):Fd prog w A s.heap l j.size (λi v=>j[i]?=some v) where
 T:="tuple"
 St:=λI i h=>h.IsTupleIter I l i/\h.IsTuple l j
 ob:={cls:=.type "tuple_iterator",data:=.fields #[.ref l,.int 0 0]}
 ty:=by obtain⟨o,f,hc,_⟩:=a;exact⟨o,f,hc⟩
 n1:=xI
 n2:=oN
 n3:=by decide
 iter:=λk m Q E b g=>Hg (a.at λo e=>b l o e) g
 free:=rfl
 walk:=λk H I c=>Walks.tuple (H.trans d) I l c j
 hX:=λh b=>⟨⟨_,Al _ rfl,rfl,rfl⟩,(a.at λo e=>Ac _ (b l o e))⟩
section
open SetTable
def Bl.stop2(T:Bl t A)(h:Int):∃ M,M<=10*(13+t.place.size)/\¬ AI t (wk t.mask h M).j/\∀ m,m < M->AI t (wk t.mask h m).j:=by
 obtain⟨k,s⟩:=T.pw;have w:=T.fit;have E:∃ n,n<=t.place.size/\¬ AI t (wk t.mask h (tm t.mask h (13+n))).j:=by
  refine AB λy=>?_;have l:∀n,n<=t.place.size->AI t (CI k n (lp t.mask h 13).1):=λn d=>AB λz=>y ⟨n,d,by
   rw[rB,Ja s h n];exact z⟩
  let f:Nat->Nat:=λn=>below t.place (CI k n (lp t.mask h 13).1)
  have o:∀n,n<=t.place.size->f n<t.place.size/\t.place[f n]?=some (CI k n (lp t.mask h 13).1):=λn d=>by
   obtain⟨i,e⟩:=l n d;have:f n=i:=gZ T.ri e;rw[this];exact⟨(Fv.mp e).1,e⟩
  have u:∀a b,a<b->b<=t.place.size->f a≠f b:=λa b g H e=>by
   have p:=(o a (by lia)).2;rw[e,(o b H).2]at p;exact NF g (by lia:b<2^k) (Ap p).symm
  obtain⟨i,B,e⟩:=nN t.place.size f (λi h=>(o i (Aq h)).1) (λa b g H=>u a b g (by lia)) (f t.place.size) (o t.place.size (hC _)).1
  simp_all
 obtain⟨n,y,q⟩:=E;have r:∀ N,(∃ m,m < N/\¬ AI t (wk t.mask h m).j)->∃ M,M < N/\¬ AI t (wk t.mask h M).j/\∀ m,m < M->AI t (wk t.mask h m).j:=by
  intro N
  induction N with
  |zero=>simp
  | succ N v=>
    rintro⟨m,p,x⟩;by_cases H:∃m,m<N/\¬AI t (wk t.mask h m).j
    ·obtain⟨M,a,b,c⟩:=v H
     grind
    grind
 obtain⟨M,a,b,c⟩:=r (tm t.mask h (13+n)+1) ⟨_,EJ _,q⟩;have:=NH t.mask h (13+n);exact⟨M,by lia,b,c⟩
end
abbrev iU(prog:Program)(w:World)(h:Heap)(k:List Int)(a:Addr):Prop:=IsTupleKey (intKind prog w) h k a
def iU.at(x:iU prog w h k a)(e:∀o,h.get? a=some o->h'.get? a=some o):iU prog w h' k a:=by
 obtain⟨o,i,n,b,r⟩:=x;exact⟨o,i,n,e o b,r⟩
def kU(h:ItemsAre (intKind prog w) k a):∀v∈a,∃i t,v=.int i t:=by
 induction h with
 |nil=>simp
 |cons h _ i=>exact List.forall_mem_cons.mpr ⟨(isInt_shape h).elim λt e=>⟨_,t,e⟩,i⟩
def YZ(c:iU prog w s.heap k a)(h:Q true s):wpAny (model prog w) A (hashByValue 8 (.ref a)) Q E s:=by
 have x:=c.typeIs;obtain⟨o,I,n,f,_,q,H⟩:=c;refine dV (FZ x F.slot_tuple_hash.lookup ?_);refine dV (Df f q ?_);dsimp only[getD_some];refine dV ?_;rw[← Array.forIn_toList];refine wpAny_forIn_list _ (λp r m=>r.1=none/\m=s/\∀v∈p,∃i t,v=.int i t) _ ?_ ?_ _ _ ⟨rfl,rfl,kU H⟩;rintro v p r m ⟨d,rfl,b⟩;obtain⟨i,t,rfl⟩:=b v pL;have e:hashByValue 7 (.int i t)=pure true:=rfl;exact gX ⟨rfl,rfl,λu g=>b u (Af _ g)⟩;rintro⟨j,l⟩ m ⟨d,rfl,_⟩;subst d;exact gX h
def NO(c:iU prog w s.heap k a)(h:Q false s):wpAny (model prog w) A (ofAClassStatement 8 (.ref a)) Q E s:=by
 have x:=c.typeIs;obtain⟨o,I,n,f,_,q,H⟩:=c;unfold ofAClassStatement;refine dV (Ft x ?_);refine dV (gX ?_);refine dV (Df f q ?_);refine dV ?_;rw[← Array.forIn_toList];refine wpAny_forIn_list _ (λp r m=>r.1=none/\m=s/\∀v∈p,∃i t,v=.int i t) _ ?_ ?_ _ _ ⟨rfl,rfl,kU H⟩;rintro v p r m ⟨d,rfl,b⟩;obtain⟨i,t,rfl⟩:=b v pL;have e:ofAClassStatement 7 (.int i t)=pure false:=rfl;exact gX ⟨rfl,rfl,λu g=>b u (Af _ g)⟩;rintro⟨j,l⟩ m ⟨d,rfl,_⟩;subst d;exact gX h
def Za(e:iU prog w s.heap k a)(l:List Value)(g:∀v∈l,∃d b,v=.ref b/\iU prog w s.heap d b)(h:Q false s):wpAny (model prog w) A (searchCouldBeSeen (.ref a) l) Q E s:=by
 refine dV ?_;refine wpAny_forIn_list _ (λo r n=>r.1=none/\n=s/\∀v∈o,∃d b,v=.ref b/\iU prog w s.heap d b) _ ?_ ?_ _ _ ⟨rfl,rfl,g⟩;rintro v o r n ⟨f,rfl,c⟩;obtain⟨d,b,rfl,H⟩:=c v pL;have G:∀u∈o,∃d b,u=Value.ref b/\iU prog w n.heap d b:=λu i=>c u (Af _ i);dsimp only;split;exact gX ⟨rfl,rfl,G⟩;refine dV (wpAny_eqIsQuiet_tuple e ?_);refine dV (wpAny_eqIsQuiet_tuple H ?_);refine dV (NO e ?_);refine dV (NO H ?_);exact gX ⟨rfl,rfl,G⟩;rintro⟨j,m⟩ n ⟨f,rfl,_⟩;subst f;exact gX h
structure Cz(prog:Program)(w:World)(h:Heap)(S:Addr)(led:Bool)(N:Addr->Prop)(ks:List (List Int))(o:Obj)(es:Array (Int×Value))(ep:Nat)(t:SetTable):Prop where
 ob:h.get? S=some o
 ex:o.ExactSet
 dt:o.data=.set es ep t
 tk:Bl t (es.toList.map (·.1))
 ful:t.place.size*5<t.mask*3
 ld:t.led=led
 pl:t.plain=true
 len:ks.length=es.size
 it:∀(i:Nat) e,es[i]?=some e->∃k a,ks[i]?=some k/\e=(tupleKeyHash (intKind prog w) k,.ref a)/\iU prog w h k a/\N a
 nd:ks.Nodup
theorem Bl.fits(T:Bl t H)(c:H.length=n):t.fits n=true:=by
 have a:=T.len;have b:=T.fit;simp only[SetTable.fits,SetTable.fill,Bool.and_eq_true,beq_iff_eq,decide_eq_true_eq,T.dm]
 grind
theorem Cz.fits{s:Shared}(X:Cz prog w s.heap S l N b o E c t):t.fits E.size=true:=X.tk.fits (by simp)
def Cz.state(X:Cz prog w s.heap S l N d o b c t)(h:Q (b,c,t) s):wpAny (model prog w) A (setState S) Q E s:=
 wpAny_setState_of X.ob X.dt X.fits h
def Cz.even{s:Shared}(X:Cz prog w s.heap S l N c o E d t):t.gaveWay=false:=by
 obtain⟨k,a⟩:=X.tk.pw;have b:=X.tk.m7;unfold SetTable.gaveWay;have:t.mask % 2=1:=by
  cases k with
  |zero|succ k=>lia
 simp_all
set_option tactic.hygienic true in
theorem pP(X:Cz prog w s.heap S led N ks o O ep t)(hu:A.units < cLine)(H:iU prog w s.heap k a)(hM:¬ AI t (wk t.mask (tupleKeyHash (intKind prog w) k) M).j)(hb:∀ m,m < M->AI t (wk t.mask (tupleKeyHash (intKind prog w) k) m).j)
  (q:M<10*SetTable.turns t.mask) :
  ∀ (d n:Nat) (c:Option SetTable.Probe) (Q:SetFound->Shared->Prop),c.getD (t.probeStart (tupleKeyHash (intKind prog w) k))=wk t.mask (tupleKeyHash (intKind prog w) k) n->n<=M->M-n < d ->
    (∀i:Nat,ks[i]?=some k->∃m j,n<=m/\t.place[i]?=some j/\(wk t.mask (tupleKeyHash (intKind prog w) k) m).j=j/\m<M) ->
    (k∈ks->Q (.there none) s)->(k∉ks->Q (.free (wk t.mask (tupleKeyHash (intKind prog w) k) M).j false) s)->wpAny (model prog w) A (setSearchFrom S (.ref a) (tupleKeyHash (intKind prog w) k) true d c) Q E s
 |0,n,c,Q,_,_,hf,_,_,_=>by lia
 | d+1,n,c,Q,I,hn,hf,r,q1,q2=>by
   refine dV (X.state ?_);dsimp only;rw[X.even,a0m Ec,I];have hg:=xH X.tk (h:=tupleKeyHash (intKind prog w) k) (hashAt:=λi=>(O[i]?.map (·.1)).getD 0) hM hb (10*SetTable.turns t.mask) n hn (sub_lt_of_lt q);have u:∀(i:Nat) e,O[i]?=some e->((O[i]?.map (·.1)).getD 0)=e.1:=λi e G=>by rw[G];rfl
   split
   ·rename_i met f;rcases hg with⟨m,i,a1,a2,a3,a4,a5,a6⟩ | ⟨a1,a2⟩
    ·have e:met=.candidate (wk t.mask (tupleKeyHash (intKind prog w) k) m).j i (wk t.mask (tupleKeyHash (intKind prog w) k) (m+1)):=Ap (f.symm.trans a6);subst e;dsimp only;have hi:i < O.size:=by
      have h1:=(Fv.mp a3).1;have J:=X.tk.len;simp at J;lia
     have K:O[i]? = some O[i]:=BP hi;obtain⟨L,b,y,ee,π,_⟩:=X.it i _ K;have seen:∀ v∈((O.filter (λx=>x.1==tupleKeyHash (intKind prog w) k)).toList.map (·.2)),∃ L b,v=Value.ref b/\iU prog w s.heap L b:=λv hv=>by
      obtain⟨e,G,rfl⟩:=oT.mp hv;have P:e∈O:=by
       rw[Array.mem_toList_iff]at G;exact(Array.mem_filter.mp G).1
      obtain⟨j,hj,ej⟩:=Array.getElem_of_mem P;obtain⟨k2,g,_,l,J,_⟩:=X.it j e (by rw[BP hj,ej]);exact⟨k2,g,by rw[l],J⟩
     cases hl:t.led
     all_goals
      simp only[Bool.not_true,Bool.not_false,false_eq_true,if_false,if_true]
      try
       refine dV (Za H _ seen ?_);simp only[false_eq_true,if_false]
      rw[K,ee];dsimp only;refine dV (AS (wpAny_eqBool_tuple hu π H ?_));refine dV (X.state ?_);dsimp only;by_cases p:L=k;subst p;rw[FY rfl];exact gX (q1 (Ao y));rw[Fp p];have R:t.sameMemory t.moves t.mask=some true:=by unfold SetTable.sameMemory;simp
      rw[R];dsimp only;rw[eH rfl,uA X.tk.ri a3];dsimp only;rw[K,ee];dsimp only;refine dV (wpAny_isSame_ref_self ?_);simp only[if_true];refine dV (gX ?_);dsimp only;refine pP X hu H hM hb q d (m+1) (some _) Q rfl a2 (by lia) (λi2 l=>?_) q1 q2;obtain⟨T,j2,U,g,B,V1⟩:=r i2 l;refine⟨T,j2,?_,g,B,V1⟩
      refine Hs λhle=>?_;have W:i2<O.size:=by rw[← X.len];exact(hR.mp l).1
      have C:O[i2]?=some O[i2]:=BP W;obtain⟨k3,b5,D1,Y,_⟩:=X.it i2 _ C;rw[l]at D1;cases D1;by_cases z:T=m
      ·subst z;have:i2=i:=by rw[← gZ X.tk.ri g,← gZ X.tk.ri a3,B]
       subst this;rw[y]at l;exact p (Ap l)
      ·refine a5 T i2 U (by lia) (by rw[g,B]) ?_;show(O[i2]?.map (·.1)).getD 0=_;rw[u i2 _ C,Y]
    ·have e:met=.empty (wk t.mask (tupleKeyHash (intKind prog w) k) M).j none:=Ap (f.symm.trans a2);subst e;dsimp only;refine gX (q2 λhm=>?_);obtain⟨i,hi,e⟩:=Cv hm;have y:ks[i]?=some k:=by rw[nL hi,e]
     obtain⟨m,j,U,g,B,V1⟩:=r i y;have σ:i<O.size:=by rw[← X.len];exact hi
     have C:O[i]?=some O[i]:=BP σ;obtain⟨k3,b5,D1,Y,_⟩:=X.it i _ C;rw[y]at D1;cases D1;refine a1 m i U V1 (by rw[g,B]) ?_;show(O[i]?.map (·.1)).getD 0=_;rw[u i _ C,Y]
   ·rename_i F;exfalso;rcases hg with⟨m,i,_,_,_,_,_,a6⟩|⟨_,a2⟩;exact F _ a6;exact F _ a2
section
open SetTable
theorem lQ(n:Nat):∀ (f k:Nat),n < 2 ^ k*2 ^ f->3<=k->∃ g,sizeAbove.go n f (2 ^ k)=2 ^ g/\k<=g/\n < 2 ^ g/\(2 ^ g=2 ^ k\/2 ^ g<=2*n)
 |0,k,h,i=>⟨k,rfl,hC _,by simp_all,.inl rfl⟩
 | f+1,k,h,i=>by
   unfold sizeAbove.go;split
   ·have e:2^k*2=2^(k+1):=(EL ..).symm;obtain⟨g,a,b,c,d⟩:=lQ n f (k+1) (by rw[EL,mul_assoc,Eg 2 (2^f),← EL];exact h) (lt_succ_of_lt i)
    grind
   grind
def jB(n:Nat)(h:n<2^60):∃k,sizeAbove n=2^k/\3<=k/\n<2^k/\2^k<=8+2*n:=by
 obtain⟨k,a,b,c,d⟩:=lQ n 64 3 (Au h (by decide)) (hC _);exact⟨k,a,b,c,by lia⟩
noncomputable def rel{a:Type}(l:List a)(o:List Nat):List a:=o.filterMap (l[·]?)
theorem xJ{l:List a}:∀ {o:List Nat},(∀ j∈o,j < l.length)->∀ i:Nat,(rel l o)[i]? = (o[i]?).bind (l[·]?)
 |[],_,i=>rfl
 | j::o,h,i=>by
   have H:=h j pL;have e:rel l (j::o)=l[j]::rel l o:=by
    unfold rel
    simp_all
   rw[e];cases i with
   |zero=>simp
   |succ i=>exact xJ (λx b=>h x (Af _ b)) i
def pQ{l:List a}(h:∀ j∈o,j < l.length):(rel l o).length=o.length:=by
 induction o with
 |nil=>rfl
 | cons j o b=>
   have H:=h j pL;have e:rel l (j::o)=l[j]::rel l o:=by
    unfold rel
    simp_all
   simp_all
def NP{l:List a}(h:o.Perm (range l.length)):(rel l o).Perm l:=by
 have b:(rel l o).Perm (rel l (range l.length)):=h.filterMap _;have c:rel l (range l.length)=l:=by exact PySem.List.filterMap_getElem?_range_length l
 simp_all
def nQ(l:List b)(p:Nat)(x:b):(uB l p x).Perm (x::l):=by
 unfold uB;have:=List.perm_middle (a:=x) (l₁:=l.take p) (l₂:=l.drop p)
 simp_all
end
def uF(prog:Program)(w:World)(h:Heap)(S:Addr)(l:Bool)(N:Addr->Prop)(k:List (List Int)):Prop:=∃o e E t,Cz prog w h S l N k o e E t
def Cz.store{s:Shared}(X:Cz prog w s.heap S L N G o J E t)(T:Bl B (b.toList.map (·.1)))(m:B.led=t.led)(p:B.plain=true)(H:c.length=b.size)(f:c.Nodup)
  (C:∀(i:Nat) e,b[i]?=some e->∃k a,c[i]?=some k/\e=(tupleKeyHash (intKind prog w) k,.ref a)/\iU prog w s.heap k a/\N a) (q:B.place.size*5<B.mask*3) :
  Cz prog w (s.heap.update S (putSet b B)) S L N c {o with data:=.set b (E+1) B} b (E+1) B:=by
 have r:(s.heap.update S (putSet b B)).get? S=some {o with data:=.set b (E+1) B}:=by
  have:=CQ (putSet b B) X.ob (by rw[Dz b B X.dt];rfl);rw[Dz b B X.dt]at this;exact this
 refine⟨r,X.ex,rfl,T,q,m.trans X.ld,p,H,λi e u=>?_,f⟩;obtain⟨k,a,v,x,l,y⟩:=C i e u;refine⟨k,a,v,x,l.at (λO g=>?_),y⟩;have h:a≠S:=λz=>by
  subst z;obtain⟨A,I,n,d,_,j,_⟩:=l;rw[X.ob]at d;cases d;rw[X.dt]at j
  lia
 rw[(Eb s.heap S (putSet b B)).2 a h];exact g
def Zb(X:Cz prog w s.heap S led N ks o O ep t)(hu:A.units < cLine)(hk:iU prog w s.heap k a)(haN:N a)(hn:ks.length < 4000)
  (q1:k∈ks->∀tk,Q false {s with toks:=tk}) (q2:k∉ks->∀h' tk J,uF prog w h' S led N J->J.Perm (k::ks)->(∀c ob,c≠S->s.heap.get? c=some ob->h'.get? c=some ob)->Q true {s with heap:=h',toks:=tk}) :
  wpAny (model prog w) A (setAdd S (.ref a)) Q E s:=by
 obtain⟨M,hMs,hM,hb⟩:=X.tk.stop2 (tupleKeyHash (intKind prog w) k);have hsz:t.place.size=O.size:=by have:=X.tk.len;simpa using this
 have hfit:=X.tk.fit;have hes:O.size<4000:=by rw[← X.len];exact hn
 unfold setAdd;refine AS (dV (wpAny_pyHash_tuple hu hk ?_));unfold setAddHashed;refine AS ?_;generalize hs':s.toks+(k.length+1)=d;have X':Cz prog w ({s with toks:=d}:Shared).heap S led N ks o O ep t:=X;have K:iU prog w ({s with toks:=d}:Shared).heap k a:=hk;unfold setAddHashedIn;refine dV (X'.state ?_);dsimp only;have hbs:byScan (.ref a) O=false:=rfl;rw[hbs,a0m Ec];unfold setSearch;refine dV (pP X' hu K hM hb (by show M<10*(t.mask+15);lia) 100000 0 none _ rfl (sS _) (by lia) (λi ei=>?_) (λL=>gX (q1 L d)) λL=>?_)
 ·have hi':i<O.size:=by rw[← X.len];exact(hR.mp ei).1
  have π:O[i]?=some O[i]:=BP hi';obtain⟨k3,b5,e4,e5,_⟩:=X.it i _ π;rw[ei]at e4;cases e4;obtain⟨m,j,c1,c2,c3⟩:=X.tk.rea i (tupleKeyHash (intKind prog w) k) (by rw[An,Bh,π,e5];rfl);refine⟨m,j,sS _,c1,c2,Hs λz=>?_⟩;by_cases zz:M=m;subst zz;exact hM ⟨i,by rw[c1,c2]⟩;exact hM (c3 M (by lia))
 ·dsimp only;refine dV (X'.state ?_);dsimp only;have r:=nP t (wk t.mask (tupleKeyHash (intKind prog w) k) M).j X.tk.dm;have hf7:=X.tk.m7;have hful:=X.ful;have B:=X.tk.put hM hb (by lia);have l:=(gF X.tk.ri (wk t.mask (tupleKeyHash (intKind prog w) k) M).j).le;generalize hj:(wk t.mask (tupleKeyHash (intKind prog w) k) M).j=j at r B l ⊢;rw[r]at B ⊢;dsimp only at B ⊢;generalize hp:SetTable.below t.place j=p at B l ⊢;rw[eH X.pl];refine dV (YZ K ?_);rw[eH rfl];have C:p<=O.size:=by lia
  have P:p<=ks.length:=by rw[X.len];exact C
  have ehs:(SetTable.insertAt O p (tupleKeyHash (intKind prog w) k,Value.ref a)).toList.map (·.1)=uB (O.toList.map (·.1)) p (tupleKeyHash (intKind prog w) k):=by
   rw[SetTable.toList_insertAt];unfold uB;rw[Aj,Cj,DM,List.map_drop]
  rw[← ehs]at B;have q:(SetTable.insertAt O p (tupleKeyHash (intKind prog w) k,Value.ref a)).size=O.size+1:=iT O C _;have hpl:(SetTable.insertAt t.place p j).size=O.size+1:=by rw[iT t.place l,hsz]
  have R:∀(i:Nat) e,(SetTable.insertAt O p (tupleKeyHash (intKind prog w) k,Value.ref a))[i]?=some e->∃T u,(uB ks p k)[i]?=some T/\e=(tupleKeyHash (intKind prog w) T,.ref u)/\iU prog w s.heap T u/\N u:=λi e h=>by
   rw[Fb _ C]at h;rw[NM _ P];split at h;rw[eH (by assumption)];exact X.it i e h;split at h;cases h;rw[a0m (by assumption),eH (by assumption)];exact⟨k,a,rfl,rfl,hk,haN⟩;rw[a0m (by assumption),a0m (by assumption)];exact X.it (i-1) e h
  have U:(uB ks p k).Nodup:=(nQ ks p k).nodup_iff.mpr (CD.mpr ⟨L,X.nd⟩);have f:(uB ks p k).length=(SetTable.insertAt O p (tupleKeyHash (intKind prog w) k,Value.ref a)).size:=by rw[nO _ P,q,X.len]
  have hz:O.size+1<=sizeLine:=by rw[Ct];lia
  refine dV (wpAny_storeSet_of (s:={s with toks:=d}) X.ob X.dt ?_ (by rw[q];exact hz));have kept:∀(e2:Array (Int×Value)) (t2:SetTable) c ob,c≠S->s.heap.get? c=some ob->(s.heap.update S (putSet e2 t2)).get? c=some ob:=λe2 t2 c ob hc e=>by
   rw[(Eb s.heap S (putSet e2 t2)).2 c hc];exact e
  by_cases V1:({t with place:=SetTable.insertAt t.place p j}:SetTable).tooFull=true
  ·rw[V1];simp only[Bool.not_false,Bool.and_self,if_true];refine dV ?_;unfold setRelay
   have hg:(s.heap.update S (putSet (SetTable.insertAt O p (tupleKeyHash (intKind prog w) k,Value.ref a)) {t with place:=SetTable.insertAt t.place p j})).get? S=some {o with data:=.set (SetTable.insertAt O p (tupleKeyHash (intKind prog w) k,Value.ref a)) (ep+1) {t with place:=SetTable.insertAt t.place p j}}:=by
    have:=CQ (putSet (SetTable.insertAt O p (tupleKeyHash (intKind prog w) k,Value.ref a)) {t with place:=SetTable.insertAt t.place p j}) X.ob (by rw[Dz _ _ X.dt];rfl);rw[Dz _ _ X.dt]at this;exact this
   refine dV (wpAny_setState_of (s:={s with heap:=s.heap.update S (putSet (SetTable.insertAt O p (tupleKeyHash (intKind prog w) k,Value.ref a)) {t with place:=SetTable.insertAt t.place p j}),toks:=d}) hg rfl (B.fits (by simp)) ?_);dsimp only;have hgr:SetTable.grown (O.size+1)=(O.size+1)*4:=by unfold SetTable.grown;rw[a0m (by lia)]
   obtain⟨H,W,sa2,sa3,sa4⟩:=jB ((O.size+1)*4) (by lia);rw[hgr,W];rw[a0m (by rw[Ct];lia)];have Y:1<=2^H:=Nat.one_le_two_pow;have h8:8<=2^H:=by
    have:2^3<=2^H:=Nat.pow_le_pow_right (by decide) sa2;simpa using this
   generalize hE:SetTable.insertAt O p (tupleKeyHash (intKind prog w) k,Value.ref a)=b at *;obtain⟨D1,od,l1,l2,σ,l4,l5,l6,l7⟩:=uD (mask:=2^H-1) (k:=H) (finger:=t.finger) (moves:=({t with place:=SetTable.insertAt t.place p j}:SetTable).movedTo (2^H-1)) (led:=t.led) (plain:=t.plain) (hashes:=b.map (·.1)) (sub_add_cancel Y) (by lia) (by rw[size_map,q];lia);have hrl:({t with place:=SetTable.insertAt t.place p j}:SetTable).relaid (b.map (·.1)) ((O.size+1)*4)=some (D1,od):=by
    unfold SetTable.relaid;rw[W];exact l1
   rw[size_map]at σ l5;have F:∀x∈od.toList,x<b.toList.length:=λx I=>by
    have:=σ.mem_iff.mp I;rw[Cc]at this;rw[BA];exact this
   have π:(od.filterMap (b[·]?)).toList=rel b.toList od.toList:=by
    rw[Array.toList_filterMap];unfold rel;congr 1;funext x;rw[Bh]
   have v:od.toList.length=b.size:=by have:=σ.length_eq;simpa using this
   have G:(od.filterMap (b[·]?)).size=b.size:=by
    rw[← BA,π,pQ F,v]
   rw[hrl];refine dV ?_;show wpAny (model prog w) A (ite (((od.filterMap (b[·]?)).size != b.size)=true) _ _) _ _ _;dsimp only;rw[G];simp only[bne_self_eq_false,false_eq_true,if_false];refine gX ?_;dsimp only;refine wpAny_storeSet_of (s:={s with heap:=s.heap.update S (putSet b {t with place:=SetTable.insertAt t.place p j}),toks:=d}) hg rfl ?_ (by rw[G,q];exact hz);refine gX ?_
   have T3:Bl D1 ((od.filterMap (b[·]?)).toList.map (·.1)):=by
    have e4:(od.filterMap (b[·]?)).toList.map (·.1)=od.toList.filterMap ((b.map (·.1))[·]?):=by
     rw[Array.toList_filterMap,List.map_filterMap];congr 1;funext x;rw[Array.getElem?_map]
    rw[e4];exact l2
   have hkl:∀x∈od.toList,x<(uB ks p k).length:=λx I=>by rw[f,← BA];exact F x I
   refine q2 L _ d (rel (uB ks p k) od.toList) ⟨{o with data:=.set (od.filterMap (b[·]?)) (ep+1+1) D1},od.filterMap (b[·]?),ep+1+1,D1,?_,X.ex,rfl,T3,?_,l6.trans X.ld,l7.trans X.pl,?_,?_,?_⟩ ?_ ?_;have:=CQ (putSet (od.filterMap (b[·]?)) D1) hg (by rw[Dz _ _ rfl];rfl);rw[Dz _ _ rfl]at this;exact this;rw[l4,l5,q];lia;rw[pQ hkl,v,G]
   ·intro i e h;rw[← Bh,π,xJ F]at h;rw[xJ hkl];cases I:od.toList[i]? with
    |none=>rw[I]at h;cases h
    | some x=>
      rw[I]at h;have he':b[x]?=some e:=by rw[← Bh];exact h
      obtain⟨T,u,h1,h2,h3,h4⟩:=R x e he';refine⟨T,u,h1,h2,h3.at (λob hob=>?_),h4⟩;have y:u≠S:=λz=>by
       subst z;obtain⟨o2,items,n,ho2,_,hd2,_⟩:=h3;rw[X.ob]at ho2;cases ho2;rw[X.dt]at hd2;cases hd2
      rw[(Eb _ S (putSet (od.filterMap (b[·]?)) D1)).2 u y];exact kept _ _ u ob y hob
   ·exact(NP (by rw[f];exact σ)).nodup_iff.mpr U
   ·exact(NP (by rw[f];exact σ)).trans (nQ ks p k)
   ·intro c ob hc e;rw[(Eb _ S (putSet (od.filterMap (b[·]?)) D1)).2 c hc];exact kept _ _ c ob hc e
  ·have g:({t with place:=SetTable.insertAt t.place p j}:SetTable).tooFull=false:=by simpa using V1
   rw[g];simp only[Bool.and_false,false_eq_true,if_false];refine gX (q2 L _ d (uB ks p k) ⟨_,_,_,_,X.store B rfl X.pl f U R ?_⟩ (nQ ks p k) (kept _ _));unfold SetTable.tooFull SetTable.fill at g;simp only[X.tk.dm,decide_eq_false_iff_not,Nat.not_le]at g;simpa using g
def uF.stay(X:uF prog w h S L N n)(H:h'.get? S=h.get? S)(f:∀c ob,N c->h.get? c=some ob->h'.get? c=some ob):uF prog w h' S L N n:=by
 obtain⟨o,E,p,t,Y⟩:=X;refine⟨o,E,p,t,H.trans Y.ob,Y.ex,Y.dt,Y.tk,Y.ful,Y.ld,Y.pl,Y.len,λi e g=>?_,Y.nd⟩;obtain⟨k,a,j,l,m,d⟩:=Y.it i e g;exact⟨k,a,j,l,m.at (λob b=>f a ob d b),d⟩
def eW(prog:Program)(w:World)(h:Heap)(N:Addr->Prop)(b:List (List Int))(I:Array Value):Prop:=b.length=I.size/\∀(i:Nat) v,I[i]?=some v->∃k a,b[i]?=some k/\v=.ref a/\iU prog w h k a/\N a
def eW.stay(X:eW prog w h N m I)(f:∀c ob,N c->h.get? c=some ob->h'.get? c=some ob):eW prog w h' N m I:=by
 refine⟨X.1,λi v e=>?_⟩;obtain⟨k,a,g,j,l,d⟩:=X.2 i v e;exact⟨k,a,g,j,l.at (λob b=>f a ob d b),d⟩
def Zc(B:A.units < cLine)(g:¬ N S)(j:¬ N I)(l:S≠I)(hb:ks.length < 4000) :
  Et prog w A S I J.size (λi v=>J[i]?=some v) (λi h=>eW prog w h N ks J/\∃U,uF prog w h S led N U/\U.length<=i/\∀x,x∈U↔x∈ks.take i) where
 put:=λi v s Q E hi C ⟨T,U,X,m,d⟩ q=>by
  obtain⟨k,a,D1,rfl,M,ha⟩:=T.2 i v C;have F:i<ks.length:=by rw[T.1];exact hi
  have p:ks.take (i+1)=ks.take i++[k]:=by rw[Ed,D1];rfl
  have G:=X;obtain⟨o,es,ep,t,Y⟩:=X;refine Zb Y B M ha (by lia) (λf b=>?_) λf L b n H r u=>?_;refine q _ s.heap b ⟨T,U,G,le_succ_of_le m,λx=>?_⟩ λc O _ e=>e;rw[p,sU,Aa,d x];refine⟨.inl,λh=>?_⟩;rcases h with h|rfl;exact h;exact(d _).mp f;refine q _ L b ⟨T.stay λc O hc e=>u c O (λz=>g (z▸hc)) e,n,H,by have:=r.length_eq;simp at this;lia,λx=>?_⟩ u;rw[r.mem_iff,sY,p,sU,Aa,d x];exact or_comm
 stay:=λi h L ⟨T,U,X,m,d⟩ k=>by
  have y:∀c O,N c->h.get? c=some O->L.get? c=some O:=λc O hc e=>k c O (λz=>j (z▸hc)) e;refine⟨T.stay y,U,X.stay ?_ y,m,d⟩;obtain⟨o,es,ep,t,Y⟩:=X;rw[k S o l Y.ob,Y.ob]
def Zd:Manifest.owners.lookup (String.ofList (['r','o','t','a','r','e','t','i','_','t','e','s']:List Char).reverse)=some Manifest.sig_set_iterator:=by kernel_rfl
def kA:Slot "set_iterator" "__next__" "set_iterator.__next__":=.of (owner:="set_iterator") (n:="__next__") (rfl) (rfl) (rfl) (rfl) (.inl (rfl)) (by rfl)
def uG:entryFor table "set_iterator.__next__"=some Builtin.«set_iterator.__next__»:=entryFor_of_tree (rfl)
def NQ(a:Value):argsOk "set_iterator.__next__" ⟨[a],[]⟩:=by
 unfold argsOk;rw[signature?_of (id:="set_iterator.__next__") (n:=['_','_','t','x','e','n','_','_']) (o:=['r','o','t','a','r','e','t','i','_','t','e','s']) (rfl) Zd];rfl
def oO:entryFor table "set.__iter__"=some Builtin.«frozenset.__iter__»:=entryFor_alias (id':="frozenset.__iter__") (rfl) rfl (by decide +kernel) (by kernel_rfl)
theorem xK{b:Type}:∀(l:List b) (i:Nat) (h:i<l.length),(l[i]::l.eraseIdx i).Perm l
 |[],i,h=>absurd h (Ef i)
 |a::l,0,_=>.refl _
 |a::l,i+1,h=>(List.Perm.swap a _ _).trans (.cons a (xK l i (Nat.lt_of_succ_lt_succ h)))
theorem uH(next:Nat->Nat):∀ (fuel k:Nat) (l:List a) (o:Array a),l.length=fuel->(pickOrder.go next fuel k l o).toList.Perm (o.toList++l)
 | 0,k,l,o,h=>by
   have:l=[]:=DB h;subst this;rw[Ci];rfl
 | fuel+1,k,l,o,h=>by
   have b:next k % l.length<l.length:=mod_lt _ (by lia)
   unfold pickOrder.go;rw[nL b];have c:=uH next fuel (k+1) (l.eraseIdx (next k % l.length)) (o.push l[next k % l.length]) (by grind)
   refine c.trans ?_;rw[DD,append_assoc];exact append_left _ (xK l _ b)
def oP(next:Nat->Nat)(xs:Array a):(pickOrder next xs).toList.Perm xs.toList:=by
 have:=uH next xs.size 0 xs.toList #[] (by simp)
 simpa[pickOrder]using this
noncomputable abbrev HU(slot i n e:Nat)(S:Addr):Obj:={cls:=.type "set_iterator",data:=.fields #[.int slot 0,.int i 0,.ref S,.int n 0,.int e 0]}
noncomputable def bN(w:World)(S:Addr)(E:Nat)(e:Array (Int×Value)):Array (Int×Value):=if w.params.followText "set-order"=true then pickOrder (w.params.setOrder S E) e else e
def jK(e:Array (Int×Value)):(bN w S ep e).toList.Perm e.toList:=by
 unfold bN;split;exact oP _ e
 rfl
def Jb(w:World)(h:Heap)(I S:Addr)(e:Array (Int×Value))(E:Nat)(t:SetTable)(i:Nat):Prop:=
 ∃s,h.get? I=some (HU s i e.size E S)/\(w.params.followText "set-order"=false->SetTable.below t.place s=i)
def Ze:typeLookup (.type "set") "__len__"=pure (some (.builtin "set.__len__")):=by rw[typeLookup_type,JB];rfl
def Zf(H:s.TypeIs (.ref S) "set")(h:∀b,Q b s):wpAny (model prog w) A (listLengthHint (.ref S)) Q E s:=by
 refine dV (FZ H Ze ?_);refine dV (wpAny_isInstance (b:=true) H sub_set_self ?_);refine dV (Ft H ?_);exact gX (h _)
section
open PyProof.Rows W
structure Zg(c:Nat->Nat->Bool):Prop where
 ir:∀a,c a a=false
 tr:∀{a b d},c a b=true->c b d=true->c a d=true
 nt:∀{a b d},c b a=false->c d b=false->c d a=false
section
variable {N:Nat}{c:Nat->Nat->Bool}{cmp:Nat->Nat->(Bool->Shared->Prop)->Shared->Prop}{s:Shared}(π:Zg c)(hc:∀i j C,i<N->j<N->C (c i j) s->cmp i j C s)
include π hc
end
noncomputable def Az:List Int->List Int->Bool
 |_,[]=>false
 |[],_::_=>true
 |a::x,b::y=>if a=b then Az x y else decide (a<b)
theorem pR:∀x,Az x x=false
 |[]=>rfl
 |a::x=>by show(if a=a then Az x x else _)=false;rw[eH rfl];exact pR x
theorem Jc:∀ {x y z},Az x y=true->Az y z=true->Az x z=true
 |_,[],_,h,_|_,_::_,[],_,h=>by simp[Az]at h
 |[],_::_,_::_,_,_=>rfl
 | a::x,b::y,d::z,i,j=>by
   have c:(if a=b then Az x y else decide (a<b))=true:=i;have e:(if b=d then Az y z else decide (b<d))=true:=j;show(if a=d then Az x z else decide (a<d))=true;by_cases f:a=b
   ·rw[eH f]at c;by_cases g:b=d;rw[eH g]at e;rw[eH (f.trans g)];exact Jc c e
    lia
   lia
theorem xL:∀ {x y},Az x y=false->Az y x=false->x=y
 |[],[],_,_=>rfl
 |[],_::_,h,_|_::_,[],_,h=>by simp[Az]at h
 | a::x,b::y,f,g=>by
   have c:(if a=b then Az x y else decide (a<b))=false:=f;have d:(if b=a then Az y x else decide (b<a))=false:=g;by_cases e:a=b;rw[eH e]at c;rw[eH e.symm]at d;rw[e,xL c d]
   lia
def Zh(i:Nat)(h:ItemsAre (intKind prog w) x xs)(h':ItemsAre (intKind prog w) y Y)(q:Q (Az x y) s):KatLex prog w A b (decide (xs.length < Y.length)) Q (xs.zip Y) i s:=by
 induction h generalizing y Y i with
 |nil=>cases h'<;>exact q
 | @cons a _ x _ f l j=>
   cases h' with
   |nil=>exact q
   |@cons d _ y _ g k=>
   obtain⟨t,rfl⟩:=isInt_shape f;obtain⟨u,rfl⟩:=isInt_shape g;rw[List.zip_cons_cons];refine kat_cons (wpAny_eqBool_int ?_);have c:Q (if a=d then Az x y else decide (a<d)) s:=q;by_cases e:a=d;rw[eH e]at c;rw[show(a==d)=true from DZ.mpr e];refine kat_yes ?_;have:=j (i+1) k c;simpa using this
   ·rw[a0m e]at c;rw[show(a==d)=false by simp_all];refine kat_no ?_;cases (b&&i==0)with
    |true=>exact oneLt_int c
    |false=>exact kat_one _ _ (lt_int c)
def Zi{M:List Value}(T:eW prog w s.heap N O M.toArray)(z:0 < M.length)(B:∀ k∈O,k≠[])(q:Q (tuples' true) s):wpAny (model prog w) A (keyKind' M.toArray) Q E s:=by
 have h:∀ (M:List Value) (O:List (List Int)),(∀ (i:Nat) v,M[i]? = some v->∃ k a,O[i]? = some k/\v=.ref a/\iU prog w s.heap k a)->(∀ k∈O,k≠[])->∃ Y:List Value,KatTups s.heap M Y/\Y.length=M.length/\∀ v∈Y,∃ i t,v=.int i t:=by
  intro M
  induction M with
  |nil=>intro O _ _;exact⟨[],KatTups.nil,rfl,by simp⟩
  | cons v r C=>
    intro O c d;obtain⟨k,a,j,rfl,o,L,n,g,hc,hd,hi⟩:=c 0 v rfl;cases O with
    |nil=>simp at j
    | cons J O=>
      simp at j;subst j;obtain⟨Y,l,y,m⟩:=C O (λi u D1=>c (i+1) u (by simpa using D1)) λx b=>d x (Af _ b);have p:=d _ pL;cases U:L.toList with
      | nil=>
        rw[U]at hi;cases hi;exact absurd rfl p
      | cons f fH=>
        have F:L[0]?=some f:=by rw[← Bh,U];rfl
        obtain⟨i,t,G⟩:=kU hi f (by rw[U];simp);refine⟨f::Y,KatTups.cons g hc hd F l,by simp[y],λx b=>?_⟩;rcases sY.mp b with rfl|b;exact⟨i,t,G⟩;exact m x b
 obtain⟨Y,l,y,m⟩:=h M O (λi v e=>by
  obtain⟨k,a,c,d,H,_⟩:=T.2 i v (by simp_all);exact⟨k,a,c,d,H⟩) B
 refine kat_kind (T:=.type "int") l (by lia) (λv I=>?_) (by decide) q;obtain⟨i,t,rfl⟩:=m v I;exact .now
def Dc(k:List Int):List (List Int)->List (List Int)
 |[]=>[k]
 |x::r=>if Az k x=true then k::x::r else if k=x then x::r else x::Dc k r
def sT:List (List Int)->List (List Int)
 |[]=>[]
 |k::r=>Dc k (sT r)
abbrev Dq(l:List (List Int)):Prop:=l.Pairwise λa b=>Az a b=true
theorem rD(k:List Int):∀ (l:List (List Int)) (x:List Int),x∈Dc k l↔x=k\/x∈l
 |[],x=>by simp[Dc]
 | y::r,x=>by
   unfold Dc;split;simp
   ·split
    ·simp_all
    ·rw[sY,rD k r x,sY]
     lia
theorem NR(k:List Int):∀ (l:List (List Int)),Dq l->Dq (Dc k l)
 |[],_=>pairwise_singleton _ _
 | y::r,h=>by
   obtain⟨c,d⟩:=Dg.mp h;unfold Dc;split;rename_i b;refine Dg.mpr ⟨λx a=>?_,h⟩;rcases sY.mp a with rfl|a;exact b;exact Jc b (c x a)
   ·split;exact h
    ·rename_i H e;refine Dg.mpr ⟨λx a=>?_,NR k r d⟩;rcases(rD k r x).mp a with rfl | a
     ·cases f:Az y x with
      |true=>rfl
      |false=>exact absurd (xL (by simp_all) f) e
     simp_all
theorem bY:∀ (l:List (List Int)) (x:List Int),x∈sT l↔x∈l
 |[],x=>by rfl
 | k::r,x=>by
   show x∈Dc k (sT r)↔_;rw[rD,bY r x,sY]
theorem fL:∀(l:List (List Int)),Dq (sT l)
 |[]=>.nil
 |k::r=>NR k _ (fL r)
def uI(h:Dq l):l.Nodup:=Ca.mpr (h.imp λ{a b} h e=>by subst e;rw[pR]at h;lia)
theorem Jd:∀ {a b:List (List Int)},Dq a->Dq b->(∀ x,x∈a↔x∈b)->a=b
 |[],[],_,_,_=>rfl
 |[],y::b,_,_,h=>by have:=(h y).mpr pL;simp_all
 |x::a,[],_,_,h=>by have:=(h x).mp pL;simp_all
 | x::a,y::b,j,H,h=>by
   obtain⟨A,k⟩:=Dg.mp j;obtain⟨d,g⟩:=Dg.mp H;have c:x=y:=by
    rcases sY.mp ((h x).mp pL)with e|e;exact e;rcases sY.mp ((h y).mpr pL)with f|f
    ·simp_all
    ·have:=Jc (d x e) (A y f);rw[pR]at this;lia
   subst c;have n:x∉a:=λz=>by have:=A x z;rw[pR]at this;lia
   have i:x∉b:=λz=>by have:=d x z;rw[pR]at this;lia
   rw[Jd k g λz=>?_]
   grind
end
section
variable {κ:Type}[DecidableEq κ]
end
section
variable {κ:Type}[DecidableEq κ]
end
section
open PyProof.Rows Spec
def NS{id U:String}
  (hc:∀w s Z H A G Q,dX X w Z H s->bC A G->r A H Q->wpAny (model X.prog X.w) X.A (call (.type U) G) (λu J=>wpAny (model X.prog X.w) X.A (call (.builtin id) [u]) (EP X w Z Q) X.xe J) X.xe s)
  (l:Gl X x) (m:X.mg x=none) (n:bootBuiltins x=some (.builtin id)) (d:Gl X y) (f:X.mg y=none) (g:bootBuiltins y=some (.type U)) (N:PA X (e::E) t)
  (M:x≠"__name__":=by decide) (i:(x==("__debug__":Str))=false:=by decide) (j:y≠"__name__":=by decide) (b:(y==("__debug__":Str))=false:=by decide)
  (o:starEach (e::E) X.env=(false,eval e X.env)::starEach E X.env:=by rfl) (k:(backTo a (starEach E X.env)).any (·.1)=false:=by rfl)
  (L:starEach [.Call (.Name y c) (e::E) [] a] X.env=(false,eval (.Call (.Name y c) (e::E) [] a) X.env)::starEach [] X.env:=by rfl) :
  PE X (.Call (.Name x p) [.Call (.Name y c) (e::E) [] a] [] pos) (Gs r t):=by
 intro w s Z H Q I h;refine ED (iD I l m n (PyProof.Rows.callWith_builtin1 ?_ L (by rfl)) M i)
 (refine Calls.spliced_cons (ED (iD I d f g (Fu ?_ o k) j b)))
 exact thn (N a w s Z H _ I h) λG J ⟨A,q,v,z,B⟩=>thn (hc w J Z q A G Q v z B) λu O C=>Calls.spliced_nil C
def NT{Z:St}(I:dX X j Z H s)(hc:X.calm=true)(h:cG H p=some (b,xs)) :
  ∃f:List Value,bC xs f/\Nonempty (Fd X.prog X.w X.A s.heap p f.toArray.size λi v=>f.toArray[i]?=some v):=by
 cases b with
 | true=>
   obtain⟨g,r,⟨o,n,a,c,e,d⟩,_⟩:=I.list (dE h);exact⟨g,r,⟨Fd.list (I.ok.hd hc) ⟨o,a,c,n,d⟩⟩⟩
 | false=>
   obtain⟨g,r,q,_⟩:=I.tuple (cX h);exact⟨g,r,⟨Fd.tup (I.ok.hd hc) q⟩⟩
end
def NU(h:H p=some o):gV H p o=H:=by
 funext b;by_cases a:b=p;subst a;rw[aH,h];rw[aF a]
section
open PyProof.Rows Spec
theorem kB{prog:Program}{w:World}:∀ {k:List Int} {u:List Value},bC (k.map V.int) u->ItemsAre (intKind prog w) k u
 |[],_,.nil=>.nil
 | i::r,_,.cons h t=>by
   obtain⟨T,rfl⟩:=h;exact .cons (by simp[intKind,Value.isInt]) (kB t)
def kW{Z:St}(I:dX X p Z H s)(h:H a=some (.tup (k.map V.int))):iU X.prog X.w s.heap k a:=by
 obtain⟨i,r,⟨o,b,hc,n,c⟩,_⟩:=I.tuple (cX (bL h));exact⟨o,i.toArray,n,b,hc,c,by simpa using kB r⟩
def NW(r:V->List V->Hp->VK->Prop)(to:TE)(t:TA):TE:=λZ H Q=>to Z H λx h=>(∃p b,x=.ref p/\h p=some (.tup b))/\t Z h λb a=>r x b a Q
def Zj{id:String}(slot:Slot "tuple" N id)(g:typeOf (.builtin id)=pure (.type "method_descriptor"))(m:Ek X id r)(n:PE X o to)(ha:PA X (e::O) t)
  (c:attributeBase o N X.env (eval o X.env)=eval o X.env:=by rfl)
  (f:((backTo w (starEach (e::O) X.env)).all (λx=>!x.1)&&(backToKw w (keywordEach [] X.env)).all (λx=>x.1.isSome)&&decide ((e::O).length+([]:List Keyword).length+(if([]:List Keyword).isEmpty then 0 else 1)<30))=true:=by rfl)
  (d:(T.endLine==w.line)=true:=by rfl) (hs:starEach (e::O) X.env=(false,eval e X.env)::starEach O X.env:=by rfl) (b:(backTo w (starEach O X.env)).any (·.1)=false:=by rfl) :
  PE X (.Call (.Attribute o N T) (e::O) [] w) (NW r to t):=by
 intro M s Z H Q I h;refine wpAny_Call_method_late c f d rfl (thn (n M s Z H _ I h) λv U Z0=>?_);obtain⟨x,i,j,k,⟨p,Y,ex,q⟩,u⟩:=Z0;subst ex;have y:v=.ref p:=k;subst y;obtain⟨_,its,_,⟨ob,z,A,_⟩,⟨B,J,K⟩⟩:=(show cH X.prog X.w i U.heap p (.tup Y)from j.hok p _ q);refine⟨"tuple",id,F.plainAttrs_tuple,slot,g,⟨ob,z,A⟩,λa L=>?_,?_⟩
 ·simp_all
 ·have l:=ha w M U Z i _ j u;rw[hs]at l ⊢;refine Calls.callWith_builtin (by show(false||(backTo w (starEach O X.env)).any (·.1))=false;rw[b]<;>rfl) (Calls.evalArgs_plain ?_);exact thn l λus s2 ⟨vs,C,D1,E,G⟩=>m M s2 Z C (.ref p) vs _ us Q D1 k E G
end
noncomputable def oQ:List D->Option (List Int)
 |[]=>some []
 |.int i::r=>(oQ r).bind λl=>some (i::l)
 |_::_=>none
def rE(h:oQ l=some z):l=z.map D.int:=by
 induction l generalizing z with
 |nil=>cases h;rfl
 | cons d r i=>
   cases d with
   | int s=>
     obtain⟨l,a,b⟩:=aB h;cases b;rw[i a];rfl
   |_=>cases h
def nR(z:List Int):oQ (z.map D.int)=some z:=by
 induction z with
 |nil=>rfl
 |cons b r a=>show(oQ (r.map D.int)).bind _=_;simp_all
abbrev tI(k:List Int):D:=.tup (k.map D.int)
def rF:List D->Option (List (List Int))
 |[]=>some []
 |.tup k::r=>(oQ k).bind λa=>(rF r).bind λl=>some (a::l)
 |_::_=>none
def NX(h:rF l=some z):l=z.map tI:=by
 induction l generalizing z with
 |nil=>cases h;rfl
 | cons d r i=>
   cases d with
   | tup k=>
     obtain⟨e,a,h⟩:=aB h;obtain⟨l,b,c⟩:=aB h;cases c;rw[i b,rE a];rfl
   |_=>cases h
def nT(z:List (List Int)):rF (z.map tI)=some z:=by
 induction z with
 |nil=>rfl
 |cons b r a=>show(oQ (b.map D.int)).bind (λc=>(rF (r.map tI)).bind _)=_;rw[a,nR];rfl
def Zk(h:Rp H (tI k) v):∃a,v=.ref a/\H a=some (.tup (k.map V.int)):=by
 cases h with
 |tup h r=>rw[r.ints_inv]at h;simp_all
def NY{n:List (List Int)}(h:Rps H (n.map tI) xs):∃m:List Addr,xs=m.map V.ref/\m.length=n.length/\∀(i:Nat) a k,m[i]?=some a->n[i]?=some k->H a=some (.tup (k.map V.int)):=by
 induction n generalizing xs with
 |nil=>cases h;exact⟨[],rfl,rfl,λ_ _ _ e=>by cases e⟩
 | cons k n j=>
   cases h with|cons a t=>
   obtain⟨p,rfl,d⟩:=Zk a;obtain⟨m,rfl,f,g⟩:=j t;refine⟨p::m,rfl,BO (· + 1) f,λi a l b c=>?_⟩;cases i with
   |zero=>cases b;cases c;exact d
   |succ i=>exact g i a l b c
def NZ{d:List (List Int)}{c:List Addr}(h:c.length=d.length)(b:∀(i:Nat) a k,c[i]?=some a->d[i]?=some k->H a=some (.tup (k.map V.int))):Rps H (d.map tI) (c.map V.ref):=by
 induction d generalizing c with
 |nil=>cases c with|nil=>exact .nil|cons _ _=>cases h
 | cons k d j=>
   cases c with
   |nil=>cases h
   |cons p c=>exact .cons (.tup (b 0 p k rfl rfl) (iR k)) (j (Nat.succ.inj h) λi=>b (i+1))
theorem rG{a:Sg}:eD (eA n c (.str z) (b::a)) K=(z.length=n/\eD (c (iZ z) (b::a)) K):=by
 show eD (if z.length=n then c (iZ z) (b::a)else none) K=_;rw[aP]
abbrev FT:=List D->D->Option D
def Oa(r:V->List V->Hp->PySem.VK->Prop)(f:FT):Prop:=∀H l x e p y Q d,H p=some (.tup x)->Rps H l x->AV H e y->f l e=some d->(∀v,Rp H d v->Q v H)->r (.ref p) [y] H Q
def Fe(f:FT)(a b:DE):DE:=λZ=>(a Z).bind λx=>match x.1 with
 |.val (.tup l)=>(b x.2).bind λy=>(rd y.2 y.1).bind λe=>(f l e).bind λd=>some (.val d,y.2)
 |_=>none
def Zl(w:Oa r f)(h:∀ O,PE X e (NW r (Bd O n) (BX O (aA o aE)))):GE X e (Fe f n o):=.mk λO=>Bq (h O) λY H Q Z1=>by
 obtain⟨Z,ok,res,σ',e,k⟩:=Z1;have z:=e;obtain⟨⟨x,a⟩,A,T⟩:=aB z;dsimp only at T;have B:∃ l,x=.val (.tup l):=by
  cases x with
  | val C=>
    cases C with
    |tup l=>lia
    |_=>cases T
  |_=>cases T
 obtain⟨l,rfl⟩:=B;refine⟨Z,ok,_,a,A,λv1 D b E i _=>?_⟩;obtain⟨⟨y,j⟩,F,f2⟩:=aB T;obtain⟨G,I,J⟩:=aB f2;obtain⟨d,K,L⟩:=aB J;cases L;have m:Rp D (.tup l) v1:=E;obtain⟨p,U,rfl,q,M⟩:=fJ (.inl m);refine⟨⟨p,U,rfl,q⟩,a,b,[y],j,?_,λvs s c N g _=>?_⟩;show((_:Option _).bind _)=_;rw[F];rfl;cases N with
 | cons π t _=>
   cases t;have u:=g.ext b;refine w s l U G p _ Q d (u.tup _ _ q) (M.mono u) (π.vw c I) K λv P=>?_;exact k v s c P (i.trans g) eU
theorem Zm{c:Sg}:RE (Fe f h i) (g::c) Q=RE h (g::c) λx a=>eD (match x with | .val (.tup l)=>some l | _=>none) λl=>RE i a λy b=>RD b y λe=>eD (f l e) λd=>Q (.val d) b:=by
 unfold RE RD Fe;simp only[aK];congr 1;funext x;obtain⟨x,a⟩:=x;cases x with
 | val d=>
   cases d with
   |tup l=>simp only[aK];rfl
   |_=>rfl
 |_=>rfl
def Zn(a:Ah k A):A.units+8<PySem.cLine:=by have:=a.un;lia
section
open MeetsSeq MeetsSeq2 MeetsSeq3 SeqAt SeqRoads2
def SeqAt.kX(L H:Nat)(f:Nat->a->Sem (ForInStep a))(I:Nat->a->Shared->Prop)(Q:a->Shared->Prop)
  (turn:∀i b s,L<=i->i<H->I i b s->wpAny M A (f i b) (λr o=>match r with|.yield c=>I (i+1) c o | .done c=>Q c o) E s)
  (fin:∀b s,I (max L H) b s->Q b s) (b:a) (h:I L b s):wpAny M A (forIn [L:H] b f) Q E s:=by
 rw[Std.Legacy.Range.forIn_eq_forIn_range'];refine wpAny_forIn_list f (λl b s=>∃i,L<=i/\i<=max L H/\l=range' i (max L H-i)/\I i b s) Q ?_ ?_ _ b ⟨L,hC _,Nat.le_max_left _ _,?_,h⟩
 ·rintro x p b s ⟨i,d,n,e,g⟩;cases j:max L H-i with
  |zero=>rw[j]at e;simp at e
  | succ m=>
    rw[j,List.range'_succ]at e;obtain⟨rfl,rfl⟩:=List.cons.inj e;refine PySem.thn (turn x b s d (by lia) g) λr o k=>?_;cases r with
    |yield c=>exact⟨x+1,le_succ_of_le d,by lia,by rw[show max L H-(x+1)=m by lia],k⟩
    |done c=>exact k
 ·rintro b s ⟨i,d,n,e,g⟩;have:i=max L H:=by
   have:=BO List.length e;simp at this;lia
  subst this;exact fin b s g
 ·show range' L ((H-L+1-1) / 1) 1=_;rw[Nat.div_one,show H-L+1-1=max L H-L by lia]
def SeqAt.tuple_indexAt(l:Addr)(I:Array Value)(n:Nat)(k:Option Addr)(u:Array (Option Value))(x:Value)(e:Value->Bool)(j:Nat)(hj:j < I.size)(hb:∀ m (q:m < I.size),m < j->e I[m]=false)(H:e I[j]=true) :
  Meets (Builtin.«tuple.index» ⟨[.ref l,x],[]⟩)
   (λA R s=>s.heap.get? l=some {cls:=.type "tuple",dict:=k,data:=.seq I n,slots:=u}/\(∀y,y∈I->EqAt A.in1 s y x (e y))/\R (.ok (.ret (.int j s.toks))) {s with toks:=s.toks+1}):=
 .of_wp λr w A R s h=>by
  obtain⟨o,g,d,T,O⟩:=s;obtain⟨f,p,h⟩:=h
  wp_walk using JA f,kX _ _ _ (λi (b:Option (PySem.Fin)×PUnit) t=>t=⟨o,g,d,T,O⟩/\b=(none,⟨⟩)/\i<=j) _
  case turn=>
   rintro i b t _ v ⟨rfl,rfl,c⟩;have a:i<I.size:=Cb c hj;rw[BP a];refine dV (p _ (Array.getElem_mem a) r w _ _ ?_);rcases Nat.lt_or_eq_of_le c with l|rfl
   ·rw[hb i a l]
    wp_walk
    exact⟨rfl,rfl,l⟩
   ·rw[H]
    wp_walk
    exact⟨_,rfl,h⟩
  case fin=>
   rintro b t ⟨_,_,f⟩;lia
  case h=>exact⟨rfl,rfl,sS _⟩
end
section
open PyProof.Rows Spec
def kD(a b:Value):argsOk "tuple.index" ⟨[a,b],[]⟩:=by
 unfold argsOk;rw[signature?_of (id:="tuple.index") (n:=['x','e','d','n','i']) (o:=['e','l','p','u','t']) (by kernel_rfl) F.owner_tuple];kernel_rfl
def Ob{i:Nat}(h:bC z U)(e:z[i]?=some x):∃u,U[i]?=some u/\cC x u:=by
 induction h generalizing i with
 |nil=>simp at e
 | cons a t b=>
   cases i with
   |zero=>simp at e;subst e;exact⟨_,rfl,a⟩
   |succ i=>exact b (by simpa using e)
def Oc:V->List V->Hp->VK->Prop:=λx v H Q=>∃(l:Addr) (a:List Str) (z:Str),x=.ref l/\v=[.str z]/\H l=some (.tup (a.map V.str))/\z∈a/\Q (.int (a.idxOf z:Nat)) H
def Zo:Ek X "tuple.index" Oc:=by
 intro Y s Z H x vs v us Q I C D1 h;obtain⟨l,O,z,rfl,rfl,G,J,q⟩:=h;cases C;obtain⟨u,rfl,K⟩:=D1.one;obtain⟨t,rfl⟩:=K;obtain⟨_,T,r,⟨⟨oc,od,L,sl⟩,e,c,n,d⟩,_⟩:=(show cH X.prog X.w H s.heap l (.tup (O.map V.str))from I.hok l _ G);dsimp only at c d;subst c d;have hj:O.idxOf z<O.length:=List.idxOf_lt_length_iff.mpr J;have A:T.length=O.length:=by
  have:=r.length;simpa using this.symm
 have f:∀m (g:m<T.toArray.size),∃(a:m<O.length) (b:Tok),T.toArray[m]=.str O[m] b:=λm g=>by
  have j:m<T.length:=by simpa using g
  have a:m<O.length:=by lia
  obtain⟨u,B,M⟩:=Ob (i:=m) r (by rw[An,nL a];rfl);obtain⟨b,rfl⟩:=M;rw[nL j]at B;exact⟨a,b,by simpa using Ap B⟩
 refine Dy F.slot_tuple_index ⟨_,e,rfl⟩ F.entry_tuple_index (kD _ _) (SeqAt.tuple_indexAt l T.toArray n od sl (.str z t) (IA z) (O.idxOf z) (by simp;lia) (λm g k=>?_) ?_) ⟨e,λy N=>?_,?_⟩;obtain⟨a,b,o⟩:=f m g;rw[o];show(O[m]==z)=false;have h:=List.not_of_lt_findIdx (p:=(· == z)) (xs:=O) k;simpa using h;obtain⟨a,b,o⟩:=f (O.idxOf z) (by simp;lia);rw[o];show(O[O.idxOf z]==z)=true;simp;obtain⟨π,b,rfl⟩:=qJ r y (by simpa using N);exact λU w E Q h=>eqBool_str h;exact⟨.int _,H,I.tok _,⟨_,rfl⟩,q⟩
end
def FL:FT:=λl e=>match e with
 |.str z=>(lZ l).bind λa=>if z∈a then some (.int (a.idxOf z:Nat))else none
 |_=>none
def Zp:Oa Oc FL:=by
 intro H l x e p y Q d b r c a k;unfold FL at a;split at a;obtain⟨z,f,a⟩:=aB a;split at a;rename_i g;cases a;rw[iF c];rw[mK f]at r;rw[r.strs_inv]at b;exact⟨p,z,_,rfl,rfl,b,g,k _ (.int _)⟩;cases a;cases a
theorem xM{a:List Str}:eD (FL (a.map D.str) (.str z)) K=(z∈a/\K (.int (a.idxOf z:Nat))):=by
 show eD ((lZ (a.map D.str)).bind _) K=_;rw[jY];show eD (if _ then _ else none) K=_;rw[aP];rfl
structure AN(h:Heap)(S:Addr)(led:Bool)(o:Obj)(es:Array (Int×Value))(ep:Nat)(t:SetTable):Prop where
 ob:h.get? S=some o
 ex:o.ExactSet
 dt:o.data=.set es ep t
 tk:Bl t (es.toList.map (·.1))
 ful:t.place.size*5<t.mask*3
 ld:t.led=led
 pl:t.plain=true
theorem AN.fits{s:Shared}(X:AN s.heap S l o e E t):t.fits e.size=true:=X.tk.fits (by simp)
def AN.state(X:AN s.heap S l o e a t)(h:Q (e,a,t) s):wpAny (model prog w) A (setState S) Q E s:=
 wpAny_setState_of X.ob X.dt X.fits h
def Zq(X:AN s.heap S (eJ w) o e b t)(q:Q (.ref s.heap.objs.size) {s with heap:=s.heap.push (HU 0 0 e.size b S)}):wpAny (model prog w) A (pyIter (.ref S)) Q E s:=by
 have H:s.TypeIs (.ref S) "set":=⟨o,X.ob,X.ex.1⟩;refine wpAny_pyIter_slot H F.slot_set_iter (Cr F.slot_set_iter H oO ?_ (F.args_set_iter_1 _));show wpAny _ _ (Builtin.Frozenset.sizeOf S >>= _) _ _ s;refine dV (dV (JC X.ob X.dt X.fits (gX ?_)));refine dV (dV (X.state ?_));refine dV (dV (Hj (gX ?_)));refine gX ?_;have a:(!t.plain&&decide (e.size > 1))=false:=by rw[X.pl];rfl
 rw[a0m (λh=>?_)];refine dV (gX ?_);refine dV (wpAny_setEpoch_of X.ob X.dt X.fits ?_);refine dV (EE ?_);exact gX ⟨_,rfl,"set_iterator",_,⟨_,Al _ rfl,rfl⟩,kA.lookup,q⟩;rw[Fw]at h;exact Bool.noConfusion (a.symm.trans h.2)
def uJ(X:AN s.heap S (eJ w) o C G t)(j:w.params.followText "set-order"=false->SetTable.below t.place slot=i)
  (k:∀e next,(bN w S G C)[i]?=some e->(w.params.followText "set-order"=false->SetTable.below t.place next=i+1)->Q (some (e.2,next)) s) (l:(bN w S G C)[i]?=none->Q none s):wpAny (model prog w) A (setNext S slot i G) Q E s:=by
 unfold setNext;refine dV (X.state ?_);unfold setsByText;refine dV (dV (Hj (gX ?_)));dsimp only;by_cases H:w.params.followText "set-order"=true
 ·rw[eH (show(model prog w).w.params.followText "set-order"=true from H)];simp only[bne_self_eq_false,false_eq_true,if_false];unfold setWalk;refine dV (dV (X.state ?_));unfold setsByText;refine dV (dV (Hj (gX ?_)));dsimp only;rw[eH (show(model prog w).w.params.followText "set-order"=true from H)];refine dV (Hj (gX ?_));have m:bN w S G C=pickOrder (w.params.setOrder S G) C:=by unfold bN;rw[eH H]
  show wpAny _ _ (pure ((pickOrder (w.params.setOrder S G) C)[i]?.map λe=>(e.2,slot))) _ _ _;refine gX ?_;rw[← m];cases d:(bN w S G C)[i]? with
  |none=>exact l d
  |some e=>exact k e slot d λz=>by rw[H]at z;cases z
 ·have f:w.params.followText "set-order"=false:=by simpa using H
  have a:=j f;have m:bN w S G C=C:=by unfold bN;rw[a0m H]
  have n:(!t.plain&&decide (C.size > 1))=false:=by rw[X.pl];rfl
  have g:t.led=true:=by rw[X.ld];unfold eJ;rw[f];rfl
  rw[a0m (show ¬((model prog w).w.params.followText "set-order"=true)from H)];refine wpAny_ite_split (λh=>absurd (n.symm.trans h) Ec) λ_=>?_;refine dV ?_;have p:wpAny (model prog w) A (if(!t.led && !C.isEmpty)=true then unsupported "set:maker-not-led" else pure ()) (λ_ I=>I=s) E s:=by
   rw[g];simp only[Bool.not_true,Bool.false_and,false_eq_true,if_false];exact gX rfl
  refine Cu p (λ_ I x=>?_) λ_ _ z=>z;subst x;rw[a];rw[m]at k l;have q:t.place.size=C.size:=by have:=X.tk.len;simpa using this
  cases d:C[i]? with
  |none=>exact gX (l d)
  | some e=>
    have r:i<t.place.size:=by rw[q];exact(Fv.mp d).1
    have b:t.place[i]?=some t.place[i]:=BP r;rw[b];refine gX (k e _ d λ_=>?_);have c:=gF X.tk.ri (t.place[i]+1);have y:i<SetTable.below t.place (t.place[i]+1):=by
     refine Hs λz=>?_;have:=c.hi i _ z b;lia
    have B:SetTable.below t.place (t.place[i]+1)<=i+1:=by
     refine DK λz=>?_;have u:i+1<t.place.size:=Au z c.le;have v:t.place[i+1]?=some t.place[i+1]:=BP u;have:=c.lo (i+1) _ z v;have:=X.tk.ri i (i+1) _ _ (EJ _) b v;lia
    lia
def Zr(X:AN s.heap S (eJ w) o m p t)(v:Jb w s.heap I S m p t i)(h:(bN w S p m)[i]? = some e)
  (q:∀h',Jb w h' I S m p t (i+1)->(∀b ob,b≠I->s.heap.get? b=some ob->h'.get? b=some ob)->Q (some e.2) {s with heap:=h'}):wpAny (model prog w) A (pyNext (.ref I)) Q E s:=by
 obtain⟨r,c,d⟩:=v;have u:s.TypeIs (.ref I) "set_iterator":=⟨_,c,rfl⟩;refine dV (Fs (wpAny_callSpecial?_slot (name:=ofString "__next__") u kA (Cr kA u uG ?_ (NQ _))));show wpAny _ _ (fieldsOf (.ref I) >>= _) _ _ s;refine dV (dV (wpAny_load c (gX ?_)));dsimp only;refine dV (JC X.ob X.dt X.fits ?_);simp only[bne_self_eq_false,false_eq_true,if_false,toNat_natCast];refine dV (uJ X d (λl n a f=>?_) λx=>?_)
 ·rw[h]at a;cases a;refine dV (Hk c rfl (by simp) ?_);have g:(s.heap.update I (λob=>ob.mapFields (·.setIfInBounds 0 (rawInt n)))).get? I=some (HU n i m.size p S):=by
   rw[CQ _ c rfl];rfl
  refine dV (Hk (s:={s with heap:=s.heap.update I (λob=>ob.mapFields (·.setIfInBounds 0 (rawInt n)))}) g rfl (by simp) ?_);have j:((s.heap.update I (λob=>ob.mapFields (·.setIfInBounds 0 (rawInt n)))).update I (λob=>ob.mapFields (·.setIfInBounds 1 (rawInt ((i:Int)+1))))).get? I=some (HU n (i+1) m.size p S):=by
   rw[CQ _ g rfl];rfl
  refine gX ⟨_,rfl,gX (q _ ⟨n,j,f⟩ λb ob H k=>?_)⟩;exact(DC _ _ (oI H)).trans ((DC _ _ (oI H)).trans k)
 simp_all
def Zs(e:A.handled=none)(X:AN s.heap S (eJ w) o p r t)(u:Jb w s.heap I S p r t i)(j:(bN w S r p)[i]? = none)
  (q:∀h',(∀b ob,b≠I->s.heap.get? b=some ob->h'.get? b=some ob)->Q none {s with heap:=h'}):wpAny (model prog w) A (pyNext (.ref I)) Q E s:=by
 obtain⟨l,c,d⟩:=u;have H:s.TypeIs (.ref I) "set_iterator":=⟨_,c,rfl⟩;refine dV (Fs (wpAny_callSpecial?_slot (name:=ofString "__next__") H kA (Cr kA H uG ?_ (NQ _))));show wpAny _ _ (fieldsOf (.ref I) >>= _) _ _ s;refine dV (dV (wpAny_load c (gX ?_)));dsimp only;refine dV (JC X.ob X.dt X.fits ?_);simp only[bne_self_eq_false,false_eq_true,if_false,toNat_natCast];refine dV (uJ X d (λk n f g=>?_) λx=>?_)
 ·simp_all
 ·refine dV (Hk c rfl (by simp) ?_);refine dV ?_;refine dV (m:=firstArgMember _ _) (wpAny_of_eq (a:=Value.none) rfl ?_);refine EE ?_ (by size_fits);refine dV (wpAny_handled ?_);rw[show A.in1.handled=none from e];refine dV (gX (wpAny_throw ?_));refine dV (wpAny_isInstance (T:="StopIteration") (b:=true) ⟨_,Al _ rfl,rfl⟩ isSubtype_stop ?_);refine gX (q _ λb ob v h=>Ac _ (Ac _ ((DC _ _ (oI v)).trans h)))
def Zt{I:Addr}{L:Addr}(n:A.handled=none)(X:AN H S (eJ w) o G ep t)(p:H.objs.size<=I)(r:H.objs.size<=L)(d:L≠I) :
  BW prog w A I L G.size (λi C h=>(∀b ob,H.get? b=some ob->h.get? b=some ob)/\Jb w h I S G ep t i/\C.toList=((bN w S ep G).toList.take i).map (·.2)) (λC h=>(∀b ob,H.get? b=some ob->h.get? b=some ob)/\C.toList=(bN w S ep G).toList.map (·.2)):=by
 have u:(bN w S ep G).toList.length=G.size:=by have:=(jK (w:=w) (S:=S) (ep:=ep) G).length_eq;simp_all
 have l:∀b ob,H.get? b=some ob->b≠I:=λb ob e z=>absurd (sL e) (EM.mpr (z▸p));have v:∀b ob,H.get? b=some ob->b≠L:=λb ob e z=>absurd (sL e) (EM.mpr (z▸r));have m:∀(h:Heap),(∀b ob,H.get? b=some ob->h.get? b=some ob)->AN h S (eJ w) o G ep t:=λh a=>
  ⟨a _ _ X.ob,X.ex,X.dt,X.tk,X.ful,X.ld,X.pl⟩
 refine⟨λi C s c Q E U ⟨a,M,N⟩ T q=>?_,λC s c Q E ⟨a,M,N⟩ T q=>?_,λi C h O ⟨a,M,N⟩ _ k=>?_⟩
 ·have g:i<(bN w S ep G).toList.length:=by lia
  have x:(bN w S ep G)[i]?=some (bN w S ep G).toList[i]:=by simp
  refine Zr (m s.heap a) M x λO j f=>?_;have:=q (bN w S ep G).toList[i].2 O s.toks ⟨λb ob e=>f b ob (l b ob e) (a b ob e),j,?_⟩ (f _ _ d T);exact this;rw[DD,N,Ed,nL g,Aj];rfl
 ·refine Zs n (m s.heap a) M (by simp_all) λO f=>?_;have:=q O s.toks ⟨λb ob e=>f b ob (l b ob e) (a b ob e),by grind⟩ (f _ _ d T);exact this
 ·obtain⟨J,y,B⟩:=M;exact⟨λb ob e=>k b ob (v b ob e) (a b ob e),⟨J,k I _ (oI d) y,B⟩,N⟩
def uK(g:A.handled=none)(X:AN s.heap S (eJ w) o p r t)(H:p.size<=sizeLine)
  (q:∀h' v,(∀b ob,s.heap.get? b=some ob->h'.get? b=some ob)->s.heap.objs.size<h'.objs.size->Q ((bN w S r p).toList.map (·.2)) {s with heap:=h',toks:=v}):wpAny (model prog w) A (collect (.ref S)) Q E s:=by
 have u:∀b ob,s.heap.get? b=some ob->(s.heap.push (mF #[] 0)).get? b=some ob:=λb ob e=>Ac _ e;have l:(s.heap.push (mF #[] 0)).objs.size=s.heap.objs.size+1:=DL ..;have h:AN ({s with heap:=s.heap.push (mF #[] 0)}:Shared).heap S (eJ w) o p r t:=
  ⟨u _ _ X.ob,X.ex,X.dt,X.tk,X.ful,X.ld,X.pl⟩
 have a:∀b ob,s.heap.get? b=some ob->((s.heap.push (mF #[] 0)).push (HU 0 0 p.size r S)).get? b=some ob:=λb ob e=>Ac _ (u b ob e);have i:SetTable.below t.place 0=0:=by
  have c:=gF X.tk.ri 0;refine Nat.le_zero.mp (DK λz=>?_);exact absurd (c.lo 0 _ z (BP (Au z c.le))) (Ef _)
 have N:s.heap.objs.size≠(s.heap.push (mF #[] 0)).objs.size:=by simp
 have L:=Zt (prog:=prog) (A:=A.in1) g (I:=(s.heap.push (mF #[] 0)).objs.size) (L:=s.heap.objs.size) X (by simp) (hC _) N;refine zG (T:="set") L H ⟨o,X.ob,X.ex.1⟩ rfl rfl (λj k d=>Zq h d) (λj k d=>Zf ⟨o,a _ _ X.ob,X.ex.1⟩ d)
  ⟨a,⟨0,Al _ rfl,λ_=>i⟩,rfl⟩ (Ac _ (Al _ rfl)) λh' v x m f n=>?_
 simp_all
def Zu(T:Bl t d)(h:Int):∃M,¬AI t (wk t.mask h M).j/\(∀m,m<M->AI t (wk t.mask h m).j)/\t.freeSlot h=some ((wk t.mask h M).j,false):=by
 obtain⟨M,b,a,H⟩:=T.stop h;refine⟨M,a,H,?_⟩;have c:=xH T (h:=h) (hashAt:=λ_=>h+1) a H (10*SetTable.turns t.mask) 0 (sS _) (by lia);rcases c with⟨m,i,_,_,_,f,_⟩|⟨_,A⟩;lia;unfold SetTable.freeSlot;have e:t.probe (λ_=>h+1) h (t.probeStart h)=some (.empty (wk t.mask h M).j none):=A
 simp_all
def Zv(T:Bl t (E.toList.map (·.1)))(m:t.place.size+1<=t.mask)(h:Int)(x:Value) :
  ∃j p,layNew t E h x=(j,p,false,false)/\Bl p (j.toList.map (·.1))/\p.led=t.led/\p.plain=t.plain/\p.mask=t.mask/\p.place.size=E.size+1/\j.size=E.size+1/\j.toList.Perm (E.toList++[(h,x)])/\p.dummies=#[]:=by
 obtain⟨M,o,H,e⟩:=Zu T h;have f:t.place.size=E.size:=by have:=T.len;simp_all
 have a:=nP t (wk t.mask h M).j T.dm;have d:=T.put o H m;have b:=(gF T.ri (wk t.mask h M).j).le;have g:=layNew_perm t E h x;rw[DD]at g;have i:(SetTable.insertAt E (SetTable.below t.place (wk t.mask h M).j) (h,x)).toList.map (·.1)=uB (E.toList.map (·.1)) (SetTable.below t.place (wk t.mask h M).j) h:=by
  rw[SetTable.toList_insertAt];unfold uB;simp
 rw[a]at d;rw[← i]at d;have c:(SetTable.insertAt E (SetTable.below t.place (wk t.mask h M).j) (h,x)).size=E.size+1:=iT E (by lia) _;have k:=d.fits (n:=E.size+1) (by rw[fI,BA,c]);have l:layNew t E h x=(SetTable.insertAt E (SetTable.below t.place (wk t.mask h M).j) (h,x),{t with place:=SetTable.insertAt t.place (SetTable.below t.place (wk t.mask h M).j) (wk t.mask h M).j},false,false):=by
  unfold layNew;unfold SetTable.orStandIn
  simp_all
 rw[l]at g;exact⟨_,_,l,d,rfl,rfl,rfl,by rw[iT t.place b,f],c,g,T.dm⟩
def Zw(T:Bl t (E.toList.map (·.1)))(H:0 < E.size)(hb:E.size < 4050) :
  ∃y z,relayAll t E (SetTable.grown E.size)=(y,z,false)/\Bl z (y.toList.map (·.1))/\z.led=t.led/\z.plain=t.plain/\z.place.size*5<z.mask*3/\y.size=E.size/\y.toList.Perm E.toList:=by
 have d:SetTable.grown E.size=E.size*4:=by unfold SetTable.grown;rw[a0m (by lia)]
 obtain⟨a,e,f,o,p⟩:=jB (E.size*4) (by lia);have s:8<=2^a:=by
  have:2^3<=2^a:=Nat.pow_le_pow_right (by decide) f;simpa using this
 obtain⟨g,O,A,L,i,u,j,B,v⟩:=uD (mask:=2^a-1) (k:=a) (finger:=t.finger) (moves:=t.movedTo (2^a-1)) (led:=t.led) (plain:=t.plain) (hashes:=E.map (·.1)) (by lia) (by lia) (by rw[size_map];lia);have h:t.relaid (E.map (·.1)) (E.size*4)=some (g,O):=by
  unfold SetTable.relaid;rw[e];exact A
 rw[size_map]at i j;have w:=relayAll_perm t E (SetTable.grown E.size);have q:(O.filterMap (E[·]?)).toList.map (·.1)=O.toList.filterMap ((E.map (·.1))[·]?):=by
  rw[Array.toList_filterMap,List.map_filterMap];simp
 have l:Bl g ((O.filterMap (E[·]?)).toList.map (·.1)):=by rw[q];exact L
 have b:coversAll O E.size=true:=by
  unfold coversAll;exact List.isPerm_iff.mpr i
 have r:(O.filterMap (E[·]?)).size=E.size:=by
  have m:=l.len;rw[j,fI,BA]at m;exact m.symm
 have c:=l.fits (n:=(O.filterMap (E[·]?)).size) (by rw[fI,BA]);have x:relayAll t E (SetTable.grown E.size)=(O.filterMap (E[·]?),g,false):=by
  unfold relayAll;rw[d,h];dsimp only;rw[b,c];rfl
 grind
section
open PyProof.Rows W
noncomputable def Dr(e:Int×Value):Int:=match e.2 with|.int k _=>k|_=>0
def FO(prog:Program)(w:World)(h:Heap)(S:Addr)(l:Bool)(a:List Int):Prop:=
 ∃o E b t,AN h S l o E b t/\ElemsOf (intKind prog w) E.toList/\(∀e∈E.toList,∃k T,e.2=.int k T)/\(E.toList.map Dr).Perm a/\a.Nodup
def Od:(intKind prog w).is k (.int a t)=decide (a=k):=rfl
def Zx(X:FO prog w s.heap S led ks)(hn:ks.length < 4000)
  (T:k∈ks->∀m,Q false {s with toks:=m}) (L:k∉ks->∀h' m u,FO prog w h' S led u->u.Perm (k::ks)->(∀c ob,c≠S->s.heap.get? c=some ob->h'.get? c=some ob)->Q true {s with heap:=h',toks:=m}) :
  wpAny (model prog w) A (setAdd S (.int k tk)) Q E s:=by
 obtain⟨o,es,ep,t,U,F,M,pm,nd⟩:=X;have b:(intKind prog w).is k (.int k tk)=true:=by rw[Od];simp
 have V1:es.size<4000:=by
  have:=pm.length_eq;rw[fI,BA]at this;lia
 have hb:es.size<scanBound:=by show es.size<4096;lia
 unfold setAdd;refine AS (dV ((intKind prog w).pyHash b ?_));unfold setAddHashed setAddHashedIn;have D1:AN ({s with toks:=s.toks+1}:Shared).heap S led o es ep t:=U;refine AS (dV (D1.state ?_));dsimp only;rw[byScan_of rfl hb F];simp only[↓reduceIte];unfold setAddByScan;refine dV ?_;refine dV (Cf ?_);refine dV (wpAny_setScan_of b D1.ob D1.dt D1.fits F ?_);have v:∀e∈es.toList,(intKind prog w).is k e.2=true↔Dr e=k:=λe i=>by
  obtain⟨k',t',N⟩:=M e i;rw[N,Od,Dx];unfold Dr;rw[N]
 cases π:List.findIdx? (λe=>(intKind prog w).is k e.2) es.toList with
 | some j=>
   dsimp only;obtain⟨hj,G,_⟩:=List.findIdx?_eq_some_iff_getElem.mp π;refine gX (gX (T ?_ _));rw[← pm.mem_iff,oT];exact⟨_,Dh hj,(v _ (Dh hj)).mp G⟩
 | none=>
   dsimp only;have H:k∉ks:=λW=>by
    obtain⟨e,i,Y⟩:=oT.mp (pm.mem_iff.mpr W);have:=List.findIdx?_eq_none_iff.mp π e i;rw[(v e i).mpr Y]at this;cases this
   have P:=U.ful;have σ:=U.tk.m7;obtain⟨a,d,e1,R,l1,p1,m1,s1,n1,n,d1⟩:=Zv U.tk (by lia) ((intKind prog w).hash k) (.int k tk);rw[e1];dsimp only;have p:d.plain=true:=p1.trans U.pl;have x:ElemsOf (intKind prog w) a.toList:=(F.push b rfl).perm n;have y:∀e∈a.toList,∃k tk,e.2=.int k tk:=λe i=>by
    rcases sU.mp (n.mem_iff.mp i)with h|h;exact M e h;rw[Aa]at h;subst h;exact⟨k,tk,rfl⟩
   have z:(a.toList.map Dr).Perm (k::ks):=by
    refine(n.map Dr).trans ?_;rw[Aj];exact(List.perm_append_comm).trans (List.Perm.cons k pm)
   have B:(k::ks).Nodup:=CD.mpr ⟨H,nd⟩;refine dV (gX ?_);rw[p];simp only[↓reduceIte];refine dV ?_;rw[hashByValue_scannable 8 rfl];refine gX ?_;rw[show plainKind (Value.int k tk)=true from rfl];simp only[↓reduceIte,Bool.not_false,Bool.true_and];have C:a.size<=sizeLine:=by rw[Ct];lia
   refine dV (wpAny_storeSet_of (s:={s with toks:=s.toks+1}) U.ob U.dt ?_ C);have I:(s.heap.update S (putSet a d)).get? S=some {o with data:=.set a (ep+1) d}:=by
    have:=CQ (putSet a d) U.ob (by rw[Dz _ _ U.dt];rfl);rw[Dz _ _ U.dt]at this;exact this
   have O:∀(h:Heap) (J:Array (Int×Value)) (l:SetTable) c ob,c≠S->h.get? c=some ob->(h.update S (putSet J l)).get? c=some ob:=λh J l c ob hc e=>by
    rw[(Eb h S (putSet J l)).2 c hc];exact e
   by_cases q:d.tooFull=true
   ·rw[eH q];obtain⟨g,l,f1,T2,l2,p2,u2,n2,r⟩:=Zw R (by lia) (by lia);rw[f1];dsimp only;refine dV (gX ?_);refine dV (wpAny_storeSet_of (s:={s with heap:=s.heap.update S (putSet a d),toks:=s.toks+1}) I rfl ?_ (by rw[n2];exact C));have K:((s.heap.update S (putSet a d)).update S (putSet g l)).get? S=some {o with data:=.set g (ep+1+1) l}:=by
     have:=CQ (putSet g l) I (by rw[Dz _ _ rfl];rfl);rw[Dz _ _ rfl]at this;exact this
    refine gX (gX (L H _ _ (k::ks) ⟨_,g,_,l,⟨K,U.ex,rfl,T2,u2,l2.trans (l1.trans U.ld),p2.trans p⟩,x.perm r,λe i=>y e (r.mem_iff.mp i),(r.map Dr).trans z,B⟩ (.refl _) ?_));exact λc ob hc e=>O _ _ _ c ob hc (O _ _ _ c ob hc e)
   ·rw[a0m q];have hu:d.place.size*5 < d.mask*3:=by
     have f:d.tooFull=false:=by simpa using q
     unfold SetTable.tooFull SetTable.fill at f;simp only[d1,decide_eq_false_iff_not,Nat.not_le]at f;simpa using f
    exact gX (gX (L H _ _ (k::ks) ⟨_,a,_,d,⟨I,U.ex,rfl,R,hu,l1.trans U.ld,p⟩,x,y,z,B⟩ (.refl _) (O _ _ _)))
def FO.stay(X:FO prog w h S l k)(H:h'.get? S=h.get? S):FO prog w h' S l k:=by
 obtain⟨o,e,E,t,U,r⟩:=X;exact⟨o,e,E,t,⟨H.trans U.ob,U.ex,U.dt,U.tk,U.ful,U.ld,U.pl⟩,r⟩
def Zy{B:Array Value}{ks:List Int}(z:ks.length=B.size)(n:∀ (i:Nat) v,B[i]? = some v->∃ k T,ks[i]? = some k/\v=.int k T)(d:S≠I)(hb:ks.length < 4000) :
  Et prog w A S I B.size (λi v=>B[i]?=some v) (λi h=>∃U,FO prog w h S led U/\U.length<=i/\∀x,x∈U↔x∈ks.take i) where
 put:=λi v s Q E C p ⟨U,X,a,f⟩ q=>by
  obtain⟨k,T,r,rfl⟩:=n i v p;have u:ks.take (i+1)=ks.take i++[k]:=by rw[Ed,r];rfl
  refine Zx X (by lia) (λg b=>?_) λg H b j y m l=>?_
  ·refine q _ s.heap b ⟨U,X,by lia,λx=>?_⟩ λc O _ e=>e
   simp_all
  ·refine q _ H b ⟨j,y,by have:=m.length_eq;grind,λx=>?_⟩ l;rw[m.mem_iff,sY,u,sU,Aa,f x];exact or_comm
 stay:=λi h H ⟨U,X,a,f⟩ k=>by
  refine⟨U,X.stay ?_,a,f⟩;obtain⟨o,G,J,t,Y,_⟩:=X;rw[k S o d Y.ob,Y.ob]
noncomputable def one(x:Int):List Int:=[x]
def oR(l:List Int):List Int:=(sT (l.map one)).map (·.headD 0)
def Oe(a b:Int):Az (one a) (one b)=decide (a<b):=by
 show(if a=b then Az [] []else decide (a<b))=_;by_cases h:a=b;rw[eH h,Fp (by lia)];rfl
 simp_all
def Zz(H:n.Nodup)(c:n.Pairwise (· <= ·))(f:∀ x,x∈n↔x∈l):n=oR l:=by
 have e:n.map one=sT (l.map one):=by
  refine Jd ?_ (fL _) λx=>?_
  ·rw[Dq,List.pairwise_map];have d:=Ca.mp H;refine(c.and d).imp λ{a b} h=>?_;rw[Oe,Dx]
   lia
  ·rw[bY,oT,oT]
   simp_all
 unfold oR;rw[← e,map_map];show n=n.map λx=>x;simp
def Of(l:List Int)(x:Int):x∈oR l↔x∈l:=by
 unfold oR;rw[oT];constructor;rintro⟨y,a,rfl⟩;obtain⟨z,b,rfl⟩:=oT.mp ((bY _ _).mp a);exact b;intro h;exact⟨one x,(bY _ _).mpr (oT.mpr ⟨x,h,rfl⟩),rfl⟩
theorem Og:∀ {a:List Value} (N:List Int),a.length=N.length->(∀ (i:Nat) v,a[i]? = some v->∃ k t,N[i]? = some k/\v=.int k t)->IntsAre a N
 |[],[],_,_=>.nil
 |[],_::_,h,_|_::_,[],h,_=>by simp at h
 | v::a,n::N,H,h=>by
   obtain⟨k,t,e,rfl⟩:=h 0 v rfl;simp at e;subst e;exact .cons _ t (Og N (by simp_all) λi v e=>h (i+1) v (by simp_all))
def xN(I:A.handled=none)(X:FO prog w s.heap S (eJ w) Y)(J:Y.length < 64)(K:∀ x,x∈Y↔x∈l)
  (q:∀h' tk D1 T c,s.heap.objs.size<=D1->h'.get? D1=some (seqObj "list" (toArray T) c)->IntsAre T (oR l)->(∀b ob,s.heap.get? b=some ob->h'.get? b=some ob)->Q (.ref D1) {s with heap:=h',toks:=tk}) :
  wpAny (model prog w) A (call (.builtin "sorted") [.ref S]) Q E s:=by
 obtain⟨o,O,ep,t,U,N,L,pm,nd⟩:=X;have M:O.size=Y.length:=by
  have:=pm.length_eq
  simp_all
 have z:O.size<=sizeLine:=by rw[Ct];lia
 have n:=jK (w:=w) (S:=S) (ep:=ep) O;have p:(bN w S ep O).toList.length=O.size:=by have:=n.length_eq;simpa using this
 refine Calls.call_function_entry kind_sorted plain_sorted entry_sorted (args_sorted1 _) ?_;refine dV (m:=checkCount "sorted" 1 1 _) (gX ?_);refine dV (uK (A:=A.in1) I U z λd h f a=>?_);have B:IntsAre ((bN w S ep O).toList.map (·.2)) ((bN w S ep O).toList.map Dr):=by
  refine Og _ (by simp) λi v e=>?_;rw[An]at e;obtain⟨C,F,rfl⟩:=Bg.mp e;obtain⟨k,tk,G⟩:=L C (n.mem_iff.mp (Ao F));refine⟨k,tk,?_,G⟩;rw[An,F];show some (Dr C)=some k;unfold Dr;rw[G]
 have pk:((bN w S ep O).toList.map Dr).Perm Y:=(n.map Dr).trans pm;generalize r:(bN w S ep O).toList.map (·.2)=T at B ⊢;have H:T.length=O.size:=by rw[← r,fI];exact p
 refine dV (wpAny_newList ?_ (by rw[H];exact z));have g:(d.push (seqObj "list" T.toArray 0)).get? d.objs.size=some (seqObj "list" T.toArray 0):=Al _ rfl;have up1:∀b ob,d.get? b=some ob->(d.push (seqObj "list" T.toArray 0)).get? b=some ob:=λb ob e=>Ac _ e;refine dV (AS (Cr slot_list_sort ⟨_,g,rfl⟩ entry_list_sort (list_sort_tree (s:={s with heap:=d.push (seqObj "list" T.toArray 0),toks:=h}) g B (by rw[H];lia) λout u a1 a2 a3=>⟨_,rfl,?_⟩) (args_list_sort _)));refine gX ⟨_,rfl,?_⟩;obtain⟨c,hc⟩:=sortedHeap_at (out:=out) g;have y:u=oR l:=Zz ((a2.trans pk).nodup_iff.mpr nd) a3 λx=>((a2.trans pk).mem_iff).trans (K x);subst y;refine q _ h d.objs.size out.toList c (Aq a) (by rw[Array.toArray_toList];exact hc) a1 λb ob e=>?_;have hb:=f b ob e;have j:b<d.objs.size:=sL hb;exact(sortedHeap_old (Ay j) (by rw[DL];exact lt_succ_of_lt j)).trans (up1 b ob hb)
end
section
open PyProof.Rows Spec
def uL:List V->Hp->VK->Prop:=λv H Q=>∃(p:Addr) (b:Bool) (n:List Int),v=[.ref p]/\cG H p=some (b,n.map V.int)/\n.length<4000/\(oR n).length<64/\∀r,H r=none->Q (.ref r) (gV H r (.lst ((oR n).map V.int)))
theorem pS:∀{v:List Value} {N:List Int},IntsAre v N->bC (N.map V.int) v
 |_,_,.nil=>.nil
 |_,_,.cons n t h=>.cons ⟨t,rfl⟩ (pS h)
def rH(hc:X.calm=true):∀ A s Z H vs Y Q,dX X A Z H s->bC vs Y->uL vs H Q ->
  wpAny (model X.prog X.w) X.A (call (.type "set") Y) (λu s1=>wpAny (model X.prog X.w) X.A (call (.builtin "sorted") [u]) (EP X A Z Q) X.xe s1) X.xe s:=by
 intro A s Z H vs Y Q I G h;obtain⟨p,b,O,rfl,J,hn,K,q⟩:=h;obtain⟨u,rfl,L⟩:=G.one;cases L;obtain⟨its,r,⟨n⟩⟩:=NT I hc J;have d:O.length=its.length:=by simpa using r.length
 have M:∀(i:Nat) v,its.toArray[i]?=some v->∃k tk,O[i]?=some k/\v=.int k tk:=λi v e=>by
  rw[BS]at e;have hi:i<O.length:=by rw[d];exact(hR.mp e).1
  obtain⟨R,m,o⟩:=r.get (i:=i) (x:=.int O[i]) (by rw[An,nL hi];rfl);rw[e]at m;cases m;obtain⟨tk,rfl⟩:=o;exact⟨O[i],tk,nL hi,rfl⟩
 refine NN n (λA' ha N=>Zy (prog:=X.prog) (w:=X.w) (led:=eJ X.w) (ks:=O) (by rw[BU];exact d) M (Ay (EJ _)) hn) (λh' hS F=>?_) λh' tk ⟨Y,t,_,S⟩ f=>?_;refine⟨[],⟨_,#[],0,_,⟨hS,⟨rfl,rfl,rfl⟩,rfl,?_,?_,rfl,rfl⟩,λe y=>by simp at y,λe y=>by simp at y,.refl _,.nil⟩,hC _,λx=>by simp⟩;refine⟨⟨3,rfl⟩,hC _,rfl,λi j a b _ e=>by simp[SetTable.fresh]at e,λi j e=>by simp[SetTable.fresh]at e,rfl,by simp[SetTable.fresh],λi h e=>by simp at e⟩;simp[SetTable.fresh];have z:∀x,x∈Y↔x∈O:=λx=>by grind
 have nd:Y.Nodup:=by obtain⟨_,_,_,_,_,_,_,_,nd⟩:=t;exact nd
 have π:Y.length=(oR O).length:=by
  have n1:(Y.map one).Nodup:=by
   rw[Ca,List.pairwise_map];refine(Ca.mp nd).imp λ{a b} h e=>h ?_;have m:[a]=[b]:=e;simpa using m
  have:=((List.perm_ext_iff_of_nodup n1 (uI (fL (O.map one)))).mpr λx=>by
   rw[bY,oT,oT]
   simp_all).length_eq
  unfold oR;rw[fI]at this ⊢;exact this
 have B:s.heap.objs.size<h'.objs.size:=by obtain⟨_,_,_,_,U,_⟩:=t;exact sL U.ob
 refine xN (s:={s with heap:=h',toks:=tk}) (I.ok.hd hc) t (by lia) z λT C D1 vs c hD E P g=>?_;have l:s.heap.objs.size<=D1:=hQ (Aq B) hD;refine⟨.ref D1,gV H D1 (.lst ((oR O).map V.int)),?_,rfl,q D1 (I.hok.fresh l)⟩;exact I.laid (t':=C) (λb ob e=>g b ob (f b ob e)) l ⟨by rw[fI,Ct];lia,vs,c,pS P,E⟩
end
def kH:FN:=λa=>match a with
 |[d]=>(Dk d).bind λx=>(oQ x.2).bind λn=>if n.length<4000/\(oR n).length<64 then some (.own (.lst ((oR n).map D.int)))else none
 |_=>none
def uM:vW uL kH:=by
 intro H j o Q m v e k;unfold kH at e;split at e
 ·obtain⟨⟨b,l⟩,i,e⟩:=aB e;obtain⟨n,c,e⟩:=aB e;dsimp only at c;split at e
  ·rename_i d;cases e;cases v with
   | cons a t=>
     cases t;obtain⟨p,x,rfl,f,g⟩:=zM a i;rw[rE c]at g;rw[g.ints_inv]at f;refine⟨p,b,n,rfl,f,d.1,d.2,λr h=>?_⟩;exact k _ _ (aN h) ⟨r,rfl,h,_,aH,iR _⟩
  ·cases e
 ·cases e
section
open PyProof.Rows Spec
def Oh:V->List V->Hp->VK->Prop:=λx v H Q=>∃(l:Addr) (a:List Str) (z:Str),x=.ref l/\v=[.str z]/\H l=some (.lst (a.map V.str))/\z∈a/\Q (.int (a.idxOf z:Nat)) H
def ZA:Ek X "list.index" Oh:=by
 intro O s Z H x U v Y Q I A B h;obtain⟨l,N,z,rfl,rfl,C,T,q⟩:=h;cases A;obtain⟨u,rfl,E⟩:=B.one;obtain⟨t,rfl⟩:=E;obtain⟨g,M,n,r,L,e⟩:=I.lstM C;have hj:N.idxOf z<N.length:=List.idxOf_lt_length_iff.mpr T;have c:M.length=N.length:=by
  have:=r.length;simpa using this.symm
 have hb:M.length<2^62:=Cb (by rw[c];simpa using g) (by decide:sizeLine<2^62);have d:∀m (f:m<M.toArray.size),∃(a:m<N.length) (b:Tok),M.toArray[m]=.str N[m] b:=λm f=>by
  have j:m<M.length:=by simpa using f
  have a:m<N.length:=by lia
  obtain⟨u,w,G⟩:=Ob (i:=m) r (by rw[An,nL a];rfl);obtain⟨b,rfl⟩:=G;rw[nL j]at w;exact⟨a,b,by simpa using Ap w⟩
 refine Dy F.slot_list_index ⟨_,e,rfl⟩ F.entry_list_index (F.args_list_index_2 _ _) (MeetsSeq.list_index l M.toArray n (.str z t) (IA z) (λy J=>?_) (N.idxOf z) (by simp;lia) (by lia) ?_ (λm f k=>?_)) ⟨e,?_⟩;obtain⟨K,b,rfl⟩:=qJ r y (by simpa using J);exact eqGives_str K z b t;obtain⟨a,b,o⟩:=d (N.idxOf z) (by simp;lia);rw[o];show(N[N.idxOf z]==z)=true;simp;obtain⟨a,b,o⟩:=d m f;rw[o];show(N[m]==z)=false;have h:=List.not_of_lt_findIdx (p:=(· == z)) (xs:=N) k;simpa using h;exact⟨.int _,H,I.tok _,⟨_,rfl⟩,q⟩
end
def Je:FM:=λd a=>match d,a with
 |.lst l,[.str z]=>(lZ l).bind λb=>if z∈b then some (.lst l,.int (b.idxOf z:Nat))else none
 |_,_=>none
def ZC:FF Oh Je:=by
 intro H d p l v Q m e o r b k;unfold Je at b;split at b
 ·obtain⟨z,h,b⟩:=aB b;split at b
  ·rename_i i;cases b;obtain⟨x,f,g⟩:=o;have c:=g;rw[mK h]at c;have j:=c.strs_inv;subst j;cases r with
   | cons a t=>
     cases t;cases a;have q:=k (.lst (z.map V.str)) (.int (z.idxOf _:Nat)) (by rw[NU f];exact⟨_,f,g⟩) (.int _);rw[NU f]at q;exact⟨p,z,_,rfl,rfl,f,i,q⟩
  ·cases b
 ·cases b
theorem xO{a:List Str}:eD (Je (.lst (a.map D.str)) [.str z]) K=(z∈a/\K (.lst (a.map D.str),.int (a.idxOf z:Nat))):=by
 show eD ((lZ (a.map D.str)).bind _) K=_;rw[jY];show eD (if _ then _ else none) K=_;rw[aP];rfl
def GU(C:MC):Prop:=∀A (K a:kN->List Sl->Prop),(∀r l,K r l->a r l)->C A K->C A a
structure Ds(E:Ex)(X:Cx)(st:Stmt)(m:MS):Prop where
 to:∀Γ,PS X st (FG Γ E m)
 mon:pF m
def eX:pF (RS r):=λ_ _ _ w q=>aS q w
def Oi{D:AG}(h:FG b E (RS r) D a H):Ba b E r D a H:=by
 obtain⟨Z,O,q⟩:=h;obtain⟨o,e,q⟩:=bM.mp q;exact⟨Z,O,o,e,q⟩
def ZE(h:Cy E X s r):GM E X s (RS r):=⟨λa=>Gw (h.to a) λ_ _ _=>Oi,eX⟩
def ZF(h:GS E X s r):Ds E X s (RS r):=⟨λa=>Cd (h.to a) λ_ _ _=>Oi,eX⟩
def ZG(h:Ds E X s m):GM E X [s] m:=⟨λa=>jD (h.to a),h.mon⟩
def Ff(b:MS)(Q:BR->Prop)(o:BR):Prop:=match o with
 |.nx a=>b a Q
 |o=>Q o
def vD(a b:MS):MS:=λZ Q=>a Z (Ff b Q)
def eC(H:pF a)(e:pF b):pF (vD a b):=λZ Q g w q=>H Z _ _ (λo q=>by
 cases o with
 |nx d=>exact e d _ _ w q
 |rt r h | bk h | ct h=>exact w _ q
 |ex c f h=>exact w _ q) q
def Oj{n:List Stmt}(l:Ds E X s a)(e:GM E X n b):GM E X (s::n) (vD a b) where
 to:=λm=>Gw (eF (l.to m) (e.to m)) λD p H ⟨Z,O,q⟩=>⟨Z,O,l.mon Z _ _ (λo q=>by
  cases o with
  |nx d=>exact λi j g h=>⟨d,g,e.mon d _ _ (λo q=>q.after h) q⟩
  |rt r k | bk k | ct k=>exact q
  |ex c f k=>exact q) q⟩
 mon:=eC l.mon e.mon
def Fg(t:DT)(a b:MS):MS:=λZ Q=>RT t Z λx c=>if x=true then a c Q else b c Q
def ZH(hc:GT X c t)(n:GM E X l a)(hb:GM E X k b):Ds E X (.If c l k pos) (Fg t a b) where
 to:=λm=>Cd (JJ (hc.to m) (n.to m) (hb.to m)) λD p H z=>by
  obtain⟨Z,O,q⟩:=z;obtain⟨⟨x,d⟩,h,q⟩:=bM.mp q;refine⟨Z,O,x,d,h,λi f g=>?_⟩;split at q;rename_i e;rw[eH e];exact⟨d,f,n.mon _ _ _ (λo q=>q.after g) q⟩;rename_i e;rw[a0m e];exact⟨d,f,hb.mon _ _ _ (λo q=>q.after g) q⟩
 mon:=λZ Q j w q=>aS q λx q=>by
  dsimp only at q ⊢;split at q;rename_i e;rw[eH e];exact n.mon _ _ _ w q;rename_i e;rw[a0m e];exact hb.mon _ _ _ w q
def uN(i n:Nat)(C:MC)(b:DA):MS:=λZ Q=>eD (b Z) λx=>eD (nF x.2 x.1) λc=>(c.length=n/\dH x.1=true)/\C c λy A=>eD (IE i y (iA x.1 A 0 x.2)) λa=>Q (.nx a)
def ZI(f:dY t s a r)(l:gC t s a r x v)(g:hF Z r H a r s)(m:EU H x v)(k:IE i x a=some b) :
  dY t s b (r.set i (some v))/\hF Z r H b (r.set i (some v)) s:=by
 cases x with
 | val d=>
   have c:(if dZ a i=true then some (a.set i (some ⟨.val,d⟩))else none)=some b:=k;split at c;rename_i h;cases c;exact⟨f.put h l,g.put h .val (.inl rfl)⟩
   simp_all
 | own d=>
   have c:(if dZ a i=true then some (a.set i (some ⟨.own,d⟩))else none)=some b:=k;split at c;rename_i h;cases c;obtain⟨p,rfl,n,o,q⟩:=l;exact⟨f.putOwn h n o q,g.put h .own (.inr ⟨rfl,λp e=>m _ p rfl e⟩)⟩
   simp_all
 |slot j=>cases k
def kI(b:GU C):pF (uN i n C a):=λZ Q d w q=>aS q λx q=>aS q λe q=>⟨q.1,b _ _ _ (λy A q=>aS q λc q=>w _ q) q.2⟩
def Ol(g:GU C)(h:∀ J,PS X O (ER (Ir (CW n C) [] f (BX J e)) (fS i))):Ds E X O (uN i n C e) where
 to:=λJ=>Cd (h J) λD M H Z1=>by
  obtain⟨Z,T,q⟩:=Z1;obtain⟨⟨Q,a⟩,j,q⟩:=bM.mp q;obtain⟨Y,k,⟨l,U⟩,q⟩:=bM.mp q;refine⟨Z,T,Q,a,j,λN m b o d p=>?_⟩;show CW n C (N++[]) m _ f;rw[Ci];obtain⟨r,c⟩:=tQ k U b o d p;refine⟨Y,r,l,g _ _ _ (λy L q v s t u=>?_) q⟩;obtain⟨w,x,z,A⟩:=c y L v s t u;obtain⟨B,F,q⟩:=bM.mp q;obtain⟨G,I⟩:=ZI w x z A F;exact q _ _ G I
 mon:=kI g
def kY(a:pF m):GU (GB len m):=λA K d w q=>a _ _ _ (λo q=>by
 cases o with
 |nx Z=>exact w _ _ q
 |rt r Z=>obtain⟨b,e,q⟩:=q;exact⟨b,e,w _ _ q⟩
 |bk Z|ct Z=>exact q
 |ex c f Z=>exact q) q
def ZL{n:List Int}(b:GU C)(c:Kr K=true)(d:HA H)(i:AU K H a (n.map V.int))(h:C [⟨.val,.lst (n.map D.int)⟩] λy _=>y=.val (.bl true)) :
  CW 1 C [.ref a] H (λv _=>v=.bl true) (λ_ _ _=>False):=
 ⟨_,Wj c d i,rfl,b _ _ _ (λy A e v j g f=>by subst e;cases f;rfl) h⟩
def oS(g:DG)(b:MS)(Q:BR->Prop):List D->Sg->Prop
 |[],Z=>Q (.nx Z)
 | d::r,Z=>eD (g d Z) λe=>b e λo=>match o with
   |.nx a|.ct a=>oS g b Q r a
   |.bk a=>Q (.nx a)
   |.rt x a=>Q (.rt x a)
   |.ex c f a=>Q (.ex c f a)
def GV(r:DI)(g:DG)(b:MS):MS:=λZ Q=>eD (r Z) λx=>oS g b (λo=>Q (jA x.2.1 x.2.2 o)) x.1 (lendO x.2.1 x.2.2)
theorem rJ(hb:pF b)(w:∀ o,Q o->i o):∀ (l:List D) (Z:Sg),oS g b Q l Z->oS g b i l Z
 |[],_,h=>w _ h
 | _::r,_,h=>aS h λe j=>hb e _ _ (λo d=>by
   cases o with
   |nx a|ct a=>exact rJ hb w r a d
   |bk a|rt x a=>exact w _ d
   |ex c f a=>exact w _ d) j
def Om(hb:pF b):pF (GV r g b):=λZ Q c w h=>aS h λx a=>rJ hb (λo=>w _) _ _ a
def ZM{D:AG}(Y:zQ own g gd)(hb:pF b)(h:FG Γ E (GV ri gd b) D σV H):DN (Dm Γ ri) g (FG Γ E b) D σV H:=by
 obtain⟨Z,ok,h⟩:=h;obtain⟨⟨O,l,p⟩,σ,h⟩:=bM.mp h;refine⟨Z,ok,O,l,p,σ,λJ R P A G I stay=>?_⟩;dsimp only at h;have C:∀σ' σV' H',qN Γ E Z σV H (jA l p (.nx σ')) D->dY Γ H' σ' σV'->hF (lendO l p) σV R σ' σV' H'->D.nx σV' H':=by
  intro σ' σV' H' k S st';obtain⟨M,N⟩:=jG A S st';exact k σV' H' M (G.trans N)
 refine⟨λi m j F=>m=O.length-i/\i<=O.length/\∃r,oS gd b (λo=>qN Γ E Z σV H (jA l p o) D) (O.drop i) r/\dY Γ F r j/\hF (lendO l p) σV R r j F,⟨O.length,by simp,sS _,lendO l p,by simpa using h,A.lendO,.refl⟩,?_⟩;rintro i m j F ⟨rfl,hi,r,w,π,K⟩;have T:=stay r j F K;by_cases B:i<O.length
 ·have W:O[i]? = some O[i]:=nL B;refine .inr ⟨I.go F i _ T W,λz Q=>∃ m',m' < O.length-i/\m'=O.length-(i+1)/\i+1<=O.length/\∃ t,oS gd b (λo=>qN Γ E Z σV H (jA l p o) D) (O.drop (i+1)) t/\dY Γ Q t z/\hF (lendO l p) σV R t z Q,λσ' H' q=>q,λy Q hy=>?_⟩;obtain⟨X,ry⟩:=I.yld F i _ y Q T W hy;rw[drop_eq_getElem_cons B]at w;obtain⟨t,eg,w⟩:=bM.mp w;refine Y Γ Q _ _ _ r j _ y t _ (π.same X) (K.trans (.same X)) ry eg λz U u _ _=>?_;refine⟨t,U,hb _ _ _ (λob w=>?_) w⟩;cases ob with
  |nx s|ct s=>exact λa L n e=>⟨_,by lia,rfl,B,s,w,n,u.trans e⟩
  |bk s=>exact λa L n e=>C s a L w n (u.trans e)
  | rt x s=>
    intro v a L n V e;obtain⟨M,N⟩:=jG A n (u.trans e);exact w v a L M (MD (u.trans e) V) (G.trans N)
  | ex c f s=>
    intro v d a L n V e;obtain⟨M,N⟩:=jG A n (u.trans e);exact w v d a L M V (G.trans N)
 ·have e0:i=O.length:=by lia
  subst e0;rw[drop_length]at w;exact .inl ⟨I.stop F T,C r j F w π K⟩
def ZN(a:zQ own g G)(hb:pF b)(h:∀c,PS X s (DN (Dm c r) g (FG c E b))):Ds E X s (GV r G b):=
 ⟨λc=>Cd (h c) λ_ _ _=>ZM a hb,Om hb⟩
def ZO(hb:pF b)(I:List D)(P:Nat->Sg->Prop)(x:P 0 Z)
  (v:∀i d Z,I[i]?=some d->P i Z->eD (g d Z) λc=>b c λo=>(∃a,(o=.nx a\/o=.ct a)/\P (i+1) a)) (k:∀t,P I.length t->K (.nx t)):oS g b K I Z:=by
 suffices u:∀(r:List D) (n:Nat) (Z:Sg),I.drop n=r->n<=I.length->P n Z->oS g b K r Z from u I 0 Z (by simp) (sS _) x
 intro r
 induction r with
 | nil=>
   intro n Z e w h;have:n=I.length:=by
    have:=BO List.length e;rw[DH,length_nil]at this;lia
   subst this;exact k Z h
 | cons d r m=>
   intro n Z e w h;have H:I[n]?=some d:=by
    have:=BO (λl=>l[0]?) e;simpa using this
   have f:=(hR.mp H).1;refine aS (v n d Z H h) λc p=>hb c _ _ (λo j=>?_) p;obtain⟨a,j,q⟩:=j;have s:I.drop (n+1)=r:=by
    rw[drop_eq_getElem_cons f]at e;injection e
   rcases j with rfl|rfl<;>exact m (n+1) a s f q
structure HV(z TI1 TO1 i j:Addr)(f g:List Addr):Prop where
 a1:TI1≠z
 a2:TO1≠z
 a3:TI1≠TO1
 a4:i≠z
 a5:j≠z
 a6:TI1≠i
 a7:TI1≠j
 a8:TO1≠i
 a9:TO1≠j
 fz:z∉f
 fo:TO1∉f
 fj:j∉f
 gz:z∉g
 go:TO1∉g
 gi:i∉g
def ZP{Q:Value->Shared->Prop}(D1:HV z TI1 O i j f g)(u:Draws prog w A i f n P S)(B:Draws prog w A j g n R T)(N:k < n)
  (hz:IsZip s.heap z TI1 O .none) (hI:IsPair s.heap TI1 (.ref i) (.ref j)) (hO:IsPair s.heap O a b) (si:S k s.heap) (sj:T k s.heap)
  (q:∀x y h' tk,P k x->R k y->IsZip h' z TI1 O (rawInt s.heap.objs.size)->IsPair h' O x y->S (k+1) h'->T (k+1) h'->IsPair h' s.heap.objs.size x y ->
   (∀c o,c≠z->c≠O->c≠i->c≠j->s.heap.get? c=some o->h'.get? c=some o)->Q (.ref s.heap.objs.size) {s with heap:=h',toks:=tk}) :
  wpAny (model prog w) A (Builtin.«zip.__next__» ⟨[.ref z],[]⟩) (λfin s'=>∃v,fin=.done (.ret v)/\Q v s') E s:=by
 (show wpAny _ _ (field (.ref z) 2 >>= _) _ _ _;refine dV (Bs hz rfl (x:=.bool false) rfl ?_))
 (show wpAny _ _ (field (.ref z) 3 >>= _) _ _ _;refine dV (Bs hz rfl (x:=.ref TI1) rfl ?_);refine dV (Df hI rfl ?_))
 (show wpAny _ _ (ownedTupleIsFree (.ref z) >>= _) _ _ _;refine dV ?_;unfold ownedTupleIsFree;refine dV (Bs hz rfl (x:=.none) rfl (gX ?_)))
 (refine dV (Cf ?_);refine dV (Bs hz rfl (x:=.ref O) rfl ?_);refine dV (wpAny_setField_rec hz (by simp) λh1 I l=>?_))
 replace I:IsZip h1 z TI1 O .ellipsis:=I
 (refine dV ?_;refine dV (dV (wpAny_onRaise ?_)))
 (show wpAny _ _ (nextOf (.ref i) >>= _) _ _ _;refine dV (u.item k _ _ _ N (u.frame _ _ _ si λc hc o e=>(l.2 c λz=>D1.fz (z▸hc)).trans e) λx h2 t2 px s2 m=>gX ?_))
 have π:IsPair h2 O a b:=(m.2 O D1.a8).trans ((l.2 O D1.a2).trans hO)
 (refine dV (Df π rfl ?_);refine dV (wpAny_updateSeq_pair π λU J p=>?_))
 replace J:IsPair U O x b:=J
 (refine dV (wpAny_letGo (gX ?_));refine dV (dV (wpAny_onRaise ?_)))
 have t3:T k U:=B.frame _ _ _ sj λc hc o e=>(p.2 c λz=>D1.go (z▸hc)).trans ((m.2 c λz=>D1.gi (z▸hc)).trans ((l.2 c λz=>D1.gz (z▸hc)).trans e))
 (show wpAny _ _ (nextOf (.ref j) >>= _) _ _ _;refine dV (B.item k _ _ _ N t3 λy h4 t4 py s4 r=>gX ?_))
 have V1:IsPair h4 O x b:=(r.2 O D1.a9).trans J
 (refine dV (Df V1 rfl ?_);refine dV (wpAny_updateSeq_pair V1 λd C t=>?_))
 replace C:IsPair d O x y:=C
 (refine dV (wpAny_letGo (gX (gX ?_)));refine dV (Df C rfl ?_);refine dV (wpAny_newTuple ?_))
 have sz:d.objs.size=s.heap.objs.size:=by rw[t.1,r.1,p.1,m.1,l.1]
 have W:IsZip d z TI1 O .ellipsis:=(t.2 z D1.a2.symm).trans ((r.2 z D1.a5.symm).trans ((p.2 z D1.a2.symm).trans ((m.2 z D1.a4.symm).trans I)));have kp:∀c o,c≠z->c≠O->c≠i->c≠j->s.heap.get? c=some o->d.get? c=some o:=λc o h F K L e=>(t.2 c F).trans ((r.2 c L).trans ((p.2 c F).trans ((m.2 c K).trans ((l.2 c h).trans e))));have s5:S (k+1) d:=u.frame _ _ _ s2 λc hc o e=>(t.2 c λz=>D1.fo (z▸hc)).trans ((r.2 c λz=>D1.fj (z▸hc)).trans ((p.2 c λz=>D1.fo (z▸hc)).trans e));have t5:T (k+1) d:=B.frame _ _ _ s4 λc hc o e=>(t.2 c λz=>D1.go (z▸hc)).trans e;have X:z<d.objs.size:=sL W
 (show wpAny _ _ (ownedTupleHandOut (.ref z) (.ref d.objs.size) >>= _) _ _ _;refine dV ?_;unfold ownedTupleHandOut)
 have z6:IsZip (d.push {cls:=.type "tuple",data:=.seq #[x,y]}) z TI1 O .ellipsis:=Ac _ W;refine dV (wpAny_setField_rec z6 (by simp) λh7 M Y=>?_)
 replace M:IsZip h7 z TI1 O (rawInt d.objs.size):=M
 refine wpAny_setField_rec M (by simp) λG H σ=>?_
 replace H:IsZip G z TI1 O (rawInt d.objs.size):=H
 have up:∀c o,c≠z->d.get? c=some o->G.get? c=some o:=λc o h e=>(σ.2 c h).trans ((Y.2 c h).trans (Ac _ e));have p8:IsPair G d.objs.size x y:=(σ.2 _ (Gg X)).trans ((Y.2 _ (Gg X)).trans (Al _ rfl))
 (refine gX ⟨_,rfl,?_⟩;show Q (.ref d.objs.size) _)
 rw[sz]at H p8 ⊢;exact q x y G t4 px py H (up _ _ D1.a2 C) (u.frame _ _ _ s5 λc hc o e=>up c o (λz=>D1.fz (z▸hc)) e) (B.frame _ _ _ t5 λc hc o e=>up c o (λz=>D1.gz (z▸hc)) e) p8 λc o h F K L e=>up c o h (kp c o h F K L e)
def ZQ(J:HV z T H i j f g)(a:Draws prog w A i f n P S)
  (I:IsZip s.heap z T H .none) (l:IsPair s.heap T (.ref i) (.ref j)) (m:S n s.heap)
  (q:∀h' e,(∀c o,c≠z->c≠i->s.heap.get? c=some o->h'.get? c=some o)->(∃o,h'.get? e=some o/\o.cls=.type "StopIteration")->E (.ref e) {s with heap:=h'}) :
  wpAny (model prog w) A (Builtin.«zip.__next__» ⟨[.ref z],[]⟩) Q E s:=by
 (show wpAny _ _ (field (.ref z) 2 >>= _) _ _ _;refine dV (Bs I rfl (x:=.bool false) rfl ?_))
 (refine dV (Bs I rfl (x:=.ref T) rfl ?_);refine dV (Df l rfl ?_))
 (refine dV ?_;unfold ownedTupleIsFree;refine dV (Bs I rfl (x:=.none) rfl (gX ?_)))
 (refine dV (Cf ?_);refine dV (Bs I rfl (x:=.ref H) rfl ?_);refine dV (wpAny_setField_rec I (by simp) λG p b=>?_))
 (refine dV ?_;refine dV (dV (wpAny_onRaise ?_)))
 (refine dV (a.done _ _ _ (a.frame _ _ _ m λc hc o e=>(b.2 c λz=>J.fz (z▸hc)).trans e) λr e d ⟨t,u,v⟩=>?_))
 have y:IsZip r z T H .ellipsis:=d _ _ J.a4.symm p;have B:e≠z:=λx=>by lia
 exact wpAny_setField_rec y (by simp) λC _ h=>q C e (λc o k F x=>(h.2 c k).trans (d _ _ F ((b.2 c k).trans x))) ⟨t,(h.2 e B).trans u,v⟩
def ZR(U:HV z L J i j f g)(d:Draws prog w A.in1 i f n P S)(e:Draws prog w A.in1 j g n R T)(h:k < n)
  (N:IsZip s.heap z L J .none) (l:IsPair s.heap L (.ref i) (.ref j)) (m:IsPair s.heap J a b) (p:S k s.heap) (r:T k s.heap)
  (q:∀x y h' M,P k x->R k y->IsZip h' z L J (rawInt s.heap.objs.size)->IsPair h' J x y->S (k+1) h'->T (k+1) h'->IsPair h' s.heap.objs.size x y ->
   (∀c o,c≠z->c≠J->c≠i->c≠j->s.heap.get? c=some o->h'.get? c=some o)->Q (some (.ref s.heap.objs.size)) {s with heap:=h',toks:=M}) :
  wpAny (model prog w) A (pyNext (.ref z)) Q E s:=by
 have O:s.TypeIs (.ref z) "zip":=⟨_,N,rfl⟩;exact dV (Fs (wpAny_callSpecial?_slot (name:=ofString "__next__") O F.slot_zip_next (Cr F.slot_zip_next O F.entry_zip_next (ZP U d e h N l m p r λx y h' M t u v B C G H I=>gX (q x y h' M t u v B C G H I)) (F.args_zip_next_1 _))))
def ZS(u:HV z t p i j f g)(a:Draws prog w A.in1 i f n P S)
  (H:IsZip s.heap z t p .none) (d:IsPair s.heap t (.ref i) (.ref j)) (h:S n s.heap)
  (q:∀h',(∀c o,c≠z->c≠i->s.heap.get? c=some o->h'.get? c=some o)->Q none {s with heap:=h'}):wpAny (model prog w) A (pyNext (.ref z)) Q E s:=by
 have r:s.TypeIs (.ref z) "zip":=⟨_,H,rfl⟩
 (refine dV (Fs (wpAny_callSpecial?_slot (name:=ofString "__next__") r F.slot_zip_next (Cr F.slot_zip_next r F.entry_zip_next (ZQ u a H d h λh' e k ⟨o,l,m⟩=>?_) (F.args_zip_next_1 _))));refine dV (wpAny_isInstance (T:="StopIteration") (b:=true) ⟨o,l,m⟩ isSubtype_stop ?_))
 exact gX (q _ k)
noncomputable abbrev GX(b:Bool):String:=if b=true then "list" else "tuple"
noncomputable abbrev Fh(b:Bool):String:=if b=true then "list_iterator" else "tuple_iterator"
abbrev Eu(b:Bool)(l:Addr):Obj:={cls:=.type (Fh b),data:=.fields #[.ref l,.int 0 0]}
def Dd(b:Bool)(h:Heap)(l:Addr)(xs:Array Value):Prop:=if b=true then h.IsList l xs else h.IsTuple l xs
def FP(b:Bool)(h:Heap)(i l:Addr)(k:Nat):Prop:=∃o,h.get? i=some o/\o.cls=.type (Fh b)/\o.data=.fields #[.ref l,.int k 0]
abbrev ZT(a b:Bool)(h:Heap)(l m:Addr):Heap:=((((h.push (Eu a l)).push (Eu b m)).push {cls:=.type "tuple",data:=.seq #[.ref h.objs.size,.ref (h.objs.size+1)]}).push {cls:=.type "tuple",data:=.seq #[.none,.none]}).push
 {cls:=.type "zip",data:=.fields #[.none,.bool false,.bool false,.ref (h.objs.size+2),.ref (h.objs.size+3)]}
def ZU(a c:Bool)(l m:Addr)(xs y:Array Value):Meets (Builtin.«zip.__new__» ⟨[.type "zip",.ref l,.ref m],[]⟩) (λ_ R s=>Dd a s.heap l xs/\Dd c s.heap m y/\R (.ok (.ret (.ref (s.heap.objs.size+4)))) {s with heap:=ZT a c s.heap l m}):=
 .of_wp λp w A R s h=>by
  obtain⟨b,g,d,t,o⟩:=s;obtain⟨e,f,h⟩:=h;have i:=sub_zip;have N:∀{Q:Value->Shared->Prop} {E:Value->Shared->Prop} {A:Around},Q (.ref b.objs.size) ⟨b.push (Eu a l),g,d,t,o⟩->wpAny (model p w) A (pyIter (.ref l)) Q E ⟨b,g,d,t,o⟩:=λq=>by
   cases a;exact Hg (show IsTuple _ l xs from e) q;exact wpAny_pyIter_list (show IsList _ l xs from e) q
  have n:∀{Q:Value->Shared->Prop} {E:Value->Shared->Prop} {A:Around},Q (.ref (b.push (Eu a l)).objs.size) ⟨(b.push (Eu a l)).push (Eu c m),g,d,t,o⟩->wpAny (model p w) A (pyIter (.ref m)) Q E ⟨b.push (Eu a l),g,d,t,o⟩:=λq=>by
   cases c;exact Hg (show IsTuple _ m y from Heap.IsTuple.push f _) q;exact wpAny_pyIter_list (show IsList _ m y from Heap.IsList.push f _) q
  wp_walk using N,n
  refine⟨_,rfl,?_⟩;simp only[Heap.size_push];exact h
def ZV{h:Heap}(f:a.isFreed=false)(g:b.isFreed=false)(i:c.isFreed=false)(j:d.isFreed=false)(k:e.isFreed=false) :
  ∀h',((((h.push a).push b).push c).push d).push e=h'->h'.get? h.objs.size=some a/\h'.get? (h.objs.size+1)=some b/\h'.get? (h.objs.size+2)=some c/\h'.get? (h.objs.size+3)=some d/\h'.get? (h.objs.size+4)=some e/\∀x o,h.get? x=some o->h'.get? x=some o:=by
 intro h' l;have u:∀{c:Addr} {o O:Obj} {h:Heap},h.get? c=some o->(h.push O).get? c=some o:=λe=>Ac _ e;have p:=Al (h.push a) (o:=b) g;have n:=Al ((h.push a).push b) (o:=c) i;have m:=Al (((h.push a).push b).push c) (o:=d) j;have A:=Al ((((h.push a).push b).push c).push d) (o:=e) k;simp only[Heap.size_push]at p n m A;rw[← l];exact⟨u (u (u (u (Al h (o:=a) f)))),u (u (u p)),u (u n),u m,A,λx o q=>u (u (u (u (u q))))⟩
def ZW{s:Shared}(H:Dd a s.heap l xs)(g:Dd c s.heap m y)
  (q:∀h',IsZip h' (s.heap.objs.size+4) (s.heap.objs.size+2) (s.heap.objs.size+3) .none->IsPair h' (s.heap.objs.size+2) (.ref s.heap.objs.size) (.ref (s.heap.objs.size+1))->IsPair h' (s.heap.objs.size+3) .none .none ->
   FP a h' s.heap.objs.size l 0->FP c h' (s.heap.objs.size+1) m 0->(∀x o,s.heap.get? x=some o->h'.get? x=some o)->h'.objs.size=s.heap.objs.size+5->Q (.ref (s.heap.objs.size+4)) {s with heap:=h'}) :
  wpAny (model prog w) A (call (.type "zip") [.ref l,.ref m]) Q E s:=by
 refine callType_new F.called_zip (rfl) (F.typeCall_zip_2 _ _) (F.newCall_zip_2 _ _) (λO=>F.args_object_init_3 O _ _) F.entry_zip_new (ZU a c l m xs y) ⟨H,g,?_⟩;obtain⟨i,j,k,n,f,p⟩:=ZV (h:=s.heap) (a:=Eu a l) (b:=Eu c m) (c:={cls:=.type "tuple",data:=.seq #[.ref s.heap.objs.size,.ref (s.heap.objs.size+1)]}) (d:={cls:=.type "tuple",data:=.seq #[.none,.none]})
  (e:={cls:=.type "zip",data:=.fields #[.none,.bool false,.bool false,.ref (s.heap.objs.size+2),.ref (s.heap.objs.size+3)]}) rfl rfl rfl rfl rfl _ rfl
 exact⟨⟨_,f,rfl⟩,q _ f k n ⟨_,i,rfl,rfl⟩ ⟨_,j,rfl,rfl⟩ p (by simp)⟩
section
open PyProof.Rows
def jL(h:cG H q=some z)(hb:H b=none):q≠b:=λe=>by
 unfold cG at h;simp_all
def KD(a c:Bool)(p q:Addr):It:=
 ⟨λi H=>∃b Y x y,cG H p=some (a,b)/\cG H q=some (c,Y)/\b.length=Y.length/\b[i]?=some x/\Y[i]?=some y,
  λi H v h=>∃T x y,v=.ref T/\H T=none/\h=gV H T (.tup [x,y])/\(∀b,cG H p=some (a,b)->b[i]?=some x)/\∀Y,cG H q=some (c,Y)->Y[i]?=some y,
  λi H=>∃b Y,cG H p=some (a,b)/\cG H q=some (c,Y)/\b.length=i/\Y.length=i⟩
def Oo(a c:Bool)(z t T i j p q:Addr)(k:Nat)(h:Heap):Prop:=IsZip h z t T .none/\IsPair h t (.ref i) (.ref j)/\(∃a b,IsPair h T a b)/\FP a h i p k/\FP c h j q k
def Oq{s:Shared}{z TI O i j p q:Addr}(st:Oo d c z TI O i j p q k s.heap)(G:Dd d s.heap p xs)(H:Dd c s.heap q ys)(I:TI≠O)(v:i≠j)(J:p≠O)(K:q≠O):HV z TI O i j [i,p] [j,q]:=by
 obtain⟨l,w,⟨a,b,x⟩,⟨X,f,m,Y⟩,σ,g,n,e5⟩:=st;obtain⟨o6,y,L⟩:∃o,s.heap.get? p=some o/\o.cls=.type (GX d):=by cases d<;>exact G.imp λ_ q=>⟨q.1,q.2.1⟩
 obtain⟨o7,A,M⟩:∃o,s.heap.get? q=some o/\o.cls=.type (GX c):=by cases c<;>exact H.imp λ_ q=>⟨q.1,q.2.1⟩
 have N:type (Fh d)≠type "zip":=by cases d<;>decide
 have B:type (Fh d)≠type "tuple":=by cases d<;>decide
 have r:type (GX d)≠type "zip":=by cases d<;>decide
 have t:type (GX c)≠type "zip":=by cases c<;>decide
 have u:type (Fh c)≠type "zip":=by cases c<;>decide
 have h:type (Fh c)≠type "tuple":=by cases c<;>decide
 have π:type (Fh d)≠type (GX c):=by cases d<;>cases c<;>decide
 have P:type (Fh c)≠type (GX d):=by cases d<;>cases c<;>decide
 have C:i≠z:=λe=>by rw[e,l]at f;cases f;exact N m.symm
 have D1:j≠z:=λe=>by rw[e,l]at g;cases g;exact u n.symm
 have Q:TI≠i:=λe=>by rw[← e,w]at f;cases f;exact B m.symm
 have R:TI≠j:=λe=>by rw[← e,w]at g;cases g;exact h n.symm
 have E:O≠i:=λe=>by rw[← e,x]at f;cases f;exact B m.symm
 have F:O≠j:=λe=>by rw[← e,x]at g;cases g;exact h n.symm
 have pz:p≠z:=λe=>by rw[e,l]at y;cases y;exact r L.symm
 have S:q≠z:=λe=>by rw[e,l]at A;cases A;exact t M.symm
 have T:p≠j:=λe=>by lia
 have U:q≠i:=λe=>by lia
 have V:TI≠z:=λe=>by lia
 have W:O≠z:=λe=>by lia
 refine⟨V,W,I,C,D1,Q,R,E,F,?_,?_,?_,?_,?_,?_⟩;simp[C.symm,pz.symm];simp[E,J.symm];simp[v.symm,T.symm];simp[D1.symm,S.symm];simp[F,K.symm];simp[v,U.symm]
def GY{Z:St}(I:dX X p Z H s)(e:cG H q=some (c,y)):∃a:List Value,bC y a/\Dd c s.heap q a.toArray:=by
 cases c;obtain⟨a,b,d,_⟩:=I.tuple (cX e);exact⟨a,b,d⟩;obtain⟨a,b,d,_⟩:=I.list (dE e);exact⟨a,b,d.isList⟩
def KG(b:A.handled=none)(d l:Addr)(a:l≠d)(I:Array Value) :
  Draws prog w A d [d,l] I.size (λi v=>I[i]?=some v) (λi h=>FP c h d l i/\Dd c h l I):=by
 cases c;exact Draws.tup b d l a I;exact Draws.list b d l a I
def Jf(x:FP c h i l k)(w:∀o,h.get? i=some o->h'.get? i=some o):FP c h' i l k:=x.imp λo q=>⟨w o q.1,q.2⟩
def ZX(c:IsPair h T u v)(a:cC x u)(b:cC y v):cH P w (gV H T (.tup [x,y])) h T (.tup [x,y]):=
 ⟨by show 2<=sizeLine;decide,[u,v],.cons a (.cons b .nil),⟨_,c,rfl,_,rfl⟩,⟨_,c,rfl⟩⟩
def ZY{K:W.Frag}(p q z TI TO i j:Addr)(S:TI≠TO)(d2:i≠j) :
  BV P w K (.Tuple C k pos) (KD B c p q) [z,TI,TO,i,j] z (Oo B c z TI TO i j p q) where
 mem:=by simp
 obj:=λn h st b hb=>by
  obtain⟨N,F,⟨a,a',T⟩,⟨o4,U,c4,e4⟩,o5,V,c5,e5⟩:=st;simp only[mem_cons,not_mem_nil,or_false]at hb;rcases hb with rfl|rfl|rfl|rfl|rfl;exact⟨_,N,λv e=>by cases e⟩;exact⟨_,F,λv e=>by cases e⟩;exact⟨_,T,λv e=>by cases e⟩;exact⟨_,U,λv e=>by rw[e4]at e;cases e⟩;exact⟨_,V,λv e=>by rw[e5]at e;cases e⟩
 keep:=λn h h' st kp=>by
  obtain⟨N,F,⟨a,a',T⟩,U,V⟩:=st;exact⟨kp z (by simp) _ N,kp TI (by simp) _ F,⟨a,a',kp TO (by simp) _ T⟩,Jf U λo e=>kp i (by simp) o e,Jf V λo e=>kp j (by simp) o e⟩
 item:=by
  intro X Y σ hK hc n pins s Z H E I g st hg;subst Y σ hK;obtain⟨xs,ys,x,y,m,r,hl,π,hy⟩:=hg;obtain⟨O,Q,t1⟩:=GY I m;obtain⟨d,t,t2⟩:=GY I r;obtain⟨u,hu,ru⟩:=Q.get π;obtain⟨v,hv,rv'⟩:=t.get hy;have f:Dd B s.heap p O.toArray:=t1;have l:Dd c s.heap q d.toArray:=t2;obtain⟨G,J,⟨a,b,z3⟩,R,z5⟩:=id st;have L:H TO=none:=(g TO (by simp)).1;have hi:H i=none:=(g i (by simp)).1;have hj:H j=none:=(g j (by simp)).1;have D1:=Oq st f l S d2 (jL m L) (jL r L);have el:O.toArray.size=d.toArray.size:=by rw[BU,BU,← Q.length,← t.length];exact hl
  have hlt:n<O.toArray.size:=by
   have:=(hR.mp hu).1;simpa using this
  have dj:=KG (c:=c) (prog:=X.prog) (w:=X.w) (A:=X.A.in1) (I.ok.hd hc) j q (jL r hj) d.toArray;rw[← el]at dj;refine ZR D1 (KG (c:=B) (A:=X.A.in1) (I.ok.hd hc) i p (jL m hi) O.toArray) dj hlt G J z3 ⟨R,f⟩ ⟨z5,l⟩ λx1 y1 N tk px py g1 g2 g3 g4 g5 g6=>?_;obtain rfl:x1=u:=by
   rw[BS,hu]at px;exact(Ap px).symm
  obtain rfl:y1=v:=by
   rw[BS,hv]at py;exact(Ap py).symm
  refine⟨_,rfl,wpAny_letOwnedTupleGo_zip g1 λF k1 M=>?_⟩;have nz:s.heap.objs.size≠z:=λe=>absurd (sL G) (by rw[← e];exact Bt _);have ha:H s.heap.objs.size=none:=I.hok.fresh (hC _);have kk:∀c o,c≠z->c≠TO->c≠i->c≠j->s.heap.get? c=some o->F.get? c=some o:=λc o c1 c2 c3 c4 e=>(M.2 c c1).trans (g6 c o c1 c2 c3 c4 e);refine⟨.ref s.heap.objs.size,gV H s.heap.objs.size (.tup [x,y]),?_,rfl,⟨_,x,y,rfl,ha,rfl,λzs e=>by rw[m]at e;cases e;exact π,λzs e=>by rw[r]at e;cases e;exact hy⟩,⟨k1,kk TI _ D1.a1 S D1.a6 D1.a7 J,⟨_,_,(M.2 TO D1.a2).trans g2⟩,Jf g3.1 λo e=>(M.2 i D1.a4).trans e,Jf g4.1 λo e=>(M.2 j D1.a5).trans e⟩,λb hb=>?_⟩;exact I.spun (ch:=[z,TI,TO,i,j]) (t':=tk) g (λb o hb e=>kk b o (λz=>hb (by simp[z])) (λz=>hb (by simp[z])) (λz=>hb (by simp[z])) (λz=>hb (by simp[z])) e) (hC _) (ZX ((M.2 _ nz).trans g5) ru rv');rw[aF (λe=>?_)];exact(g b hb).1;obtain⟨o,ho⟩:∃o,s.heap.get? b=some o:=by
   simp only[mem_cons,not_mem_nil,or_false]at hb;rcases hb with rfl|rfl|rfl|rfl|rfl;exact⟨_,G⟩;exact⟨_,J⟩;exact⟨_,z3⟩;exact R.imp λ_ q=>q.1;exact z5.imp λ_ q=>q.1
  exact absurd (sL ho) (by rw[e];exact Bt _)
 done:=by
  intro X Y σ hK hc n pins s Z H E I g st hg;subst Y σ hK;obtain⟨xs,ys,m,r,π,hy⟩:=hg;obtain⟨O,Q,t1⟩:=GY I m;obtain⟨d,t,t2⟩:=GY I r;have f:Dd B s.heap p O.toArray:=t1;have l:Dd c s.heap q d.toArray:=t2;have L:H TO=none:=(g TO (by simp)).1;have hi:H i=none:=(g i (by simp)).1;obtain⟨G,J,⟨a,b,z3⟩,R,z5⟩:=id st;have hl:O.toArray.size=n:=by rw[BU,← Q.length];exact π
  refine ZS (Oq st f l S d2 (jL m L) (jL r L)) (KG (c:=B) (A:=X.A.in1) (I.ok.hd hc) i p (jL m hi) O.toArray) G J ⟨by rw[hl];exact R,f⟩ λh' kp=>⟨rfl,I.spun0 (ch:=[z,TI,TO,i,j]) (t':=s.toks) g λb o hb e=>kp b o (λz=>hb (by simp[z])) (λz=>hb (by simp[z])) e⟩
 self:=λ_ _ _ _ _ st h=>wpAny_pyIter_zip st.1 h
def Ot(d:TA):TI:=λZ H R=>d Z H λv b=>∃a c p q x y,v=[.ref p,.ref q]/\cG b p=some (a,x)/\cG b q=some (c,y)/\x.length=y.length/\R (KD a c p q) b
def ZZ(o:Gl X "zip")(r:X.mg "zip"=none)(j:bootBuiltins "zip"=some (.type "zip"))(Y:PA X [a,b] m)
  (U:starEach [a,b] X.env=(false,eval a X.env)::starEach [b] X.env:=by rfl) (l:(backTo pos (starEach [b] X.env)).any (·.1)=false:=by rfl):PI X (.Tuple d k f) (.Call (.Name "zip" p) [a,b] [] pos) (Ot m):=by
 intro Q s Z H R I h;refine Call_ (iD I o r j (Fu (thn (Y pos Q s Z H _ I h) λus O Z0=>?_) U l));obtain⟨vs,t,g,w,x⟩:=Z0;obtain⟨M,c,p,q,xs,ys,rfl,y,z,N,k⟩:=x;obtain⟨u,v,rfl,A,B⟩:=w.two;cases A;cases B;obtain⟨T,_,C⟩:=GY g y;obtain⟨D1,_,E⟩:=GY g z;have i:∀c,c∈[O.heap.objs.size+4,O.heap.objs.size+2,O.heap.objs.size+3,O.heap.objs.size,O.heap.objs.size+1]->O.heap.objs.size<=c:=λc hc=>by grind
 refine ZW C E λh' n F G J K L _=>wpAny_pyIter_zip n ?_;exact⟨_,[O.heap.objs.size+4,O.heap.objs.size+2,O.heap.objs.size+3,O.heap.objs.size,O.heap.objs.size+1],_,_,t,rfl,g.kept (t':=O.toks) L,ZY p q (O.heap.objs.size+4) (O.heap.objs.size+2) (O.heap.objs.size+3) O.heap.objs.size (O.heap.objs.size+1) (λe=>absurd (Nat.add_left_cancel e) (by decide)) (λe=>absurd e.symm (Nat.succ_ne_self _)),⟨n,F,⟨_,_,G⟩,J,K⟩,λc hc=>g.fpOk (i c hc) (g.hok.fresh (i c hc)),k⟩
end
def CM:List D->List D->List D
 |x::a,y::Y=>.tup [x,y]::CM a Y
 |_,_=>[]
theorem rK:∀ {l m:List D} {i:Nat} {d:D},(CM l m)[i]? = some d->∃ x y,l[i]? = some x/\m[i]? = some y/\d=.tup [x,y]
 |[],_,_,_,h|_::_,[],_,_,h=>by simp[CM]at h
 |x::l,y::m,0,d,h=>by simp[CM]at h;exact⟨x,y,rfl,rfl,h.symm⟩
 | x::l,y::m,i+1,d,h=>by
   obtain⟨a,b,e,f,c⟩:=rK (l:=l) (m:=m) (i:=i) (d:=d) (by simpa[CM]using h);exact⟨a,b,by simp_all,by simp_all,c⟩
theorem jM:∀{l m:List D},l.length=m.length->(CM l m).length=l.length
 |[],_,_=>rfl
 |_::_,[],h=>by simp at h
 |_::l,_::m,h=>by simp[CM];exact jM (by simp_all)
def c6(j:l.length=m.length):IG (KD a c p q) (CM l m) (λH=>(cG H p=some (a,xs)/\Rps H l xs)/\cG H q=some (c,ys)/\Rps H m ys) where
 go:=λH i d ⟨⟨g,b⟩,h,f⟩ e=>by
  obtain⟨x,y,k,n,_⟩:=rK e;obtain⟨u,o,_⟩:=b.get k;obtain⟨v,r,_⟩:=f.get n;exact⟨xs,ys,u,v,g,h,by rw[← b.length,← f.length];exact j,o,r⟩
 yld:=λH i d v L ⟨⟨g,b⟩,h,f⟩ e ⟨T,x,y,s,G,t,z,A⟩=>by
  obtain⟨E,F,k,n,rfl⟩:=rK e;obtain⟨u,o,B⟩:=b.get k;obtain⟨w,r,C⟩:=f.get n;have J:=z xs g;rw[o]at J;cases J;have I:=A ys h;rw[r]at I;cases I;subst s t;exact⟨aN G,.tup aH (.cons (B.mono (Bb.same (aN G))) (.cons (C.mono (Bb.same (aN G))) .nil))⟩
 stop:=λH ⟨⟨g,b⟩,h,f⟩=>⟨xs,ys,g,h,by rw[jM j,b.length],by rw[jM j,j,f.length]⟩
noncomputable abbrev c7(x:kN):Option Nat:=match x with|.slot i=>some i|_=>none
def Jg(Z:Sg)(r:List kN):Option (List D×Option Nat):=match r with
 |[.val x,y]=>(Dk x).bind λl=>(rd Z y).bind λd=>(Dk d).bind λm=>if l.2.length=m.2.length then some (CM l.2 m.2,c7 y)else none
 |_=>none
def c8(h:Rp H d v)(e:Dk d=some l):∃p xs,v=.ref p/\cG H p=some (l.1,xs)/\Rps H l.2 xs/\∀a,Bb H a->cG a p=some (l.1,xs):=by
 cases h with
 |tup h r=>cases e;exact⟨_,_,rfl,bL h,r,λa x=>bL (x.tup _ _ h)⟩
 |lst h r=>cases e;exact⟨_,_,rfl,mE h,r,λa x=>mE (x.frz _ _ _ h)⟩
 |non|bl|int|str|dic=>cases e
def GZ(a:DA):DI:=λZ=>(a Z).bind λx=>(Jg x.2 x.1).bind λl=>some (l.1,l.2,x.2)
def c9(h:Dk d=some m):nD d=some m.2:=by
 cases d<;>first|(cases h;rfl)|cases h
def d3(h:∀ Γ,PI X Y e (Ot (BX Γ s))):GI X Y e (GZ s):=.mk λΓ=>IH (h Γ) λU H R Z1=>by
 obtain⟨Z,ok,O,l,B,e,k⟩:=Z1;obtain⟨⟨x,j⟩,C,e⟩:=aB e;obtain⟨its,c,e⟩:=aB e;cases e;refine⟨Z,ok,x,j,C,λvs D f E n K=>?_⟩;unfold Jg at c;split at c
 ·rename_i L y F;obtain⟨l,G,c⟩:=aB c;obtain⟨d,u,c⟩:=aB c;obtain⟨m,v,c⟩:=aB c;split at c
  ·rename_i w;cases c;subst F;cases E with
   | cons a t _=>cases t with
     | cons b t _=>
       cases t;obtain⟨p,xs,rfl,I,z,o⟩:=c8 a G;have Q:=b.vw f u;obtain⟨q,ys,rfl,A,T⟩:=zM Q v;have M:=nE f b u (c9 v) Q q m.1 ys rfl A T;refine⟨l.1,m.1,p,q,xs,ys,rfl,I,A,by rw[← z.length,← T.length];exact w,k _ D _ f n (c6 (xs:=xs) (ys:=ys) w) λr g J i=>?_⟩;have N:=i.ext (Γ:=Γ) f.lendO;exact⟨⟨o _ N,z.mono N⟩,M r g J i⟩
  simp_all
 simp_all
theorem d6{b:Sg}:RI (GZ d) (c::b) K=RA d (c::b) λr a=>eD (Jg a r) λl=>K l.1 l.2 a:=by
 unfold RI RA GZ;simp only[aK,aV]
theorem rL:eD (Jg Z [.val (.tup l),.val (.tup m)]) K=(l.length=m.length/\K (CM l m,none)):=by
 show eD (if l.length=m.length then some (CM l m,none)else none) K=_;rw[aP];rfl
section
open Sem(wp)
section
variable {κ:Type}[DecidableEq κ]
end
section
variable {κ:Type}[DecidableEq κ]
end
section
variable {κ:Type}[DecidableEq κ]
end
end
section
open PyProof.Rows Spec
def Ou:R2:=λx y H Q=>∃a v,x=.ref a/\IB H a y (some v)/\Q v H
def d7(b:X.A.units+1<cLine)(c:PE X o a)(H:PE X i ty)(h:IC i):PE X (.Subscript o i pos) (Ei Ou a ty):=Uk b c H h
def d8{k:κ}[DecidableEq κ](h:k∉l.map Prod.fst):zH l k v=l++[(k,v)]:=by
 unfold zH
 grind
section
variable {κ:Type}[DecidableEq κ]
end
abbrev Q8:=Tk×Value×Value
def Ov:List V->Hp->VK->Prop:=λv H Q=>∃p q a Y,v=[.ref p,.ref q]/\cG H p=some (true,a)/\cG H q=some (true,Y) /\
 ∀r (T:List Addr) h,lG H h->H r=none->h r=some (.tup (T.map V.ref))->T.length=min a.length Y.length->(∀(j:Nat) t,T[j]?=some t->∃x y,a[j]?=some x/\Y[j]?=some y/\h t=some (.tup [x,y]))->Q (.ref r) h
def d9(hc:X.calm=true):∀ pins s Z H vs us Q,dX X pins Z H s->bC vs us->Ov vs H Q ->
  wpAny (model X.prog X.w) X.A (call (.type "zip") us) (λu s1=>wpAny (model X.prog X.w) X.A (call (.type "tuple") [u]) (EP X pins Z Q) X.xe s1) X.xe s:=by
 intro pins s Z H vs us Q I rv h;obtain⟨p,q,xs,ys,rfl,hp,hq,q⟩:=h;obtain⟨u,v,rfl,D1,P⟩:=rv.two;cases D1;cases P;obtain⟨O,r1,R,z1⟩:=I.list (dE hp);obtain⟨w,r2,S,z2⟩:=I.list (dE hq);have cU8:=r1.length;have len2:=r2.length;have E:s.heap.IsList p O.toArray:=R.isList;have F:s.heap.IsList _ w.toArray:=S.isList;refine call_zip_2 E F λU hz W Y σ hi2 hsz hk=>?_;have hn:min O.toArray.size w.toArray.size<=sizeLine:=by simp only[size_toArray];lia
 refine vS (h0:=s.heap) (s:={s with heap:=U}) (I.ok.hd hc) E F hn hz W Y σ hi2 hsz hk λh' tk A hK G=>?_;have hacc':A.size=min O.length w.length:=by simpa using G
 let ts:List Addr:=(range A.size).map λj=>match (A[j]?:Option Value)with|some (Value.ref T)=>T|_=>(0:Nat)
 have J:ts.length=min xs.length ys.length:=by simp only[ts,length_map,length_range];lia
 have f:∀j,j<A.size->∃T x y,ts[j]?=some T/\A[j]?=some (.ref T)/\O[j]?=some x/\w[j]?=some y/\IsPair h' T x y/\s.heap.objs.size+6<=T:=λj hj=>by
  obtain⟨T,x,y,k,N,π,g4,g5⟩:=hK.got j (by simp only[size_toArray];lia);refine⟨T,x,y,?_,k,by simpa using N,by simpa using π,g4,g5⟩;simp only[ts];rw[An,List.getElem?_range hj,map_some,k]
 let ps:List (Addr×List V):=(range A.size).map λj=>(ts[j]?.getD 0,[xs[j]?.getD .non,ys[j]?.getD .non])
 have I1:dX X pins Z H {s with heap:=h',toks:=tk}:=I.kept hK.keep;have K:∀pr∈ps,∃j T x y u v,j<A.size/\pr=(T,[x,y])/\ts[j]?=some T/\xs[j]?=some x/\ys[j]?=some y/\O[j]?=some u/\w[j]?=some v/\cC x u/\cC y v/\IsPair h' T u v/\s.heap.objs.size+6<=T:=λpr c=>by
  obtain⟨j,hj,rfl⟩:=oT.mp c;have a:=Cc.mp hj;obtain⟨T,u,v,z,k,N,π,g4,g5⟩:=f j a;have B:xs[j]?=some xs[j]:=nL (by lia);have C:ys[j]?=some ys[j]:=nL (by lia);obtain⟨u',gu,D1⟩:=r1.get B;obtain⟨v',gv,m⟩:=r2.get C;rw[N]at gu;cases gu;rw[π]at gv;cases gv;exact⟨j,T,xs[j],ys[j],_,_,a,by rw[z,B,C];rfl,z,B,C,N,π,D1,m,g4,g5⟩
 have hnd:(ps.map (·.1)).Nodup:=by
  have:ps.map (·.1)=(range A.size).map λj=>ts[j]?.getD 0:=by simp only[ps,map_map];rfl
  rw[this];refine List.pairwise_map.mpr ?_;refine imp_of_mem ?_ List.nodup_range;intro i j hi hj hne e;have L:=Cc.mp hi;have a:=Cc.mp hj;obtain⟨T,_,_,z,k,_⟩:=f i L;obtain⟨T',_,_,g0',g1',_⟩:=f j a;rw[z,g0']at e;have e':T=T':=e;subst e';have U:A.toList[i]?=A.toList[j]?:=by rw[Bh,Bh,k,g1']
  exact hne ((List.getElem?_inj (by rw[BA];exact L) hK.nd).mp U)
 obtain⟨H',I2,d,hat,hoth⟩:=dX.adoptAll ps I1 (λpr c=>by
   obtain⟨j,T,x,y,u,v,_,rfl,_,_,_,_,_,_,_,hT,hge⟩:=K pr c;exact I.stray (by unfold Addr at *;lia) (I.hok.fresh (by unfold Addr at *;lia))) hnd (λpr c=>by
   obtain⟨j,T,x,y,u,v,_,rfl,_,_,_,_,_,D1,m,hT,hge⟩:=K pr c;exact⟨by show 2<=sizeLine;decide,[u,v],.cons D1 (.cons m .nil),⟨_,hT,rfl,_,rfl⟩,⟨_,hT,rfl⟩⟩)
 have g:H' h'.objs.size=none:=I2.hok.fresh (hC _);have tv:bC (ts.map V.ref) A.toList:=by
  have ea:A.toList=ts.map Value.ref:=by
   apply EK;intro j;by_cases hj:j<A.size;obtain⟨T,x,y,z,k,_⟩:=f j hj;rw[Bh,k,An,z];rfl;rw[EG.mpr (by rw[BA];exact DK hj),EG.mpr (by simp only[ts,length_map,length_range];lia)]
  rw[ea];generalize ts=l
  induction l with
  |nil=>exact .nil
  |cons t r ih=>exact .cons rfl ih
 refine⟨.ref h'.objs.size,gV H' h'.objs.size (.tup (ts.map V.ref)),I2.laid (t':=tk) (λb o e=>Ac _ e) (hC _) ⟨by rw[fI,J];lia,A.toList,tv,⟨_,Al _ rfl,rfl,0,by show Data.seq A 0=Data.seq A.toList.toArray 0;rw[Array.toArray_toList]⟩,⟨_,Al _ rfl,rfl⟩⟩,rfl,?_⟩;refine q _ ts _ (d.trans (aN g)) ?_ aH J λj t hj=>?_
 ·cases e:H h'.objs.size with
  |none=>rfl
  |some o=>rw[d _ _ e]at g;cases g
 ·have a:j < A.size:=by
   have:=(hR.mp hj).1;simp only[ts,length_map,length_range]at this;exact this
  have M:(ts[j]?.getD 0,[xs[j]?.getD .non,ys[j]?.getD .non])∈ps:=oT.mpr ⟨j,Cc.mpr a,rfl⟩;have B:xs[j]?=some xs[j]:=nL (by lia);have C:ys[j]?=some ys[j]:=nL (by lia);have:=hat _ M;rw[hj,B,C]at this;have n:H' t=some (.tup [xs[j],ys[j]]):=this;exact⟨xs[j],ys[j],B,C,aN g _ _ n⟩
end
def f6:vW Ov GQ:=by
 intro H I vs Q res U e k;unfold GQ at e;split at e;cases e;obtain⟨J,K,rfl,n,o⟩:=Kl U;obtain⟨L,T,rfl,p,h⟩:=cY n;obtain⟨M,Y,rfl,s,i⟩:=cY o;refine⟨_,_,T,Y,rfl,p,s,λr ts O l N c t y=>k _ O l (.tup c ?_)⟩;have x:Bb H O:=.same l;refine Nq ?_ λj d v f m=>?_;unfold GP;rw[fI,length_zip,fI,t,h.length,i.length];rw[An]at m;obtain⟨q,z,rfl⟩:=Bg.mp m;obtain⟨u,w,A,B,C⟩:=y j q z;unfold GP at f;rw[An]at f;obtain⟨⟨π,P⟩,D,rfl⟩:=Bg.mp f;obtain⟨E,F⟩:=List.getElem?_zip_eq_some.mp D;obtain⟨R,a,G⟩:=h.get E;obtain⟨S,b,g⟩:=i.get F;rw[A]at a;cases a;rw[B]at b;cases b;exact .tup C (.cons (G.mono x) (.cons (g.mono x) .nil));cases e
section
open PyProof.Rows Spec
theorem g0{h:Heap}(a:h.Ns L m)(b:h.Ns L M):m=M:=by
 obtain⟨o,E,l,e,f,_,g⟩:=a;obtain⟨O,c,d,i,j,_,k⟩:=b
 grind
def dX.frNews{Z:St}(I:dX X k Z H s)(a:Fr X.base X.env.locals s.heap m)(F:Fr X.base X.env.locals h' m)(N:News X.base X.env.locals h' (jC X.base s.heap X.env.locals)):dX X k Z H {s with heap:=h',toks:=t}:=by
 have l:∀ b o,b≠X.env.locals->s.heap.get? b=some o->h'.get? b=some o:=λb o j e=>by
  cases q:X.base.get? b with
  | some u=>
    have:=a.keep b u q;rw[e]at this;cases this;exact F.keep b _ q
  |none=>exact(N (b,o) (mP j q e)).1
 have f:∀ b o,s.heap.get? b=some o->∃ O,h'.get? b=some O:=λb o e=>by
  by_cases j:b=X.env.locals
  ·obtain⟨O,_,_,g,_⟩:=F.ns
   simp_all
  ·exact⟨o,l b o j e⟩
 refine I.step (g':=s.gens) (d':=s.drawn) (ch:=[]) (λ_ z=>nomatch z) (λb o j _ _ e _=>l b o j e) (λb o j _ _ e _=>⟨o.slots,l b o j e⟩) (λ_ _ _ _ n=>n) (λb o _ e=>f b o e) (λ_ _ e=>e) (λ_ _ _ e=>e) (λb r e=>⟨#[],by simp_all⟩) (λM h=>by rw[g0 h a.ns];exact F.ns) (λb u e=>?_) I.bare;have d:∀c v,H c=some v->c≠X.env.locals:=λc v q z=>by rw[z,I.free]at q;lia
 refine(I.hok b u e).stay (λc v hc q=>l c v ?_ q) (λ_ q=>q) λ_ _ q=>q;rcases hc with z|z;rw[z];exact d b u e;exact d c _ z
def g7(l:List Nat)(i:Nat):Prop:=i<l.length/\∀j,j<l.length->l.getD i 0<=l.getD j 0/\(j<i->l.getD i 0<l.getD j 0)
def Ox:V->Hp->VK->Prop:=λx H Q=>∃(p:Addr) (A:List Addr) (l:List Nat),x=.ref p/\cG H p=some (true,A.map V.ref)/\A.length=l.length/\l≠[]/\(∀(i:Nat) a n,A[i]?=some a->l[i]?=some n->∃y,cG H a=some (true,y)/\y.length=n)/\∀i a,g7 l i->A[i]?=some a->Q (.ref a) H
def g8{Z:St}(hc:X.calm=true)(I:dX X O Z H s)(r:cC x u)(h:Ox x H Q) :
  wpAny (model X.prog X.w) X.A (call (.builtin "min") [u] [(ofString "key",.builtin "len")]) (EP X O Z Q) X.xe s:=by
 obtain⟨p,A,ls,rfl,n,E,t,hn,q⟩:=h;cases r;obtain⟨its,G,pl,σ⟩:=I.list (dE n);obtain⟨m,F⟩:=I.fr;have N:=QF (g:=X.base) (h:=s.heap) (L:=X.env.locals);have J:∀{a:Addr} {b:Bool} {xs:List V},cG H a=some (b,xs)->a≠X.env.locals:=λ{a b xs} e z=>by
  subst z;unfold cG at e;rw[I.free]at e;cases e
 have kp:∀ h,Fr X.base X.env.locals h m->News X.base X.env.locals h (jC X.base s.heap X.env.locals)->∀ b o,b≠X.env.locals->s.heap.get? b=some o->h.get? b=some o:=λh c d b o hb e=>by
  cases z:X.base.get? b with
  | some w=>
    have:=F.keep b w z;rw[e]at this;cases this;exact c.keep b _ z
  |none=>exact(d (b,o) (mP hb z e)).1
 have R:its.length=A.length:=by rw[← G.length,fI]
 have k:∀(i:Nat) v,its[i]?=some v->∃a,A[i]?=some a/\v=.ref a:=λi v e=>by
  have hi:i<A.length:=by rw[← R];exact(hR.mp e).1
  have f:A[i]?=some A[i]:=nL hi;obtain⟨u,K,S⟩:=G.get (i:=i) (x:=.ref A[i]) (by rw[An,f];rfl);rw[e]at K;cases K;cases S;exact⟨_,f,rfl⟩
 have lp:0<ls.length:=List.length_pos_iff.mpr t;refine kmb_min (λi=>((ls.getD i 0:Nat):Int)) (I.ok.hd hc) F N (λh c d=>pl.isList.at λo e=>kp h c d p o (J n) e) (by lia) (λi v y h tk own c d=>?_) λi v h' T y hb c d=>?_
 ·obtain⟨a,f,rfl⟩:=k i v y;have hi:i<ls.length:=by rw[← E];exact(hR.mp f).1
  have M:ls[i]?=some ls[i]:=nL hi;obtain⟨ys,π,U⟩:=hn i a _ f M;obtain⟨P,B,C,W⟩:=I.list (dE π);have D1:News X.base X.env.locals h (jC X.base s.heap X.env.locals):=λp n=>d p (Ge _ n);have l:=B.length;have Y:=lD;refine Calls.call_len_list (s:={s with heap:=h,toks:=tk}) (C.isList.at λo e=>kp h c D1 a o (J π) e) (by simp only[size_toArray]<;>lia) ⟨h,_,tk+1,rfl,?_,c,d⟩;rw[BU,← l,U,CC,M];rfl
 ·obtain⟨a,f,rfl⟩:=k i v y;refine⟨.ref a,H,I.frNews F c d,rfl,q i a ⟨by rw[← E];exact(hR.mp f).1,λj hj=>?_⟩ f⟩
  grind
def Oy:List V->Hp->VK->Prop:=λv H Q=>∃x,v=[x]/\Ox x H Q
def g9(hc:X.calm=true)(l:Gl X x)(m:X.mg x=none)(n:bootBuiltins x=some (.builtin "min"))(b:Gl X y)(c:X.mg y=none)(d:bootBuiltins y=some (.builtin "len"))(B:PA X [e] t)
  (A:x≠"__name__":=by decide) (f:(x==("__debug__":Str))=false:=by decide) (g:y≠"__name__":=by decide) (a:(y==("__debug__":Str))=false:=by decide) (o:backTo pos (starEach [e] X.env)=(false,eval e X.env)::backTo pos (starEach [] X.env):=by rfl) (q:(backTo pos (starEach [e] X.env)).any (·.1)=false:=by rfl) :
  PE X (.Call (.Name x p) [e] [⟨some (ofString "key"),.Name y k,kp⟩] pos) (Gs Oy t):=by
 intro z s Z H Q I h;refine ED (iD I l m n (callWith_kw ?_ o q rfl rfl) A f);refine thn (B pos z s Z H _ I h) λU E ⟨C,w,j,r,i⟩=>kws_cons (iD j b c d (kws_nil ?_) g a);obtain⟨x,rfl,i⟩:=i;obtain⟨u,rfl,v⟩:=oG r;exact g8 hc j v i
end
noncomputable def mB:D->Nat->List D->Option D
 |d,_,[]=>some d
 |d,n,.lst l::r=>if l.length<n then mB (.lst l) l.length r else mB d n r
 |_,_,_=>none
def Ha:FN:=λa=>match a with
 |[.lst (.lst l::r)]=>(mB (.lst l) l.length r).map .val
 |_=>none
theorem Oz:∀ {r:List D} {pre:List D} {i:Nat} {d v:D} {n:Nat},mB d n r=some v->(∀ x∈pre,∃ l,x=.lst l)->(∃ l,d=.lst l/\l.length=n)->pre[i]? = some d->(∀ j l,pre[j]? = some (.lst l)->n<=l.length/\(j < i->n < l.length)) ->
  ∃(k:Nat) (m:List D),(pre++r)[k]?=some v/\v=.lst m/\(∀x∈pre++r,∃l,x=.lst l)/\∀j l,(pre++r)[j]?=some (.lst l)->m.length<=l.length/\(j<k->m.length<l.length)
 | [],pre,i,d,v,n,e,p,⟨l,y,B⟩,H,w=>by
   cases e;subst y B;exact⟨i,l,by rw[Ci];exact H,rfl,by rw[Ci];exact p,by rw[Ci];exact w⟩
 | .lst l::r,pre,i,d,v,n,e,p,y,H,w=>by
   unfold mB at e;have s:∀x∈pre++[.lst l],∃l,x=.lst l:=λx u=>by
    rcases sU.mp u with z|z;exact p x z;exact⟨l,Aa.mp z⟩
   have L:=(hR.mp H).1;have split:∀(j:Nat) (m:List D),(pre++[.lst l])[j]?=some (.lst m)->pre[j]?=some (.lst m)\/(j=pre.length/\m=l):=λj m g=>by
    by_cases C:j<pre.length;rw[Bz C]at g;exact .inl g;rw[CP (by lia)]at g;cases q:j-pre.length with
    |zero=>rw[q]at g;cases g;exact .inr ⟨by lia,rfl⟩
    |succ k=>rw[q]at g;simp at g
   have G:∀{i':Nat} {A:D} {o:Nat},mB A o r=some v->(∃l,A=.lst l/\l.length=o)->(pre++[.lst l])[i']?=some A->(∀j m,(pre++[.lst l])[j]?=some (.lst m)->o<=m.length/\(j<i'->o<m.length))->_:=λa b c f=>Oz (pre:=pre++[.lst l]) a s b c f;simp only[append_assoc,List.singleton_append]at G;split at e;rename_i t;refine G (i':=pre.length) e ⟨l,rfl,rfl⟩ (by simp) λj m g=>?_;rcases split j m g with z|⟨rfl,rfl⟩;have:=(w j m z).1;exact⟨by lia,λ_=>by lia⟩;exact⟨hC _,λh=>absurd h (Bt _)⟩;rename_i t;refine G (i':=i) e y (by rw[Bz L];exact H) λj m g=>?_;rcases split j m g with z|⟨rfl,rfl⟩;exact w j m z;exact⟨by lia,λh=>by lia⟩
 |.non::_,_,_,_,_,_,e,_,_,_,_|.bl _::_,_,_,_,_,_,e,_,_,_,_|.int _::_,_,_,_,_,_,e,_,_,_,_|.str _::_,_,_,_,_,_,e,_,_,_,_|.tup _::_,_,_,_,_,_,e,_,_,_,_|.dic _ _::_,_,_,_,_,_,e,_,_,_,_=>by cases e
theorem OA:∀ {l:List D} {xs:List V},Rps H l xs->(∀ x∈l,∃ m,x=.lst m)->∃ (A:List Addr) (L:List Nat),xs=A.map V.ref/\A.length=l.length/\L.length=l.length/\∀ (i:Nat) m,l[i]? = some (.lst m)->∃ a y,A[i]? = some a/\L[i]? = some m.length/\cG H a=some (true,y)/\y.length=m.length/\Rp H (.lst m) (.ref a)
 |_,_,.nil,_=>⟨[],[],rfl,rfl,rfl,λi m h=>by simp at h⟩
 | d::l,_,.cons a t,h=>by
   obtain⟨m,rfl⟩:=h d (by simp);obtain⟨A,L,o,c,e,f⟩:=OA t λx g=>h x (by simp[g]);have j:=a;obtain⟨p,y,rfl,k,n⟩:=cY (.inl a);refine⟨p::A,m.length::L,by simp_all,by simp[c],by simp[e],λi M b=>?_⟩;cases i with
   |zero=>simp at b;subst b;exact⟨p,y,rfl,rfl,k,n.length.symm,j⟩
   |succ i=>exact f i M (by simp_all)
set_option tactic.hygienic true in
def h9:vW Oy Ha:=by
 intro H s vs Q res vw e k;unfold Ha at e;rcases s with _|⟨b,_|_⟩<;>(try exact aG e)<;>rcases b with _|_|_|_|_|b|_<;>(try exact aG e)<;>rcases b with _|⟨b,r⟩<;>(try exact aG e)<;>cases b<;>try exact aG e
 ·rename_i l;obtain⟨v,t,u⟩:=Bg.mp e;cases u;obtain⟨x,rfl,w⟩:=zW vw;obtain⟨p,xs,rfl,y,A⟩:=cY w;obtain⟨i,m,B,rfl,f,C⟩:=Oz (pre:=[.lst l]) (i:=0) t (λx E=>⟨l,Aa.mp E⟩) ⟨l,rfl,rfl⟩ rfl λj m c=>by
   cases j with
   |zero=>cases c;simp
   |succ j=>simp at c
  obtain⟨as,U,rfl,F,q,g⟩:=OA A f;refine⟨_,rfl,p,as,U,rfl,y,by lia,λz=>by rw[z]at q;simp at q,λj a n h R=>?_,λj a G h=>?_⟩
  ·have Y:j<(D.lst l::r).length:=by rw[← F];exact(hR.mp h).1
   obtain⟨O,em⟩:=f _ (Dh Y);obtain⟨I,ys,b,o,J,K,_⟩:=g j O (by rw[nL Y,em])
   simp_all
  ·obtain⟨I,ys,b,o,J,K,L⟩:=g i m B;have hi:i<U.length:=(hR.mp o).1;obtain⟨Y,hb⟩:=G;have d:j<(D.lst l::r).length:=by lia
   obtain⟨O,em⟩:=f _ (Dh d);have c:(D.lst l::r)[j]?=some (.lst O):=by rw[nL d,em]
   obtain⟨a2,M,S,N,_⟩:=g j O c;have gi:U.getD i 0=m.length:=by rw[CC,o];rfl
   have π:U.getD j 0=O.length:=by rw[CC,N];rfl
   have T:=C j O c;have P:=hb i hi;rw[gi,π]at P;have:i=j:=by lia
   subst this;rw[h]at b;cases b;exact k _ _ (.refl _) L
section
open PyProof.Rows Spec
theorem OB:∀ (N:List Int) (n m:Int),(∀ a,a∈n::N->m<=a)->m∈n::N->N.foldl min n=m
 |[],n,m,_,h=>(Aa.mp h).symm
 | a::r,n,m,c,d=>by
   rw[foldl_cons];refine OB r (min n a) m (λb H=>?_) ?_;rcases sY.mp H with rfl|H;exact Int.le_min.mpr ⟨c n (by simp),c a (by simp)⟩;exact c b (by simp[H])
   ·have e:=c n (by simp);have f:=c a (by simp);rcases sY.mp d with rfl|d;rw[Int.min_eq_left f];simp;rcases sY.mp d with rfl|d;rw[Int.min_eq_right e];simp;simp[d]
end
section
open Sem(wp)
section
variable {K:Type}[DecidableEq K]
def i0{B:HeapKind prog w K}(m:B.room A)(c:B.is s.heap k a)(n:s.heap.DictOfH B d xs)(J:xs.length<=sizeLine)
  (L:∀p,atKey xs k=some p->Q p.2 {s with toks:=s.toks+B.draws k})
  (r:atKey xs k=none->∀h',h'.DictOfH B d (xs++[(k,a,v)])->SameBut d s.heap h'->Q v {s with heap:=h',toks:=s.toks+B.draws k}) :
  wpAny (model prog w) A (dictSetDefault d (.ref a) v) Q E s:=by
 obtain⟨o,T,M,g,hc,H,i,h,C⟩:=n;have G:∀{x:K} {b:Addr} (f:Array DictEntry->Array DictEntry),B.is s.heap x b->B.is (s.heap.update d (Obj.mapDictKeys f)) x b:=λf t=>B.keeps t g H (Eb ..);unfold dictSetDefault
 try with_reducible refine AS ?_
 refine dV (B.pyHash m c (dV (wpAny_dictFind_heap (s:={s with toks:=s.toks+B.draws k}) m c g H i h C (λN=>?_) λj p I=>?_)))
 ·have O:k∉xs.map (·.1):=not_mem_keys_of_get N;have q:=r (atKey_none_of_get N);refine dV (Cf (dV (wpAny_updateDictKeys (s:={s with toks:=s.toks+B.draws k}) (hz:=by have:=size_of_entries i;lia) g H (gX (q _ ?_ (Eb ..))))));refine⟨_,_,M+1,CQ _ g (Obj.isFreed_of_dict (Obj.data_mapDictKeys H _)),hc.mapDictKeys _,Obj.data_mapDictKeys H _,by simp[i,entryOfKey],λx l=>?_,?_⟩;rcases sU.mp l with z|z;exact G _ (h x z);cases Aa.mp z;exact G _ c;simp only[List.map_append,map_cons,List.map_nil];exact List.nodup_append.mpr ⟨C,by simp,λx l y u e=>O (by cases Aa.mp u;exact e▸l)⟩
 ·refine dV (wpAny_dictEntries (s:={s with toks:=s.toks+B.draws k}) g H ?_);rw[entry_at i j,I];exact dV (Cf (gX (L p (atKey_of_get C I))))
def i4(q:HeapKind prog w K)(d a:Addr)(H:(d==sysModules)=false)(o:Value) :
  MeetsIn prog w (Builtin.«dict.setdefault» ⟨[.ref d,.ref a,o],[]⟩) (λA R s=>q.room A.in1/\∃k xs,q.is s.heap k a/\s.heap.DictOfH q d xs/\xs.length<=sizeLine /\
   (∀p,atKey xs k=some p->R (.ok (.ret p.2)) {s with toks:=s.toks+q.draws k}) /\
   (atKey xs k=none->∀h',h'.DictOfH q d (xs++[(k,a,o)])->SameBut d s.heap h'->R (.ok (.ret o)) {s with heap:=h',toks:=s.toks+q.draws k})):=
 .of_wp λA R s h=>by
  obtain⟨f,k,xs,b,c,g,i,j⟩:=h;have l:s.TypeIs (.ref d) "dict":=c.typeIs;unfold Builtin.«dict.setdefault» Builtin.Dict.keyAndDefault;refine dV (dV (wpAny_notOrdered_dict l (gX ?_)));show wpAny _ _ (if(d==sysModules)=true then _ else dictSetDefault d (.ref a) o >>= _) _ _ s;rw[H,a0m Ec];exact dV (i0 f b c g (λp e=>gX ⟨_,rfl,i p e⟩) λe h' m n=>gX ⟨_,rfl,j e h' m n⟩)
end
end
section
open PyProof.Rows Spec
def Bf(H:Hp)(a:Addr)(k:List (List Key×V)):Prop:=H a=some (.dT k)\/H a=some (.dK [])/\k=[]
def OC(ok:AD P w H h)(e:Bf H a k):(a==sysModules)=false/\∃xs,KT H k xs/\h.DictOfH (tupleKind (cD P w)) a xs:=by
 rcases e with e|⟨e,rfl⟩;obtain⟨_,l,xs,r,c⟩:=Ug ok e;exact⟨l,xs,r,c⟩;obtain⟨_,l,v,r,c⟩:=Ue ok e;cases r;obtain⟨o,E,m,d,hc,b,j,f,n⟩:=c;have g:E.toList=[]:=DB f.length;exact⟨l,[],.nil,o,E,m,d,hc,b,by rw[g];rfl,λx i=>by simp at i,.nil⟩
def snoc{l:List b}{m:List c}(p:Paired R l m)(h:R x y):Paired R (l++[x]) (m++[y]):=by
 induction p with
 |nil=>exact .cons h .nil
 |cons a _ i=>exact .cons a i
def i5{Z:St}(t:A.units+1 < cLine)(I:dX X M Z H s)(e:Bf H a w)(h:H b=some (.tup (k.map kV)))(l:w.length < sizeLine)(u:cC z r)
  (h1:∀v i N,kP w k=some v->dX X M Z H N->cC v i->Q i N) (x:kP w k=none->∀N,dX X M Z (gV H a (.dT (w++[(k,z)]))) N->Q r N) :
  wpAny (model X.prog X.w) A (call (.builtin "dict.setdefault") [.ref a,.ref b,r]) Q E s:=by
 obtain⟨T,O,L,j⟩:=OC I.hok e;have J:O.length=w.length:=(Paired.length L).symm;refine call_meetsIn F.slot_dict_setdefault j.typeIs F.entry_dict_setdefault (F.args_dict_setdefault_3 _ _ _) (i4 (tupleKind (cD X.prog X.w)) a b T r) ⟨tupleKind_room_in1 t,k,O,tK I.hok h,j,by lia,λp y=>?_,λY h' g U=>?_⟩
 ·have q:=L.val k;rw[y]at q;cases d:kP w k with
  |none=>rw[d]at q;exact nomatch q
  |some v=>rw[d]at q;exact h1 v _ _ d (I.tok _) q
 ·have q:=L.val k;rw[Y]at q;have d:kP w k=none:=by
   cases d:kP w k with
   |none=>rfl
   |some v=>rw[d]at q;exact nomatch q
  refine x d _ ?_;obtain⟨o,es,ep,m,B,C,D1,_,G⟩:=g;have f:KT H (w++[(k,z)]) (O++[(k,b,r)]):=snoc L ⟨rfl,h,u⟩;refine Mq I (by rcases e with e|⟨e,_⟩<;>(rw[e];exact True.intro)) U ⟨o,m⟩ ⟨by simp;exact l,T,_,f.keeps λc ys n=>?_,o,es,ep,m,B,C,D1,G⟩;rw[aF (by rcases e with e|⟨e,_⟩<;>exact Lv n e λz=>nomatch z)];exact n
def KH(d ty e:TE):TE:=λZ H Q=>d Z H λx c=>∃a,x=.ref a/\Gv c a/\ty Z c λy f=>e Z f λz h=>∃g k b,Bf h a g/\y=.ref b/\h b=some (.tup (k.map kV))/\g.length<sizeLine /\
 (∀v,kP g k=some v->Q v h)/\(kP g k=none->Q z (gV h a (.dT (g++[(k,z)]))))
def i6(n:X.A.units+1<cLine)(p:PE X o g)(q:PE X e ty)(r:PE X f i)(m:M2 X o "setdefault" apos e f O):PE X (.Call (.Attribute o "setdefault" apos) [e,f] [] O) (KH g ty i):=by
 intro A s Z H Q I h;refine wpAny_Call_method m.base m.few m.line F.plainAttrs_dict F.slot_dict_setdefault F.type_dict_setdefault (thn (p A s Z H _ I h) λu s1 h=>?_);obtain⟨x,t,j,w,a,ex,d,B⟩:=h;subst ex;obtain rfl:u=Value.ref a:=w;obtain⟨C,D1,_⟩:=Ms j d;refine⟨C,D1,?_⟩;rw[m.trees];refine Calls.callWith_builtin rfl (Calls.evalArgs_plain (Calls.spliced_cons (thn (q A s1 Z t _ j B) λE s2 h=>?_)));obtain⟨y,G,J,K,L⟩:=h;refine Calls.spliced_cons (thn (r A s2 Z G _ J L) λY σ h=>Calls.spliced_nil ?_);obtain⟨z,M,N,l,kvs,k,b,π,P,R,S,T,U⟩:=h;subst P;obtain rfl:E=Value.ref b:=K;exact i5 n N π R S l (λv w' V e c W=>⟨v,M,c,W,T v e⟩) λe V c=>⟨z,_,c,l,U e⟩
end
inductive FQ(Q:Hp->Prop):Hp->Prop
 |done {H:Hp}:Q H->FQ Q H
 |step {H:Hp} {p:Addr} {u:HO}:H p=some u->Fz u->(∀o,FQ Q (gV H p (.frz o u)))->FQ Q H
structure Cn(Γ:Gm)(Z:Sg)(σV:St)(q:Addr):Prop where
 nv:¬zJ Z σV q
 h0:Γ.H₀ q=none
def Cn.step(h:Cn d Z b q)(s:hF Z b H c a f)(e:H q=some o):Cn d c a q/\f q=some o:=
 ⟨⟨λz=>(s.nv q z).elim h.nv λz=>(by lia),h.h0⟩,s.fr q o e λz=>h.nv z.nv⟩
def Fj(H:Hp)(q:Addr):Prop:=H q=none\/∃o,H q=some o/\Fz o
def rM{L:Addr->Prop}(h:∀a,L a->Fj H a)(k:∀a,¬L a->c a=H a):Bb H c:=by
 refine⟨λb d e=>?_,λb O x e=>?_⟩<;>rw[k b λz=>?_]<;>first|exact e|(rcases h b z with s|⟨o,s,f⟩<;>rw[s]at e<;>cases e;exact f)
def dY.hids{L:Addr->Prop}(ok:dY f H Z d)(h:∀ a,L a->Cn f Z d a/\Fj H a)(k:∀ a,¬ L a->g a=H a):dY f g Z d:=
 ⟨λi t e=>by
  obtain⟨v,b,r⟩:=ok.rel i t e;refine⟨v,b,r.mono (rM (λa z=>(h a z).2) k) λp x c m E=>?_⟩;rw[k p λz=>(h p z).1.nv ⟨i,t,e,m,by simp_all⟩];exact E,ok.dis,ok.own,ok.par,
  λa x e n=>by rw[k a λz=>(by have:=(h a z).1.h0;lia)];exact ok.keep a x e n,
  λa e=>by
   by_cases z:L a;exact(h a z).1.h0;rw[k a z]at e;exact ok.dom a e,ok.len⟩
def hF.hids{L:Addr->Prop}(f:hF c b d Z g H)(h:∀ a,L a->(d a=none\/hZ c b a)/\j a≠none)(k:∀ a,¬ L a->j a=H a):hF c b d Z g j:=
 ⟨λa x e n=>by rw[k a λz=>(by rcases(h a z).1 with q | q;(lia);exact n q)];exact f.fr a x e n,
  λa e=>by
   by_cases z:L a
   ·simp_all
   ·rw[k a z]at e;exact f.dom a e,f.mu,f.nv,f.kp,f.fix,f.lt⟩
def KI(z:¬a=q):gV H q o a=H a:=aF z
def dY.hid(ok:dY c H Z b)(h:Cn c Z b q)(s:Fj H q):dY c (gV H q O) Z b:=ok.hids (L:=(· = q)) (λa e=>by simp_all) λa z=>KI z
def hF.hid(g:hF c b d Z f H)(h:d q=none\/hZ c b q):hF c b d Z f (gV H q O):=g.hids (L:=(· = q)) (λa e=>by subst e;exact⟨h,by rw[aH];lia⟩) λa z=>KI z
def Fj.ext(s:Fj H q):Bb H (gV H q o'):=rM (L:=(· = q)) (λa e=>by simp_all) λa z=>KI z
noncomputable abbrev SG:Sl:=⟨.own,.dic [] []⟩
def nU{Z:Sg}(h:(Z.set g (some s))[i]?=some (some t)):(i=g/\t=s)\/(i≠g/\Z[i]?=some (some t)):=by
 rcases aQ h with⟨z,a,_⟩|⟨z,a⟩
 ·simp_all
 simp_all
def hF.wide{p:Nat}(w:hF Z u H x v C)(f:g < Z.length)(t:x.length=Z.length)(k:u[g]? = some (some (.ref p)))(l:v[g]? = some (some (.ref p))):hF (Z.set g (some SG)) u H (x.set g (some SG)) v C:=by
 have U:∀{a},hZ Z u a->hZ (Z.set g (some SG)) u a:=λ{a} B=>by
  obtain⟨i,s,b,d,c⟩:=B;by_cases z:i=g;subst z;exact⟨i,SG,by rw[Bo f],rfl,c⟩;exact⟨i,s,by rw[Ae (oI z)];exact b,d,c⟩
 have j:∀{a},zJ Z u a->zJ (Z.set g (some SG)) u a:=λ{a} B=>by
  obtain⟨i,s,b,d,c⟩:=B;by_cases z:i=g;subst z;exact⟨i,SG,by rw[Bo f],(λz=>nomatch z),c⟩;exact⟨i,s,by rw[Ae (oI z)];exact b,d,c⟩
 have q:hZ (Z.set g (some SG)) u p:=⟨g,SG,by rw[Bo f],rfl,k⟩;refine⟨λa o e n=>w.fr a o e λz=>n (U z),w.dom,λa ⟨i,s,b,d,c⟩=>?_,λa ⟨i,s,b,d,c⟩=>?_,λi s h=>?_,λi s h m=>?_,λi s h m=>?_⟩
 ·rcases nU b with⟨rfl,rfl⟩|⟨z,b⟩
  ·simp_all
  ·exact(w.mu a ⟨i,s,b,d,c⟩).imp U id
 ·rcases nU b with⟨rfl,rfl⟩|⟨z,b⟩;rw[l]at c;cases c;exact .inl q.nv;exact(w.nv a ⟨i,s,b,d,c⟩).imp j id
 ·rcases nU h with⟨rfl,rfl⟩|⟨z,h⟩
  ·simp_all
  ·obtain⟨y,A⟩:=w.kp i s h;exact⟨y,by rw[Ae (oI z)];exact A⟩
 ·rcases nU h with⟨rfl,rfl⟩|⟨z,h⟩;rcases m with m|m<;>cases m;obtain⟨y,A,r⟩:=w.fix i s h m;exact⟨y,by rw[Ae (oI z)];exact A,r⟩
 ·rcases nU h with⟨rfl,rfl⟩|⟨z,h⟩;cases m;obtain⟨y,A,r⟩:=w.lt i s h m;exact⟨y,by rw[Ae (oI z)];exact A,r⟩
def hF.drop(c:hF Z k H (b.set g (some SG)) j p)(q:Z[g]? = some none)(n:∀ s,b[g]? ≠ some (some s)):hF Z k H b j p:=by
 have u:∀{i:Nat} {s:Sl},b[i]?=some (some s)->(b.set g (some SG))[i]?=some (some s):=λ{i s} h=>by
  rw[Ae (λz=>n s (by rw[z];exact h))];exact h
 refine⟨c.fr,c.dom,λa ⟨i,s,e,r⟩=>c.mu a ⟨i,s,u e,r⟩,λa ⟨i,s,e,r⟩=>c.nv a ⟨i,s,u e,r⟩,λi s h=>?_,λi s h m=>?_,λi s h m=>c.lt i s (u h) m⟩
 ·obtain⟨l,f⟩:=c.kp i s h;rcases nU f with⟨rfl,rfl⟩|⟨z,f⟩
  ·simp_all
  simp_all
 ·obtain⟨l,f,r⟩:=c.fix i s h m;rcases nU f with⟨rfl,rfl⟩|⟨z,f⟩
  ·simp_all
  ·exact⟨l,f,r⟩
def dY.forget(ok:dY f H Z d):dY f H (Z.set g none) d:=by
 have u:∀{i:Nat} {s:Sl},(Z.set g none)[i]?=some (some s)->Z[i]?=some (some s):=λ{i s} h=>by
  rcases aQ h with⟨z,a,_⟩|⟨z,a⟩;cases a;exact a
 exact⟨λi s e=>ok.rel i s (u e),λi j s t q n b c=>ok.dis i j s t q n (u b) (u c),λi s q e=>ok.own i s q (u e),λi s q e=>ok.par i s q (u e),ok.keep,ok.dom,by rw[CS];exact ok.len⟩
noncomputable def KJ:D->Option Key
 |.int i=>some (.inl i)
 |.str x=>some (.inr x)
 |_=>none
def gG:List D->Option (List Key)
 |[]=>some []
 |d::r=>(KJ d).bind λk=>(gG r).bind λa=>some (k::a)
def kJ(h:gG l=some c):l=c.map iQ:=by
 induction l generalizing c with
 |nil=>cases h;rfl
 | cons d r i=>
   obtain⟨k,a,h⟩:=aB h;obtain⟨c,b,h⟩:=aB h;cases h;rw[Cj,← i b];cases d<;>cases a<;>rfl
def rO{b:List Key}:Rps H (b.map iQ) xs->xs=b.map kV:=qL λk _ a=>by cases k<;>cases a<;>rfl
abbrev AX:=List (List Key×List D)
noncomputable def vE(k:List Key)(v:D):AX->AX
 |[]=>[(k,[v])]
 |p::r=>if p.1=k then(p.1,p.2++[v])::r else p::vE k v r
inductive Aw(H:Hp)(n:Nat):AX->List (List Key×V)->List Addr->Prop
 |nil:Aw H n [] [] []
 |cons {k:List Key} {vs:List D} {l:Addr} {xs:List V} {acc:AX} {kvs:List (List Key×V)} {ls:List Addr}:H l=some (.lst xs)->Rps H vs xs->xs.length<=n->l∉ls->Aw H n acc kvs ls->Aw H n ((k,vs)::acc) ((k,.ref l)::kvs) (l::ls)
def Aw.keep(h:Aw H n A f L)(x:Bb H g)(k:∀l∈L,∀o,H l=some o->g l=some o):Aw g n A f L:=by
 induction h with
 |nil=>exact .nil
 |cons a b c d _ i=>exact .cons (k _ pL _ a) (b.mono x) c d (i λl e=>k l (Af _ e))
def Aw.up(h:Aw H n A e L):Aw H (n+1) A e L:=by
 induction h with
 |nil=>exact .nil
 |cons a b c d _ i=>exact .cons a b (le_succ_of_le c) d i
def Aw.soft(h:Aw H n A b L):∀l∈L,∃xs,H l=some (.lst xs):=by
 induction h with
 |nil=>simp
 |cons a _ _ _ _ i=>exact List.forall_mem_cons.mpr ⟨⟨_,a⟩,i⟩
def Aw.keys(h:Aw H n A a L):a.map (·.1)=A.map (·.1):=by
 induction h with
 |nil=>rfl
 |cons _ _ _ _ _ i=>rw[Cj,Cj,i]
def Aw.len{H:Hp}{n:Nat}{A:AX}{a:List (List Key×V)}{L:List Addr}(h:Aw H n A a L):a.length=A.length:=by have:=BO List.length h.keys;simp_all
def Aw.app(h:Aw H n E C L):kP C k=some v ->
  ∃l xs,v=.ref l/\l∈L/\H l=some (.lst xs)/\xs.length<=n/\(Rp (gV H l (.lst (xs++[y]))) d y->Bb H (gV H l (.lst (xs++[y])))->Aw (gV H l (.lst (xs++[y]))) (n+1) (vE k d E) C L):=by
 induction h with
 |nil=>intro h;cases h
 | @cons j _ l xs _ _ _ f g m a t i=>
   intro h;by_cases e:j=k;rw[fV e]at h;cases h;refine⟨l,xs,rfl,pL,f,m,λr x=>?_⟩;show Aw _ _ (if j=k then _ else _) _ _;rw[eH e];refine .cons aH ((g.mono x).append (.cons r .nil)) (by simp_all) a (t.up.keep x λb G o q=>?_);rw[aF (show b≠l from λz=>a (by simp_all))];exact q;rw[fW e]at h;obtain⟨p,c,s,u,w,A,B⟩:=i h;refine⟨p,c,s,Af _ u,w,A,λr x=>?_⟩;show Aw _ _ (if j=k then _ else _) _ _;rw[a0m e];exact .cons (by rw[aF (show l≠p from λz=>a (by simp_all))];exact f) (g.mono x) (le_succ_of_le m) a (B r x)
def Aw.more(a:H l=some (.lst []))(g:Aw H n A f L)(h:l∉L):Aw H n (A++[(k,[])]) (f++[(k,.ref l)]) (L++[l]):=by
 induction g with
 |nil=>exact .cons a .nil (sS _) (by simp) .nil
 |cons b c d e _ i=>exact .cons b c d (by intro z;simp_all) (i λz=>h (Af _ z))
theorem uO:∀ {a:AX},k∉a.map (·.1)->vE k d (a++[(k,[])])=vE k d a
 |[],_=>by simp[vE]
 | p::r,h=>by
   have e:¬p.1=k:=λz=>h (by simp[z]);show(if p.1=k then _ else _)=(if p.1=k then _ else _);rw[a0m e,a0m e];exact BO (p :: ·) (uO λz=>h (by simp_all))
theorem OD:∀ {a:List (List Key×V)},kP a k=none->k∉a.map (·.1)
 |[],_=>by simp
 | p::r,h=>by
   by_cases e:p.1=k;rw[fV e]at h;cases h
   ·rw[fW e]at h;intro z;rcases sY.mp z with z|z
    ·simp_all
    ·exact OD h z
theorem OE:∀ {a:List (List Key×V)},kP a k=none->kP (a++[(k,v)]) k=some v
 |[],_=>fV rfl
 | p::r,h=>by
   by_cases e:p.1=k;rw[fV e]at h;cases h;rw[fW e]at h;rw[List.cons_append,fW e];exact OE h
section
open PyProof.Rows Spec
def Jh(H:Hp)(a:Addr)(k:List (List Key×V)):Prop:=Rd H a (.dT k)\/Rd H a (.dK [])/\k=[]
def i7(ok:AD P w H h)(e:Jh H a k):(a==sysModules)=false/\∃xs,KT H k xs/\h.DictOfH (tupleKind (cD P w)) a xs:=by
 rcases e with e|⟨e,rfl⟩;obtain⟨_,l,xs,r,c⟩:=HF ok e;exact⟨l,xs,r,c⟩;obtain⟨_,l,v,r,c⟩:=HE ok e;cases r;obtain⟨o,E,m,d,hc,b,i,f,n⟩:=c;have j:E.toList=[]:=DB f.length;exact⟨l,[],.nil,o,E,m,d,hc,b,by simp_all,λx g=>by simp at g,.nil⟩
def i8{Z:St}(f:A.units+1 < cLine)(I:dX X p Z H s)(e:Jh H a l)(g:H b=some (.tup (k.map kV)))(i:cC z r)(h:∀ c m,dX X p Z H m->cC ((kP l k).getD z) c->Q c m) :
  wpAny (model X.prog X.w) A (call (.builtin "dict.get") [.ref a,.ref b,r]) Q E s:=by
 obtain⟨n,x,j,d⟩:=i7 I.hok e;exact call_meetsIn F.slot_dict_get d.typeIs F.entry_dict_get (F.args_dict_get_3 _ _ _) (meetsH_dict_get_default (tupleKind (cD X.prog X.w)) a b n r) ⟨tupleKind_room_in1 f,k,x,tK I.hok g,d,h _ _ (I.tok _) ((j.val k).getD i)⟩
def i9(d ty e:TE):TE:=λZ H Q=>d Z H λx c=>∃a,x=.ref a/\Gv c a/\ty Z c λy f=>e Z f λz h=>∃g k b,Jh h a g/\y=.ref b/\h b=some (.tup (k.map kV))/\Q ((kP g k).getD z) h
def j0(j:X.A.units+1<cLine)(l:PE X o c)(n:PE X e ty)(p:PE X f g)(m:M2 X o "get" Y e f O):PE X (.Call (.Attribute o "get" Y) [e,f] [] O) (i9 c ty g):=by
 intro A s Z H Q I h;refine wpAny_Call_method m.base m.few m.line F.plainAttrs_dict F.slot_dict_get F.type_dict_get (thn (l A s Z H _ I h) λu s1 h=>?_);obtain⟨x,q,i,r,a,ex,d,t⟩:=h;subst ex;obtain rfl:u=Value.ref a:=r;obtain⟨v,w,_⟩:=Ms i d;refine⟨v,w,?_⟩;rw[m.trees];refine Calls.callWith_builtin rfl (Calls.evalArgs_plain (Calls.spliced_cons (thn (n A s1 Z q _ i t) λB s2 h=>?_)));obtain⟨y,C,D1,E,G⟩:=h;refine Calls.spliced_cons (thn (p A s2 Z C _ D1 G) λT U h=>Calls.spliced_nil ?_);obtain⟨z,J,K,L,kvs,k,b,M,N,π,P⟩:=h;subst N;obtain rfl:B=Value.ref b:=E;exact i8 j K M π L λV W R S=>⟨_,J,R,S,P⟩
end
def xP:List D->List D->List Key->Option (Option D)
 |[],[],_=>some none
 |.tup l::b,v::a,k=>(gG l).bind λj=>if j=k then some (some v)else xP b a k
 |_,_,_=>none
def j5(h:Rps H v (m.map (·.2)))(e:xP (m.map λc=>D.tup (c.1.map iQ)) v k=some r) :
  (r=none/\kP m k=none)\/∃d x,r=some d/\kP m k=some x/\Rp H d x:=by
 induction m generalizing v with
 |nil=>cases h;cases e;exact .inl ⟨rfl,rfl⟩
 | cons p m i=>
   cases h with|cons a t=>
   obtain⟨j,g,e⟩:=aB e;have l:p.1=j:=by
    have:=kJ g;have I:∀{x y:List Key},x.map iQ=y.map iQ->x=y:=λ{x y} h=>by
     refine(List.map_inj_right (f:=iQ) λa b h=>?_).mp h;cases a<;>cases b<;>cases h<;>rfl
    exact I this
   subst l;split at e;rename_i h;cases e;exact .inr ⟨_,_,rfl,fV h,a⟩;rename_i h;rw[fW h];exact i t e
def OF(h:AV H (.dic k e) v):∃ a u w,v=.ref a/\Rd H a u/\Kf u k w/\Rps H e w:=by
 rcases h with h|⟨p,rfl,u,w,b,c,d⟩
 ·cases h with
  |dic b c d=>exact⟨_,_,_,rfl,.inr ⟨_,b⟩,c,d⟩
 ·exact⟨p,u,w,rfl,.inl b,c,d⟩
def j7(h:AV H (.dic e d) v):∃a,v=.ref a/\Gv H a:=by
 obtain⟨a,u,w,rfl,b,c,_⟩:=OF h;refine⟨a,rfl,?_⟩;cases u with
 |dK k=>exact .inl ⟨k,b⟩
 |dT k=>exact .inr (.inl ⟨k,b⟩)
 |dM k=>exact .inr (.inr ⟨k,b⟩)
 |_=>exact c.elim
def OG(h:AV H (.dic l i) v)(e:xP l i k=some r):∃ a g,v=.ref a/\Jh H a g/\((r=none/\kP g k=none)\/∃ d x,r=some d/\kP g k=some x/\Rp H d x):=by
 obtain⟨a,u,w,rfl,f,b,c⟩:=OF h;cases u with
 | dT g=>
   obtain⟨rfl,rfl⟩:=b;exact⟨a,g,rfl,.inl f,j5 c e⟩
 | dK g=>
   obtain⟨rfl,rfl⟩:=b;cases g with
   |nil=>cases c;cases e;exact⟨a,[],rfl,.inr ⟨f,rfl⟩,.inl ⟨rfl,rfl⟩⟩
   | cons p r=>
     obtain⟨j,_⟩:=p;cases c with
     |cons _ _=>cases j<;>cases e
 |dM g=>obtain⟨rfl,rfl⟩:=b;cases i<;>cases e
 |_=>exact b.elim
def OH(h:AV H (.tup l) v)(e:gG l=some k):∃ b,v=.ref b/\H b=some (.tup (k.map kV)):=by
 rcases h with h|⟨p,rfl,h⟩
 ·cases h with
  |tup h r=>rw[kJ e]at r;rw[rO r]at h;simp_all
 ·exact h.elim
noncomputable def KL:D->Bool
 |.dic _ _=>true
 |_=>false
def Ji:D->D->Option (Option D)
 |.dic a v,.tup l=>(gG l).bind λk=>xP a v k
 |_,_=>none
def Hb(a b c:DE):DE:=λZ=>(a Z).bind λx=>(rd x.2 x.1).bind λf=>if KL f=true then(b x.2).bind λy=>(c y.2).bind λz=>(rd z.2 x.1).bind λd=>(rd z.2 y.1).bind λe=>(Ji d e).bind λr=>some ((match r with|some v=>.val v|none=>z.1),z.2)else none
def j8(K:X.A.units+1 < cLine)(L:GE X o E)(M:GE X e F)(N:GE X f G)(m:M2 X o "get" O e f A):GE X (.Call (.Attribute o "get" O) [e,f] [] A) (Hb E F G):=.mk λΓ=>Bq (j0 K (L.to Γ) (M.to Γ) (N.to Γ) m) λσV H Q Z1=>by
 obtain⟨Z,ok,res,σ',c,k⟩:=Z1;obtain⟨⟨x,t⟩,π,c⟩:=aB c;obtain⟨P,R,c⟩:=aB c;split at c
 case isFalse=>cases c
 rename_i hd;obtain⟨⟨y,B⟩,S,c⟩:=aB c;obtain⟨⟨z,D⟩,T,c⟩:=aB c;obtain⟨d,U,c⟩:=aB c;obtain⟨e',V,c⟩:=aB c;obtain⟨r,s,c⟩:=aB c;cases c;refine⟨Z,ok,x,t,π,λv W i I C f1=>?_⟩;have Y:=I.vw i R;obtain⟨a,rfl,ha⟩:∃a,v=.ref a/\Gv W a:=by
  cases P with
  |dic ks vs=>exact j7 Y
  |_=>cases hd
 refine⟨a,rfl,ha,t,i,y,B,S,λw H2 l σ n f2=>⟨B,l,z,D,T,λu J g r3 p f3=>?_⟩⟩;have vx:=((I.step i n).step l p).vw g U;have vy:=(σ.step l p).vw g V;unfold Ji at s;split at s;obtain⟨j,g1,s⟩:=aB s;obtain⟨b,rfl,hb⟩:=OH vy g1;obtain⟨a',kvs,q,hq,h⟩:=OG vx s;cases q;refine⟨kvs,j,b,hq,rfl,hb,?_⟩;have st:=(C.trans n).trans p;rcases h with⟨rfl,h⟩|⟨d,x,rfl,h,rp⟩;rw[h];exact k u J g r3 st (f3.back (C.trans n));rw[h];exact k x J g rp st eU;cases s
def HW:kN->Option (List Key)
 |.val (.tup l)=>gG l
 |_=>none
noncomputable def OI:List D->Option D
 |[v]=>some v
 |_=>none
def FR(row:Nat)(b:DE)(c:DA):List D->AX->Sg->Option (AX×Sg)
 |[],A,Z=>some (A,Z)
 |d::r,A,Z=>(gY row d Z).bind λa=>(b a).bind λx=>(HW x.1).bind λk=>(c x.2).bind λy=>(vals y.1).bind λe=>(OI e).bind λv=>FR row b c r (vE k v A) y.2
def pT(a:AX):D:=.dic (a.map λp=>.tup (p.1.map iQ)) (a.map λp=>.lst p.2)
open Classical in
def FU(g row:Nat)(r:DI)(a:DE)(b:DA):DS:=λZ=>if Z[g]?=some none then(r (Z.set g (some SG))).bind λx=>
 if x.2.1=none/\x.2.2[g]?=some (some SG)/\x.1.length<4000 then(FR row a b x.1 [] (x.2.2.set g none)).bind λy=>some (.rt (.own (pT y.1)) (y.2.set g none))else none else none
def KN(t:TE):TE:=λZ H Q=>t Z H λv a=>FQ (Q v) a
def j9(h:PE X e t):PE X e (KN t):=λp s Z H Q I q=>
 thn (h p s Z H _ I q) λu l z=>by
  obtain⟨v,a,b,d,f⟩:=z;suffices ∀a,FQ (Q v) a->dX X p Z a l->∃v c,dX X p Z c l/\cC v u/\Q v c from this a f b
  intro a q b
  induction q with
  |done q=>exact⟨v,_,b,d,q⟩
  | step g i _ j=>
    obtain⟨o,k⟩:=vX b g i;exact j o k
def k0{L:List Addr}(h:∀l∈L,∃xs,H l=some (.lst xs))(m:L.Nodup)(q:∀j,(∀a,a∉L->j a=H a)->(∀l∈L,∀xs,H l=some (.lst xs)->∃o,j l=some (.frz o (.lst xs)))->Q j):FQ Q H:=by
 induction L generalizing H with
 |nil=>exact .done (q H (λ_ _=>rfl) λl h=>by simp at h)
 | cons l L i=>
   obtain⟨xs,e⟩:=h l pL;obtain⟨N,p⟩:=CD.mp m;have n:∀b∈L,b≠l:=λb g z=>N (z▸g);refine .step e True.intro λo=>i (λb g=>?_) p λj d f=>q j (λa k=>?_) λb g y c=>?_;obtain⟨y,c⟩:=h b (Af _ g);exact⟨y,by rw[aF (n b g)];exact c⟩;rw[d a λz=>k (Af _ z),aF (show a≠l from λz=>k (by rw[z];exact pL))];rcases sY.mp g with rfl|g;rw[e]at c;cases c;exact⟨o,by rw[d b N,aH]⟩;exact f b g y (by rw[aF (n b g)];exact c)
def Aw.nodup(h:Aw H n A a L):L.Nodup:=by
 induction h with
 |nil=>exact .nil
 |cons _ _ _ h _ i=>exact CD.mpr ⟨h,i⟩
def Aw.rps(x:Bb H f)(h:Aw H n A d L)(k:∀l∈L,∀xs,H l=some (.lst xs)->∃o,f l=some (.frz o (.lst xs))):Rps f (A.map λp=>.lst p.2) (d.map (·.2)):=by
 induction h with
 |nil=>exact .nil
 | cons a b _ _ _ i=>
   obtain⟨o,e⟩:=k _ pL _ a;exact .cons (.lst e (b.mono x)) (i λl c=>k l (Af _ c))
theorem k7{Z:Sg}(h:Z[g]?=some x):Z.set g x=Z:=by
 apply EK;intro i;by_cases z:i=g;subst z;rw[h,Bo (hR.mp h).1];rw[Ae (oI z)]
def KO(ok:dY b H Z a)(h:H p=none):¬zJ Z a p:=λz=>by
 obtain⟨o,e,_⟩:=ok.mutObj z;rw[h]at e;cases e
noncomputable def Jj:DE:=λZ=>some (.own (.dic [] []),Z)
def k8:GE X (.Dict [] [] pos) Jj:=.mk λh=>Bq Uq λf H Q z=>by
 obtain⟨Z,O,r,g,e,k⟩:=z;cases e;intro p a;have c:=aN (o:=HO.dK []) a;have b:=O.same c;refine k (.ref p) _ b ⟨p,rfl,⟨_,_,aH,⟨rfl,rfl⟩,.nil⟩,KO O a,O.dom p a⟩ (hF.same c) λd q _ e=>by lia
section
open PyProof.Rows W
structure Cm(M:Model)(A:Around)(s:Shared)(κ:SortKind)(G:Keyed->Prop)(c:Keyed->Keyed->Bool):Prop where
 lt:∀{x y:Keyed} {E:Value->Shared->Prop} {Q:Bool->Shared->Prop},G x->G y->Q (c x y) s->wpAny M A (keyLt' κ x.1 y.1) Q E s
 ir:∀x,c x x=false
 tr:∀{x y z},c x y=true->c y z=true->c x z=true
def HX{e:SortSt}(C:Cm M A s κ G c)(a:kindOf e=κ)(b:G x)(d:G y)(q:Q (some (c x y)) e):wpS M A E s (lt' x y) Q e:=by
 rw[lt'_eq];refine wpS_bind (wpS_get (wpS_bind (wpS_lift (Fs ?_))));rw[a];exact C.lt b d ⟨rfl,wpS_pure q⟩
def bF{b:SortSt}(h:a[i]?=some x)(q:Q x b):wpS M A E s (elem' a i) Q b:=by
 rw[elem'_eq,h];exact wpS_pure q
def kZ{e:SortSt}(C:Cm M A s κ G c)(a:kindOf e=κ)(h:(arrOf e)[i]?=some x)(hj:(arrOf e)[j]?=some y)(b:G x)(d:G y)(q:Q (some (c x y)) e):wpS M A E s (ltAt' i j) Q e:=by
 refine wpS_bind (wpS_get ?_);exact wpS_bind (bF h (wpS_bind (bF hj (HX C a b d q))))
noncomputable def xQ:Bool->Keyed->Array Keyed->Nat->Nat->Nat->StateT SortSt Sem (Option Nat):=sortPriv% PySem.Builtin.gallop
def k9{Y:Bool}{st:SortSt}(C:Cm M A s κ G c)(K:kindOf st=κ)(U:Nat->Bool)
  (hb:∀i,i<n->∃x,z[base+i]?=some x/\G x/\U i=if Y then c x p else !c p x) (L:G p) (F:∀i j,i<=j->j<n->U j=true->U i=true) (B:O<n)
  (q:∀k,k<=n->(∀i,i<k->U i=true)->(∀i,k<=i->i<n->U i=false)->Q (some k) st):wpS M A E s (xQ Y p z base n O) Q st:=by
 have u:∀i j,i<=j->j<n->U i=false->U j=false:=λi j d h b=>by
  cases e:U j with
  |false=>rfl
  |true=>rw[F i j d h e]at b;cases b
 have v:∀(i:Nat) (Q:Option Bool->SortSt->Prop),i<n->Q (some (U i)) st->wpS M A E s (do let x ← elem' z (base+i);if Y then lt' x p else return (← lt' p x).map (!·)) Q st:=λi Q hi q=>by
  obtain⟨x,e,g,I⟩:=hb i hi;refine wpS_bind (bF e ?_);cases Y with
  |true=>exact HX C K g L (by simp only[if_true]at I;rw[← I];exact q)
  |false=>exact wpS_bind (HX C K L g (wpS_pure (by simp at I;rw[I]at q;exact q)))
 refine wpS_bind (v O _ B ?_);dsimp only;cases N:U O
 case' true=>
  rw[eH rfl];refine wpS_bind (wpS_mono (wpS_forRange (λi (r:Option (Option Nat)×Nat×Nat) T=>st=T/\r.1=none/\r.2.1<r.2.2/\i<=r.2.1/\O+r.2.1<n/\U (O+r.2.1)=true)
   (Q:=λr T=>st=T/\r.1=none/\(∀i,i<O+r.2.1+1->U i=true)/\(∀i,O+min r.2.2 (n-O)<=i->i<n->U i=false)/\O+r.2.1+1<=O+min r.2.2 (n-O)/\O+min r.2.2 (n-O)<=n) ?_ ?_ ⟨rfl,rfl,Nat.zero_lt_one,hC _,B,N⟩) ?_)
  ·rintro i ⟨o,l,f⟩ T-hi ⟨rfl,rfl,d,h,b,a⟩;dsimp only at d h b a ⊢;split;refine wpS_pure ⟨rfl,rfl,?_⟩;dsimp only;rw[show O+min f (n-O)=n by lia];exact⟨λi hi=>F i _ (DF hi) b a,λi t w=>absurd t (Nat.not_le.mpr w),b,hC _⟩;refine wpS_bind (v (O+f) _ (by lia) ?_);dsimp only;cases y:U (O+f)<;>refine wpS_pure ⟨rfl,rfl,?_⟩<;>dsimp only;rw[show O+min f (n-O)=O+f by lia];exact⟨λi hi=>F i _ (DF hi) b a,λi t w=>u (O+f) i t w y,Nat.add_lt_add_left d _,by lia⟩;exact⟨by lia,by lia,by lia,y⟩
  ·rintro⟨o,l,f⟩ T ⟨rfl,rfl,d,h,b,a⟩;dsimp only at d h b a;lia
  rintro⟨o,l,f⟩ T ⟨rfl,rfl,d,h,b,a⟩;dsimp only at d h b a ⊢;generalize O+l+1=lo at d b ⊢;generalize O+min f (n-O)=hi at h b a ⊢
 case' false=>
  rw[a0m (by decide)];refine wpS_bind (wpS_mono (wpS_forRange (λi (r:Option (Option Nat)×Nat×Nat) T=>st=T/\r.1=none/\r.2.1<r.2.2/\i<=r.2.1/\r.2.1<=O/\U (O-r.2.1)=false)
   (Q:=λr T=>st=T/\r.1=none/\(∀i,i<O+1-min r.2.2 (O+1)->U i=true)/\(∀i,O-r.2.1<=i->i<n->U i=false)/\O+1-min r.2.2 (O+1)<=O-r.2.1/\O-r.2.1<=n) ?_ ?_ ⟨rfl,rfl,Nat.zero_lt_one,hC _,sS _,N⟩) ?_)
  ·rintro i ⟨o,l,f⟩ T-hi ⟨rfl,rfl,d,h,b,a⟩;dsimp only at d h b a ⊢;split;refine wpS_pure ⟨rfl,rfl,?_⟩;dsimp only;rw[show O+1-min f (O+1)=0 by lia];exact⟨λi hi=>absurd hi (Ef _),λi t w=>u _ i t w a,sS _,Aq (sub_lt_of_lt B)⟩;refine wpS_bind (v (O-f) _ (sub_lt_of_lt B) ?_);dsimp only;cases y:U (O-f)<;>refine wpS_pure ⟨rfl,rfl,?_⟩<;>dsimp only;exact⟨by lia,by lia,by lia,y⟩;rw[show O+1-min f (O+1)=O-f+1 by lia];exact⟨λi hi=>F i (O-f) (DF hi) (sub_lt_of_lt B) y,λi t w=>u _ i t w a,by lia,Aq (sub_lt_of_lt B)⟩
  ·rintro⟨o,l,f⟩ T ⟨rfl,rfl,d,h,b,a⟩;dsimp only at d h b a;lia
  rintro⟨o,l,f⟩ T ⟨rfl,rfl,d,h,b,a⟩;dsimp only at d h b a ⊢;generalize O+1-min f (O+1)=lo at d b ⊢;generalize O-l=hi at h b a ⊢
 all_goals
  refine wpS_bind (wpS_mono (wpS_forRange (λi (r:Option (Option Nat)×Nat×Nat) T=>st=T/\r.1=none/\(∀i,i<r.2.1->U i=true)/\(∀i,r.2.2<=i->i<n->U i=false)/\r.2.1<=r.2.2/\r.2.2<=n/\r.2.2+i<=n+r.2.1)
   (Q:=λr T=>st=T/\r.1=none/\(∀i,i<r.2.1->U i=true)/\(∀i,r.2.2<=i->i<n->U i=false)/\r.2.1=r.2.2/\r.2.2<=n) ?_ ?_ ⟨rfl,rfl,d,h,b,a,by dsimp only;lia⟩) ?_)
  ·rintro i ⟨o,l,f⟩ T-hi ⟨rfl,rfl,d,h,b,a,H⟩;dsimp only at d h b a H ⊢;split;exact wpS_pure ⟨rfl,rfl,d,h,by dsimp only;lia,a⟩;have J:=le_add_right l ((f-l) / 2);have D1:l+(f-l) / 2<f:=by lia
   generalize l+(f-l) / 2=m at J D1 ⊢;refine wpS_bind (v _ _ (Au D1 a) ?_);dsimp only;cases y:U m<;>refine wpS_pure ⟨rfl,rfl,?_⟩<;>dsimp only;exact⟨d,λi t w=>u _ i t w y,J,hQ (Aq D1) a,hQ (Nat.add_lt_add_right D1 i) H⟩;exact⟨λi t=>F i _ (DF t) (Au D1 a) y,h,D1,a,succ_le_succ (hQ H (add_le_add_left J n))⟩
  ·rintro⟨o,l,f⟩ T ⟨rfl,rfl,d,h,b,a,H⟩;exact⟨rfl,rfl,d,h,by dsimp only at b a H ⊢;lia,a⟩
  rintro⟨o,l,f⟩ T ⟨rfl,rfl,d,h,b,a⟩;dsimp only at d h b a ⊢;subst b;exact wpS_pure (q _ a d h)
abbrev Ai(c:Keyed->Keyed->Bool)(l:List Keyed):Prop:=l.Pairwise λx y=>c x y=true
structure Mg(c:Keyed->Keyed->Bool)(la lb out:List Keyed)(i j:Nat):Prop where
 pm:out.Perm (la.take i++lb.take j)
 so:Ai c out
 le:∀o∈out,∀x∈la.drop i++lb.drop j,c o x=true
 hi:i<=la.length
 hj:j<=lb.length
def Rs(c:Keyed->Keyed->Bool)(a L l:List Keyed):Prop:=l.Perm (a++L)/\Ai c l
def Mg.len{c:Keyed->Keyed->Bool}{L:List Keyed}{l:List Keyed}{O:List Keyed}{i:Nat}{j:Nat}(m:Mg c L l O i j):O.length=i+j:=by
 have:=m.pm.length_eq;have:=m.hi;have:=m.hj;simp at *;lia
theorem Mg.symm{c:Keyed->Keyed->Bool}{L:List Keyed}{l:List Keyed}{O:List Keyed}{i:Nat}{j:Nat}(m:Mg c L l O i j):Mg c l L O j i:=
 ⟨m.pm.trans List.perm_append_comm,m.so,λo b x a=>m.le o b x (by simp at a ⊢;exact a.symm),m.hj,m.hi⟩
def Mg.left(m:Mg c l L O i j)(s:Ai c l)(d:i+k<=l.length)(h:∀x∈(l.drop i).take k,∀y∈L.drop j,c x y=true):Mg c l L (O++(l.drop i).take k) (i+k) j:=by
 have n:Ai c ((l.drop i).take k++(l.drop i).drop k):=by rw[take_append_drop];exact s.sublist (List.drop_sublist _ _)
 obtain⟨g,f,e⟩:=List.pairwise_append.mp n;refine⟨?_,List.pairwise_append.mpr ⟨m.so,g,λo a x b=>m.le o a x (sU.mpr (.inl (BF b)))⟩,λo a x b=>?_,d,m.hj⟩;rw[take_add];refine(m.pm.append_right _).trans ?_;rw[append_assoc,append_assoc];exact append_left _ List.perm_append_comm;rw[sU]at b a;rcases a with a|a;refine m.le o a x (sU.mpr (b.imp (λz=>?_) id));rw[← drop_drop]at z;exact mem_of_mem_drop z;rcases b with b|b;exact e o a x (by rw[drop_drop];exact b);exact h o a x b
def Mg.right(m:Mg c L l O i j)(s:Ai c l)(a:j+k<=l.length)(h:∀x∈(l.drop j).take k,∀y∈L.drop i,c x y=true):Mg c L l (O++(l.drop j).take k) i (j+k):=(m.symm.left s a h).symm
def Mg.done(m:Mg c b L O i j)(d:Ai c b)(s:Ai c L)(h:i=b.length\/j=L.length):Rs c b L (O++b.drop i++L.drop j):=by
 rcases h with rfl|rfl;have:=m.right s (k:=L.length-j) (by have:=m.hj;lia) (λx _ y a=>by simp at a);have e:(L.drop j).take (L.length-j)=L.drop j:=Cg (by simp);rw[e]at this;refine⟨?_,?_⟩;have p:=this.pm;rw[Cg (l:=L) (by lia),take_length]at p;simpa using p;simpa using this.so;have:=m.left d (k:=b.length-i) (by have:=m.hi;lia) (λx _ y a=>by simp at a);have e:(b.drop i).take (b.length-i)=b.drop i:=Cg (by simp);rw[e]at this;refine⟨?_,?_⟩;have p:=this.pm;rw[Cg (l:=b) (by lia),take_length]at p;simpa using p;simpa using this.so
def Mg.last(m:Mg c L l O i j)(n:Ai c L)(s:Ai c l)(h:i+1=L.length)(d:∀x∈L.drop i,∀y∈l,c y x=true):Rs c L l (O++l.drop j++L.drop i):=by
 have a:=m.right s (k:=l.length-j) (by have:=m.hj;lia) (λx f y g=>d y g x (mem_of_mem_drop (BF f)));have e:(l.drop j).take (l.length-j)=l.drop j:=Cg (by simp);rw[e]at a;have b:j+(l.length-j)=l.length:=by have:=m.hj;lia
 have:=a.done n s (.inr b);rw[b,drop_length,Ci]at this;exact this
def iK{l:List Keyed}(h:l[i]?=some x):l.drop i=x::l.drop (i+1):=by
 obtain⟨a,rfl⟩:=hR.mp h;exact drop_eq_getElem_cons a
def kK(h:l[i]?=some x)(s:Ai c l):∀y∈l.drop i,y=x\/c x y=true:=by
 have:=s.sublist (List.drop_sublist i l);rw[iK h]at this ⊢;exact λy a=>(sY.mp a).imp id λz=>(Dg.mp this).1 y z
noncomputable def l8:Array Keyed->Array Keyed->StateT SortSt Sem (Array Keyed):=sortPriv% PySem.Builtin.mergeLo
noncomputable def m4:Nat->StateT SortSt Sem Unit:=sortPriv% PySem.Builtin.setMinGallop
structure Ak(st st':SortSt):Prop where
 k:kindOf st'=kindOf st
 a:arrOf st'=arrOf st
 p:pendingOf st'=pendingOf st
 f:failedOf st'=failedOf st
def Ak.rfl'{s:SortSt}:Ak s s:=⟨rfl,rfl,rfl,rfl⟩
theorem Ak.trans{a b d:SortSt}(x:Ak a b)(y:Ak b d):Ak a d:=⟨y.k.trans x.k,y.a.trans x.a,y.p.trans x.p,y.f.trans x.f⟩
def kL{b:SortSt}(q:∀a,Ak b a->Q () a):wpS M A E s (m4 g) Q b:=wpS_modify (q _ ⟨rfl,rfl,rfl,rfl⟩)
theorem Cm.as(C:Cm M A s κ G c)(h:c x y=true):c y x=false:=by
 cases e:c y x with
 |false=>rfl
 |true=>have:=C.tr h e;rw[C.ir]at this;lia
def oU{a:Array Keyed}(h:i<a.size):∃x,a[i]?=some x/\a.toList[i]?=some x/\x∈a.toList:=⟨a[i],by simp,by simp,by simp⟩
def kM{l:List Keyed}(h:x∈(l.drop i).take k):∃j,j<k/\l[i+j]?=some x:=by
 obtain⟨j,H⟩:=getElem?_of_mem h;rw[getElem?_take]at H;split at H;rename_i a;rw[getElem?_drop]at H;exact⟨j,a,H⟩
 lia
def rP{l:List Keyed}(h:x∈l.drop i):∃j,i<=j/\j<l.length/\l[j]?=some x:=by
 obtain⟨j,H⟩:=getElem?_of_mem h;rw[getElem?_drop]at H;exact⟨i+j,by lia,(hR.mp H).1,H⟩
def xR{st:SortSt}(C:Cm M A s κ G c)(w:kindOf st=κ)(z:(a.toList.drop b).take n=L)(hn:L.length=n)(B:∀ x∈L,G x)(D1:G O)(F:Ai c L)
  (hd:∀x∈L,c x O=true\/c O x=true) (H:U<n) (q:∀k,k<=n->(∀x∈L.take k,c x O=true)->(∀x∈L.drop k,c O x=true)->Q (some k) st):wpS M A E s (xQ T O a b n U) Q st:=by
 have I:∀x∈L,(if T=true then c x O else !c O x)=c x O:=λx d=>by
  cases T with
  |true=>rfl
  |false=>rcases hd x d with e|e<;>simp[e,C.as e]
 have f:∀i,i<n->∃x,a[b+i]?=some x/\L[i]?=some x/\x∈L:=λi Y=>by
  obtain⟨x,d⟩:∃x,L[i]?=some x:=⟨L[i],by simp[hn,Y]⟩;refine⟨x,?_,d,Ao d⟩;rw[← z,getElem?_take,eH Y,getElem?_drop]at d;simpa using d
 refine k9 C w (λi=>match L[i]? with|some x=>c x O|none=>false) (λi Y=>?_) D1 (λi j m o g=>?_) H λk m o g=>q k m (λx d=>?_) λx d=>?_
 ·obtain⟨x,u,h,p⟩:=f i Y;exact⟨x,u,B x p,by simp only[h];exact(I x p).symm⟩
 ·obtain⟨x,u,h,p⟩:=f i (by lia);obtain⟨y,P,l,R⟩:=f j o;simp only[h,l]at g ⊢;rcases Nat.eq_or_lt_of_le m with e|e;subst e;rw[h]at l;cases l;exact g;obtain⟨J,K⟩:=hR.mp h;obtain⟨N,π⟩:=hR.mp l;have:=List.pairwise_iff_getElem.mp F i j J N e;rw[K,π]at this;exact C.tr this g
 ·obtain⟨j,r,t⟩:=kM (i:=0) (by rw[drop_zero];exact d);rw[Bj]at t;have:=o j r;simp only[t]at this;exact this
 ·obtain⟨j,r,t,v⟩:=rP d;have:=g j r (by lia);simp only[v]at this;rcases hd x (Ao v)with e|e;rw[e]at this;cases this;exact e
def Jk{v:SortSt}(C:Cm M A s κ G c)(j:kindOf v=κ)(l:∀ x∈a.toList,G x)(m:G d)(z:Ai c a.toList)
  (B:∀x∈a.toList,c x d=true\/c d x=true) (hb:b+n<=a.size) (o:H<n)
  (q:∀k,k<=n->(∀i x,i<k->a.toList[b+i]?=some x->c x d=true)->(∀i x,k<=i->i<n->a.toList[b+i]?=some x->c d x=true)->Q (some k) v):wpS M A E s (xQ L d a b n H) Q v:=by
 have g:∀x∈(a.toList.drop b).take n,x∈a.toList:=λx f=>mem_of_mem_drop (BF f);have y:∀i x,i<n->a.toList[b+i]?=some x->((a.toList.drop b).take n)[i]?=some x:=λi x h e=>by rw[getElem?_take,eH h,getElem?_drop];exact e
 refine xR C j rfl (by simp;lia) (λx f=>l x (g x f)) m (z.sublist ((take_sublist _ _).trans (List.drop_sublist _ _))) (λx f=>B x (g x f)) o λk p r t=>q k p (λi x w f=>r x ?_) λi x w u f=>t x ?_;have:=y i x (by lia) f;exact Ao (i:=i) (by rw[getElem?_take,eH w];exact this);have:=y i x u f;exact Ao (i:=i-k) (by rw[getElem?_drop,show k+(i-k)=i by lia];exact this)
def iV{l:List Keyed}(h:l[i]?=some x):(l.drop i).take 1=[x]:=by rw[iK h];rfl
def fY{a:Array Keyed}:(a.extract i j).toList=(a.toList.drop i).take (j-i):=by simp
def rQ{a:Array Keyed}:(a.extract i a.size).toList=a.toList.drop i:=by
 rw[fY];exact Cg (by simp)
def jN{Q:a->SortSt->Prop}{b:SortSt}[Decidable p](h:wpS M A E s m Q b)(h':wpS M A E s c Q b):wpS M A E s (if p then m else c) Q b:=by
 by_cases e:p
 ·simp_all
 simp_all
def iL{Q:a->SortSt->Prop}{b:SortSt}[Decidable p](h':¬p->wpS M A E s y Q b)(h:p->wpS M A E s x Q b):wpS M A E s (if p then x else y) Q b:=by
 by_cases e:p;rw[eH e];exact h e;rw[a0m e];exact h' e
def dW{i j:Nat}{Q:a->SortSt->Prop}{b:SortSt}(h:i=j->wpS M A E s x Q b)(h':¬i=j->wpS M A E s y Q b):wpS M A E s (if(i==j)=true then x else y) Q b:=iL (λe=>h' λz=>e (DZ.mpr z)) λe=>h (DZ.mp e)
def OJ{a b:Type}{x y:StateT SortSt Sem a}{J:b->StateT SortSt Sem a}{Q:a->SortSt->Prop}{d:SortSt}[Decidable p](u v:b)(e:y=J u)(c:x=J v)(h:∀g,wpS M A E s (J g) Q d):wpS M A E s (if p then x else y) Q d:=iL (λ_=>e▸h u) λ_=>c▸h v
def rR{a b c:Type}{x y:StateT SortSt Sem a}{J:b->c->StateT SortSt Sem a}{Q:a->SortSt->Prop}{d:SortSt}[Decidable p](P:b->c->Prop)(u:b)(v:c)(e:y=J u v)(h:∀u v,P u v->wpS M A E s (J u v) Q d)(n:¬p->P u v)(k:(∀u v,P u v->wpS M A E s (J u v) Q d)->p->wpS M A E s x Q d):wpS M A E s (if p then x else y) Q d:=iL (λz=>e▸h u v (n z)) (k h)
def m8{a b:Type}{x y:StateT SortSt Sem a}{J:b->StateT SortSt Sem a}{Q:a->SortSt->Prop}{c:SortSt}[Decidable p](P:b->SortSt->Prop)(u:b)(e:y=J u)(h:∀v t,P v t->wpS M A E s (J v) Q t)(n:¬p->P u c)(k:(∀v t,P v t->wpS M A E s (J v) Q t)->p->wpS M A E s x Q c):wpS M A E s (if p then x else y) Q c:=iL (λz=>e▸h u c (n z)) (k h)
def OK{f g i j k:Type}{P:f×g×i×j×k->Prop}(h:∀a b c d e,P (a,b,c,d,e))(r:f×g×i×j×k):P r:=h r.1 r.2.1 r.2.2.1 r.2.2.2.1 r.2.2.2.2
def Jl{g i j k l m:Type}{P:g×i×j×k×l×m->Prop}(h:∀a b c d e f,P (a,b,c,d,e,f))(r:g×i×j×k×l×m):P r:=h r.1 r.2.1 r.2.2.1 r.2.2.2.1 r.2.2.2.2.1 r.2.2.2.2.2
def Jm{i j k l m n o:Type}{P:i×j×k×l×m×n×o->Prop}(h:∀a b c d e f g,P (a,b,c,d,e,f,g))(r:i×j×k×l×m×n×o):P r:=h r.1 r.2.1 r.2.2.1 r.2.2.2.1 r.2.2.2.2.1 r.2.2.2.2.2.1 r.2.2.2.2.2.2
def m9{st:SortSt}(C:Cm M A s κ G c)(hk:kindOf st=κ)(ga:∀ x∈a.toList,G x)(gb:∀ x∈b.toList,G x)(sa:Ai c a.toList)(sb:Ai c b.toList)
  (hd:∀x∈a.toList,∀y∈b.toList,c x y=true\/c y x=true) (h1:1<=a.size) (h2:1<=b.size) (hf:∀y∈b.toList.take 1,∀x∈a.toList,c y x=true) (hl:∀x∈a.toList.drop (a.size-1),∀y∈b.toList,c y x=true)
  (q:∀r O,Ak st O->Rs c a.toList b.toList r.toList->Q r O):wpS M A E s (l8 a b) Q st:=by
 have la:a.toList.length=a.size:=rfl;have lb:b.toList.length=b.size:=rfl;obtain⟨b0,hb0,hb1,hb2⟩:=oU (a:=b) (i:=0) h2;have t1:b.toList.take 1=[b0]:=by have:=iV hb1;rwa[drop_zero]at this
 have m0:Mg c a.toList b.toList [b0] 0 1:=by
  have:=(Mg.mk (c:=c) (la:=a.toList) (lb:=b.toList) (out:=[]) (i:=0) (j:=0) (by simp) .nil (λ_ h=>by simp at h) (zero_le _) (zero_le _)).right sb (k:=1) (by lia) (by rw[drop_zero,drop_zero];exact hf);rwa[drop_zero,t1]at this
 have dn:∀{o:Array Keyed} {i j:Nat},Mg c a.toList b.toList o.toList i j->(i=a.size\/j=b.size)->Rs c a.toList b.toList (o++a.extract i a.size++b.extract j b.size).toList:=λ{o i j} m h=>by
  rw[toList_append,toList_append,rQ,rQ];exact m.done sa sb h
 have ls:∀{o:Array Keyed} {i j:Nat},Mg c a.toList b.toList o.toList i j->i+1=a.size->Rs c a.toList b.toList (o++b.extract j b.size++a.extract i a.size).toList:=λ{o i j} m h=>by
  rw[toList_append,toList_append,rQ,rQ];exact m.last sa sb h (by rw[show i=a.size-1 by lia];exact hl)
 have pa:∀{o:Array Keyed} {i j:Nat} {x:Keyed},Mg c a.toList b.toList o.toList i j->a.toList[i]?=some x->(∀y∈b.toList.drop j,c x y=true)->Mg c a.toList b.toList (o.push x).toList (i+1) j:=λ{o i j x} m L h=>by
  have:=m.left sa (k:=1) (hR.mp L).1 (by rw[iV L];intro z D1;cases Aa.mp D1;exact h);rwa[iV L,← DD]at this
 have pb:∀{o:Array Keyed} {i j:Nat} {x:Keyed},Mg c a.toList b.toList o.toList i j->b.toList[j]?=some x->(∀y∈a.toList.drop i,c x y=true)->Mg c a.toList b.toList (o.push x).toList i (j+1):=λ{o i j x} m L h=>by
  have:=m.right sb (k:=1) (hR.mp L).1 (by rw[iV L];intro z D1;cases Aa.mp D1;exact h);rwa[iV L,← DD]at this
 refine wpS_bind (wpS_lift (Cf ⟨rfl,?_⟩));refine wpS_bind (bF hb0 (dW (λn1=>wpS_pure (q _ _ .rfl' (dn m0 (.inr n1)))) λn1=>dW (λn2=>wpS_pure (q _ _ .rfl' (ls m0 n2))) λn2=>?_));refine wpS_bind (wpS_get ?_);refine wpS_bind (wpS_mono (wpS_forRange (λi (r:Option (Array Keyed)×Array Keyed×Nat×Nat×Nat) O=>Ak st O/\r.1=none/\Mg c a.toList b.toList r.2.1.toList r.2.2.1 r.2.2.2.1/\r.2.2.1+1<a.size/\r.2.2.2.1<b.size/\i+1<=r.2.1.size)
  (Q:=λr O=>Ak st O/\∃o,r.1=some o/\Rs c a.toList b.toList o.toList) ?_ ?_ ⟨.rfl',rfl,m0,by dsimp only;lia,by dsimp only;lia,hC _⟩) ?_)
 ·refine λn=>OK λo out F B m st1 _ hn W=>AB λI=>?_;obtain⟨l1,-,mg,p,f,w⟩:=W;dsimp only at mg p f w;refine I (wpS_bind (wpS_mono (wpS_forRange (λi (r:Option (Array Keyed)×Array Keyed×Nat×Nat×Nat×Nat) O=>Ak st O/\r.1=none/\Mg c a.toList b.toList r.2.1.toList r.2.2.1 r.2.2.2.1/\r.2.2.1+1 < a.size/\r.2.2.2.1 < b.size/\n+1+i<=r.2.1.size)
   (Q:=λr O=>Ak st O/\((r.1=none/\Mg c a.toList b.toList r.2.1.toList r.2.2.1 r.2.2.2.1/\r.2.2.1+1<a.size/\r.2.2.2.1<b.size/\n+2<=r.2.1.size)\/∃o,r.1=some o/\Rs c a.toList b.toList o.toList)) ?_ ?_ ⟨l1,rfl,mg,p,f,w⟩) ?_))
  ·refine λi=>Jl λo out F B ac bc N _ hi W=>AB λI=>?_;obtain⟨l2,-,mg,p,f,w⟩:=W;dsimp only at mg p f w;obtain⟨y,π,P,R⟩:=oU (a:=b) f;obtain⟨x,S,T,U⟩:=oU (a:=a) (show F < a.size by lia);refine I (wpS_bind (bF π (wpS_bind (bF S (wpS_bind (HX C (l2.k.trans hk) (gb y R) (ga x U) (iL (λe=>?_) λe=>?_)))))))
   ·have e':c x y=true:=(hd x U y R).resolve_right e;have l:=pa mg T (λz D1=>(kK P sb z D1).elim (λh=>h▸e') (C.tr e'));have X:n+1+i<(out.push x).size:=by rw[size_push];exact lt_succ_of_le w
    exact wpS_bind (bF S (dW (λJ=>wpS_pure ⟨l2,.inr ⟨_,rfl,ls l J⟩⟩) λJ=>jN (wpS_pure ⟨l2,.inl ⟨rfl,l,lt_of_le_of_ne p J,f,hQ (by lia) X⟩⟩) (wpS_pure ⟨l2,rfl,l,lt_of_le_of_ne p J,f,X⟩)))
   ·have l:=pb mg P (λz D1=>(kK T sa z D1).elim (λh=>h▸e) (C.tr e));have X:n+1+i<(out.push y).size:=by rw[size_push];exact lt_succ_of_le w
    exact wpS_bind (bF π (dW (λJ=>wpS_pure ⟨l2,.inr ⟨_,rfl,dn l (.inr J)⟩⟩) λJ=>jN (wpS_pure ⟨l2,.inl ⟨rfl,l,p,lt_of_le_of_ne f J,hQ (by lia) X⟩⟩) (wpS_pure ⟨l2,rfl,l,p,lt_of_le_of_ne f J,X⟩)))
  ·rintro⟨o,out,F,B,ac,bc⟩ N ⟨l2,rfl,mg,p,f,w⟩;have:=mg.len;dsimp only at mg p f w this;simp at this w;lia
  refine Jl λo out F B ac bc N W=>AB λI=>?_;obtain⟨l2,⟨rfl,mg,p,f,w⟩|⟨r,rfl,hr⟩⟩:=W
  case inr=>exact I (wpS_pure ⟨l2,r,rfl,hr⟩)
  dsimp only at mg p f w;refine I (wpS_bind (wpS_lift (Cf ⟨rfl,?_⟩)));refine wpS_bind (wpS_mono (wpS_forRange (λi (r:Option (Array Keyed)×Array Keyed×Nat×Nat×Nat×Nat×Nat) O=>Ak st O/\r.1=none/\Mg c a.toList b.toList r.2.1.toList r.2.2.1 r.2.2.2.1/\r.2.2.1+1<a.size/\r.2.2.2.1<b.size/\n+2+i<=r.2.1.size)
   (Q:=λr O=>Ak st O/\((r.1=none/\Mg c a.toList b.toList r.2.1.toList r.2.2.1 r.2.2.2.1/\r.2.2.1+1<a.size/\r.2.2.2.1<b.size/\n+2<=r.2.1.size)\/∃o,r.1=some o/\Rs c a.toList b.toList o.toList)) ?_ ?_ ⟨l2,rfl,mg,p,f,w⟩) ?_)
  ·refine λi=>Jm λo out F B m ac bc N _ hi W=>AB λI=>?_;obtain⟨l2,-,mg,p,f,w⟩:=W;dsimp only at mg p f w;obtain⟨y,π,P,R⟩:=oU (a:=b) f;have x0:=Nat.lt_of_succ_lt p;refine I ?_;dsimp only;apply OJ m (m-1);rfl;rfl
   intro g;refine(wpS_bind (kL λst3 K=>wpS_bind (bF π (wpS_bind (Jk C ((l2.trans K).k.trans hk) ga (gb y R) sa (λx L=>hd x L y R) (b:=F) (n:=a.size-F) (le_of_eq (Nat.add_sub_of_le (Aq x0))) (Nat.sub_pos_of_lt x0) λk k1 k2 k3=>?_)))))
   replace K:=l2.trans K
   have f2:∀z∈a.toList.drop (F+k),c y z=true:=λz D1=>by
    obtain⟨j,j1,j2,j3⟩:=rP D1;obtain⟨d,rfl⟩:=exists_eq_add_of_le j1;rw[add_assoc]at j2 j3;exact k3 _ z (le_add_right _ _) (Nat.lt_sub_of_add_lt (by rw[add_comm];exact j2)) j3
   apply rR (λt ia1=>Mg c a.toList b.toList t.toList ia1 B/\n+2+i<=t.size/\(∀z∈a.toList.drop ia1,c y z=true)/\ia1+1<a.size) out F;rfl
   ·refine λt ia1 Y=>AB λI=>?_;obtain⟨l,X,f2,p⟩:=Y;obtain⟨x,S,T,U⟩:=oU (a:=a) (Nat.lt_of_succ_lt p);have V1:=pb l P f2;have x5:n+2+i < (t.push y).size:=by rw[size_push];exact lt_succ_of_le X
    replace f:B+1<=b.size:=f
    refine I (wpS_bind (bF π (dW (λe4=>wpS_pure ⟨K,.inr ⟨_,rfl,dn V1 (.inr e4)⟩⟩) λe4=>?_)));generalize t.push y=t at V1 x5 ⊢;generalize B+1=B at V1 e4 f ⊢
    replace f:=lt_of_le_of_ne f e4
    refine wpS_bind (bF S (wpS_bind (Jk C (K.k.trans hk) gb (ga x U) sb (λz D1=>(hd x U z D1).symm) (b:=B) (n:=b.size-B) (le_of_eq (Nat.add_sub_of_le (Aq f))) (Nat.sub_pos_of_lt f) λj j1 j2 j3=>?_)));have f4:∀z∈b.toList.drop (B+j),c x z=true:=λz D1=>by
     obtain⟨v,v1,v2,v3⟩:=rP D1;obtain⟨d,rfl⟩:=exists_eq_add_of_le v1;rw[add_assoc]at v2 v3;exact j3 _ z (le_add_right _ _) (Nat.lt_sub_of_add_lt (by rw[add_comm];exact v2)) v3
    apply rR (λH ib2=>Mg c a.toList b.toList H.toList ia1 ib2/\n+2+i<H.size/\(∀z∈b.toList.drop ib2,c x z=true)/\ib2<b.size) t B;rfl
    ·intro H ib2 Y;have σ:=pa Y.1 T Y.2.2.1;have x6:n+2+i+1<(H.push x).size:=by rw[size_push];exact Nat.succ_lt_succ Y.2.1
     exact wpS_bind (bF S (dW (λe6=>wpS_pure ⟨K,.inr ⟨_,rfl,ls σ e6⟩⟩) λe6=>jN (wpS_pure ⟨K,.inl ⟨rfl,σ,lt_of_le_of_ne p e6,Y.2.2.2,hQ (by lia) x6⟩⟩) (wpS_pure ⟨K,rfl,σ,lt_of_le_of_ne p e6,Y.2.2.2,Aq x6⟩)))
    ·exact λhj0=>⟨V1,x5,by rw[Nat.eq_zero_of_not_pos hj0]at f4;exact f4,f⟩
    ·intro key hj0;have mg4:Mg c a.toList b.toList (t++b.extract B (B+j)).toList ia1 (B+j):=by
      rw[toList_append,fY,add_sub_cancel_left];refine V1.right sb (Nat.add_le_of_le_sub' (Aq f) j1) λz D1 u hu=>?_;obtain⟨v,v1,v2⟩:=kM D1;have:=j2 v z v1 v2;exact(kK T sa u hu).elim (λh=>h▸this) (C.tr this)
     exact dW (λe5=>wpS_pure ⟨K,.inr ⟨_,rfl,dn mg4 (.inr e5)⟩⟩) λe5=>key _ _ ⟨mg4,by rw[size_append];exact Au x5 (le_add_right _ _),f4,lt_of_le_of_ne mg4.hj e5⟩
   ·exact λhk0=>⟨mg,w,by rw[Nat.eq_zero_of_not_pos hk0]at f2;exact f2,p⟩
   ·intro key hk0;have l:Mg c a.toList b.toList (out++a.extract F (F+k)).toList (F+k) B:=by
     rw[toList_append,fY,add_sub_cancel_left];refine mg.left sa (Nat.add_le_of_le_sub' (Aq x0) k1) λx L z D1=>?_;obtain⟨j,j1,j2⟩:=kM L;have:=k2 j x j1 j2;exact(kK P sb z D1).elim (λh=>h▸this) (C.tr this)
    exact dW (λJ=>wpS_pure ⟨K,.inr ⟨_,rfl,ls l J⟩⟩) λJ=>dW (λe3=>wpS_pure ⟨K,.inr ⟨_,rfl,dn l (.inl e3)⟩⟩) λe3=>key _ _ ⟨l,by rw[size_append];exact hQ w (le_add_right _ _),f2,lt_of_le_of_ne (lt_of_le_of_ne l.hi e3) J⟩
  ·rintro⟨o,out,F,B,m,ac,bc⟩ N ⟨l2,rfl,mg,p,f,w⟩;have:=mg.len;dsimp only at mg p f w this;simp at this w;lia
  refine Jm λo out F B m ac bc N W=>AB λI=>?_;obtain⟨l2,⟨rfl,mg,p,f,w⟩|⟨r,rfl,hr⟩⟩:=W;exact I (wpS_bind (kL λst3 K=>wpS_pure ⟨l2.trans K,rfl,mg,p,f,w⟩));exact I (wpS_pure ⟨l2,r,rfl,hr⟩)
 ·rintro⟨o,out,F,B,m⟩ st1 ⟨l1,rfl,mg,p,f,w⟩;have:=mg.len;dsimp only at mg p f w this;simp at this w;lia
 ·rintro⟨o,out,F,B,m⟩ st1 ⟨l1,r,rfl,hr⟩;exact wpS_pure (q _ _ l1 hr)
structure Wh(c:Keyed->Keyed->Bool)(a b out:Array Keyed)(na nb:Nat):Prop where
 m:Mg (λx y=>c y x) b.toList.reverse a.toList.reverse out.toList (b.size-nb) (a.size-na)
 ha:na<=a.size
 hb:nb<=b.size
theorem Wh.symm{c:Keyed->Keyed->Bool}{a:Array Keyed}{b:Array Keyed}{o:Array Keyed}{N:Nat}{n:Nat}(w:Wh c a b o N n):Wh c b a o n N:=⟨w.m.symm,w.hb,w.ha⟩
theorem Wh.len{c:Keyed->Keyed->Bool}{a:Array Keyed}{b:Array Keyed}{o:Array Keyed}{N:Nat}{n:Nat}(w:Wh c a b o N n):o.size+N+n=a.size+b.size:=by
 have:=w.m.len;have:=w.ha;have:=w.hb
 grind
def nV(h:Ai c l):Ai (λx y=>c y x) l.reverse:=List.pairwise_reverse.mpr h
def OL(h:Rs (λx y=>c y x) L.reverse a.reverse l):Rs c a L l.reverse:=
 ⟨by have:=(List.reverse_perm l).trans h.1;rw[← List.reverse_append]at this;exact this.trans (List.reverse_perm _),List.pairwise_reverse.mpr h.2⟩
def hU{a:Array Keyed}(h:n<=a.size):a.toList.reverse.drop (a.size-n)=(a.toList.take n).reverse:=by
 rw[List.drop_reverse];grind
theorem Wh.done(w:Wh c a b o N n)(d:Ai c a.toList)(s:Ai c b.toList)(h:N=0\/n=0):Rs c a.toList b.toList (a.extract 0 N++b.extract 0 n++o.reverse).toList:=by
 have:=OL (w.m.done (nV s) (nV d) (by grind));rw[hU w.ha,hU w.hb]at this
 simp_all
theorem Wh.last(w:Wh c a b o N n)(g:Ai c a.toList)(s:Ai c b.toList)(h:n=1)(d:∀y∈b.toList.take 1,∀x∈a.toList,c y x=true):Rs c a.toList b.toList (b.extract 0 n++a.extract 0 N++o.reverse).toList:=by
 have:=OL (w.m.last (nV s) (nV g) (by simp;have:=w.hb;lia) (by rw[hU w.hb,h];intro x e y f;exact d x (List.mem_reverse.mp e) y (List.mem_reverse.mp f)));rw[hU w.ha,hU w.hb]at this
 simp_all
def uP{a:Array Keyed}(h:n<=a.size)(b:k<=n):(a.extract (n-k) n).reverse.toList=(a.toList.reverse.drop (a.size-n)).take k:=by
 rw[hU h,toList_reverse,fY,List.take_reverse,List.drop_take]
 grind
def Wh.pa(w:Wh c a b o n N)(s:Ai c a.toList)(d:k<=n)(h:∀ i x,n-k<=i->i < n->a.toList[i]? = some x->∀ y∈b.toList.take N,c y x=true):Wh c a b (o++(a.extract (n-k) n).reverse) (n-k) N:=by
 have:=w.m.right (nV s) (k:=k) (by simp;have:=w.ha;lia) (by
  rw[hU w.hb,← uP w.ha d];intro x e y f;rw[toList_reverse,List.mem_reverse,fY]at e;obtain⟨j,l,g⟩:=kM e;exact h _ x (by lia) (by lia) g y (List.mem_reverse.mp f))
 rw[← uP w.ha d,← toList_append,show a.size-n+k=a.size-(n-k) by have:=w.ha;lia]at this;exact⟨this,by have:=w.ha;lia,w.hb⟩
def Wh.to(w:Wh c a b o n N)(s:Ai c a.toList)(d:t<=n)(h:∀i x,t<=i->i<n->a.toList[i]?=some x->∀y∈b.toList.take N,c y x=true):Wh c a b (o++(a.extract t n).reverse) t N:=by
 have e:n-(n-t)=t:=by lia
 have:=w.pa s (k:=n-t) (by lia) (by rw[e];exact h)
 simp_all
theorem Wh.push(w:Wh c a b o n N)(s:Ai c a.toList)(h1:1<=n)(d:a.toList[n-1]? = some x)(h:∀ y∈b.toList.take N,c y x=true):Wh c a b (o.push x) (n-1) N:=by
 have:=w.pa s h1 (λi z f g j=>by grind);have e:o++(a.extract (n-1) n).reverse=o.push x:=by
  apply Array.toList_inj.mp;rw[toList_append,toList_reverse,fY,show n-(n-1)=1 by lia,iV d];simp
 simp_all
def iW(h:l[i]?=some x)(s:Ai c l):∀y∈l.take (i+1),y=x\/c y x=true:=by
 have:=s.sublist (take_sublist (i+1) l);obtain⟨a,rfl⟩:=hR.mp h;rw[List.take_succ_eq_append_getElem a]at this ⊢;intro y b;rcases sU.mp b with z|z;exact .inr ((List.pairwise_append.mp this).2.2 y z _ (Aa.mpr rfl));exact .inl (Aa.mp z)
noncomputable def n8:Array Keyed->Array Keyed->StateT SortSt Sem (Array Keyed):=sortPriv% PySem.Builtin.mergeHi
def n9{st:SortSt}(C:Cm M A s κ G c)(hk:kindOf st=κ)(ga:∀ x∈a.toList,G x)(gb:∀ x∈b.toList,G x)(sa:Ai c a.toList)(sb:Ai c b.toList)
  (hd:∀x∈a.toList,∀y∈b.toList,c x y=true\/c y x=true) (h1:1<=a.size) (h2:1<=b.size) (hf:∀y∈b.toList.take 1,∀x∈a.toList,c y x=true) (hl:∀x∈a.toList.drop (a.size-1),∀y∈b.toList,c y x=true)
  (q:∀r k,Ak st k->Rs c a.toList b.toList r.toList->Q r k):wpS M A E s (n8 a b) Q st:=by
 have la:a.toList.length=a.size:=rfl;have lb:b.toList.length=b.size:=rfl;obtain⟨a0,ha0,ha1,ha2⟩:=oU (a:=a) (i:=a.size-1) (sub_lt h1 one_pos);have w0:Wh c a b #[a0] (a.size-1) b.size:=by
  have:=(Wh.mk (c:=c) (a:=a) (b:=b) (out:=#[]) (na:=a.size) (nb:=b.size) ⟨by simp,.nil,λ_ h=>by simp at h,by simp,by simp⟩ (hC _) (hC _)).push sa h1 ha1
   (by rw[← lb,take_length];exact hl a0 (by rw[iK ha1];exact pL))
  exact this
 have dn:∀{o:Array Keyed} {i j:Nat},Wh c a b o i j->(i=0\/j=0)->Rs c a.toList b.toList (a.extract 0 i++b.extract 0 j++o.reverse).toList:=λw h=>w.done sa sb h;have ls:∀{o:Array Keyed} {i j:Nat},Wh c a b o i j->j=1->Rs c a.toList b.toList (b.extract 0 j++a.extract 0 i++o.reverse).toList:=λw h=>w.last sa sb h hf;refine wpS_bind (wpS_lift (Cf ⟨rfl,?_⟩));refine wpS_bind (bF ha0 (dW (λn1=>wpS_pure (q _ _ .rfl' (dn w0 (.inl n1)))) λn1=>dW (λn2=>wpS_pure (q _ _ .rfl' (ls w0 n2))) λn2=>?_));refine wpS_bind (wpS_get ?_);refine wpS_bind (wpS_mono (wpS_forRange (λi (r:Option (Array Keyed)×Nat×Nat×Array Keyed×Nat) k=>Ak st k/\r.1=none/\Wh c a b r.2.2.2.1 r.2.1 r.2.2.1/\1<=r.2.1/\2<=r.2.2.1/\i+1<=r.2.2.2.1.size)
  (Q:=λr k=>Ak st k/\∃o,r.1=some o/\Rs c a.toList b.toList o.toList) ?_ ?_ ⟨.rfl',rfl,w0,pos_of_ne_zero n1,lt_of_le_of_ne h2 (oI n2),hC _⟩) ?_)
 ·refine λn=>OK λo na nb out m st1 _ hn U=>AB λF=>?_;obtain⟨l1,-,O,d,f,B⟩:=U;dsimp only at O d f B;refine F (wpS_bind (wpS_mono (wpS_forRange (λi (r:Option (Array Keyed)×Nat×Nat×Array Keyed×Nat×Nat) k=>Ak st k/\r.1=none/\Wh c a b r.2.2.2.1 r.2.1 r.2.2.1/\1<=r.2.1/\2<=r.2.2.1/\n+1+i<=r.2.2.2.1.size)
   (Q:=λr k=>Ak st k/\((r.1=none/\Wh c a b r.2.2.2.1 r.2.1 r.2.2.1/\1<=r.2.1/\2<=r.2.2.1/\n+2<=r.2.2.2.1.size)\/∃o,r.1=some o/\Rs c a.toList b.toList o.toList)) ?_ ?_ ⟨l1,rfl,O,d,f,B⟩) ?_))
  ·refine λi=>Jl λo na nb out ac bc L _ hi U=>AB λF=>?_;obtain⟨l2,-,O,d,f,B⟩:=U;dsimp only at O d f B;have W:=Aq f;obtain⟨y,N,π,P⟩:=oU (a:=b) (Au (sub_lt W one_pos) O.hb);obtain⟨x,R,S,T⟩:=oU (a:=a) (Au (sub_lt d one_pos) O.ha);have sx:=iW S sa;have sy:=iW π sb;rw[sub_add_cancel d]at sx;rw[sub_add_cancel W]at sy;refine F (wpS_bind (bF N (wpS_bind (bF R (wpS_bind (HX C (l2.k.trans hk) (gb y P) (ga x T) (iL (λe=>?_) λe=>?_)))))))
   ·have e':c x y=true:=(hd x T y P).resolve_right e;have l:=(O.symm.push sb W π (λz H=>(sx z H).elim (λh=>h▸e') λh=>C.tr h e')).symm;have X:n+1+i<(out.push y).size:=by rw[size_push];exact lt_succ_of_le B
    exact wpS_bind (bF N (dW (λI=>wpS_pure ⟨l2,.inr ⟨_,rfl,ls l I⟩⟩) λI=>jN (wpS_pure ⟨l2,.inl ⟨rfl,l,d,lt_of_le_of_ne (Nat.le_sub_one_of_lt f) (oI I),hQ (by lia) X⟩⟩) (wpS_pure ⟨l2,rfl,l,d,lt_of_le_of_ne (Nat.le_sub_one_of_lt f) (oI I),X⟩)))
   ·have l:=O.push sa d S (λz H=>(sy z H).elim (λh=>h▸e) λh=>C.tr h e);have X:n+1+i<(out.push x).size:=by rw[size_push];exact lt_succ_of_le B
    exact wpS_bind (bF R (dW (λI=>wpS_pure ⟨l2,.inr ⟨_,rfl,dn l (.inl I)⟩⟩) λI=>jN (wpS_pure ⟨l2,.inl ⟨rfl,l,pos_of_ne_zero I,f,hQ (by lia) X⟩⟩) (wpS_pure ⟨l2,rfl,l,pos_of_ne_zero I,f,X⟩)))
  ·rintro⟨o,na,nb,out,ac,bc⟩ L ⟨l2,rfl,O,d,f,B⟩;have:=O.len;dsimp only at O d f B this;lia
  refine Jl λo na nb out ac bc L U=>AB λF=>?_;obtain⟨l2,⟨rfl,O,d,f,B⟩|⟨r,rfl,hr⟩⟩:=U
  case inr=>exact F (wpS_pure ⟨l2,r,rfl,hr⟩)
  dsimp only at O d f B;refine F (wpS_bind (wpS_lift (Cf ⟨rfl,?_⟩)));refine wpS_bind (wpS_mono (wpS_forRange (λi (r:Option (Array Keyed)×Nat×Nat×Array Keyed×Nat×Nat×Nat) k=>Ak st k/\r.1=none/\Wh c a b r.2.2.2.1 r.2.1 r.2.2.1/\1<=r.2.1/\2<=r.2.2.1/\n+2+i<=r.2.2.2.1.size)
   (Q:=λr k=>Ak st k/\((r.1=none/\Wh c a b r.2.2.2.1 r.2.1 r.2.2.1/\1<=r.2.1/\2<=r.2.2.1/\n+2<=r.2.2.2.1.size)\/∃o,r.1=some o/\Rs c a.toList b.toList o.toList)) ?_ ?_ ⟨l2,rfl,O,d,f,B⟩) ?_)
  ·refine λi=>Jm λo na nb out m ac bc L _ hi U=>AB λF=>?_;obtain⟨l2,-,O,d,f,B⟩:=U;dsimp only at O d f B;have W:=Aq f;obtain⟨y,N,π,P⟩:=oU (a:=b) (Au (sub_lt W one_pos) O.hb);have sy:=iW π sb;rw[sub_add_cancel W]at sy;refine F ?_;dsimp only;apply OJ m (m-1);rfl;rfl
   intro g;refine wpS_bind (kL λst3 J=>wpS_bind (bF N (wpS_bind (Jk C ((l2.trans J).k.trans hk) ga (gb y P) sa (λx hx=>hd x hx y P) (b:=0) (n:=na) (by rw[Bj];exact O.ha) (sub_lt d one_pos) λt k1 k2 k3=>?_))))
   replace J:=l2.trans J
   have f2:∀z∈a.toList.take t,c z y=true:=λz H=>by
    obtain⟨j,hj⟩:=getElem?_of_mem H;rw[getElem?_take]at hj;split at hj;rename_i h;exact k2 j z h (by rw[Bj];exact hj);cases hj
   dsimp only;generalize hg:na-t=g';apply rR (λt p=>Wh c a b p t nb/\n+2+i<=p.size/\(∀z∈a.toList.take t,c z y=true)/\1<=t) na out;rfl
   ·refine λt p Y=>AB λF=>?_;obtain⟨l,X,f2,d⟩:=Y;have K:=(l.symm.push sb W π f2).symm;obtain⟨x,R,S,T⟩:=oU (a:=a) (Au (sub_lt d one_pos) l.ha);have sx:=iW S sa;rw[sub_add_cancel d]at sx;have x5:n+2+i < (p.push y).size:=by rw[size_push];exact lt_succ_of_le X
    replace f:=Nat.le_sub_one_of_lt f
    refine F (wpS_bind (bF N (dW (λe4=>wpS_pure ⟨J,.inr ⟨_,rfl,ls K e4⟩⟩) λe4=>?_)));generalize p.push y=p at K x5 ⊢;generalize nb-1=nb at K e4 f ⊢;refine wpS_bind (bF R (wpS_bind (Jk C (J.k.trans hk) gb (ga x T) sb (λz H=>(hd x T z H).symm) (b:=0) (n:=nb) (by rw[Bj];exact K.hb) (sub_lt f one_pos) λj j1 j2 j3=>?_)));have f4:∀z∈b.toList.take j,c z x=true:=λz H=>by
     obtain⟨v,hv⟩:=getElem?_of_mem H;rw[getElem?_take]at hv;split at hv;rename_i h;exact j2 v z h (by rw[Bj];exact hv);cases hv
    dsimp only;generalize hg:nb-j=g'';apply rR (λj D1=>Wh c a b D1 t j/\n+2+i<D1.size/\(∀z∈b.toList.take j,c z x=true)/\2<=j) nb p;rfl
    ·intro j D1 Y;have σ:=Y.1.push sa d S Y.2.2.1;have x6:n+2+i+1<(D1.push x).size:=by rw[size_push];exact Nat.succ_lt_succ Y.2.1
     exact wpS_bind (bF R (dW (λV1=>wpS_pure ⟨J,.inr ⟨_,rfl,dn σ (.inl V1)⟩⟩) λV1=>jN (wpS_pure ⟨J,.inl ⟨rfl,σ,pos_of_ne_zero V1,Y.2.2.2,hQ (by lia) x6⟩⟩) (wpS_pure ⟨J,rfl,σ,pos_of_ne_zero V1,Y.2.2.2,Aq x6⟩)))
    ·refine λhj0=>⟨K,x5,?_,lt_of_le_of_ne f (oI e4)⟩;rw[Nat.eq_zero_of_not_pos hj0]at hg;rw[Nat.le_antisymm j1 (Nat.le_of_sub_eq_zero hg)]at f4;exact f4
    ·intro key hj0;have mg4:Wh c a b (p++(b.extract j nb).reverse) t j:=(K.symm.to sb j1 λi u i1 i2 i3 z H=>by
      have:=j3 i u i1 i2 (by rw[Bj];exact i3);exact(sx z H).elim (λh=>h▸this) λh=>C.tr h this).symm
     exact dW (λe5=>wpS_pure ⟨J,.inr ⟨_,rfl,ls mg4 e5⟩⟩) λe5=>dW (λV1=>wpS_pure ⟨J,.inr ⟨_,rfl,dn mg4 (.inr V1)⟩⟩) λV1=>key _ _ ⟨mg4,by rw[size_append];exact Au x5 (le_add_right _ _),f4,lt_of_le_of_ne (pos_of_ne_zero V1) (oI e5)⟩
   ·refine λhk0=>⟨O,B,?_,d⟩;rw[Nat.eq_zero_of_not_pos hk0]at hg;rw[Nat.le_antisymm k1 (Nat.le_of_sub_eq_zero hg)]at f2;exact f2
   ·intro key hk0;have l:Wh c a b (out++(a.extract t na).reverse) t nb:=O.to sa k1 λi x i1 i2 i3 z H=>by
     have:=k3 i x i1 i2 (by rw[Bj];exact i3);exact(sy z H).elim (λh=>h▸this) λh=>C.tr h this
    exact dW (λI=>wpS_pure ⟨J,.inr ⟨_,rfl,dn l (.inl I)⟩⟩) λI=>key _ _ ⟨l,by rw[size_append];exact hQ B (le_add_right _ _),f2,pos_of_ne_zero I⟩
  ·rintro⟨o,na,nb,out,m,ac,bc⟩ L ⟨l2,rfl,O,d,f,B⟩;have:=O.len;dsimp only at O d f B this;lia
  refine Jm λo na nb out m ac bc L U=>AB λF=>?_;obtain⟨l2,⟨rfl,O,d,f,B⟩|⟨r,rfl,hr⟩⟩:=U;exact F (wpS_bind (kL λst3 J=>wpS_pure ⟨l2.trans J,rfl,O,d,f,B⟩));exact F (wpS_pure ⟨l2,r,rfl,hr⟩)
 ·rintro⟨o,na,nb,out,m⟩ st1 ⟨l1,rfl,O,d,f,B⟩;have:=O.len;dsimp only at O d f B this;lia
 ·rintro⟨o,na,nb,out,m⟩ st1 ⟨l1,r,rfl,hr⟩;exact wpS_pure (q _ _ l1 hr)
def o1{b a:Z}(h:Q ⟨⟩ a):wpS M A E s (set a:StateT Z Sem PUnit) Q b:=by
 exact gX ⟨rfl,h⟩
theorem pU(o:Nat):∀ (m:List Keyed) (k:Nat) (a:Array Keyed),o+k+m.length<=a.size->((m.zipIdx k).foldl (λa (p:Keyed×Nat)=>a.setIfInBounds (o+p.2) p.1) a).toList=a.toList.take (o+k)++m++a.toList.drop (o+k+m.length)
 |[],k,a,h=>by simp
 | x::m,k,a,h=>by
   rw[List.zipIdx_cons,foldl_cons,pU o m (k+1) _ (by grind)];simp only[Array.toList_setIfInBounds,length_cons];have b:o+k<a.toList.length:=by grind
   rw[show o+(k+1)=o+k+1 by exact rfl,List.take_succ_eq_append_getElem (by simp_all),List.getElem_set_self,List.take_set_of_le (hC _),List.drop_set_of_lt (by lia)];simp[add_assoc,add_comm 1]
def _root_.List.drop_take_comm'{l:List Keyed}(h:j<=n):(l.take n).drop j=(l.drop j).take (n-j):=List.drop_take ..
def o3{a:SortSt}(C:Cm M A s κ G c)(B:PyProof.Rows.kindOf a=κ)(U:∀ x∈(arrOf a).toList,G x)(N:failedOf a=none)
  (O:(arrOf a).toList=p++(X++(Y++q))) (l:p.length=sa) (m:X.length=na) (e3:Y.length=nb) (e4:sb=sa+na) (hp:(pendingOf a)[i]?=some (sa,na,pa)) (π:(pendingOf a)[i+1]?=some (sb,nb,pb)) (h1:1<=na) (h2:1<=nb)
  (F:Ai c X) (H:Ai c Y) (hd:∀x∈X,∀y∈Y,c x y=true\/c y x=true)
  (k:∀(f:SortSt) σ,PyProof.Rows.kindOf f=κ->failedOf f=none->pendingOf f=((pendingOf a).setIfInBounds i (sa,na+nb,pa)).eraseIdxIfInBounds (i+1)->(arrOf f).toList=p++(σ++q)->σ.Perm (X++Y)->Ai c σ->Q true f) :
  wpS M A E s (mergeAt' i) Q a:=by
 have P:∀x∈X,G x:=λx o=>U x (by rw[O];simp[o]);have R:∀x∈Y,G x:=λx o=>U x (by rw[O];simp[o]);subst l m e3 e4;have V1:((arrOf a).toList.drop p.length).take X.length=X:=by rw[O];simp
 have W:((arrOf a).toList.drop (p.length+X.length)).take Y.length=Y:=by rw[O,← append_assoc];simp[List.drop_append,take_append]
 refine wpS_bind (wpS_get ?_);rw[hp,π];dsimp only;refine wpS_bind (o1 ?_);obtain⟨y,b,rfl⟩:∃y b,Y=y::b:=by cases Y with|nil=>simp at h2|cons y b=>exact⟨y,b,rfl⟩
 have yY:∀z∈y::b,z=y\/c y z=true:=λz d=>(sY.mp d).imp id λh=>(Dg.mp H).1 z h;refine wpS_bind (bF (x:=y) ?_ ?_)
 ·have:(arrOf a).toList[p.length+X.length]?=some y:=by rw[O,← append_assoc,← Av];simp
  simpa using this
 refine wpS_bind (xR C B V1 rfl P (R y pL) F (λx o=>hd x o y pL) h1 λj j1 S j3=>?_);dsimp only;have I:=List.pairwise_append.mp (show Ai c (X.take j++X.drop j) by rw[take_append_drop];exact F);have w:∀x,c x y=true->∀z∈y::b,c x z=true:=λx h z d=>(yY z d).elim (λe=>e▸h) (C.tr h);have fin:∀σ:List Keyed,σ=X++(y::b)->Ai c σ->Q true (SortSt.mk' (PyProof.Rows.kindOf a) (arrOf a) (((pendingOf a).setIfInBounds i (p.length,X.length+(y::b).length,pa)).eraseIdxIfInBounds (i+1)) (gallopOf a) (failedOf a)):=λσ e h=>k _ σ B N rfl (by rw[e,append_assoc];exact O) (by rw[e]) h;by_cases T:X.length-j=0;rw[eH (DZ.mpr T)];refine wpS_pure (fin _ rfl (List.pairwise_append.mpr ⟨F,H,λx o z d=>w x (S x ?_) z d⟩));rw[Cg (by lia)];exact o
 rw[a0m (by rw[DZ];exact T)];obtain⟨x,o⟩:∃x,X[X.length-1]?=some x:=⟨X[X.length-1],nL (by lia)⟩;have xX:∀z∈X,z=x\/c z x=true:=λz d=>iW o F z (by rw[show X.length-1+1=X.length by exact sub_add_cancel h1,take_length];exact d);have mx:=Ao o;refine wpS_bind (bF (x:=x) ?_ ?_)
 ·have:(arrOf a).toList[p.length+(X.length-1)]?=some x:=by rw[O,CP (by simp),add_sub_cancel_left,Bz (by lia)];exact o
  rw[show p.length+j+(X.length-j)-1=p.length+(X.length-1) by lia];simpa using this
 refine wpS_bind (xR C B W rfl R (P x mx) H (λz d=>(hd x mx z d).symm) (by simp) λn n1 n2 n3=>?_);dsimp only;by_cases J:n=0;rw[eH (DZ.mpr J)];subst J;exact wpS_pure (fin _ rfl (List.pairwise_append.mpr ⟨F,H,λz d u g=>(xX z d).elim (λe=>e▸n3 u g) λh=>C.tr h (n3 u g)⟩))
 rw[a0m (by rw[DZ];exact J)];have K:=List.pairwise_append.mp (show Ai c ((y::b).take n++(y::b).drop n) by rw[take_append_drop];exact H);have l:((arrOf a).extract (p.length+j) (p.length+X.length)).toList=X.drop j:=by
  rw[fY,show p.length+X.length-(p.length+j)=X.length-j by lia,← drop_drop,← List.drop_take_comm' j1,V1]
 have m:((arrOf a).extract (p.length+X.length) (p.length+X.length+n)).toList=(y::b).take n:=by
  rw[fY,add_sub_cancel_left,← W,take_take,min_eq_left n1]
 have L:((arrOf a).extract (p.length+j) (p.length+X.length)).size=X.length-j:=by rw[← BA,l,DH]
 have z2:((arrOf a).extract (p.length+X.length) (p.length+X.length+n)).size=n:=by rw[← BA,m,Bi];lia
 have q1:∀z∈X.drop j,G z:=λz d=>P z (mem_of_mem_drop d);have q2:∀z∈(y::b).take n,G z:=λz d=>R z (BF d);have q3:∀z∈X.drop j,∀u∈(y::b).take n,c z u=true\/c u z=true:=λz d u g=>hd z (mem_of_mem_drop d) u (BF g);have q4:∀u∈((y::b).take n).take 1,∀z∈X.drop j,c u z=true:=λu g z d=>by
  rw[take_take,min_eq_left (by lia)]at g;cases Aa.mp g;exact j3 z d
 have q5:∀z∈(X.drop j).drop (X.length-j-1),∀u∈(y::b).take n,c u z=true:=λz d u g=>by
  rw[drop_drop,Nat.sub_right_comm,Nat.add_sub_of_le (by lia),iK o,sub_add_cancel h1,drop_length]at d;cases Aa.mp d;exact n2 u g
 by_cases b3:X.length-j<=n
 case' pos=>
  rw[eH b3];refine wpS_bind (m9 C B (by rw[l];exact q1) (by rw[m];exact q2) (by rw[l];exact I.2.1) (by rw[m];exact K.1) (by rw[l,m];exact q3) (hQ (pos_of_ne_zero T) (le_of_eq L.symm)) (hQ (pos_of_ne_zero J) (le_of_eq z2.symm)) (by rw[l,m];exact q4) (by rw[L,l,m];exact q5) λr t l2 rs=>?_)
 case' neg=>
  rw[a0m b3];refine wpS_bind (n9 C B (by rw[l];exact q1) (by rw[m];exact q2) (by rw[l];exact I.2.1) (by rw[m];exact K.1) (by rw[l,m];exact q3) (hQ (by lia) (le_of_eq L.symm)) (hQ (by lia) (le_of_eq z2.symm)) (by rw[l,m];exact q4) (by rw[L,l,m];exact q5) λr t l2 rs=>?_)
 all_goals
  rw[l,m]at rs;have rl:r.toList.length=X.length-j+n:=by rw[rs.1.length_eq,Av,DH,Bi];lia
  have mr:∀u∈r.toList,u∈X.drop j\/u∈(y::b).take n:=λu g=>sU.mp (rs.1.mem_iff.mp g);refine wpS_bind (wpS_modify (wpS_bind (wpS_get (wpS_pure ?_))));show Q (failedOf t).isNone _;rw[show(failedOf t).isNone=true by rw[l2.f];show(failedOf a).isNone=true;rw[N];rfl];refine k _ (X.take j++r.toList++(y::b).drop n) (l2.k.trans B) (l2.f.trans N) l2.p ?_ ?_ (List.pairwise_append.mpr ⟨List.pairwise_append.mpr ⟨I.1,rs.2,λu g v D1=>?_⟩,K.2.1,λu g v D1=>?_⟩)
  ·have:=pU (p.length+j) r.toList 0 (arrOf t) (by rw[l2.a];show _<=(arrOf a).size;rw[← BA,O,rl];simp at n1 ⊢;lia);refine this.trans ?_;rw[l2.a];show(arrOf a).toList.take _++_++(arrOf a).toList.drop _=_;rw[rl,add_zero,show p.length+j+(X.length-j+n)=p.length+X.length+n by lia,O];have t1:(p++(X++(y::b++q))).take (p.length+j)=p++X.take j:=by
    rw[take_append,Cg (by simp),add_sub_cancel_left,take_append,show j-X.length=0 by lia];simp
   have t2:(p++(X++(y::b++q))).drop (p.length+X.length+n)=(y::b).drop n++q:=by
    rw[← append_assoc,← Av,← drop_drop,List.drop_left,List.drop_append_of_le_length n1]
   rw[t1,t2];simp
  ·have:(X.take j++(X.drop j++(y::b).take n)++(y::b).drop n)=X++(y::b):=by
    rw[← append_assoc,take_append_drop,append_assoc,take_append_drop]
   exact((rs.1.append_left _).append_right _).trans (by rw[this])
  ·rcases mr v D1 with h|h;exact I.2.2 u g v h;exact w u (S u g) v (BF h)
  ·rcases sU.mp g with h|h;exact w u (S u h) v (mem_of_mem_drop D1);rcases mr u h with h|h;exact(xX u (mem_of_mem_drop h)).elim (λe=>e▸n3 v D1) λe=>C.tr e (n3 v D1);exact K.2.2 u h v D1
def CA(c:Keyed->Keyed->Bool)(l:List Keyed):Prop:=l.Pairwise λx y=>c x y=true\/c y x=true
def CA.perm(h:CA c l)(p:l.Perm a):CA c a:=p.pairwise h λh=>h.symm
def CA.two{i j:Nat}(h:CA c l)(a:i<j)(b:l[i]?=some x)(d:l[j]?=some y):c x y=true\/c y x=true:=by
 obtain⟨e,rfl⟩:=hR.mp b;obtain⟨f,rfl⟩:=hR.mp d;exact List.pairwise_iff_getElem.mp h i j e f a
def lT{a:Array Keyed}(h:a.toList=p++R)(i:Nat):a[p.length+i]?=R[i]?:=by
 rw[← Bh,h,CP (by lia),add_sub_cancel_left]
def lU{l:List Keyed}(h:i<l.length):∃x,l[i]?=some x/\x∈l:=⟨l[i],nL h,Dh h⟩
def gH{l:List Keyed}(h:l[n]?=some x):l.take (n+1)=l.take n++[x]:=by
 obtain⟨a,rfl⟩:=hR.mp h;simp
def xS{l:List Keyed}(tr:∀{x y z},r x y->r y z->r x z)(f:1<=n)(H:(l.take n).Pairwise r)(b:l[n]?=some x)(d:l[n-1]?=some z)(h:r z x):(l.take (n+1)).Pairwise r:=by
 rw[gH b];obtain⟨m,rfl⟩:∃m,n=m+1:=⟨n-1,by lia⟩;rw[Nat.add_sub_cancel]at d;refine List.pairwise_append.mpr ⟨H,pairwise_singleton _ _,λy a u c=>?_⟩;cases Aa.mp c;rw[gH d]at H a;rcases sU.mp a with e|e;exact tr ((List.pairwise_append.mp H).2.2 y e z (Aa.mpr rfl)) h
 simp_all
def iM(u v:List Keyed)(j:Nat):(u++v)[u.length+j]?=v[j]?:=by
 rw[CP (le_add_right _ _),add_sub_cancel_left]
def xT{p R:List Keyed}(c:a.toList=p++R)(H:n<=R.length):(mirror a p.length (p.length+n) ((p.length+n-p.length) / 2)).toList=p++((R.take n).reverse++R.drop n):=by
 have b:(R.take n).length=n:=List.length_take_of_le H;apply EK;intro k;rw[Bh,getElem?_mirror_all (by rw[← BA,c,Av];exact add_le_add_left H _),← Bh,← Bh,c];rcases lt_or_ge k p.length with h|h;rw[a0m λe=>Nat.not_le_of_lt h e.1,Bz h,Bz h]
 obtain⟨j,rfl⟩:=exists_eq_add_of_le h;rw[iM,iM];rcases lt_or_ge j n with e|e;obtain⟨d,rfl⟩:=Nat.exists_eq_add_of_lt e;rw[eH ⟨h,Nat.add_lt_add_left e _⟩,show p.length+(p.length+(j+d+1))-1=p.length+(p.length+(j+d))from rfl,← add_assoc,Nat.add_add_add_comm,add_sub_cancel_left,iM,Bz (by rw[List.length_reverse,b];exact e),List.getElem?_reverse (by rw[b];exact e),b,Nat.add_sub_cancel,add_sub_cancel_left,getElem?_take,eH (by lia)];rw[a0m λx=>Nat.not_le_of_lt x.2 (add_le_add_left e _)];obtain⟨d,rfl⟩:=exists_eq_add_of_le e;have:=iM (R.take n).reverse (R.drop n) d;rw[List.length_reverse,b]at this;rw[this,getElem?_drop]
def xU{x:Keyed}(H:a.toList=p++(t++(m++x::w))):(bubble a (p.length+(t.length+m.length)) (p.length+(t.length+m.length)-(p.length+t.length))).toList=p++(t++(x::(m++w))):=by
 rw[← append_assoc]at H ⊢;rw[← add_assoc,add_sub_cancel_left,← Av];generalize p++t=u at H ⊢;apply EK;intro i;rw[Bh,getElem?_bubble (by rw[← BA,H];simp) _ (Nat.le_add_left _ _),Nat.add_sub_cancel,← Bh,← Bh,← Bh,H];rcases lt_or_ge i u.length with h|h;rw[a0m (Ay h),a0m λe=>Nat.lt_asymm h e.1,Bz h,Bz h]
 obtain⟨j,rfl⟩:=exists_eq_add_of_le h;rw[iM,iM,iM];cases j with
 | zero=>
   rw[eH (add_zero _)];exact iM m (x::w) 0
 | succ j=>
   rw[a0m (Gg (Nat.lt_add_of_pos_right (succ_pos _))),show u.length+(j+1)-1=u.length+j from rfl,iM,EH];rcases lt_or_ge j m.length with e|e;rw[eH ⟨Nat.lt_add_of_pos_right (succ_pos _),add_le_add_left e _⟩,Bz e,Bz e];rw[a0m λy=>Nat.not_le_of_lt (Nat.le_of_add_le_add_left y.2) e];obtain⟨d,rfl⟩:=exists_eq_add_of_le e;exact(iM m (x::w) (d+1)).trans (iM m w d).symm
def o8{x:Keyed}(a:R[k]?=some x)(c:l<=k):∃t m w,R=t++(m++x::w)/\l=t.length/\k=t.length+m.length/\R.take l=t/\R.take k=t++m:=by
 obtain⟨d,rfl⟩:=exists_eq_add_of_le c;have f:=(hR.mp a).1;have b:(R.take l).length=l:=List.length_take_of_le (by lia);have e:((R.drop l).take d).length=d:=List.length_take_of_le (by rw[DH];lia);refine⟨R.take l,(R.drop l).take d,R.drop (l+d+1),?_,b.symm,by rw[b,e],rfl,take_add⟩;rw[← append_assoc,← take_add,← iK a,take_append_drop]
def rS(h:1<=i):p+i-1=p+(i-1):=Nat.add_sub_assoc h p
def OM{u:SortSt}(C:Cm M A s κ G c)(H:(arrOf u).toList=p++R)(g:∀ x∈R,G x)(B:CA c R)(I:1<=a)(t:a<=R.length)(w:Ai c (R.take a))
  (j:∀i n x z (Q:ForInStep (Option (Option Nat)×Nat)->SortSt->Prop),(arrOf u)[p.length+n]?=some x->(arrOf u)[p.length+n-1]?=some z->G x->G z->(c x z=true->Q (.done (none,n)) u)->(c x z=false->Q (.yield (none,n+1)) u)->wpS M A E s (f i (none,n)) Q u)
  (q:∀n,a<=n->n<=R.length->Ai c (R.take n)->(n=R.length\/∃x z,R[n]?=some x/\R[n-1]?=some z/\c x z=true)->Q (none,n) u):wpS M A E s (forIn [a:R.length] (none,a) f) Q u:=by
 refine wpS_forRange (λi (r:Option (Option Nat)×Nat) v=>u=v/\r=(none,i)/\Ai c (R.take i)) ?_ ?_ ⟨rfl,rfl,w⟩;rintro i r v k l ⟨rfl,rfl,h⟩;obtain⟨x,b,m⟩:=lU l;obtain⟨z,d,o⟩:=lU (show i-1<R.length by lia);refine j i i x z _ (by rw[lT H];exact b) (by rw[rS (by lia),lT H];exact d) (g x m) (g z o) (λe=>q i k (by lia) h (.inr ⟨x,z,b,d,e⟩)) λe=>⟨rfl,rfl,xS (r:=λx y=>c x y=true) C.tr (by lia) h b d ?_⟩;exact(B.two (show i-1<i by lia) d b).resolve_right (by rw[e];decide)
 grind
def xV{st:SortSt}(C:Cm M A s κ G c)(d:PyProof.Rows.kindOf st=κ)(ha:(arrOf st).toList=p++R)(f:∀ x∈R,G x)(hD:CA c R)(h1:1<=R.length)
  (q:∀n (O:SortSt) g,1<=n->n<=R.length->PyProof.Rows.kindOf O=κ->pendingOf O=pendingOf st->failedOf O=failedOf st->(arrOf O).toList=p++g->g.Perm R->Ai c (g.take n)->Q (some n) O):wpS M A E s (countRun' p.length R.length) Q st:=by
 refine wpS_bind (OM C ha f hD (hC 1) h1 (by obtain⟨x,g,rfl⟩:∃x g,R=x::g:=(by cases R with|nil=>simp at h1|cons x g=>exact⟨x,g,rfl⟩);exact pairwise_singleton _ _) (λi n x z Q a b u gz v w=>?_) λn H B j L=>?_)
 ·refine wpS_bind (kZ C d a b u gz ?_);dsimp only;cases e:c x z with
  |true=>exact wpS_pure (v e)
  |false=>exact wpS_pure (w e)
 dsimp only;by_cases D1:n=R.length;rw[eH (DZ.mpr D1)];exact wpS_pure (q n st R H B d rfl rfl ha (.refl _) j)
 rw[a0m (by rw[DZ];exact D1)];by_cases I:n > 1
 ·rw[eH I];obtain⟨x,a,o⟩:=lU (show 0 < R.length by lia);obtain⟨z,b,t⟩:=lU (show n-1 < R.length by lia);refine wpS_bind (kZ C d (x:=x) (y:=z) (by have:=lT ha 0;rw[add_zero]at this;rw[this];exact a) (by rw[rS (by lia),lT ha];exact b) (f x o) (f z t) ?_);have:c x z=true:=by
   obtain⟨W,N⟩:=hR.mp a;obtain⟨X,π⟩:=hR.mp b;have:=List.pairwise_iff_getElem.mp j 0 (n-1) (by simp;lia) (by simp;lia) (by lia);simpa[N,π]using this
  rw[this];exact wpS_pure (q n st R H B d rfl rfl ha (.refl _) j)
 rw[a0m I];obtain rfl:n=1:=by lia
 refine wpS_bind (wpS_lift (Cf ⟨rfl,?_⟩));refine wpS_bind (wpS_mono (wpS_forRange (λi (r:Option (Option Nat)×Nat×Nat) O=>st=O/\r=(none,i,0)/\(R.take i).Pairwise (λx y=>c y x=true))
  (Q:=λr O=>st=O/\∃n,r=(none,n,0)/\2<=n/\n<=R.length/\(R.take n).Pairwise (λx y=>c y x=true)) ?_ ?_ ⟨rfl,rfl,?_⟩) ?_)
 ·rintro i r O B j ⟨rfl,rfl,k⟩;obtain⟨x,a,o⟩:=lU j;obtain⟨z,b,t⟩:=lU (show i-1 < R.length by lia);have J:(arrOf st)[p.length+i]? = some x:=by rw[lT ha];exact a
  have K:(arrOf st)[p.length+i-1]?=some z:=by rw[rS (by lia),lT ha];exact b
  refine wpS_bind (kZ C d J K (f x o) (f z t) ?_);dsimp only;cases e:c x z with
  | true=>
    exact wpS_pure ⟨rfl,rfl,xS (r:=λx y=>c y x=true) (λh h'=>C.tr h' h) (by lia) k a b e⟩
  | false=>
    rw[a0m (by decide)];have P:c z x=true:=(hD.two (show i-1<i by lia) b a).resolve_right (by rw[e];decide);refine wpS_bind (kZ C d K J (f z t) (f x o) ?_);rw[P];exact wpS_pure ⟨rfl,i,rfl,by lia,by lia,k⟩
 ·rintro r O ⟨rfl,rfl,k⟩;exact⟨rfl,_,rfl,by lia,by lia,k⟩
 ·obtain⟨x,z,a,b,e⟩:=L.resolve_left D1;exact xS (r:=λx y=>c y x=true) (λh h'=>C.tr h' h) (hC 1) (by rw[gH b];exact pairwise_singleton _ _) a b e
 rintro r O ⟨rfl,n,rfl,k,F,S⟩;dsimp only;refine wpS_bind (wpS_modify ?_);have l:=xT ha F;have pm:((R.take n).reverse++R.drop n).Perm R:=by
  have:=(List.reverse_perm (R.take n)).append_right (R.drop n);rwa[take_append_drop]at this
 have Y:(R.take n).reverse.length=n:=by simp;lia
 have T:Ai c (((R.take n).reverse++R.drop n).take n):=by
  rw[List.take_append_of_le_length (by lia),Cg (by lia)];exact List.pairwise_reverse.mpr S
 rw[← pm.length_eq]at F ⊢;refine wpS_bind (OM C l (λx a=>f x (pm.mem_iff.mp a)) (hD.perm pm.symm) (by lia) F T (λi n x z Q a b u gz v w=>?_) λm σ U V1 _=>?_)
 ·refine wpS_bind (kZ C d a b u gz ?_);dsimp only;cases e:c x z with
  |true=>exact wpS_pure (v e)
  |false=>exact wpS_pure (w e)
 ·exact wpS_pure (q m _ _ (by lia) (by rw[← pm.length_eq];exact U) d rfl rfl l pm V1)
def rT{st:SortSt}(C:Cm M A s κ G c)(S:PyProof.Rows.kindOf st=κ)(ha:(arrOf st).toList=p++R)(T:∀ x∈R,G x)(hD:CA c R)(h1:1<=ok)(h2:ok<=n)(hn:n<=R.length)(hs:Ai c (R.take ok))
  (q:∀(O:SortSt) R',PyProof.Rows.kindOf O=κ->pendingOf O=pendingOf st->failedOf O=failedOf st->(arrOf O).toList=p++R'->R'.Perm R->Ai c (R'.take n)->Q true O):wpS M A E s (binarySort' p.length n ok) Q st:=by
 refine wpS_bind (wpS_mono (wpS_forRange (λk (r:Option Bool×Unit) O=>r=(none,())/\PyProof.Rows.kindOf O=κ/\pendingOf O=pendingOf st/\failedOf O=failedOf st/\∃R',(arrOf O).toList=p++R'/\R'.Perm R/\Ai c (R'.take k))
  (Q:=λr O=>r=(none,())/\PyProof.Rows.kindOf O=κ/\pendingOf O=pendingOf st/\failedOf O=failedOf st/\∃R',(arrOf O).toList=p++R'/\R'.Perm R/\Ai c (R'.take n)) ?_ ?_ ⟨rfl,S,rfl,rfl,R,ha,.refl _,by rw[Nat.max_eq_left h1];exact hs⟩) ?_)
 ·rintro k r b h3 h4 ⟨rfl,j,H,I,a,a1,pm,s1⟩;have lR:=pm.length_eq;obtain⟨x,J,U⟩:=lU (show k < a.length by lia);have L:∀ x∈a,G x:=λx J=>T x (pm.mem_iff.mp J);refine wpS_bind (wpS_mono (wpS_forRange (λi (r:Option Bool×Nat×Nat) O=>b=O/\r.1=none/\r.2.1<=r.2.2/\r.2.2<=k/\r.2.2+i<=k+r.2.1/\(∀ z∈a.take r.2.1,c z x=true)/\(∀ z∈(a.take k).drop r.2.2,c x z=true))
   (Q:=λr O=>b=O/\r.1=none/\r.2.1<=k/\(∀z∈a.take r.2.1,c z x=true)/\(∀z∈(a.take k).drop r.2.1,c x z=true)) ?_ ?_ ⟨rfl,rfl,sS _,hC _,by dsimp only;lia,λz f=>by simp at f,λz f=>by simp at f⟩) ?_)
  ·rintro i ⟨o,l,r⟩ K h5 h6 ⟨rfl,rfl,y,d,g,B,D1⟩;dsimp only at y d g B D1 ⊢;by_cases N:l ≥ r
   ·rw[eH N];obtain rfl:l=r:=by lia
    exact wpS_pure ⟨rfl,rfl,d,B,D1⟩
   rw[a0m N];obtain⟨z,f,V1⟩:=lU (show(l+r) / 2<a.length by lia);refine wpS_bind (kZ C j (by rw[lT a1];exact J) (by rw[lT a1];exact f) (L x U) (L z V1) ?_);dsimp only;have tk:(a.take k)[(l+r) / 2]?=some z:=by rw[getElem?_take,eH (by lia)];exact f
   cases e:c x z with
   |true=>exact wpS_pure ⟨rfl,rfl,by dsimp only;lia,by dsimp only;lia,by dsimp only;lia,B,λu F=>(kK tk s1 u F).elim (λh=>h▸e) (C.tr e)⟩
   | false=>
     have π:c z x=true:=((hD.perm pm.symm).two (show(l+r) / 2<k by lia) f J).resolve_right (by rw[e];decide);refine wpS_pure ⟨rfl,rfl,by dsimp only;lia,by dsimp only;lia,by dsimp only;lia,λu F=>?_,D1⟩;have:=iW tk s1 u (by rw[take_take,min_eq_left (by lia)];exact F);exact this.elim (λh=>h▸π) λh=>C.tr h π
  ·rintro⟨o,l,r⟩ K ⟨rfl,rfl,y,d,g,B,D1⟩;dsimp only at y d g B D1;obtain rfl:l=r:=by lia
   exact⟨rfl,rfl,d,B,D1⟩
  rintro⟨o,l,r⟩ K ⟨rfl,rfl,y,d,g⟩;dsimp only at y d g ⊢;obtain⟨t,m,w,rfl,rfl,rfl,W,P⟩:=o8 J y;rw[W]at d;rw[P,List.drop_left]at g;rw[P]at s1;refine wpS_bind (wpS_modify (wpS_pure ⟨rfl,j,H,I,_,xU a1,(append_left t List.perm_middle.symm).trans pm,?_⟩));rw[show t++x::(m++w)=(t++x::m)++w by simp,List.take_left' (by simp;rfl)];obtain⟨X,Y,σ⟩:=List.pairwise_append.mp s1;refine List.pairwise_append.mpr ⟨X,Dg.mpr ⟨g,Y⟩,λu F v hv=>?_⟩;rcases sY.mp hv with rfl|h;exact d u F;exact σ u F v h
 ·rintro r b ⟨rfl,j,H,I,a,a1,pm,s1⟩;rw[show max (max ok 1) n=n by lia]at s1;exact⟨rfl,j,H,I,a,a1,pm,s1⟩
 rintro r b ⟨rfl,j,H,I,a,a1,pm,s1⟩;exact wpS_pure (q b a j H I a1 pm s1)
def Tl(c:Keyed->Keyed->Bool):Nat->List (Nat×Nat×Nat)->List Keyed->Prop
 |_,[],l=>l=[]
 |s,t::r,l=>t.1=s/\1<=t.2.1/\∃X Y,l=X++Y/\X.length=t.2.1/\Ai c X/\Tl c (s+t.2.1) r Y
def Tl.app:Tl c s (L++k) l↔∃X Y,l=X++Y/\Tl c s L X/\Tl c (s+X.length) k Y:=by
 induction L generalizing s l with
 |nil=>exact⟨λh=>⟨[],l,rfl,rfl,by simp_all⟩,λz=>by obtain⟨X,Y,e,m,h⟩:=z;subst m;simp_all⟩
 | cons t L i=>
   constructor;rintro⟨d,f,X,Y,rfl,a,g,j⟩;obtain⟨U,v,rfl,b,n⟩:=i.mp j;exact⟨X++U,v,by simp,⟨d,f,X,U,rfl,a,g,b⟩,by rw[List.length_append,← add_assoc,a];exact n⟩;rintro⟨X,Y,rfl,⟨d,f,U,v,rfl,a,g,j⟩,b⟩;refine⟨d,f,U,v++Y,by simp,a,g,i.mpr ⟨v,Y,rfl,j,?_⟩⟩;rw[Av,← add_assoc,a]at b;exact b
def Tl.like(e:L.map (λt=>(t.1,t.2.1))=a.map (λt=>(t.1,t.2.1)))(h:Tl c s L l):Tl c s a l:=by
 induction L generalizing a s l with
 |nil=>cases a with|nil=>exact h|cons _ _=>cases e
 | cons t L i=>
   cases a with
   |nil=>cases e
   | cons u a=>
     obtain⟨d,f,X,Y,g,j,k,m⟩:=h;simp only[map_cons,List.cons.injEq,Prod.mk.injEq]at e;obtain⟨⟨n,b⟩,o⟩:=e;exact⟨n▸d,b▸f,X,Y,g,b▸j,k,b▸i o m⟩
def Tl.le(h:Tl c s L l):L.length<=l.length:=by
 induction L generalizing s l with
 |nil=>exact sS _
 | cons t L i=>
   obtain⟨b,d,X,Y,e,f,g,a⟩:=h;have:=i a
   grind
structure Std(κ:SortKind)(c:Keyed->Keyed->Bool)(a₀:List Keyed)(st:SortSt)(D1 R:List Keyed):Prop where
 k:PyProof.Rows.kindOf st=κ
 f:failedOf st=none
 a:(arrOf st).toList=D1++R
 p:(D1++R).Perm a₀
 t:Tl c 0 (pendingOf st).toList D1
def ON{k:SortSt}(C:Cm M A s κ G c)(F:∀ x∈f,G x)(hD:CA c f)(h:Std κ c f k D1 R)(hi:i+1 < (pendingOf k).size)
  (q:∀a j,Std κ c f a j R->(pendingOf a).size+1=(pendingOf k).size->j.length=D1.length->Q true a):wpS M A E s (mergeAt' i) Q k:=by
 obtain⟨L,b⟩:∃L,(pendingOf k).toList=L:=⟨_,rfl⟩;have H:(pendingOf k).size=L.length:=by rw[← b];rfl
 obtain⟨t,l,-⟩:∃t,L[i]?=some t/\True:=⟨L[i]'(by lia),nL (by lia),trivial⟩;obtain⟨u,m,-⟩:∃t,L[i+1]?=some t/\True:=⟨L[i+1]'(by lia),nL (by lia),trivial⟩;have e:L=L.take i++(t::u::L.drop (i+1+1)):=by
  conv=>lhs;rw[← take_append_drop i L]
  congr 1;obtain⟨I,J⟩:=hR.mp l;obtain⟨K,π⟩:=hR.mp m;rw[drop_eq_getElem_cons I,drop_eq_getElem_cons K,J,π]
 have n:(L.take i).length=i:=by simp;lia
 generalize L.take i=o at e n;generalize L.drop (i+1+1)=L2 at e;have r:=h.t;rw[b,e]at r;obtain⟨P,V1,S,T,U⟩:=Tl.app.mp r;obtain⟨a1,a2,X,W,rfl,a3,a4,v,w,Y,O,rfl,z,b4,d⟩:=U;subst S;have pw:CA c (P++(X++(Y++(O++R)))):=hD.perm (by have:=h.p.symm;simpa using this);obtain⟨sa,na,pa⟩:=t;obtain⟨sb,nb,pb⟩:=u;dsimp only at a1 a2 a3 v w z d;rw[Bj]at a1 d v;refine o3 (sa:=sa) (na:=na) (nb:=nb) (sb:=sb) (pa:=pa) (pb:=pb) (p:=P) (q:=O++R) (X:=X) (Y:=Y) C h.k (λx g=>F x (h.p.mem_iff.mp (h.a▸g))) h.f (by rw[h.a];simp) a1.symm a3 z (by lia) (by rw[← Array.getElem?_toList,b];exact l) (by rw[← Bh,b];exact m) a2 w a4 b4 (λx g y hy=>?_) λa N k1 k2 k3 k4 B k6=>?_;have:=(List.pairwise_append.mp (List.pairwise_append.mp pw).2.1).2.2 x g y (by simp[hy]);exact this;have lN:N.length=na+nb:=by rw[B.length_eq,Av];lia
 have pl:(pendingOf a).toList=o++((sa,na+nb,pa)::L2):=by
  rw[k3];have:((pendingOf k).setIfInBounds i (sa,na+nb,pa)).eraseIdxIfInBounds (i+1)=((pendingOf k).setIfInBounds i (sa,na+nb,pa)).eraseIdx (i+1) (by simpa using hi):=by
   rw[Array.eraseIdxIfInBounds,dif_pos]
  rw[this,Array.toList_eraseIdx,Array.toList_setIfInBounds,b,e,← n];simp[List.set_append_right,List.eraseIdx_append_of_length_le]
 refine q a (P++(N++O)) ⟨k1,k2,by rw[k4];simp,?_,?_⟩ ?_ ?_;refine List.Perm.trans ?_ h.p;simp only[append_assoc];exact append_left _ (by have:=B.append_right (O++R);simpa using this);rw[pl];exact Tl.app.mpr ⟨P,N++O,rfl,T,by lia,by dsimp only;lia,N,O,rfl,lN,k6,by dsimp only;rw[Bj,← add_assoc];exact d⟩
 ·have:(pendingOf a).size=(o++((sa,na+nb,pa)::L2)).length:=by rw[← pl];rfl
  rw[this,H,e];simp;rfl
 ·simp;lia
theorem _root_.List.map_modify_same{b c:Type}(g:b->c)(f:b->b)(h:∀a,g (f a)=g a):∀(l:List b) (i:Nat),(l.modify i f).map g=l.map g
 |[],_=>by simp
 |a::l,0=>by simp[h]
 |a::l,i+1=>by simp[List.map_modify_same g f h l i]
def lV[Decidable P](h:¬n<=1):(if P then n-2-1 else n-2)+1<n:=by split<;>lia
def xW{st:SortSt}(C:Cm M A s κ G c)(hk:PyProof.Rows.kindOf st=κ)(hp:pendingOf st=#[])(hf:failedOf st=none)(W:∀ x∈(arrOf st).toList,G x)(hD:CA c (arrOf st).toList)
  (q:∀a,failedOf a=none->(arrOf a).toList.Perm (arrOf st).toList->Ai c (arrOf a).toList->Q () a):wpS M A E s sortRuns' Q st:=by
 obtain⟨N,hN⟩:∃N,(arrOf st).size=N:=⟨_,rfl⟩;have lz:(arrOf st).toList.length=N:=hN;have sz:∀{a f R},Std κ c (arrOf st).toList a f R->f.length+R.length=N:=λh=>by have:=h.p.length_eq;rw[Av]at this;lia
 refine wpS_bind (wpS_get ?_);dsimp only;rw[hN];generalize (sortPriv% PySem.Builtin.minRun) N N 0=mr;refine wpS_bind (wpS_mono (wpS_forRange (λi (r:Option Unit×Nat) a=>r.1=none/\i<=r.2/\∃f R,Std κ c (arrOf st).toList a f R/\f.length=r.2)
  (Q:=λr a=>r.1=none/\∃f,Std κ c (arrOf st).toList a f []) ?_ ?_ ⟨rfl,hC _,[],(arrOf st).toList,⟨hk,hf,rfl,.refl _,by rw[hp];exact rfl⟩,rfl⟩) ?_)
 ·refine λi r y _ hi hh=>AB λσ=>?_;obtain⟨-,h1,f,R,g,K⟩:=hh;have e1:=sz g;have gR:∀ {B:List Keyed},B.Perm R->∀ x∈B,G x:=λh x hx=>W x (g.p.mem_iff.mp (sU.mpr (.inr (h.mem_iff.mp hx))));have dR:∀ {B:List Keyed},B.Perm R->CA c B:=λh=>(List.pairwise_append.mp (hD.perm g.p.symm)).2.1.perm h.symm λh=>h.symm;refine σ ?_;generalize r.2=lo at h1 K ⊢;subst K;refine iL (λF=>?_) λF=>wpS_pure ⟨rfl,f,by rw[DB (l:=R) (by lia)]at g;exact g⟩;rw[show N-f.length=R.length by lia];refine wpS_bind (xV C g.k g.a (gR (.refl _)) (dR (.refl _)) (by lia) λn v R21 n1 n2 π P S T z k6=>?_);dsimp only;have nx:∀ (b:SortSt) (p:List Keyed),PyProof.Rows.kindOf b=κ->pendingOf b=pendingOf y->failedOf b=failedOf y->(arrOf b).toList=f++p->p.Perm R->Std κ c (arrOf st).toList b f p:=λb p π P S T z=>
   ⟨π,S.trans g.f,T,(z.append_left f).trans g.p,by rw[P];exact g.t⟩
  apply m8 (λn b=>∃p,Std κ c (arrOf st).toList b f p/\1<=n/\n<=R.length/\p.Perm R/\Ai c (p.take n)) n;rfl
  case n=>exact λb2=>⟨R21,nx v R21 π P S T z,n1,n2,z,k6⟩
  case k=>
   intro key b2;refine wpS_bind (wpS_lift (Cf ⟨rfl,?_⟩));refine wpS_bind (rT C π T (gR z) (dR z) n1 (by lia) (by rw[z.length_eq];exact Nat.min_le_left _ _) k6 λb p j1 j2 j3 j4 U j6=>?_);rw[a0m (by decide)];exact key _ b ⟨p,nx b p j1 (j2.trans P) (j3.trans S) j4 (U.trans z),by lia,Nat.min_le_left _ _,U.trans z,j6⟩
  ·refine λn b hP=>AB λσ=>?_;obtain⟨p,h4,m1,m2,U,j6⟩:=hP;refine σ (wpS_bind (wpS_get ?_));have pu:∀ (d j:SortSt) (O:List Keyed),Std κ c (arrOf st).toList d O p->O.length=f.length->PyProof.Rows.kindOf j=PyProof.Rows.kindOf d->failedOf j=failedOf d->arrOf j=arrOf d->(pendingOf j).toList.map (λt=>(t.1,t.2.1))=(pendingOf d).toList.map (λt=>(t.1,t.2.1))++[(f.length,n)] ->
     (none:Option Unit)=none/\i+1<=f.length+n/\∃D' B,Std κ c (arrOf st).toList j D' B/\D'.length=f.length+n:=λd j O w m H y2 V1 y4=>by
    have lt:(p.take n).length=n:=by rw[Bi,U.length_eq];lia
    have ee:O++p.take n++p.drop n=O++p:=by rw[append_assoc,take_append_drop]
    refine⟨rfl,by lia,O++p.take n,p.drop n,⟨H.trans w.k,y2.trans w.f,by rw[V1,ee];exact w.a,by rw[ee];exact w.p,Tl.like (L:=(pendingOf d).toList++[(f.length,n,0)]) (by rw[y4,Aj];rfl) (Tl.app.mpr ⟨O,p.take n,rfl,w.t,by dsimp only;lia,m1,p.take n,[],by simp,lt,j6,rfl⟩)⟩,by rw[List.length_append];lia⟩
   cases e:(pendingOf b).back? with
   | none=>
     exact wpS_bind (wpS_modify (wpS_pure (pu b _ f h4 rfl rfl rfl rfl (by show((pendingOf b).push _).toList.map _=_;rw[DD,Aj];rfl))))
   | some t=>
     obtain⟨s1,n1,w1⟩:=t;dsimp only;refine wpS_bind (wpS_mono (wpS_forRange (λi (r:Option Unit×Unit) a=>r=(none,())/\∃O,Std κ c (arrOf st).toList a O p/\O.length=f.length)
      (Q:=λr a=>r=(none,())/\∃O,Std κ c (arrOf st).toList a O p/\O.length=f.length) ?_ ?_ ⟨rfl,f,h4,rfl⟩) ?_)
     ·rintro i r d-hi ⟨rfl,O,w,m⟩;refine wpS_bind (wpS_get ?_);by_cases b3:(pendingOf d).size > 1
      ·have z3:(pendingOf d).size-2+1<(pendingOf d).size:=by lia
       rw[eH b3,BP (Nat.lt_of_succ_lt z3)];exact jN (wpS_pure ⟨rfl,O,w,m⟩) (wpS_bind (ON C W hD w z3 λj D5 H _ V1=>by rw[a0m (by decide)];exact wpS_pure ⟨rfl,D5,H,V1.trans m⟩))
      ·rw[a0m b3];exact wpS_pure ⟨rfl,O,w,m⟩
     ·exact λr d h=>h
     ·rintro r d ⟨rfl,O,w,m⟩;refine wpS_bind (wpS_modify (wpS_bind (wpS_modify (wpS_pure (pu d _ O w m rfl rfl rfl ?_)))));show(((pendingOf d).modify _ _).push _).toList.map _=_;rw[DD,Aj,Array.toList_modify,List.map_modify_same (λt:Nat×Nat×Nat=>(t.1,t.2.1))];rfl;exact λt=>rfl
 ·rintro⟨o,lo⟩ y ⟨rfl,h1,f,R,g,K⟩;have e1:=sz g;dsimp only at h1 K;have:R=[]:=DB (by lia);subst this;exact⟨rfl,f,g⟩
 ·rintro⟨o,lo⟩ y ⟨rfl,f,g⟩;dsimp only;refine wpS_bind (wpS_mono (wpS_forRange (λi (r:Option Unit×Unit) a=>r=(none,())/\(pendingOf a).size+i<=N/\∃ f,Std κ c (arrOf st).toList a f [])
   (Q:=λr a=>r=(none,())/\(pendingOf a).size<=1/\∃f,Std κ c (arrOf st).toList a f []) ?_ ?_ ⟨rfl,by have h5:(pendingOf y).size<=f.length:=g.t.le;have h6:=sz g;rw[length_nil]at h6;lia,f,g⟩) ?_)
  ·rintro i r v-hi ⟨rfl,w,I,m⟩;refine wpS_bind (wpS_get ?_);exact iL (λF=>wpS_bind (ON C W hD m (lV F) λj D5 H y2 V1=>by rw[a0m (by decide)];exact wpS_pure ⟨rfl,by lia,D5,H⟩)) λF=>wpS_pure ⟨rfl,F,I,m⟩
  ·rintro r v ⟨rfl,w,I,m⟩;exact⟨rfl,by lia,I,m⟩
  ·rintro r v ⟨rfl,w,I,m⟩;refine wpS_pure (q v m.f (by rw[m.a];exact m.p) ?_);rw[m.a,Ci];have t:=m.t;have J:(pendingOf v).toList.length<=1:=w;cases e:(pendingOf v).toList with
   |nil=>rw[e]at t;have t:I=[]:=t;rw[t];exact .nil
   | cons u r=>
     rw[e]at t J;have:r=[]:=DB (by simpa using J);subst this;obtain⟨_,_,X,Y,rfl,_,sX,hY⟩:=t;have hY:Y=[]:=hY;rw[hY,Ci];exact sX
def o9(H:iU prog w s.heap a p)(d:iU prog w s.heap c o)(q:Q (Az a c) s):wpAny (model prog w) A (keyLt' (tuples' b) (.ref p) (.ref o)) Q E s:=by
 obtain⟨k,l,r,e,_,f,g⟩:=H;obtain⟨m,n,N,h,_,i,j⟩:=d;refine kat_lt e f h i ?_;have:=Zh (b:=b) (A:=A) 0 g j q
 simp_all
noncomputable def vF(prog:Program)(w:World)(h:Heap)(x:Keyed):List Int:=Classical.epsilon λk=>∃a,x.1=.ref a/\iU prog w h k a
def lA(e:x.1=.ref a)(t:iU prog w h k a):vF prog w h x=k:=by
 obtain⟨d,b,c⟩:=Classical.epsilon_spec (p:=λk=>∃a,x.1=.ref a/\iU prog w h k a) ⟨k,a,e,t⟩;rw[e]at b;cases b;exact c.inj t
def p0:Cm (model prog w) A s (tuples' true) (λx=>∃ k a,x.1=.ref a/\iU prog w s.heap k a) (λx y=>Az (vF prog w s.heap x) (vF prog w s.heap y)) where
 lt:=λ{x y E Q} ⟨k,a,e,t⟩ ⟨d,f,b,c⟩ q=>by
  rw[lA e t,lA b c]at q;rw[e,b];exact o9 t c q
 ir:=λx=>pR _
 tr:=Jc
def p5{r:List Value}{L:List Keyed}(T:eW prog w h N s r.toArray)(z:s.Nodup)(t:L.Perm (r.zip r))(u:L.Pairwise λx y=>Az (vF prog w h x) (vF prog w h y)=true):eW prog w h N (sT s) (L.map (·.2)).toArray:=by
 have q:s.length=r.length:=by simpa using T.1
 have f:∀x∈L,∃a,x.2=.ref a/\iU prog w h (vF prog w h x) a/\N a:=λx c=>by
  obtain⟨g,j⟩:=mem_zip_self (t.mem_iff.mp c);obtain⟨i,H,e⟩:=Cv j;obtain⟨k,a,_,b,d,l⟩:=T.2 i x.1 (by simp_all);exact⟨a,g▸b,by rw[lA b d];exact d,l⟩
 have n:(r.zip r).map (vF prog w h)=s:=by
  refine EK λi=>?_;rw[An];by_cases H:i<r.length
  ·have o:(r.zip r)[i]?=some (r[i],r[i]):=by simp_all
   obtain⟨k,a,p,b,d,l⟩:=T.2 i r[i] (by simp);rw[o,p];exact BO some (lA b d)
  simp_all
 have e:L.map (vF prog w h)=sT s:=Jd (List.pairwise_map.mpr u) (fL s) λx=>by
  rw[bY,← n,(t.map (vF prog w h)).mem_iff]
 refine⟨by rw[← e];simp,λi v m=>?_⟩;rw[BS,An]at m;obtain⟨x,c,rfl⟩:=Bg.mp m;obtain⟨a,g,j,b⟩:=f x (Ao c);exact⟨vF prog w h x,a,by rw[← e,An,c];rfl,g,j,b⟩
def pV{O:List Value}{D1 n:Nat}(p:s.heap.get? D1=some (seqObj "list" O.toArray n))(hD:¬ N D1)(T:eW prog w s.heap N ks O.toArray)(hz:O.length<=sizeLine)(hn:ks.Nodup)(K:2<=O.length->∀ k∈ks,k≠[])
  (q:∀h' ws c,eW prog w h' N (sT ks) (toArray ws)->h'.get? D1=some (seqObj "list" (toArray ws) c)->(∀b ob,b≠D1->s.heap.get? b=some ob->h'.get? b=some ob)->P (.done (.ret .none)) {s with heap:=h'}) :
  wpAny (model prog w) A (Builtin.«list.sort» ⟨[.ref D1],[]⟩) P E s:=by
 have M:D1<s.heap.objs.size:=sL p;rw[list_sort_plain];refine dV (listItems_at p rfl (dV (listUpdate_at p rfl ?_ (by simpa using hz) (sS _))));obtain⟨h,l⟩:∃h,(s.heap.update D1 (mapSeq λ_=>(#[]:Array Value))).get? D1=some (seqObj "list" #[] h):=⟨_,get?_update_seq p λ_=>#[]⟩;refine dV (seqEpoch_at l rfl (dV (wpAny_newTuple ?_ (by simpa using hz))));refine dV (wpAny_newList ?_ (sS _));refine AS ?_;have kept:∀b ob,b≠D1->s.heap.get? b=some ob->(((s.heap.update D1 (mapSeq λ_=>(#[]:Array Value))).push (seqObj "tuple" O.toArray 0)).push (seqObj "list" #[] 0)).get? b=some ob:=λb ob hb e=>Ac _ (Ac _ ((DC _ _ (oI hb)).trans e));have f:(((s.heap.update D1 (mapSeq λ_=>(#[]:Array Value))).push (seqObj "tuple" O.toArray 0)).push (seqObj "list" #[] 0)).get? D1=some (seqObj "list" #[] h):=Ac _ (Ac _ l);show wpAny (model prog w) A _ P E {s with heap:=((s.heap.update D1 (mapSeq λ_=>(#[]:Array Value))).push (seqObj "tuple" O.toArray 0)).push (seqObj "list" #[] 0)};generalize ((s.heap.update D1 (mapSeq λ_=>(#[]:Array Value))).push (seqObj "tuple" O.toArray 0)).push (seqObj "list" #[] 0)=d at kept f ⊢;have m:eW prog w d N ks O.toArray:=T.stay λb ob hb e=>kept b ob (λz=>hD (z▸hb)) e;dsimp only;have hl:ks.length=O.length:=by simpa using T.1
 have pz:(O.toArray.zip O.toArray).toList=O.zip O:=by simp
 have fin:∀(L:List Keyed),L.Perm (O.zip O)->(L.Pairwise λx y=>Az (vF prog w d x) (vF prog w d y)=true)->P (.done (.ret .none)) {s with heap:=d.update D1 (mapSeq λ_=>(L.map (·.2)).toArray)}:=λL pm so=>by
  obtain⟨r,t⟩:∃r,(d.update D1 (mapSeq λ_=>(L.map (·.2)).toArray)).get? D1=some (seqObj "list" (L.map (·.2)).toArray r):=⟨_,get?_update_seq f λ_=>(L.map (·.2)).toArray⟩;have kp:∀b ob,b≠D1->d.get? b=some ob->(d.update D1 (mapSeq λ_=>(L.map (·.2)).toArray)).get? b=some ob:=λb ob hb e=>(DC _ _ (oI hb)).trans e;exact q _ _ r ((p5 m hn pm so).stay λb ob hb e=>kp b ob (λz=>hD (z▸hb)) e) t λb ob hb e=>kp b ob hb (kept b ob hb e)
 have π:∀{L:List Keyed},L.Perm (O.zip O)->(L.map (·.2)).length=O.length:=λpm=>by rw[fI,pm.length_eq];simp
 by_cases g:O.toArray.size<2
 ·rw[eH g,eH g];refine dV (gX ?_);rw[StateT.run_pure];refine dV (gX ?_);dsimp only;refine dV (seqEpoch_at f rfl ?_);have es:(arrOf (SortSt.mk' general' (O.toArray.zip O.toArray) #[] 7 none)).map (·.2)=((O.zip O).map (·.2)).toArray:=by
   show(O.toArray.zip O.toArray).map (·.2)=_;apply Array.toList_inj.mp;simp
  refine dV (listUpdate_at f rfl ?_ (sS _) (by rw[es];simp;lia));simp only[bne_self_eq_false,false_eq_true,if_false];rw[es];refine gX (fin _ (.refl _) ?_);have:(O.zip O).length<2:=by simpa using g
  match R:O.zip O with
  |[]=>exact .nil
  |[x]=>exact pairwise_singleton _ _
  |_::_::_=>rw[R]at this;simp only[length_cons]at this;lia
 ·rw[a0m g,a0m g];have o:2<=O.length:=by simp at g;exact g
  refine dV (Zi (s:={s with heap:=d}) m (Aq o) (K o) ?_);have C:Cm (model prog w) A {s with heap:=d} (tuples' true) _ _:=p0 (s:={s with heap:=d});have S:∀x∈O.zip O,∃k a,x.1=.ref a/\iU prog w d k a:=λx U=>by
   obtain⟨h,u⟩:=mem_zip_self U;obtain⟨i,hi,e⟩:=Cv u;obtain⟨k,a,_,v,V1,e5⟩:=m.2 i x.1 (by rw[BS,nL hi,e]);exact⟨k,a,v,V1⟩
  have W:CA (λx y=>Az (vF prog w d x) (vF prog w d y)) (O.zip O):=by
   refine List.pairwise_iff_getElem.mpr λi j hi hj B=>?_;have F:i<O.length:=by simpa using hi
   have G:j<O.length:=by simpa using hj
   obtain⟨H,a1,h,u,v,_⟩:=m.2 i O[i] (by rw[BS];exact nL F);obtain⟨I,a2,X,Y,σ,_⟩:=m.2 j O[j] (by rw[BS];exact nL G);dsimp only;rw[lA (x:=(O.zip O)[i]) (by simp[u]) v,lA (x:=(O.zip O)[j]) (by simp[Y]) σ];have ne:H≠I:=λz=>by
    subst z;obtain⟨g1,g2⟩:=hR.mp h;obtain⟨g3,g4⟩:=hR.mp X;exact List.pairwise_iff_getElem.mp (Ca.mp hn) i j g1 g3 B (g2.trans g4.symm)
   cases q1:Az H I with
   |true=>exact .inl rfl
   | false=>cases q2:Az I H with
     |true=>exact .inr rfl
     |false=>exact absurd (xL q1 q2) ne
  have run:=xW (E:=E) C (st:=SortSt.mk' (tuples' true) (O.toArray.zip O.toArray) #[] 7 none) (Q:=λ_ st'=>failedOf st'=none/\(arrOf st').toList.Perm (O.zip O)/\Ai (λx y=>Az (vF prog w d x) (vF prog w d y)) (arrOf st').toList) rfl rfl rfl (by show ∀x∈(O.toArray.zip O.toArray).toList,_;rw[pz];exact S) (by show CA _ (O.toArray.zip O.toArray).toList;rw[pz];exact W) λst' z1 J z3=>⟨z1,by have J:(arrOf st').toList.Perm (O.toArray.zip O.toArray).toList:=J;rwa[pz]at J,z3⟩;refine dV (Cu run ?_ λ_ _ e=>e);rintro⟨⟨⟩,st'⟩ s' ⟨rfl,hf,pm,so⟩;dsimp only at pm so ⊢;refine dV (seqEpoch_at f rfl ?_);have es:(arrOf st').map (·.2)=((arrOf st').toList.map (·.2)).toArray:=by apply Array.toList_inj.mp;simp
  rw[es];refine dV (listUpdate_at f rfl ?_ (sS _) (by show(toArray _).size<=_;rw[BU,π pm];lia));rw[hf];simp only[bne_self_eq_false,false_eq_true,if_false];exact gX (fin _ pm so)
def uQ(hh:A.handled=none)(X:Cz prog w s.heap S (eJ w) N ks o es ep t)(hN:∀ a,N a->a < s.heap.objs.size)(hz:es.size<=sizeLine)(hk:2<=es.size->∀ k∈ks,k≠[])(hm:∀ x,x∈ks↔x∈l)
  (q:∀h' tk D1 O c,s.heap.objs.size<=D1->h'.get? D1=some (seqObj "list" (toArray O) c)->eW prog w h' N (sT l) (toArray O)->(∀b ob,s.heap.get? b=some ob->h'.get? b=some ob)->Q (.ref D1) {s with heap:=h',toks:=tk}) :
  wpAny (model prog w) A (call (.builtin "sorted") [.ref S]) Q E s:=by
 have pm:=jK (w:=w) (S:=S) (ep:=ep) es;have F:(bN w S ep es).toList.length=es.size:=by have:=pm.length_eq;simpa using this
 have B:∀e∈(bN w S ep es).toList,∃k a,k∈ks/\e=(tupleKeyHash (intKind prog w) k,Value.ref a)/\iU prog w s.heap k a/\N a:=λe K=>by
  have:=pm.mem_iff.mp K;obtain⟨i,hi,ei⟩:=Array.getElem_of_mem (by simpa using this:e∈es);obtain⟨k,a,j,n,u,G⟩:=X.it i e (by rw[BP hi,ei]);exact⟨k,a,Ao j,n,u,G⟩
 have L:∃ us:List (List Int),us.Perm ks/\us.length=es.size/\∀ (i:Nat) e,(bN w S ep es).toList[i]? = some e->∃ k a,us[i]? = some k/\e.2=Value.ref a/\iU prog w s.heap k a/\N a:=by
  have f:∀e:Int×Value,∃k:List Int,∀y a,e.2=Value.ref a->iU prog w s.heap y a->y=k:=λe=>by
   by_cases h:∃y a,e.2=Value.ref a/\iU prog w s.heap y a;obtain⟨y,a,j,n⟩:=h;refine⟨y,λk'' a' r M=>?_⟩;rw[j]at r;cases r;exact M.inj n;exact⟨[],λy a j n=>absurd ⟨y,a,j,n⟩ h⟩
  let g:Int×Value->List Int:=λe=>Classical.choose (f e)
  have Y:∀e k a,e.2=Value.ref a->iU prog w s.heap k a->k=g e:=λe k a=>Classical.choose_spec (f e) k a;have ge:es.toList.map g=ks:=by
   refine EK λi=>?_;rw[An,Bh];by_cases hi:i<es.size;rw[BP hi];obtain⟨k,a,j,n,u,_⟩:=X.it i es[i] (BP hi);rw[j];show some (g es[i])=some k;rw[← Y es[i] k a (by rw[n]) u];rw[Ik (DK hi),List.getElem?_eq_none (by rw[X.len];lia)];rfl
  refine⟨(bN w S ep es).toList.map g,?_,by rw[fI];exact F,λi e K=>?_⟩;have:=pm.map g;rw[ge]at this;exact this;obtain⟨k,a,j,n,u,G⟩:=B e (Ao K);refine⟨k,a,?_,by rw[n],u,G⟩;rw[An,K];show some (g e)=some k;rw[← Y e k a (by rw[n]) u]
 obtain⟨us,up,ul,ui⟩:=L;refine Calls.call_function_entry kind_sorted plain_sorted entry_sorted (args_sorted1 _) ?_;unfold Builtin.«sorted»;refine dV (m:=checkCount "sorted" 1 1 _) (gX ?_);refine dV (uK (A:=A.in1) hh ⟨X.ob,X.ex,X.dt,X.tk,X.ful,X.ld,X.pl⟩ hz λj H p d=>?_);generalize I:(bN w S ep es).toList.map (·.2)=O;have π:O.length=es.size:=by rw[← I,fI];exact F
 have T1:eW prog w j N us O.toArray:=by
  refine⟨by rw[ul,BU];exact π.symm,λi v e=>?_⟩;rw[BS,← I,An]at e;obtain⟨e',ee,rfl⟩:=Bg.mp e;obtain⟨k,a,r,n,u,G⟩:=ui i e' ee;exact⟨k,a,r,n,u.at λob P=>p a ob P,G⟩
 refine dV (wpAny_newList ?_ (by rw[π];exact hz));have J:(j.push (seqObj "list" O.toArray 0)).get? j.objs.size=some (seqObj "list" O.toArray 0):=Al _ rfl;have up1:∀b ob,j.get? b=some ob->(j.push (seqObj "list" O.toArray 0)).get? b=some ob:=λb ob e=>Ac _ e;have R:¬N j.objs.size:=λz=>absurd (hN _ z) (EM.mpr (Aq d));have T2:eW prog w (j.push (seqObj "list" O.toArray 0)) N us O.toArray:=T1.stay λb ob _ e=>up1 b ob e;have T:2<=O.length->∀k∈us,k≠[]:=λh k U=>hk (by lia) k (up.mem_iff.mp U);have nu:us.Nodup:=up.nodup_iff.mpr X.nd;refine dV (AS (Cr slot_list_sort ⟨_,J,rfl⟩ entry_list_sort (pV (s:={s with heap:=j.push (seqObj "list" O.toArray 0),toks:=H}) J R T2 (by rw[π];exact hz) nu T λn ws c σ V1 C=>⟨_,rfl,?_⟩) (args_list_sort _)));refine gX ⟨_,rfl,?_⟩;have W:sT us=sT l:=Jd (fL us) (fL l) λx=>by rw[bY,bY,up.mem_iff];exact hm x
 rw[W]at σ;exact q n H j.objs.size ws c (Aq d) V1 σ λb ob e=>C b ob (λz=>absurd (sL (z▸e)) (EM.mpr (Aq d))) (up1 b ob (p b ob e))
end
section
open PyProof.Rows Spec
theorem OO(k:List Int):∀ l:List (List Int),(Dc k l).length<=l.length+1
 |[]=>by simp[Dc]
 | x::l=>by
   have:=OO k l;unfold Dc
   repeat' split
   all_goals simp_all
theorem jO:∀ l:List (List Int),(sT l).length<=l.length
 |[]=>by simp[sT]
 | x::l=>by
   have:=jO l;have:=OO x (sT l);show(Dc x (sT l)).length<=_
   grind
def uR:List V->Hp->VK->Prop:=λv H Q=>∃(p:Addr) (b:Bool) (d:List Addr) (c:List (List Int)),v=[.ref p]/\cG H p=some (b,d.map V.ref)/\d.length=c.length/\(∀(i:Nat) a k,d[i]?=some a->c[i]?=some k->H a=some (.tup (k.map V.int))) /\
 c.length<4000/\(2<=(sT c).length->∀k∈c,k≠[]) /\
 ∀r (q:List Addr),H r=none->q.length=(sT c).length->(∀(i:Nat) a k,q[i]?=some a->(sT c)[i]?=some k->H a=some (.tup (k.map V.int)))->Q (.ref r) (gV H r (.lst (q.map V.ref)))
def rU(hc:X.calm=true)(hu:X.A.units+8 < cLine):∀ pins s Z H vs us Q,dX X pins Z H s->bC vs us->uR vs H Q ->
  wpAny (model X.prog X.w) X.A (call (.type "set") us) (λu s1=>wpAny (model X.prog X.w) X.A (call (.builtin "sorted") [u]) (EP X pins Z Q) X.xe s1) X.xe s:=by
 intro pins s Z H vs us Q I rv h;obtain⟨p,b,ps,ks,rfl,hH,hl,K,hn,L,q⟩:=h;obtain⟨u,rfl,ru⟩:=rv.one;cases ru;obtain⟨its,r,⟨M⟩⟩:=NT I hc hH;have B:ps.length=its.length:=by simpa using r.length
 have O:∀a∈ps,a<s.heap.objs.size:=λa ha=>by
  obtain⟨i,hi,e⟩:=Cv ha;have n:i<ks.length:=by lia
  obtain⟨o,_,_,ho,_⟩:=kW I (K i a ks[i] (by rw[nL hi,e]) (nL n));exact sL ho
 have T0:eW X.prog X.w s.heap (· ∈ ps) ks its.toArray:=by
  refine⟨by rw[BU];lia,λi v e=>?_⟩;rw[BS]at e;have hi:i<ps.length:=by rw[B];exact(hR.mp e).1
  have n:i<ks.length:=by lia
  obtain⟨v',e',π⟩:=r.get (i:=i) (x:=.ref ps[i]) (by rw[An,nL hi];rfl);rw[e]at e';cases e';cases π;exact⟨ks[i],ps[i],nL n,rfl,kW I (K i _ _ (nL hi) (nL n)),Dh hi⟩
 have nS:¬s.heap.objs.size∈ps:=λz=>absurd (O _ z) (Bt _);have nI:¬s.heap.objs.size+1∈ps:=λz=>absurd (O _ z) (EM.mpr (le_succ _));refine NN M (λA' ha P=>Zc (prog:=X.prog) (w:=X.w) (led:=eJ X.w) (N:=(· ∈ ps)) (ks:=ks) (Cb P hu) nS nI (Ay (EJ _)) hn) (λh' hS C=>?_) λh' tk ⟨T1,us,X1,_,hm⟩ d=>?_;refine⟨T0.stay λc ob _ e=>C c ob e,[],⟨_,#[],0,_,hS,⟨rfl,rfl,rfl⟩,rfl,?_,?_,rfl,rfl,rfl,λi e he=>by simp at he,.nil⟩,hC _,λx=>by simp⟩;refine⟨⟨3,rfl⟩,hC _,rfl,λi j a b _ e=>by simp[SetTable.fresh]at e,λi j e=>by simp[SetTable.fresh]at e,rfl,by simp[SetTable.fresh],λi h e=>by simp at e⟩;simp[SetTable.fresh];obtain⟨o,es,ep,t,Y⟩:=X1;have y:∀x,x∈us↔x∈ks:=λx=>by
  rw[hm x,Cg (by rw[BU];lia)]
 have pl:us.length=(sT ks).length:=((List.perm_ext_iff_of_nodup Y.nd (uI (fL ks))).mpr λx=>by rw[y x,bY]).length_eq;have R:es.size=(sT ks).length:=by rw[← Y.len];exact pl
 have E:s.heap.objs.size<h'.objs.size:=sL Y.ob;have sl:(sT ks).length<=ks.length:=jO ks;have S:es.size<=sizeLine:=by rw[R,Ct];lia
 refine uQ (s:={s with heap:=h',toks:=tk}) (I.ok.hd hc) Y (λa ha=>Ck (O a ha) E) S (λh2 k T=>L (by lia) k ((y k).mp T)) y λh2 U D1 vs c hD W σ m=>?_
 have hq:∃ A:List Addr,vs=A.map Value.ref/\A.length=(sT ks).length/\∀ (i:Nat) a k,A[i]? = some a->(sT ks)[i]? = some k->H a=some (.tup (k.map V.int)):=by
  have f:∀v∈vs,∃a,v=Value.ref a:=λv J=>by
   obtain⟨i,hi,e⟩:=Cv J;obtain⟨_,a,_,e2,_⟩:=σ.2 i v (by rw[BS,nL hi,e]);exact⟨a,e2⟩
  have g:∀ vs:List Value,(∀ v∈vs,∃ a,v=Value.ref a)->∃ A:List Addr,vs=A.map Value.ref:=by
   intro vs
   induction vs with
   |nil=>intro _;exact⟨[],rfl⟩
   | cons v r ih=>
     intro J;obtain⟨a,rfl⟩:=J v pL;obtain⟨A,rfl⟩:=ih λx hx=>J x (Af _ hx);exact⟨a::A,rfl⟩
  obtain⟨A,rfl⟩:=g vs f;have l1:A.length=(sT ks).length:=by have:=σ.1;simpa using this.symm
  refine⟨A,rfl,l1,λi a k ea ek=>?_⟩;obtain⟨k',a',e1,e2,e3,e4⟩:=σ.2 i (.ref a) (by rw[BS,An,ea];rfl);rw[ek]at e1;cases e1;cases e2;obtain⟨j,hj,ej⟩:=Cv e4;have hj':j<ks.length:=by lia
  have F:=K j a ks[j] (by rw[nL hj,ej]) (nL hj');have t1:iU X.prog X.w h2 ks[j] a:=(kW I F).at λob hob=>m a ob (d a ob hob);rw[e3.inj t1];exact F
 obtain⟨A,rfl,ql,qh⟩:=hq;have G:s.heap.objs.size<=D1:=hQ (Aq E) hD;refine⟨.ref D1,gV H D1 (.lst (A.map V.ref)),?_,rfl,q D1 A (I.hok.fresh G) ql qh⟩;refine I.laid (t':=U) (λb ob e=>m b ob (d b ob e)) G ⟨by rw[fI,ql,Ct];lia,A.map Value.ref,c,?_,W⟩;have vr:∀l:List Addr,bC (l.map V.ref) (l.map Value.ref):=by
  intro l
  induction l with
  |nil=>exact .nil
  |cons a r ih=>exact .cons rfl ih
 exact vr A
end
open Classical in
def fZ:FN:=λa=>match a with
 |[d]=>(Dk d).bind λx=>(rF x.2).bind λb=>if b.length<4000/\(2<=(sT b).length->∀k∈b,k≠[])then some (.own (.lst ((sT b).map tI)))else none
 |_=>none
def uT:vW uR fZ:=by
 intro H x G Q z y e k;unfold fZ at e;split at e
 ·obtain⟨⟨b,l⟩,j,e⟩:=aB e;obtain⟨C,c,e⟩:=aB e;dsimp only at c;split at e
  ·rename_i d;cases e;cases y with
   | cons a t=>
     cases t;obtain⟨p,E,rfl,m,f⟩:=zM a j;rw[NX c]at f;obtain⟨B,rfl,n,o⟩:=NY f;refine⟨p,b,B,C,rfl,m,n,o,d.1,d.2,λr A g q s=>?_⟩;have h:lG H (gV H r (.lst (A.map V.ref))):=aN g;exact k _ _ h ⟨r,rfl,g,_,aH,NZ q λi a u v w=>h _ _ (s i a u v w)⟩
  ·cases e
 ·cases e
theorem p6:eD (fZ [.lst (a.map tI)]) K=((a.length<4000/\(2<=(sT a).length->∀k∈a,k≠[]))/\K (.own (.lst ((sT a).map tI)))):=by
 show eD ((rF (a.map tI)).bind _) K=_;rw[nT];show eD (if _ then _ else none) K=_;rw[aP];rfl
def q0:eD (fZ [.tup (a.map tI)]) K=((a.length<4000/\(2<=(sT a).length->∀k∈a,k≠[]))/\K (.own (.lst ((sT a).map tI)))):=by
 show eD ((rF (a.map tI)).bind _) K=_;rw[nT];show eD (if _ then _ else none) K=_;rw[aP];rfl
section
open PyProof.Rows Spec
def OP:List V->Hp->VK->Prop:=λv H Q=>∃(p:Addr) (b:Bool) (d:List Addr) (c:List (List Int)),v=[.ref p]/\cG H p=some (b,d.map V.ref)/\d.length=c.length/\(∀(i:Nat) a k,d[i]?=some a->c[i]?=some k->H a=some (.tup (k.map V.int))) /\
 c.length<4000/\c.Nodup/\(2<=c.length->∀k∈c,k≠[]) /\
 ∀r (q:List Addr),H r=none->q.length=(sT c).length->(∀(i:Nat) a k,q[i]?=some a->(sT c)[i]?=some k->H a=some (.tup (k.map V.int)))->Q (.ref r) (gV H r (.lst (q.map V.ref)))
theorem OQ:∀ d:List Value,(∀ v∈d,∃ a,v=Value.ref a)->∃ q:List Addr,d=q.map Value.ref
 |[],_=>⟨[],rfl⟩
 | v::r,b=>by
   obtain⟨a,rfl⟩:=b v pL;obtain⟨q,rfl⟩:=OQ r λx c=>b x (Af _ c);exact⟨a::q,rfl⟩
def q9:iE X (.builtin "sorted") OP:=by
 intro pins s Z H xs us Q I rv h;obtain⟨p,b,ps,ks,rfl,U,hl,F,hn,nd,G,q⟩:=h;obtain⟨u,rfl,ru⟩:=oG rv;cases ru;obtain⟨w,r,T,o,n,hT,g,hc,hd⟩:∃ (w:List Value),bC (ps.map V.ref) w/\∃ (T:String) (o:Obj) (n:Nat),(T="list"\/T="tuple")/\s.heap.get? p=some o/\o.cls=.type T/\o.data=.seq w.toArray n:=by
  cases b with
  | true=>
    obtain⟨w,y,pl,hz⟩:=I.list (dE U);obtain⟨o,g,hc,n,hd⟩:=pl.isList;exact⟨w,y,"list",o,n,.inl rfl,g,hc,hd⟩
  | false=>
    obtain⟨w,y,pl,hz⟩:=I.tuple (cX U);obtain⟨o,g,hc,n,hd⟩:=pl;exact⟨w,y,"tuple",o,n,.inr rfl,g,hc,hd⟩
 have A:ps.length=w.length:=by simpa using r.length
 have J:w.length<=sizeLine:=by rw[Ct];lia
 have T0:eW X.prog X.w s.heap (· ∈ ps) ks w.toArray:=by
  refine⟨by rw[BU];lia,λi v e=>?_⟩;rw[BS]at e;have hi:i<ps.length:=by rw[A];exact(hR.mp e).1
  have f:i<ks.length:=by lia
  obtain⟨v',W,K⟩:=r.get (i:=i) (x:=.ref ps[i]) (by rw[An,nL hi];rfl);rw[e]at W;cases W;cases K;exact⟨ks[i],ps[i],nL f,rfl,kW I (F i _ _ (nL hi) (nL f)),Dh hi⟩
 refine Calls.call_function_entry kind_sorted plain_sorted entry_sorted (args_sorted1 _) ?_;unfold Builtin.«sorted»;refine dV (m:=checkCount "sorted" 1 1 _) (gX ?_);refine dV (wpAny_collect_seq p hT g hc hd (λd B=>?_) (by simp only[size_toArray];exact J));refine dV (wpAny_newList ?_ (by rw[show w.toArray.toList.length=w.length from by simp];exact J));have C:(d.push (seqObj "list" w.toArray.toList.toArray 0)).get? d.objs.size=some (seqObj "list" w.toArray 0):=by
  simpa using Al (h:=d) (o:=seqObj "list" w.toArray.toList.toArray 0) rfl
 have E:dX X pins Z H {s with heap:=d}:=I.kept (t':=s.toks) B;have up1:∀b O,d.get? b=some O->(d.push (seqObj "list" w.toArray.toList.toArray 0)).get? b=some O:=λb O e=>Ac _ e;have L:¬d.objs.size∈ps:=λz=>by
  obtain⟨i,hi,e⟩:=Cv z;have f:i<ks.length:=by lia
  obtain⟨o,_,_,g,_⟩:=kW E (F i _ ks[i] (by rw[nL hi,e]) (nL f));exact absurd (sL g) (Bt _)
 have T1:eW X.prog X.w (d.push (seqObj "list" w.toArray.toList.toArray 0)) (· ∈ ps) ks w.toArray:=T0.stay λb O _ e=>up1 b O (B b O e);refine dV (AS (Cr slot_list_sort ⟨_,C,rfl⟩ entry_list_sort (pV (s:={s with heap:=d.push (seqObj "list" w.toArray.toList.toArray 0)}) C L T1 J nd (λh k M=>G (by lia) k M) λY ws c N π t=>⟨_,rfl,?_⟩) (args_list_sort _)));refine gX ⟨_,rfl,?_⟩;have keep:∀b O,d.get? b=some O->Y.get? b=some O:=λb O e=>t b O (λz=>absurd (sL (z▸e)) (Bt _)) (up1 b O e);obtain⟨qs,rfl⟩:=OQ ws λv hv=>by
  obtain⟨i,hi,e⟩:=Cv hv;obtain⟨_,a,_,P,_⟩:=N.2 i v (by rw[BS,nL hi,e]);exact⟨a,P⟩
 have σ:qs.length=(sT ks).length:=by have:=N.1;simpa using this.symm
 have qh:∀(i:Nat) a k,qs[i]?=some a->(sT ks)[i]?=some k->H a=some (.tup (k.map V.int)):=λi a k ea ek=>by
  obtain⟨k',a',e1,P,e3,e4⟩:=N.2 i (.ref a) (by rw[BS,An,ea];rfl);rw[ek]at e1;cases e1;cases P;obtain⟨j,hj,ej⟩:=Cv e4;have R:j<ks.length:=by lia
  have D1:=F j a ks[j] (by rw[nL hj,ej]) (nL R);have t1:iU X.prog X.w Y ks[j] a:=(kW E D1).at λO S=>keep a O S;rw[e3.inj t1];exact D1
 have sl:(sT ks).length<=ks.length:=jO ks;refine⟨.ref d.objs.size,gV H d.objs.size (.lst (qs.map V.ref)),?_,rfl,q _ qs (E.hok.fresh (hC _)) σ qh⟩;refine E.laid (t':=s.toks) keep (hC _) ⟨by rw[fI,σ,Ct];lia,qs.map Value.ref,c,?_,π⟩;have y:∀l:List Addr,bC (l.map V.ref) (l.map Value.ref):=by
  intro l
  induction l with
  |nil=>exact .nil
  |cons a r ih=>exact .cons rfl ih
 exact y qs
end
open Classical in
def HY:FN:=λa=>match a with
 |[d]=>(Dk d).bind λx=>(rF x.2).bind λb=>if b.length<4000/\b.Nodup/\(2<=b.length->∀k∈b,k≠[])then some (.own (.lst ((sT b).map tI)))else none
 |_=>none
def r8:vW OP HY:=by
 intro H x G Q z y e k;unfold HY at e;split at e
 ·obtain⟨⟨b,l⟩,j,e⟩:=aB e;obtain⟨C,d,e⟩:=aB e;dsimp only at d;split at e
  ·rename_i c;cases e;cases y with
   | cons a t=>
     cases t;obtain⟨p,E,rfl,m,f⟩:=zM a j;rw[NX d]at f;obtain⟨B,rfl,n,o⟩:=NY f;refine⟨p,b,B,C,rfl,m,n,o,c.1,c.2.1,c.2.2,λr A g q s=>?_⟩;have h:lG H (gV H r (.lst (A.map V.ref))):=aN g;exact k _ _ h ⟨r,rfl,g,_,aH,NZ q λi a u v w=>h _ _ (s i a u v w)⟩
  ·cases e
 ·cases e
def t7:eD (HY [.lst (a.map tI)]) K=((a.length<4000/\a.Nodup/\(2<=a.length->∀k∈a,k≠[]))/\K (.own (.lst ((sT a).map tI)))):=by
 show eD ((rF (a.map tI)).bind _) K=_;rw[nT];show eD (if _ then _ else none) K=_;rw[aP];rfl
def t8{Z:St}(I:dX X m Z H s)(h:H p=some (.frz o (.lst xs)))(y:X.H₀ p=none):dX X m Z (gV H p (.lst xs)) s:=by
 have t:∀{b:Addr} {u:HO},H b=some u->u≠.frz o (.lst xs)->b≠p:=λe n z=>by subst z;rw[h]at e;cases e;exact n rfl
 have N:∀b,H b=none->b≠p:=λb e z=>by subst z;rw[h]at e;cases e
 have r:∀a x,cH X.prog X.w H s.heap a x->cH X.prog X.w (gV H p (.lst xs)) s.heap a x:=λa x k=>
  k.stay (λ_ _ _ e=>e) (λb e=>by rw[aF (t e nofun)];exact e) λb Y e=>by rw[aF (t e nofun)];exact e
 have d:∀{b:Addr} {u:HO},X.H₀ b=some u->b≠p:=λe z=>by subst z;rw[y]at e;cases e
 refine{I with base:=?_,free:=?_,freeC:=?_,pin:=?_,hok:=?_}
 ·exact⟨I.base.keep,I.base.slot,λb O q n g=>by
    have:=I.base.free b O q n g;rw[aF (N b this)];exact this,I.base.there,λb xs e=>by rw[aF (d e)];exact I.base.tups b xs e,λb O x e=>by rw[aF (d e)];exact I.base.frzs b O x e,λb w e=>by rw[aF (d e)];exact I.base.tbls b w e⟩
 ·rw[aF (N _ I.free)];exact I.free
 ·intro x c e;rw[aF (N _ (I.freeC x c e))];exact I.freeC x c e
 ·intro q i;obtain⟨j,f,l⟩:=I.pin q i;exact⟨j,by rw[aF (N _ f)];exact f,l⟩
 ·intro a x e;by_cases v:a=p;subst v;rw[aH]at e;cases e;exact r a _ (I.hok a _ h).2;rw[aF v]at e;exact r a x (I.hok a x e)
def u0(ok:dY g H Z a)(h:RT c Z λb d=>∀f,dY g f d a->hF Z a H d a f->Q b f):Cw g c a H Q:=by
 obtain⟨⟨b,d⟩,e,k⟩:=bM.mp h;exact⟨Z,ok,b,d,e,k⟩
def u1{Q:V->Hp->Prop}(ok:dY i H Z d)(h:RE r Z λx f=>∀v g,dY i g f d->gC i g f d x v->hF Z d H f d g->Q v g):Bd i r d H Q:=by
 obtain⟨⟨x,f⟩,e,k⟩:=bM.mp h;exact⟨Z,ok,x,f,e,λv g a b c _=>k v g a b c⟩
def HZ{D:AG}(ok:dY b H Z a)(h:RS r Z λo=>qN b E Z a H o D):Ba b E r D a H:=by
 obtain⟨o,e,k⟩:=bM.mp h;exact⟨Z,ok,o,e,k⟩
def Bf.keep(h:Bf H p a)(k:∀o,H p=some o->b p=some o):Bf b p a:=h.imp (k _) λh=>⟨k _ h.1,h.2⟩
theorem Bf.some(h:Bf H p k):∃o,H p=some o/\Fz o:=h.elim (λh=>⟨_,h,True.intro⟩) λh=>⟨_,h.1,True.intro⟩
def Bf.isD(h:Bf H p k):Gv H p:=h.elim (λh=>.inr (.inl ⟨_,.inl h⟩)) λh=>.inl ⟨_,.inl h.1⟩
def u3{D:AG}(hne:row≠g)(h:Ba Γ E (FU g row ri rk ra) D σV H) :
  CG (ER Kd (fS g)) (CG (DN (Dm Γ ri) (fS row) (vI (DP K "list" mW (KH (mD g) (Bd Γ rk) (JT Gp)) (BX Γ ra)))) (JH (KN (mD g)))) D σV H:=by
 refine AB λN=>?_;obtain⟨Z,ok,o,e,k⟩:=h;unfold FU at e;split at e
 case isFalse=>cases e
 rename_i hg;obtain⟨⟨O,l,n⟩,e1,e⟩:=aB e;dsimp only at e;split at e
 case isFalse=>cases e
 rename_i hz;obtain⟨rfl,Q,hz⟩:=hz;obtain⟨⟨acc,A⟩,e2,e⟩:=aB e;cases e;refine N ?_;intro p hp;have gl:g<σV.length:=by rw[← ok.len];exact(hR.mp hg).1
 have h0:=ok.dom p hp;have okP:dZ Z g=true:=by unfold dZ;rw[hg]
 have sm:lG H (gV H p (.dT [])):=aN hp;have ok1:dY Γ (gV H p (.dT [])) (Z.set g (some SG)) (σV.set g (some (.ref p))):=(ok.same sm).putOwn okP ⟨_,[],aH,⟨rfl,rfl⟩,.nil⟩ (KO ok hp) h0;have st1:hF Z σV H (Z.set g (some SG)) (σV.set g (some (.ref p))) (gV H p (.dT [])):=(hF.same sm).put okP .own (.inr ⟨rfl,λq e=>by cases e;exact hp⟩);have vg:(σV.set g (some (.ref p)))[g]?=some (some (.ref p)):=by rw[Bo gl]
 unfold fS CG;dsimp only;generalize σV.set g (some (.ref p))=f at ok1 st1 vg ⊢;refine⟨_,ok1,O,none,n,e1,λJ G P oka sta itd stay=>?_⟩;have mp:hZ n f p:=⟨g,SG,Q,rfl,vg⟩;have dta:Bf G p []:=by
  obtain⟨v,ev,rv⟩:=oka.rel g SG Q;rw[vg]at ev;cases ev;obtain⟨_,q,u,ws,hu,du,_⟩:=rv;cases q;cases u with
  |dK kvs=>exact .inr ⟨by rw[hu,List.map_eq_nil_iff.mp du.1.symm],rfl⟩
  |dT kvs=>exact .inl (by rw[hu,List.map_eq_nil_iff.mp du.1.symm])
  |dM kvs=>cases du.1
  |_=>exact du.elim
 have hid0:Cn Γ (n.set g none) f p:=⟨λZ1=>by
  obtain⟨i,s,h1,h2,h3⟩:=Z1;rcases aQ h1 with⟨z,I,_⟩|⟨z,I⟩;cases I;exact oka.dis g i SG s p (oI z) Q I rfl h2 vg h3,h0⟩
 have gl1:g<n.length:=(hR.mp Q).1;refine⟨λi m σV2 R=>m=O.length-i/\i<=O.length/\∃c a2 kvs ls,FR row rk ra (O.drop i) a2 c=some (acc,A)/\dY Γ R c σV2/\hF n f G (c.set g (some SG)) σV2 R/\σV2[g]?=some (some (.ref p))/\Bf R p kvs/\Aw R i a2 kvs ls/\p∉ls/\(∀q,q=p\/q∈ls->Cn Γ c σV2 q)/\(∀q∈ls,G q=none)/\a2.length<=i,
  ⟨_,rfl,sS _,n.set g none,[],[],[],by simpa using e2,oka.forget,by rw[List.set_set,k7 Q];exact .refl,vg,dta,.nil,by simp,λq hq=>by rcases hq with rfl|hq;exact hid0;simp at hq,by simp,hC _⟩,?_⟩
 refine λi m σV2 R hh=>AB λN=>?_;obtain⟨rfl,hi,c,a2,kvs,ls,ef,ok2,st2,vg2,dt2,gr,pn,hq,hla,al⟩:=hh;have hP:P R:=stay _ σV2 R st2;by_cases S:i<O.length
 ·have ei:O[i]? = some O[i]:=nL S;refine N (.inr ⟨itd.go R i _ hP ei,λσV3 Y=>∃ m',m' < O.length-i/\m'=O.length-(i+1)/\i+1<=O.length/\∃ c a2 kvs ls,FR row rk ra (O.drop (i+1)) a2 c=some (acc,A)/\dY Γ Y c σV3/\hF n f G (c.set g (some SG)) σV3 Y/\σV3[g]? = some (some (.ref p))/\Bf Y p kvs/\Aw Y (i+1) a2 kvs ls/\p∉ls/\(∀ q,q=p\/q∈ls->Cn Γ c σV3 q)/\(∀ q∈ls,G q=none)/\a2.length<=i+1,λσ' H' q=>q,λy Y hy=>AB λN=>?_⟩);obtain⟨T,ry⟩:=itd.yld R i _ y Y hP ei hy;rw[drop_eq_getElem_cons S]at ef;obtain⟨σ3,eg,ef1⟩:=aB ef;obtain⟨⟨xk,x⟩,ek,ef2⟩:=aB ef1;obtain⟨F,U,ef3⟩:=aB ef2;obtain⟨⟨ys,σ5⟩,ea,ef4⟩:=aB ef3;obtain⟨ds,evs,ef5⟩:=aB ef4;obtain⟨vd,σ,ef6⟩:=aB ef5;clear ef ef1 ef2 ef3 ef4 ef5;dsimp only at U ea evs ef6;unfold gY at eg;split at eg
  case isFalse=>cases eg
  rename_i okr;cases eg;have okr':dZ (c.set g (some SG)) row=true:=by unfold dZ;rw[Ae (oI hne)];exact okr
  have M:=(ok2.same T).put okr ry;have st3:=(st2.trans (.same T)).put (v:=y) (d:=O[i]) okr' .val (.inl rfl);rw[List.set_comm _ _ (oI hne)]at st3;have B:(σV2.set row (some y))[g]?=some (some (.ref p)):=by rw[Ae hne];exact vg2
  have hq3:∀q,q=p\/q∈ls->Cn Γ (c.set row (some ⟨.val,O[i]⟩)) (σV2.set row (some y)) q:=λq h=>⟨λZ1=>by
   obtain⟨j,s,h1,h2,h3⟩:=Z1;rcases aQ h1 with⟨z,I,_⟩|⟨z,I⟩;cases I;exact h2 rfl;exact(hq q h).nv ⟨j,s,I,h2,by rw[Ae (oI z)]at h3;exact h3⟩,(hq q h).h0⟩
  have gl2:g<(c.set row (some ⟨.val,O[i]⟩)).length:=by rw[M.len];exact(hR.mp B).1
  refine N ?_;unfold vI;dsimp only;generalize σV2.set row (some y)=σV3 at M st3 B hq3 ⊢;generalize c.set row (some ⟨.val,O[i]⟩)=σ3 at M st3 hq3 ek gl2;have gr3:Aw Y i a2 kvs ls:=gr.keep (.same T) λl _ o e=>T l o e;have dt3:Bf Y p kvs:=dt2.keep λo e=>T p o e;refine⟨.ref p,B,p,rfl,dt3.isD,σ3,M,xk,x,ek,λvk H4 X rk4 st4 f4=>⟨sS _,λl π=>?_⟩⟩;have kp4:∀ q,q=p\/q∈ls->∀ o,Y q=some o->H4 q=some o:=λq h o e=>((hq3 q h).step st4 e).2;have hq4:∀ q,q=p\/q∈ls->Cn Γ x σV3 q:=λq h=>by
   have:∃o,Y q=some o:=by
    rcases h with rfl|h;obtain⟨o,e,_⟩:=dt3.some;exact⟨o,e⟩;obtain⟨xs,e⟩:=gr3.soft q h;exact⟨_,e⟩
   obtain⟨o,e⟩:=this;exact((hq3 q h).step st4 e).1
  have st4':hF n f G (x.set g (some SG)) σV3 H4:=st3.trans (st4.wide gl2 (by rw[X.len,M.len]) B B);have ext4:=st4.ext M;have gr4:Aw H4 i a2 kvs ls:=gr3.keep ext4 λl π=>kp4 l (.inr π);have dt4:Bf H4 p kvs:=dt3.keep (kp4 p (.inl rfl));refine AB λN=>?_;obtain⟨b,rfl,hb⟩:∃ b,vk=.ref b/\H4 b=some (.tup (F.map kV)):=by
   unfold HW at U;split at U
   ·have rk4:Rp H4 (.tup _) vk:=rk4;cases rk4 with
    |tup h r=>rw[kJ U]at r;rw[rO r]at h;exact⟨_,rfl,h⟩
   ·cases U
  have lp:l≠p:=λz=>by obtain⟨o,e,_⟩:=dt4.some;rw[z,e]at π;cases π
  have lls:l∉ls:=λz=>by obtain⟨xs,e⟩:=gr4.soft l z;rw[e]at π;cases π
  have s5:lG H4 (gV H4 l (.lst [])):=aN π;have hidl:Cn Γ x σV3 l:=⟨KO X π,X.dom l π⟩;have hal:G l=none:=st4'.dom l π;have gr5:Aw (gV H4 l (.lst [])) i a2 kvs ls:=gr4.keep (.same s5) λq _ o e=>s5 q o e;have dt5:Bf (gV H4 l (.lst [])) p kvs:=dt4.keep λo e=>s5 p o e;have st5:hF n f G (x.set g (some SG)) σV3 (gV H4 l (.lst [])):=st4'.hid (.inl hal)
  have fin:∀ (H6:Hp) (a6:AX) (w:List (List Key×V)) (C:List Addr) (v:V),dY Γ H6 x σV3->hF n f G (x.set g (some SG)) σV3 H6->Bf H6 p w->Aw H6 i a6 w C->p∉C->(∀ q,q=p\/q∈C->Cn Γ x σV3 q)->(∀ q∈C,G q=none)->kP w F=some v->vE F vd a6=vE F vd a2->a6.length<=i+1 ->
    Hz K "list" v H6/\BX Γ ra σV3 H6 λxs H7=>mW v xs H7 λ_ H8=>∃m',m' < O.length-i/\m'=O.length-(i+1)/\i+1<=O.length/\∃c a2 kvs ls,FR row rk ra (O.drop (i+1)) a2 c=some (acc,A)/\dY Γ H8 c σV3/\hF n f G (c.set g (some SG)) σV3 H8/\σV3[g]?=some (some (.ref p))/\Bf H8 p kvs/\Aw H8 (i+1) a2 kvs ls/\p∉ls/\(∀q,q=p\/q∈ls->Cn Γ c σV3 q)/\(∀q∈ls,G q=none)/\a2.length<=i+1:=by
   intro H6 a6 w C v ok6 st6 dt6 gr6 pn6 hq6 hla6 hv eg6 al6;refine AB λN=>?_;obtain⟨l6,xs6,rfl,m6,hl6,hx6,_⟩:=gr6.app (d:=vd) (y:=.non) hv;refine N ⟨.inl ⟨rfl,xs6,AU.of hl6⟩,x,ok6,ys,σ5,ea,λus H7 ok7 r7 st7 f7=>AB λN=>?_⟩;have ry7:=jV r7 evs;obtain⟨y7,rfl,r1⟩:∃ y7,us=[y7]/\Rp H7 vd y7:=by
    unfold OI at σ;split at σ
    ·cases σ;cases ry7 with
     |cons a t=>cases t;exact⟨_,rfl,a⟩
    ·cases σ
   have kp7:∀ q,q=p\/q∈C->∀ o,H6 q=some o->H7 q=some o:=λq h o e=>((hq6 q h).step st7 e).2;have hq7:∀ q,q=p\/q∈C->Cn Γ σ5 σV3 q:=λq h=>by
    have:∃o,H6 q=some o:=by
     rcases h with rfl|h;obtain⟨o,e,_⟩:=dt6.some;exact⟨o,e⟩;obtain⟨xs,e⟩:=gr6.soft q h;exact⟨_,e⟩
    obtain⟨o,e⟩:=this;exact((hq6 q h).step st7 e).1
   have gr7:Aw H7 i a6 w C:=gr6.keep (st7.ext ok6) λl π=>kp7 l (.inr π);have dt7:Bf H7 p w:=dt6.keep (kp7 p (.inl rfl));obtain⟨l7,xs7,q7,m7,hl7,hx7,app⟩:=gr7.app (d:=vd) (y:=y7) hv;cases q7;have sf:Fj H7 l6:=.inr ⟨_,hl7,True.intro⟩;have lp7:l6≠p:=λz=>pn6 (z▸m7);have gl4:g<x.length:=by rw[ok6.len];exact(hR.mp B).1
   refine N ⟨l6,xs7,y7,rfl,rfl,hl7,Cb hx7 (Au (Ck S hz) (by decide)),_,by lia,rfl,S,σ5,vE F vd a6,w,C,?_,ok7.hid (hq7 l6 (.inr m7)) sf,(st6.trans (st7.wide gl4 (by rw[ok7.len,ok6.len]) B B)).hid (.inl (hla6 l6 m7)),B,dt7.keep λo e=>by rw[aF (oI lp7)];exact e,app (r1.mono sf.ext) sf.ext,pn6,hq7,hla6,?_⟩;rw[eg6];exact ef6;have:=(app (r1.mono sf.ext) sf.ext).len;have:=gr7.len;lia
  refine N ⟨kvs,F,b,dt5,rfl,s5 b _ hb,?_,λv hv=>?_,λhv=>?_⟩;have:=gr4.len;exact Cb (by lia) (Au (Ck S hz) (by decide));exact fin _ a2 kvs ls v (X.same s5) st5 dt5 gr5 pn hq4 hla hv rfl (le_succ_of_le al);have sp:Fj (gV H4 l (.lst [])) p:=.inr dt5.some;have kl:∀q∈ls++[l],q≠p:=λq h z=>by
   rcases sU.mp h with h|h;exact pn (z▸h);exact lp (by rw[← Aa.mp h];exact z)
  refine fin _ (a2++[(F,[])]) (kvs++[(F,.ref l)]) (ls++[l]) (.ref l) ((X.same s5).hid (hq4 p (.inl rfl)) sp) (st5.hid (.inr mp)) (.inl aH) ((gr5.more aH lls).keep sp.ext λq h o e=>by rw[aF (kl q h)];exact e) (λz=>kl p z rfl) (λq h=>?_) (λq h=>?_) (OE hv) (uO (by rw[← gr4.keys];exact OD hv)) (by rw[Av];exact succ_le_succ al);rcases h with h|h;exact hq4 q (.inl h);rcases sU.mp h with h|h;exact hq4 q (.inr h);cases Aa.mp h;exact hidl;rcases sU.mp h with h|h;exact hla q h;cases Aa.mp h;exact hal
 ·have e0:i=O.length:=by lia
  subst e0;rw[drop_length]at ef;cases ef;refine N (.inl ⟨itd.stop R hP,_,vg2,k0 gr.soft gr.nodup λH' k1 k2=>?_⟩);have gL:∀a,a∈ls->Cn Γ A σV2 a/\Fj R a:=λa h=>by obtain⟨xs,e⟩:=gr.soft a h;exact⟨hq a (.inr h),.inr ⟨_,e,True.intro⟩⟩
  have ex:=rM (L:=(· ∈ ls)) (λa h=>(gL a h).2) k1;have ok':dY Γ H' (A.set g none) σV2:=(ok2.hids (L:=(· ∈ ls)) gL k1).forget;have st':hF n f G (A.set g (some SG)) σV2 H':=st2.hids (L:=(· ∈ ls)) (λa h=>⟨.inl (hla a h),by obtain⟨xs,e⟩:=gr.soft a h;obtain⟨o,e'⟩:=k2 a h xs e;rw[e'];exact λz=>nomatch z⟩) k1;have st'':hF Z σV H (A.set g none) σV2 H':=by
   have:=(st1.trans sta).trans st';rw[show A.set g (some SG)=(A.set g none).set g (some SG) by rw[List.set_set]]at this;refine this.drop hg λs z=>?_;rcases aQ z with⟨_,I,_⟩|⟨z1,_⟩;cases I;exact z1 rfl
  refine k (.ref p) σV2 H' ok' ⟨p,rfl,?_,λ⟨j,s,h1,h2,h3⟩=>?_,h0⟩ st''
  ·have rp:=gr.rps ex k2;have dt':Bf H' p kvs:=dt2.keep λo e=>by rw[k1 p pn];exact e
   have kk:acc.map (λp=>PySem.D.tup (p.1.map iQ))=kvs.map λkv=>PySem.D.tup (kv.1.map iQ):=by
    have:=BO (List.map λl:List Key=>PySem.D.tup (l.map iQ)) gr.keys;simpa[map_map,Function.comp_def]using this.symm
   rcases dt' with e|⟨e,rfl⟩;exact⟨_,_,e,⟨kk,rfl⟩,rp⟩;refine⟨_,[],e,⟨kk,rfl⟩,rp⟩
  ·rcases aQ h1 with⟨_,I,_⟩|⟨_,I⟩;cases I;exact(hq p (.inl rfl)).nv ⟨j,s,I,h2,h3⟩
def u4(d:row≠g)(m:PS X a (ER Kd (fS g)))
  (i:∀k,PS X b (DN (Dm k r) (fS row) (vI (DP K "list" mW (KH (mD g) (Bd k e) (JT Gp)) (BX k f))))) (j:PS X c (JH (KN (mD g)))):Cy E X [a,b,c] (FU g row r e f):=
 .mk λk=>Gw (eF m (eF (i k) (jD j))) λD l H h=>u3 d h
mutual
def smp:D->Bool
 |.non|.int _=>true
 |.str z=>PyData.strOk z
 |.tup l|.lst l=>smps l
 |_=>false
def smps:List D->Bool
 |[]=>true
 |d::r=>smp d&&smps r
end
mutual
theorem OR:∀{d:D},smp d=true->(cK d).canLay0=true
 |.non,_|.int _,_=>rfl
 |.str z,h=>h
 |.tup l,h|.lst l,h=>smps_lay (l:=l) h
 |.bl _,h|.dic _ _,h=>nomatch h
theorem smps_lay:∀ {l:List D},smps l=true->canLayAll0 (toPys l)=true
 |[],_=>rfl
 | d::r,h=>by
   have h':smp d=true/\smps r=true:=by simpa[smps]using h
   show((cK d).canLay0&&canLayAll0 (toPys r))=true;rw[OR h'.1,smps_lay h'.2];rfl
end
mutual
theorem OS:∀ {d e:D},smp d=true->smp e=true->(PyData.eqv (cK d) (cK e)=true↔d=e)
 |.non,e,_,he|.str x,e,_,he|.int i,e,_,he=>by cases e<;>simp_all [cK,PyData.eqv,smp]
 | .tup l,e,hd,he=>by
   cases e with
   | tup m=>
     show eqvAll (toPys l) (toPys m)=true↔_;rw[eqvs_smp (l:=l) (m:=m) hd he,D.tup.injEq]
   |_=>simp_all [cK,PyData.eqv,smp]
 | .lst l,e,hd,he=>by
   cases e with
   | lst m=>
     show eqvAll (toPys l) (toPys m)=true↔_;rw[eqvs_smp (l:=l) (m:=m) hd he,D.lst.injEq]
   |_=>simp_all [cK,PyData.eqv,smp]
 |.bl _,_,h,_|.dic _ _,_,h,_=>nomatch h
theorem eqvs_smp:∀ {l m:List D},smps l=true->smps m=true->(eqvAll (toPys l) (toPys m)=true↔l=m)
 |[],[],_,_|[],e::m,_,_|d::l,[],_,_=>by simp[toPys,eqvAll]
 | d::l,e::m,hd,he=>by
   have a:smp d=true/\smps l=true:=by simpa[smps]using hd
   have b:smp e=true/\smps m=true:=by simpa[smps]using he
   show((cK d).eqv (cK e)&&eqvAll (toPys l) (toPys m))=true↔_;rw[Fw,OS a.1 b.1,eqvs_smp a.2 b.2,List.cons.injEq]
end
structure Ok(n:Nat)(d:D):Prop where
 smp:PySem.smp d=true
 dep:(cK d).depth<=n
theorem xY:∀ {l:List D},(∀ d∈l,smp d=true)->smps l=true
 |[],_=>rfl
 | d::r,h=>by
   show(smp d&&smps r)=true;rw[h d pL,xY λx a=>h x (Af _ a)];rfl
theorem xZ:∀{l:List D},(∀d∈l,(cK d).depth<=n)->depthAll (toPys l)<=n
 |[],_=>sS _
 |d::r,h=>Nat.max_le.mpr ⟨h d pL,xZ λx a=>h x (Af _ a)⟩
theorem Ok.lst{n:Nat}{l:List D}(h:∀d∈l,Ok n d):Ok (n+1) (.lst l):=⟨xY λd H=>(h d H).smp,succ_le_succ (xZ λd H=>(h d H).dep)⟩
theorem Ok.tup(h:∀d∈l,Ok n d):Ok (n+1) (.tup l):=⟨xY λd H=>(h d H).smp,succ_le_succ (xZ λd H=>(h d H).dep)⟩
theorem Ok.int:Ok n (.int i):=⟨rfl,sS _⟩
def Ok.cmp(h:Ok n d)(H:n<=60):cW d=true:=by
 unfold cW;rw[OR h.smp,FY (hQ h.dep H)];rfl
def u5(h:Ok n d)(a:Ok m e):tU d e=decide (d=e):=by
 rw[Bool.eq_iff_iff,Dx];exact OS h.smp a.smp
theorem OT(h:Ok n d):∀ {l:List D},(∀ x∈l,Ok m x)->(l.any λy=>tU y d)=decide (d∈l)
 |[],_=>by simp
 | x::r,H=>by
   rw[List.any_cons,OT h λy a=>H y (Af _ a),u5 (H x pL) h,Bool.eq_iff_iff,Bool.or_eq_true,Dx,Dx,Dx,sY,eq_comm]
def u6(h:Ok n d)(a:∀ x∈l,Ok m x)(H:n<=60)(f:m < 60)(k:K (.val (.bl (if neg=true then !decide (d∈l)else decide (d∈l))))):eD (AM neg d (if b=true then .lst l else .tup l)) K:=by
 have e:AM neg d (if b=true then .lst l else .tup l)=if cW d=true/\cW (if b=true then .lst l else .tup l)=true then some (.val (.bl (if neg then !(l.any λy=>tU y d)else l.any λy=>tU y d)))else none:=by
  cases b<;>cases d<;>rfl
 have c:cW (if b=true then .lst l else .tup l)=true:=by
  cases b;exact(Ok.tup a).cmp (by lia);exact(Ok.lst a).cmp (by lia)
 rw[e,eH ⟨h.cmp H,c⟩,OT h a];exact k
def OU(H:Ok n d)(a:∀x∈l,Ok m x)(h:n<=60)(c:m<60)(k:K (.val (.bl (if neg=true then !decide (d∈l)else decide (d∈l))))):eD (AM neg d (.lst l)) K:=u6 (b:=true) H a h c k
def Ia(d:D):Prop:=(cK d).canLay0=true/\(cK d).showable=true/\(cK d).hasDict=false/\(cK d).depth<=40/\(cK d).shown.length<=sizeLine
def OV:List V->Hp->PySem.VK->Prop:=λv H Q=>∃a d,v=[.ref a]/\AV H d (.ref a)/\Ia d/\Q (.str (cK d).shown) H
def u7(f:X.A.guards=some [])(n:X.A.units+64<cLine):iE X (.builtin "repr") OV:=by
 intro v s Z H x U Q I r h;obtain⟨a,d,rfl,g,⟨i,j,p,t,k⟩,q⟩:=h;obtain⟨u,rfl,c⟩:=r.one;obtain⟨A,l⟩:=fC I g c i;cases c;refine repr_of_reads' l j (λe=>by lia) f (by lia) (λb o e=>e) (λw u T m=>?_) k;exact⟨.str _,H,I.kept m,⟨u,rfl⟩,q⟩
open Classical in
def rV:FN:=λa=>match a with
 |[.tup l]=>if Ia (.tup l)then some (.val (.str (cK (.tup l)).shown))else none
 |[.lst l]=>if Ia (.lst l)then some (.val (.str (cK (.lst l)).shown))else none
 |_=>none
set_option tactic.hygienic true in
def u9:vW OV rV:=by
 intro H b g Q r v e k;unfold rV at e;rcases b with _|⟨c,_|_⟩<;>(try exact aG e)<;>cases c<;>try exact aG e
 ·dsimp only at e;split at e
  ·rename_i d;cases e;cases v with
   | cons a t=>
     cases t;rename_i x;have:∃p,x=V.ref p:=by
      rcases a with a|⟨p,e,_⟩;cases a;lia
      simp_all
     obtain⟨p,rfl⟩:=this;exact⟨p,_,rfl,a,d,k _ _ (λ_ _ h=>h) (.str _)⟩
  ·cases e
 ·dsimp only at e;split at e
  ·rename_i d;cases e;cases v with
   | cons a t=>
     cases t;obtain⟨p,f,rfl,_⟩:=cY a;exact⟨p,_,rfl,a,d,k _ _ (λ_ _ h=>h) (.str _)⟩
  ·cases e
def mO(h:Ia (.tup l))(k:K (.val (.str (cK (.tup l)).shown))):eD (rV [.tup l]) K:=by
 unfold rV;dsimp only;rw[eH h];exact k
def Hc:F2:=ii λi j=>.int (i+j)
def Ib(i:Nat)(f:F2)(a:DE):DS:=aU i (aJ f (aC i) a)
def v5:oH (JL λi j=>i+j) Hc:=by
 intro H c d x y Q r a b e k;unfold Hc ii at e;split at e;cases e;obtain rfl:=cA a;obtain rfl:=cA b;exact⟨_,_,rfl,rfl,k _ H (.refl _) (.int _)⟩;cases e
set_option tactic.hygienic true in
def v7(h:∀f,PS X p (LG i (Bd f a) (JL λi j=>i+j))):GS E X p (Ib i Hc a):=.mk λf=>Cd (h f) λD l H q=>by
 obtain⟨Z,o,t,n,e,k⟩:=iS v5 (qO q);unfold aC at e;split at e;rename_i s g;cases e;obtain⟨v,b,r⟩:=o.rel i s g;refine⟨v,b,k v H o ?_ .refl (by split<;>exact λ_ _ e=>nomatch e)⟩;by_cases c:s.m=.val;obtain⟨m,d⟩:=s;cases c;exact r;rw[a0m c];exact⟨b,s,g⟩;cases e
section
open PyProof.Rows Spec
def v8{Z:St}(j:A.units+1 < cLine)(I:dX X C Z H s)(e:Bf H a w)(f:H b=some (.tup (k.map kV)))(l:w.length < sizeLine)(m:cC v r)(h:∀ G,dX X C Z (gV H a (.dT (zH w k v))) G->Q () G) :
  wpAny (model X.prog X.w) A (setItem (.ref a) (.ref b) r) Q E s:=by
 obtain⟨M,J,B,n⟩:=OC I.hok e;have o:J.length<=sizeLine:=by rw[← Paired.length B];exact Aq l
 have p:(zH w k v).length<=sizeLine:=hQ (vT w k v) l;refine wpAny_setItem_heap (hsz:=o) (tupleKind_room_in1 j) (tK I.hok f) n λT d L=>h _ ?_;obtain⟨q,N,O,g,t,u,x,_,y⟩:=d;refine Mq I (by rcases e with e|⟨e,_⟩<;>(rw[e];exact True.intro)) L ⟨q,g⟩ ⟨p,M,_,(B.put k f m).keeps λc Y i=>?_,q,N,O,g,t,u,x,y⟩;rw[aF (by rcases e with e|⟨e,_⟩<;>exact Lv i e λz=>nomatch z)];exact i
def OW(c ty d:TE):TS:=λi Z H=>d Z H λv e=>c Z e λx f=>ty Z f λy h=>∃a g k b,x=.ref a/\Bf h a g/\y=.ref b/\h b=some (.tup (k.map kV))/\g.length<sizeLine/\i.nx Z (gV h a (.dT (zH g k v)))
def w5(j:X.A.units+1 < cLine)(m:PE X o f)(hi:PE X i ty)(n:PE X c g)(Y:swapsWith c (some (.Subscript o i d)) pos.line X.env=pure false) :
  PS X (.Assign [.Subscript o i d] c pos) (OW f ty g):=by
 intro A s Z H D1 I h;refine wpAny_Assign_Subscript (thn (n A s Z H _ I h) λr T p=>?_) Y;obtain⟨v,q,t,w,z⟩:=p;refine thn (m A T Z q _ t z) λu O B=>?_;obtain⟨x,C,E,F,G⟩:=B;refine thn (hi A O Z C _ E G) λJ Q K=>?_;obtain⟨y,R,L,M,a,U,k,b,rfl,e,rfl,N,l,π⟩:=K;obtain rfl:u=Value.ref a:=F;obtain rfl:J=Value.ref b:=M;exact v8 j L e N l w λS P=>⟨Z,_,P,π⟩
end
def Jn:List D->Option (List (List Key))
 |[]=>some []
 |.tup l::r=>(gG l).bind λk=>(Jn r).bind λa=>some (k::a)
 |_=>none
def w6(k:List Key):gG (k.map iQ)=some k:=by
 induction k with
 |nil=>rfl
 | cons a r i=>
   cases a<;>(show(gG (r.map iQ)).bind _=_;simp_all)
def OX(z:List (List Key)):Jn (z.map λk=>D.tup (k.map iQ))=some z:=by
 induction z with
 |nil=>rfl
 | cons a r i=>
   show(gG (a.map iQ)).bind _=_;rw[w6]
   simp_all
def yA(h:Jn l=some z):l=z.map λk=>D.tup (k.map iQ):=by
 induction l generalizing z with
 |nil=>cases h;rfl
 | cons d r i=>
   cases d with
   | tup m=>
     obtain⟨k,a,h⟩:=aB h;obtain⟨c,b,h⟩:=aB h;cases h;rw[Cj,← i b,← kJ a]
   |_=>cases h
noncomputable def Ic(z:List Key)(x:D)(a:List (List Key))(v:List D):List D:=(a.zip v).map λp=>if p.1=z then x else p.2
open Classical in
def He(k:List Key)(x:D):D->Option D
 |.dic a v=>(Jn a).bind λz=>if z.length<4000 then(if k∈z then some (.dic a (Ic k x z v))else some (.dic (a++[.tup (k.map iQ)]) (v++[x])))else none
 |_=>none
def Ie(k j:Nat)(c:DE):DS:=λZ=>(c Z).bind λx=>match x.1 with
 | .val d=>match x.2[j]? with
   |some (some ⟨.val,.tup l⟩)=>(gG l).bind λz=>(zN (λa _=>(He z d a).map λb=>(b,.non)) k [] x.2).bind λy=>some (.nx y.2)
   |_=>none
 |_=>none
def w8{k:List (List Key×V)}(r:Rp H d v)(h:Rps H c (k.map Prod.snd)) :
  Rps H (Ic z d (k.map Prod.fst) c) ((k.map λb=>if b.1=z then(b.1,v)else b).map Prod.snd):=by
 induction k generalizing c with
 |nil=>exact .nil
 | cons p k i=>
   cases h with|cons a t=>
   refine .cons ?_ (i t);by_cases e:p.1=z
   ·simp_all
   simp_all
def x2{kvs:List (List Key×V)}:(kvs.map λa=>if a.1=z then(a.1,v)else a).map Prod.fst=kvs.map Prod.fst:=by
 rw[map_map];refine map_congr_left λp _=>?_
 lia
def KP(b:List (List Key×V)):b.map (λa=>D.tup (a.1.map iQ))=(b.map Prod.fst).map λk=>D.tup (k.map iQ):=by simp
set_option tactic.hygienic true in
def x4(h:∀ Γ,PS X st (OW (mD k) (mD j) (Bd Γ π))):GS E X st (Ie k j π):=.mk λΓ=>Cd (h Γ) λD O H T=>by
 obtain⟨Z,ok,o,e,P⟩:=T;obtain⟨⟨x,i⟩,U,e⟩:=aB e;refine⟨Z,ok,x,i,U,λv H1 f W C K=>?_⟩;cases x with
 |own d|slot d=>cases e
 | val d=>
   have n:(match i[j]? with
    |some (some ⟨.val,.tup l⟩)=>(gG l).bind λz=>(zN (λa _=>(He z d a).map λb=>(b,.non)) k [] i).bind λy=>some (BR.nx y.2)
    |_=>none)=some o:=e
   split at n
   ·rename_i l hj;obtain⟨z,Y,n⟩:=aB n;obtain⟨⟨y,σ⟩,e4,n⟩:=aB n;cases n;obtain⟨s,d',y',hs,F,e5,rfl,rfl⟩:=eZ e4;obtain⟨b,g,e7⟩:=Bg.mp e5;cases e7;obtain⟨Q,ej,rj⟩:=f.rel j _ hj;obtain⟨q,rfl,hq⟩:∃ q,Q=.ref q/\H1 q=some (.tup (z.map kV)):=by
     cases (show Rp H1 (.tup l) Q from rj)with
     |tup h r=>rw[kJ Y]at r;rw[rO r]at h;exact⟨_,rfl,h⟩
    obtain⟨p,ep,ow⟩:=f.ownAt hs (fU F);have R:Rp H1 d v:=W;obtain⟨m,sd⟩:=s;cases sd with
    | dic ks vs=>
      obtain⟨zs,G,g⟩:=aB g;split at g
      ·rename_i hc;have I:=ow;obtain⟨u,ws,S,L,t⟩:=ow;have fin:∀ kvs:List (List Key×V),kvs.map Prod.fst=zs->Rps H1 vs (kvs.map Prod.snd)->D.nx O (gV H1 p (.dT (zH kvs z v))):=λkvs c t=>by
        subst c;have J:=yA G;split at g
        ·rename_i M;cases g;have pe:zH kvs z v=kvs.map λw=>if w.1=z then(w.1,v)else w:=by
          unfold zH;obtain⟨w,F,ek⟩:=oT.mp M;rw[eH (List.any_eq_true.mpr ⟨w,F,FY ek⟩)]
         have K:=x2 (kvs:=kvs) (z:=z) (v:=v);have N:=w8 (z:=z) R t;rw[← pe]at K N;generalize zH kvs z v=kw at K N ⊢;have ex:=cE.ext (o':=.dT kw) I;obtain⟨A,B⟩:=f.write (d':=.dic ks (Ic z d (kvs.map Prod.fst) vs)) (o':=.dT kw) hs F ep ⟨_,_,aH,⟨by rw[KP,K];exact J,rfl⟩,N.mono ex⟩;exact P _ _ A (C.trans B)
        ·rename_i M;cases g;rw[d8 M];have ex:=cE.ext (o':=.dT (kvs++[(z,v)])) I;obtain⟨A,B⟩:=f.write (d':=.dic (ks++[.tup (z.map iQ)]) (vs++[d])) (o':=.dT (kvs++[(z,v)])) hs F ep ⟨_,_,aH,⟨by rw[KP,Aj,Aj,← J];rfl,rfl⟩,by
          refine Rps.mono ex ?_;rw[Aj];exact t.append (.cons R .nil)⟩
         exact P _ _ A (C.trans B)
       have go:∀kvs:List (List Key×V),Bf H1 p kvs->kvs.map Prod.fst=zs->Rps H1 vs (kvs.map Prod.snd)->_:=λkvs da c t=>
        (⟨_,ep,_,ej,p,kvs,z,q,rfl,da,rfl,hq,by have:=BO List.length c;rw[fI]at this;rw[Ct];lia,fin kvs c t⟩:mD k O H1 λx H2=>mD j O H2 λy H3=>∃a kvs k b,x=.ref a/\Bf H3 a kvs/\y=.ref b/\H3 b=some (.tup (k.map kV))/\kvs.length<sizeLine/\D.nx O (gV H3 a (.dT (zH kvs k v))))
       cases u with
       | dT kvs=>
         obtain⟨c,rfl⟩:=L;rw[c,KP,OX]at G;exact go kvs (.inl S) (Ap G) t
       | dK kvs=>
         obtain⟨c,rfl⟩:=L;rw[yA G]at c;cases kvs with
         | nil=>
           cases zs with
           |nil=>exact go [] (.inr ⟨S,rfl⟩) rfl t
           |cons y zs=>cases c
         | cons w kvs=>
           exfalso;cases zs with
           |nil=>cases c
           | cons y zs=>
             rw[Cj,Cj]at c;injection c with a b
             obtain⟨k',_⟩:=w;cases k'<;>cases a
       | dM kvs=>
         exfalso;have c:=L.1;rw[yA G]at c;cases zs with
         |nil=>cases c
         |cons y zs=>rw[Cj]at c;injection c with a b;cases a
       |_=>exact L.elim
      ·cases g
    |_=>cases g
   ·cases n
def Ew:F2:=λd e=>match d,e with
 |.dic a v,.tup l=>(gG l).bind λk=>(xP a v k).bind λo=>o.map .val
 |_,_=>none
def x8:oH Ou Ew:=by
 intro H d e x y Q t i l c k;unfold Ew at c;split at c;obtain⟨j,m,c⟩:=aB c;obtain⟨o,n,c⟩:=aB c;obtain⟨v,p,q⟩:=Bg.mp c;cases q;cases p;obtain⟨b,rfl,u⟩:=OH l m;obtain⟨a,s,rfl,f,h⟩:=OG i n;rcases h with⟨z,_⟩|⟨d,w,z,g,r⟩;cases z;cases z;rcases f with f|⟨_,rfl⟩;exact⟨a,w,rfl,.inr ⟨s,j,b,f,rfl,u,g.symm⟩,k _ _ (.refl _) r⟩;cases g
 simp_all
def y0(e:X.A.units+1<cLine)(H:GE X a c)(hb:GE X b d)(h:IC b):GE X (.Subscript a b pos) (aJ Ew c d):=.mk λf=>Bq (d7 e (H.to f) (hb.to f) h) λ_ _ _=>iS x8
section
open PyProof.Rows Spec
def OY:List V->Hp->VK->Prop:=λv H Q=>∃(p:Addr) (n:Int) (N:List Int),v=[.ref p]/\cG H p=some (true,(n::N).map V.int)/\Q (.int (N.foldl min n)) H
def y8(hc:X.calm=true):iE X (.builtin "min") OY:=by
 intro M s Z H xs us Q I r h;obtain⟨p,n,N,rfl,y,q⟩:=h;obtain⟨u,rfl,B⟩:=oG r;cases B;have C:X.A.handled=none:=I.ok.hd hc;obtain⟨L,g,pl,J⟩:=I.list (dE y);have T:=pl.isList;have Y:p<s.heap.objs.size:=by obtain⟨_,e,_⟩:=T;exact sL e
 have d:L.length=(n::N).length:=by rw[← g.length,fI]
 have c:∀(i:Nat) v,L.toArray[i]?=some v->∃t,v=.int ((n::N).getD i 0) t:=λi v e=>by
  rw[BS]at e;have hi:i<(n::N).length:=by rw[← d];exact(hR.mp e).1
  have k:(n::N)[i]?=some (n::N)[i]:=nL hi;obtain⟨u,m,t,D1⟩:=g.get (i:=i) (x:=.int (n::N)[i]) (by rw[An,k];rfl);rw[e]at m;cases m;exact⟨t,by rw[D1,CC,k];rfl⟩
 refine call_min_walk (wpAny_pyIter_list T ?_);refine⟨_,[s.heap.objs.size,p],[s.heap.objs.size],_,_,_,_,rfl,Walks.list (A:=X.A.in1) C _ p (Ay Y) L.toArray,⟨⟨_,Al _ rfl,rfl,rfl⟩,T.push _⟩,λb O=>?_,by rw[BU,d];simp,CmpOf.ints_lt (λi=>(n::N).getD i 0) c,λv h' U E F=>?_⟩;show b<(s.heap.push _).objs.size;rw[DL];rcases sY.mp O with rfl|O;exact EJ _;rw[Aa.mp O];exact lt_succ_of_lt Y;obtain⟨t,rfl⟩:=c _ v E;obtain⟨f,w⟩:=argBest_lt (λi=>(n::N).getD i 0) (L.toArray.size-1);rw[BU,d]at f w ⊢;have G:dX X M Z H {s with heap:=h',toks:=U}:=I.kept (t':=U) λb o e=>F b o (λz=>Bt _ (by have:=sL e;rw[Aa.mp z]at this;exact this)) (Ac _ e);refine⟨.int (N.foldl min n),H,G,⟨t,?_⟩,q⟩;congr 1;refine(OB N n _ (λa ha=>?_) ?_).symm;obtain⟨j,hj,rfl⟩:=Cv ha;have:=w j (by lia);rw[CC (l:=n::N) (i:=j),nL hj]at this;exact this;generalize argBest (λi j=>decide ((n::N).getD i 0<(n::N).getD j 0)) ((n::N).length-1)=i at f;have hi:i<(n::N).length:=by simp only[length_cons]at f ⊢;lia
 simp_all
end
def yB:FN:=λa=>match a with
 | [.lst l]=>(oQ l).bind λN=>match N with
   |[]=>none
   |n::r=>some (.val (.int (r.foldl min n)))
 |_=>none
def y9:vW OY yB:=by
 intro H d h Q f v e k;unfold yB at e;split at e
 ·obtain⟨N,c,e⟩:=aB e;cases N with
  |nil=>cases e
  | cons n r=>
    cases e;obtain⟨x,rfl,w⟩:=zW v;obtain⟨p,g,rfl,a,b⟩:=cY w;rw[rE c]at b;rw[b.ints_inv]at a;exact⟨p,n,r,rfl,a,k _ _ (.refl _) (.int _)⟩
 ·cases e
def OZ(g:N≠[])(k:∀ m∈N,(∀ x∈N,m<=x)->K (.val (.int m))):eD (yB [.lst (N.map D.int)]) K:=by
 cases N with
 |nil=>simp_all
 | cons n r=>
   show eD ((oQ ((n::r).map D.int)).bind _) K;rw[nR];have b:∀ (r:List Int) (n:Int),r.foldl min n∈n::r/\∀ x∈n::r,r.foldl min n<=x:=λr=>by
    induction r with
    |nil=>simp
    | cons a r i=>
      intro n;obtain⟨f,e⟩:=i (min n a);refine⟨?_,λx c=>?_⟩
      ·grind
      ·have d:=e (min n a) pL;rcases sY.mp c with rfl | c;exact le_trans d (Int.min_le_left ..)
       ·rcases sY.mp c with rfl|c;exact le_trans d (Int.min_le_right ..)
        simp_all
   exact k _ (b r n).1 (b r n).2
abbrev qP(q:Str×List Str):D:=.tup [.str q.1,.tup (q.2.map D.str)]
abbrev qD(q:List (Str×List Str)):D:=.tup (q.map qP)
def z7{c:Type}{v:List c}{x y:c}(h:2=v.length)(d:v[0]?=some x)(H:v[1]?=some y):v=[x,y]:=by
 match v,h with
 |[a,b],_=>simp_all
def Pa(h:pF a)(hb:pF b):pF (Fg t a b):=λZ Q d w q=>aS q λx q=>by
 dsimp only at q ⊢;split at q;rename_i c;rw[eH c];exact h _ _ _ w q;rename_i c;rw[a0m c];exact hb _ _ _ w q
def Fl(a:List Str)(t:List (List Str)):Prop:=1<=t.length/\t.length<=6/\∀l∈t,(1<=l.length/\l.length<=10)/\l.Nodup/\∀z∈l,z∈a
abbrev oV(t:List (List Str)):D:=.lst (t.map λl=>.tup (l.map D.str))
def FV:MC:=λA K=>∃(a b:Int) (e:List Str),A=[⟨.par,.lst [.int a,.int b]⟩,⟨.val,.lst (e.map D.str)⟩]/\e.length=6/\e.Nodup/\(∀z∈e,cW (.str z)=true)/\∀t c d,Fl e t->K (.own (oV t)) [⟨.par,.lst [.int c,.int d]⟩,⟨.val,.lst (e.map D.str)⟩]
def yC:GU FV:=λA K j w ⟨a,b,z,e,c,d,f,q⟩=>⟨a,b,z,e,c,d,f,λt g i h=>w _ _ (q t g i h)⟩
def gJ:DS:=(aR (aU 2 (aJ fB (aJ pH (dC (.int 7919)) (aC 1)) (dC (.int 11))))
 (aR (jF (cJ (aJ DU (aC 1) (hB iB (aA (aC 0) aE)))) (aU 2 (aJ rN (aC 0) (aC 1))) (jF (cJ (aJ Ce (hB iB (aA (aC 0) aE)) (dC (.int 0)))) (aU 2 (aJ fB (aC 2) (aJ pH (aJ zV (aJ rN (aC 0) (aJ zV (aC 1) (hB iB (aA (aC 0) aE)))) (dC (.int 2147483629))) (dC (.int 69623))))) dU))
 (aR (aU 3 (aJ fB (aJ zV (aJ fB (aJ pH (aJ zV (aC 2) (dC (.int 2147483629))) (dC (.int 48271))) (aJ pH (dC (.int 40692)) (aC 1))) (dC (.int 2147483629))) (dC (.int 1))))
 (iC (fT (aA (hJ (aJ pH (aC 2) (hB Ep (aA (aJ IK (aC 2) (aJ IJ (dC (.int 10)) (dC (.int 18)))) aE)))) (aA (hJ (aC 3)) aE)))))))
def fM:PySem.Aa4:=lM 4 gJ
def fN:DS:=(aR (jF (cJ (aJ Ce (aJ rN (aC 0) (dC (.int 0))) (dC (.int 0)))) (aR (aU 2 (aJ zV (aJ rN (aC 0) (dC (.int 0))) (aC 1)))
 (aR (FH 0 (dC (.int 0)) (aJ GH (aJ rN (aC 0) (dC (.int 0))) (aC 1)))
 (iC (aC 2)))) dU)
 (aR (aU 3 (aJ zV (aJ pH (aJ rN (aC 0) (dC (.int 1))) (dC (.int 69623))) (dC (.int 2147483647))))
 (aR (FH 0 (dC (.int 1)) (aJ fB (aJ zV (aJ fB (aJ pH (aC 3) (dC (.int 48271))) (dC (.int 30103))) (dC (.int 2147483629))) (dC (.int 1))))
 (iC (aJ zV (aJ GH (aJ fB (aJ pH (aC 3) (dC (.int 2147483647))) (aJ rN (aC 0) (dC (.int 1)))) (dC (.int 8191))) (aC 1))))))
def aD:PySem.Aa4:=lM 4 fN
def eK:DS:=(aR (aU 2 (dC (.str "abcdefghijklmnopqrstuvwxyz")))
 (aR (aU 3 (HG (GL "") (bB [12] (sJ (aA (aI 2 aD (aA (aC 0) (aA (dC (.int 5)) aE))) aE)) (gY 12) cO (aJ rN (aC 2) (aI 2 aD (aA (aC 0) (aA (dC (.int 26)) aE)))))))
 (aR (aU 4 (aI 2 aD (aA (aC 0) (aA (aJ fB (hB iB (aA (aC 3) aE)) (dC (.int 1))) aE))))
 (aR (aU 5 (aI 2 aD (aA (aC 0) (aA (dC (.int 26)) aE))))
 (aR (aU 6 (aI 2 aD (aA (aC 0) (aA (dC (.int 4)) aE))))
 (aR (jF (cJ (aJ (AE false) (aC 6) (dC (.int 2)))) (aR (HJ (eA 3 (aM (gY 7) (aM (gY 8) (aM (gY 9) fA)))) (hJ (Bu (Bu (aC 2) (dP (aI 2 aD (aA (aC 0) (aA (dC (.int 24)) aE)))) pI) pI (dP (dC (.int 3))))))
 (aR (aU 10 (fT (aA (hJ (aC 7)) (aA (hJ (aJ fB (aC 7) (aC 8))) (aA (hJ (aC 8)) (aA (hJ (aJ fB (aC 8) (aC 9))) aE))))))
 (iC (Bu (aJ fB (aC 10) (fT (aA (hJ (aC 9)) (aA (hJ (aJ fB (aC 7) (aC 9))) (aA (hJ (aJ fB (aJ fB (aC 7) (aC 8)) (aC 9))) (aA (hJ (aJ fB (aC 9) (aC 8))) aE)))))) pI (dP (aC 1)))))) dU)
 (aR (aU 11 (fT aE))
 (aR (kQ (sJ (aA (aC 1) aE)) (gY 12)
 (aR (aU 13 (aJ fB (aJ fB (Bu (aC 3) pI (dP (aC 4))) (aJ rN (aC 2) (aJ zV (aJ fB (aC 5) (aJ pH (dC (.int 5)) (aC 12))) (dC (.int 26))))) (Bu (aC 3) (dP (aC 4)) pI)))
 (dA (dF "list" 11 pJ (aA (hJ (aJ fB (aC 13) (aJ pH (dC (.str "z")) (hB Ep (aA (Gx (aJ (AE false) (aC 6) (dC (.int 1))) (aJ (AE false) (aJ zV (aC 12) (dC (.int 2))) (dC (.int 1)))) aE))))) aE)))))
 (aR (aU 14 (fT (aA (dC (.str "table")) (aA (dC (.str "tree")) (aA (dC (.str "none")) (aA (dC (.str "answer")) (aA (dC (.str "levels")) (aA (dC (.str "looks")) aE))))))))
 (aR (aU 14 (aJ fB (aC 14) (fT (aA (dC (.str "at")) (aA (dC (.str "count")) (aA (dC (.str "ears")) (aA (dC (.str "cover")) (aA (dC (.str "place")) aE))))))))
 (aR (aU 13 (aJ rN (aC 14) (aI 2 aD (aA (aC 0) (aA (dC (.int 11)) aE)))))
 (aR (jF (Dl (cJ (aJ (AE false) (aI 2 aD (aA (aC 0) (aA (dC (.int 4)) aE))) (dC (.int 0)))) (cJ (aJ (AM true) (aC 13) (aC 11)))) (FH 11 (aI 2 aD (aA (aC 0) (aA (aC 1) aE))) (hJ (aC 13))) dU)
 (iC (aC 11))))))))))))))
def cL:PySem.Aa4:=lM 15 eK
def gB:DS:=(aR (aU 2 (hB nJ (aA (aC 1) aE)))
 (aR (aU 3 (fT aE))
 (aR (tO (cJ (aJ Ce (hB iB (aA (aC 2) aE)) (dC (.int 0))))
 (dA (dF "list" 3 pJ (aA (hJ (dF "list" 2 tR (aA (hJ (aI 2 aD (aA (aC 0) (aA (hB iB (aA (aC 2) aE)) aE)))) aE))) aE))))
 (iC (aC 3)))))
def aT:PySem.Aa4:=lM 4 gB
def bG:DS:=(iC (hB lP (aA (Bu (aI 2 aT (aA (aC 0) (aA (aC 1) aE))) pI (dP (aC 2))) aE)))
def aL:PySem.Aa4:=lM 3 bG
def bP:DS:=(aR (aU 2 (Bu (aC 1) pI (dP (aJ fB (dC (.int 1)) (aI 2 aD (aA (aC 0) (aA (dC (.int 6)) aE)))))))
 (aR (aU 3 (fT aE))
 (aR (kQ (sJ (aA (aJ fB (dC (.int 1)) (aI 2 aD (aA (aC 0) (aA (dC (.int 6)) aE)))) aE)) (gY 4)
 (dA (dF "list" 3 pJ (aA (hJ (aI 3 aL (aA (aC 0) (aA (aC 2) (aA (aJ fB (dC (.int 1)) (aI 2 aD (aA (aC 0) (aA (hB oJ (aA (dC (.int 4)) (aA (hB iB (aA (aC 2) aE)) aE))) aE)))) aE))))) aE))))
 (iC (aC 3)))))
def aY:PySem.Aa4:=lM 5 bP
def bQ:DS:=(aR (aU 2 (hB nJ (aA (Bu (aC 1) pI (dP (dC (.int 6)))) aE)))
 (aR (aU 3 (fT aE))
 (aR (kQ (sJ (aA (aJ fB (dC (.int 1)) (aI 2 aD (aA (aC 0) (aA (dC (.int 6)) aE)))) aE)) (gY 4)
 (aR (aU 5 (fT aE))
 (aR (jF (cJ (aJ Ce (aC 4) (dC (.int 0)))) (aR (aU 6 (aJ rN (aC 3) (aI 2 aD (aA (aC 0) (aA (aC 4) aE)))))
 (aU 5 (hB nJ (aA (aI 3 aL (aA (aC 0) (aA (aC 6) (aA (aI 2 aD (aA (aC 0) (aA (aJ fB (hB oJ (aA (dC (.int 3)) (aA (hB iB (aA (aC 6) aE)) aE))) (dC (.int 1))) aE))) aE)))) aE)))) dU)
 (aR (kQ (sJ (aA (aI 2 aD (aA (aC 0) (aA (aJ GC (dC (.int 5)) (hB iB (aA (aC 5) aE))) aE))) aE)) (gY 7)
 (jF (cJ (aJ Ce (hB iB (aA (aC 2) aE)) (dC (.int 0)))) (dA (dF "list" 5 pJ (aA (hJ (vZ "list" 2 HN)) aE))) dU))
 (aR (jF (cJ (aJ (AE false) (hB iB (aA (aC 5) aE)) (dC (.int 0)))) (aU 5 (FD (cJ (aJ (AE false) (aC 4) (dC (.int 0)))) (fT (aA (aJ rN (aC 1) (dC (.int 0))) aE)) (fT (aA (aJ rN (aJ rN (aC 3) (dC (.int 0))) (dC (.int 0))) aE)))) dU)
 (aR (jF (Dl (cJ (aJ (AM false) (aJ rN (aC 1) (dC (.int 0))) (aC 5))) (cJ (aJ (AM false) (aJ rN (aC 1) (dC (.int 0))) (aC 2)))) (dA (dF "list" 2 HP (aA (aJ rN (aC 1) (dC (.int 0))) aE))) dU)
 (dA (dF "list" 3 pJ (aA (hB lP (aA (aI 2 aT (aA (aC 0) (aA (aC 5) aE))) aE)) aE)))))))))
 (iC (aC 3)))))
def aZ:PySem.Aa4:=lM 8 bQ
def bR:MS:=(vD (RS (HL 2 3 (aA (hJ (aI 2 cL (aA (aC 0) (aA (dC (.int 6)) aE)))) (aA (hJ (aI 2 cL (aA (aC 0) (aA (dC (.int 6)) aE)))) aE))))
 (vD (RS (jF (cJ (aJ (AE false) (aI 2 aD (aA (aC 0) (aA (dC (.int 4)) aE))) (dC (.int 0)))) (aU 3 (hJ (aI 2 aT (aA (aC 0) (aA (aC 2) aE))))) dU))
 (vD (RS (aU 4 (hJ (aC 1))))
 (vD (RS (jF (cJ (aJ (AE false) (aC 1) (dC (.int 3)))) (aU 4 (aI 2 aD (aA (aC 0) (aA (dC (.int 3)) aE)))) dU))
 (vD (Fg (cJ (aJ (AE false) (aC 4) (dC (.int 0)))) (RS (aU 5 (aI 2 aY (aA (aC 0) (aA (aC 2) aE))))) (Fg (cJ (aJ (AE false) (aC 4) (dC (.int 1)))) (RS (aU 5 (aI 2 aZ (aA (aC 0) (aA (aC 2) aE))))) (uN 5 2 FV (aA (aC 0) (aA (aC 2) aE)))))
 (RS (iC (hB GQ (aA (aC 3) (aA (aC 5) aE))))))))))
def cU:MC:=GB 6 bR
def bA:pF bR:=(eC eX (eC eX (eC eX (eC eX (eC (Pa eX (Pa eX (kI yC))) eX)))))
def cQ:DS:=(aR (aU 1 (fT aE))
 (aR (kQ (Ad (aC 0)) (eA 2 (aM (gY 2) (aM (gY 3) fA)))
 (dA (lY "list" 1 Dp (aA (bB [4] (Ad (aC 3)) (gY 4) (cJ (aJ (AM true) (aC 4) (aC 1))) (hJ (aC 4))) aE))))
 (iC (aC 1))))
def bH:PySem.Aa4:=lM 5 cQ
def eL:DS:=(aR (aU 2 (aI 2 aD (aA (aC 0) (aA (aC 1) aE))))
 (aR (jF (cJ (aJ (AE false) (aC 1) (dC (.int 12)))) (iC (aJ rN (fT (aA (dC (.int 0)) (aA (dC (.int 1)) (aA (dC (.int 2)) (aA (dC (.int 10)) (aA (dC (.int 11)) (aA (dC (.int 12)) (aA (dC (.int 21)) (aA (dC (.int 101)) (aA (dC (.int 111)) (aA (dC (.int 112)) (aA (dC (.int 121)) (aA (dC (.int 211)) aE))))))))))))) (aC 2))) dU)
 (iC (aC 2))))
def bW:PySem.Aa4:=lM 3 eL
def eM:DS:=(aR (aU 3 (aI 1 bH (aA (aC 1) aE)))
 (aR (aU 4 (aJ rN (fT (aA (dC (.int 2)) (aA (dC (.int 3)) (aA (dC (.int 5)) (aA (dC (.int 12)) (aA (dC (.int 1000)) aE)))))) (aI 2 aD (aA (aC 0) (aA (dC (.int 5)) aE)))))
 (aR (aU 5 (bB [14] (sJ (aA (aI 2 aD (aA (aC 0) (aA (dC (.int 6)) aE))) aE)) (gY 14) cO (hJ (bB [15] (Ad (aC 3)) (gY 15) cO (hJ (aI 2 bW (aA (aC 0) (aA (aC 4) aE))))))))
 (aR (aU 6 (aJ rN (aJ rN (fT (aA (hJ (fT (aA (dC (.int 40)) (aA (dC (.int 40)) (aA (dC (.int 14)) (aA (dC (.int 7)) (aA (dC (.int 4)) (aA (dC (.int 3)) aE)))))))) (aA (hJ (fT (aA (dC (.int 40)) (aA (dC (.int 17)) (aA (dC (.int 6)) (aA (dC (.int 4)) (aA (dC (.int 3)) (aA (dC (.int 2)) aE)))))))) aE))) (hB Ep (aA (aJ DU (aC 2) (dC (.int 2000))) aE))) (aJ GC (hB iB (aA (aC 1) aE)) (dC (.int 1)))))
 (aR (aU 7 (hJ (aC 2)))
 (aR (aU 8 (Gx (aJ Ce (aC 2) (dC (.int 0))) (aJ (AE false) (aI 2 aD (aA (aC 0) (aA (dC (.int 2)) aE))) (dC (.int 0)))))
 (aR (aU 9 (fT aE))
 (aR (kQ (Ad (aC 1)) (eA 2 (aM (gY 10) (aM (gY 11) fA)))
 (aR (aU 12 (dC (.int 40)))
 (aR (jF (cJ (aJ Ce (aC 2) (dC (.int 0)))) (aU 12 (hB oJ (aA (dC (.int 40)) (aA (aC 7) aE)))) dU)
 (aR (jF (HH (aC 8)) (aU 12 (hB oJ (aA (aC 12) (aA (aC 6) aE)))) dU)
 (aR (aU 13 (bB [16] (Ad (aC 5)) (gY 16) cO (hB lP (aA (bB [15] (Ad (aC 11)) (gY 15) cO (aJ rN (aC 16) (dF "list" 3 Je (aA (aC 15) aE)))) aE))))
 (aR (jF (cJ (aJ (AE false) (aI 2 aD (aA (aC 0) (aA (dC (.int 6)) aE))) (dC (.int 0)))) (aU 13 (fT aE)) dU)
 (aR (kQ (sJ (aA (aI 2 aD (aA (aC 0) (aA (aJ rN (fT (aA (hJ (aJ fB (aC 12) (dC (.int 1)))) (aA (hJ (aJ fB (hB oJ (aA (aC 12) (aA (dC (.int 5)) aE))) (dC (.int 1)))) aE))) (aI 2 aD (aA (aC 0) (aA (dC (.int 2)) aE)))) aE))) aE)) (gY 14)
 (dA (dF "list" 13 pJ (aA (hB lP (aA (bB [15] (Ad (aC 11)) (gY 15) cO (hJ (aI 2 bW (aA (aC 0) (aA (aC 4) aE))))) aE)) aE))))
 (aR (aU 13 (Bu (hB fZ (aA (aC 13) aE)) pI (dP (aC 12))))
 (aR (dA (dF "list" 9 pJ (aA (hB lP (aA (aC 13) aE)) aE)))
 (aU 7 (aJ GH (aC 7) (hB GF (aA (dC (.int 1)) (aA (hB iB (aA (aC 13) aE)) aE))))))))))))))
 (iC (hB lP (aA (aC 9) aE)))))))))))
def dJ:PySem.Aa4:=lM 17 eM
def eN:DS:=(iC (bB [2,3] (GZ (aA (aC 0) (aA (aC 1) aE))) (eA 2 (aM (gY 2) (aM (gY 3) fA))) cO (pE (aA (aJ rN (aC 2) (dC (.int 1))) (aA (hJ (aC 3)) aE)))))
def dL:PySem.Aa4:=lM 4 eN
def dN:DS:=(iC (FD (cJ (hB EY (aA (bB [1] (Ad (aC 0)) (gY 1) cO (aJ Ce (hB iB (aA (aC 1) aE)) (dC (.int 0)))) aE))) (fT (aA (pE aE) aE)) (fT aE)))
def cR:PySem.Aa4:=lM 2 dN
def fO:DS:=(iC (hB lP (aA (bB [2] (Ad (aC 1)) (gY 2) cO (aJ rN (aC 0) (aC 2))) aE)))
def bT:PySem.Aa4:=lM 3 fO
def eO:DS:=(iC (bB [2] (Ad (aC 1)) (gY 2) cO (hJ (Fe FL (aC 0) (aC 2)))))
def bO:PySem.Aa4:=lM 3 eO
def gK:DS:=(aR (aU 3 (aI 2 bO (aA (aJ rN (aC 0) (dC (.int 0))) (aA (aC 1) aE))))
 (aR (aU 4 (aI 2 bO (aA (aJ rN (aC 0) (dC (.int 0))) (aA (aC 2) aE))))
 (FU 5 6 (Ad (aJ rN (aC 0) (dC (.int 1)))) (aI 2 bT (aA (aC 6) (aA (aC 3) aE))) (aA (hJ (aI 2 bT (aA (aC 6) (aA (aC 4) aE)))) aE))))
def fP:PySem.Aa4:=lM 7 gK
def fQ:DS:=(iC (pE (aA (hB lP (aA (aC 0) aE)) (aA (hB lP (aA (hB fZ (aA (aC 1) aE)) aE)) aE))))
def eP:PySem.Aa4:=lM 2 fQ
def uU:DS:=(aR (aU 2 (aI 2 bO (aA (aJ rN (aC 0) (dC (.int 0))) (aA (aC 1) aE))))
 (iC (aI 2 eP (aA (aC 1) (aA (bB [3] (Ad (aJ rN (aC 0) (dC (.int 1)))) (gY 3) cO (hJ (aI 2 bT (aA (aC 3) (aA (aC 2) aE))))) aE)))))
def lB:PySem.Aa4:=lM 4 uU
def dO:DS:=(aR (aU 3 (fT aE))
 (aR (kQ (Ad (aC 0)) (gY 4)
 (jF (cJ (aJ (AM false) (aC 2) (aJ rN (aC 4) (dC (.int 0))))) (aR (aU 5 (hB lP (aA (bB [7] (Ad (aC 1)) (gY 7) (cJ (aJ (AM false) (aC 7) (aJ rN (aC 4) (dC (.int 0))))) (hJ (aC 7))) aE)))
 (aR (aU 6 (aI 3 fP (aA (aI 2 lB (aA (aC 4) (aA (aJ fB (aC 5) (pE (aA (hJ (aC 2)) aE))) aE))) (aA (aC 5) (aA (pE (aA (hJ (aC 2)) aE)) aE)))))
 (dA (dF "list" 3 pJ (aA (pE (aA (hJ (aI 2 bO (aA (aC 1) (aA (aC 5) aE)))) (aA (hJ (aC 6)) aE))) aE))))) dU))
 (iC (aC 3))))
def cS:PySem.Aa4:=lM 8 dO
def iN:DS:=(iC (hB EY (aA (bB [2] (Ad (aC 1)) (gY 2) cO (aJ (AM false) (aC 0) (aC 2))) aE)))
def fG:PySem.Aa4:=lM 3 iN
def dQ:DS:=(aR (aU 1 (fT aE))
 (aR (kQ (Ad (aC 0)) (eA 2 (aM (gY 2) (aM (gY 3) fA)))
 (dA (lY "list" 1 Dp (aA (bB [4] (Ad (aC 3)) (gY 4) (cJ (aJ (AM true) (aC 4) (aC 1))) (hJ (aC 4))) aE))))
 (iC (hB lP (aA (aC 1) aE)))))
def cT:PySem.Aa4:=lM 5 dQ
def dS:DS:=(aR (aU 3 (aI 2 dL (aA (aC 0) (aA (aC 1) aE))))
 (aR (aU 4 (hJ (aI 1 cR (aA (aC 1) aE))))
 (aR (aU 5 (fT aE))
 (aR (aU 6 (dC (.int 0)))
 (aR (kQ (GR (aC 2)) (eA 2 (aM (gY 7) (aM (gY 8) fA)))
 (aR (aU 9 (aI 3 cS (aA (aC 3) (aA (Bu (aC 2) pI (dP (aC 7))) (aA (aC 8) aE)))))
 (aR (aU 10 (fT aE))
 (aR (kQ (Ad (aC 4)) (gY 11)
 (aR (aU 12 (bB [14,15] (Ad (aC 9)) (eA 2 (aM (gY 14) (aM (gY 15) fA))) cO (aJ Ew (aC 15) (aI 2 bT (aA (aC 11) (aA (aC 14) aE))))))
 (aR (aU 13 (hB Ha (aA (aC 12) aE)))
 (aR (Ib 6 Hc (aJ pH (hB iB (aA (aC 13) aE)) (hB iB (aA (aC 12) aE))))
 (dA (lY "list" 10 Dp (aA (bB [16] (Ad (aC 13)) (gY 16) (cJ (aI 2 fG (aA (aC 16) (aA (aC 12) aE)))) (hJ (aJ fB (aC 11) (aC 16)))) aE)))))))
 (aR (aU 4 (hJ (aC 10)))
 (dA (dF "list" 5 pJ (aA (hB iB (aA (aC 4) aE)) aE))))))))
 (iC (pE (aA (aJ rN (aI 2 lB (aA (pE (aA (hJ (aC 2)) (aA (hJ (aC 4)) aE))) (aA (aI 1 cT (aA (aC 0) aE)) aE))) (dC (.int 1))) (aA (hB lP (aA (aC 5) aE)) (aA (hJ (aC 6)) aE))))))))))
def bX:PySem.Aa4:=lM 17 dS
def eQ:DS:=(aR (aU 4 (bB [9] (Ad (aC 2)) (gY 9) (cJ (aJ (AM false) (aC 9) (aC 0))) (hJ (Fe FL (aC 0) (aC 9)))))
 (aR (aU 5 (Fe FL (aC 0) (aC 3)))
 (aR (aU 6 Jj)
 (aR (kQ (Ad (aC 1)) (gY 7)
 (aR (aU 8 (hB lP (aA (bB [10] (Ad (aC 4)) (gY 10) cO (aJ rN (aC 7) (aC 10))) aE)))
 (Ie 6 8 (hJ (hB kH (aA (aJ fB (Hb (aC 6) (aC 8) (fT aE)) (fT (aA (aJ rN (aC 7) (aC 5)) aE))) aE))))))
 (iC (aC 6))))))
def cM:PySem.Aa4:=lM 11 eQ
def gM:DS:=(aR (aU 3 (hJ (aJ HR (fT (aA (pE aE) aE)) (hB Ep (aA (aJ Ce (hB yB (aA (bB [11] (Ad (aC 1)) (gY 11) cO (hB iB (aA (aC 11) aE))) aE)) (dC (.int 0))) aE)))))
 (aR (aU 4 (fT aE))
 (aR (aU 5 (dC (.int 0)))
 (aR (kQ (GR (aC 2)) (eA 2 (aM (gY 6) (aM (gY 7) fA)))
 (aR (aU 8 (fT aE))
 (aR (kQ (GZ (aA (aC 0) (aA (aC 1) aE))) (eA 2 (aM (eA 2 (aM (gY 9) (aM (gY 10) fA))) (aM (gY 11) fA)))
 (jF (cJ (aJ (AM false) (aC 7) (aC 10))) (aR (aU 12 (bB [17] (sJ (aA (aC 6) aE)) (gY 17) (cJ (aJ (AM false) (aJ rN (aC 2) (aC 17)) (aC 10))) (hJ (aC 17))))
 (dA (dF "list" 8 pJ (aA (pE (aA (hJ (aC 12)) (aA (hJ (aI 4 cM (aA (aC 10) (aA (aC 11) (aA (Bu (aC 2) pI (dP (aC 6))) (aA (aC 7) aE)))))) aE))) aE)))) dU))
 (aR (aU 13 (fT aE))
 (aR (kQ (Ad (aC 3)) (gY 14)
 (aR (aU 15 (fT aE))
 (aR (kQ (Ad (aC 8)) (eA 2 (aM (gY 12) (aM (gY 16) fA)))
 (dA (dF "list" 15 pJ (aA (aJ Ew (aC 16) (hB lP (aA (bB [17] (Ad (aC 12)) (gY 17) cO (aJ rN (aC 14) (aC 17))) aE))) aE))))
 (aR (aU 5 (aJ fB (aC 5) (aJ pH (hB yB (aA (bB [19] (Ad (aC 15)) (gY 19) cO (hB iB (aA (aC 19) aE))) aE)) (hB iB (aA (aC 15) aE)))))
 (dA (lY "list" 13 Dp (aA (bB [18] (Ad (aJ rN (aC 15) (dC (.int 0)))) (gY 18) (cJ (hB EY (aA (bB [19] (Ad (aC 15)) (gY 19) cO (aJ (AM false) (aC 18) (aC 19))) aE))) (hJ (aJ fB (aC 14) (pE (aA (hJ (aC 18)) aE))))) aE)))))))
 (aR (aU 3 (hJ (aC 13)))
 (dA (dF "list" 4 pJ (aA (hB iB (aA (aC 3) aE)) aE)))))))))
 (aR (aU 12 (bB [7] (Ad (aI 1 bH (aA (aC 0) aE))) (gY 7) cO (hJ (Fe FL (aC 2) (aC 7)))))
 (iC (pE (aA (hB lP (aA (hB HY (aA (bB [14] (Ad (aC 3)) (gY 14) cO (hB lP (aA (bB [17] (Ad (aC 12)) (gY 17) cO (aJ rN (aC 14) (aC 17))) aE))) aE)) aE)) (aA (hB lP (aA (aC 4) aE)) (aA (hJ (aC 5)) aE))))))))))
def eE:PySem.Aa4:=lM 20 gM
def pW:MS:=(vD (GV (sJ (aA (hB GF (aA (dC (.int 1)) (aA (hB iB (aA (Bu (aC 0) pI (dP (dC (.int 2)))) aE)) aE))) aE)) (gY 1)
 (vD (RS (aU 2 (aI 2 fM (aA (aC 0) (aA (aC 1) aE)))))
 (vD (uN 3 2 cU (aA (aC 2) (aA (dC (.int 3)) aE)))
 (RS (aR (aU 4 (aI 3 dJ (aA (aC 2) (aA (aC 3) (aA (aJ rN (fT (aA (dC (.int 3000)) (aA (dC (.int 300)) aE))) (hB Ep (aA (aJ Ce (aC 1) (dC (.int 0))) aE))) aE)))))
 (aR (aU 5 (hB rV (aA (pE (aA (hJ (aC 3)) (aA (hJ (aC 4)) aE))) aE)))
 (aR (aU 6 (bB [8] (sJ (aA (dC (.int 2)) aE)) (gY 8) cO (hB lP (aA (aI 2 aT (aA (aC 2) (aA (aI 1 bH (aA (aC 3) aE)) aE))) aE))))
 (aR (kQ (Ad (aJ fB (aC 6) (Bu (aC 6) pI (dP (dC (.int 1)))))) (gY 7)
 (jF (cJ (aJ (AE true) (hB rV (aA (aI 3 bX (aA (aC 3) (aA (aC 4) (aA (aC 7) aE)))) aE)) (hB rV (aA (aI 3 eE (aA (aC 3) (aA (aC 4) (aA (aC 7) aE)))) aE)))) (iC (dC (.bl false))) dU))
 (jF (cJ (aJ (AE true) (hB rV (aA (pE (aA (hJ (aC 3)) (aA (hJ (aC 4)) aE))) aE)) (aC 5))) (iC (dC (.bl false))) dU)))))))))
 (RS (iC (dC (.bl true)))))
def nW:MC:=GB 9 pW
def yD:pF pW:=(eC (Om (eC eX (eC (kI (kY bA)) eX))) eX)
def Tx(z:Str):Prop:=z.length<=100/\∀c∈z.cps.toList,c<128
theorem z8:SK (.str z) l h K=(z.length<=sizeLine/\K (.val (.str (slice z l h)))):=by
 show eD (if _ then _ else none) K=_;rw[aP];rfl
theorem yE:eD (pH (.str z) (.int i)) K=((z.length<=1000/\0<=i/\i<=1000)/\K (.val (.str (Txt.mul z i)))):=by
 unfold pH;rw[aP];rfl
theorem z9:iY [i] Z a=a.set i (Z[i]?.getD none):=rfl
def A0:(ofString "abcdefghijklmnopqrstuvwxyz").cps.toList.length=26:=rfl
def Fm(z:Str):z.length=z.cps.toList.length:=rfl
def nX(x y:Str):(x++y).cps.toList=x.cps.toList++y.cps.toList:=by show(x.cps++y.cps).toList=_;simp
theorem hV(x y:Str):(x++y).length=x.length+y.length:=by rw[Fm,Fm,Fm,nX,Av]
def As(z:Str):Prop:=∀c∈z.cps.toList,c<128
def nY(a:As x)(b:As y):As (x++y):=by
 intro c hc;rw[nX]at hc;rcases sU.mp hc with h|h;exact a c h;exact b c h
def Pb(h:As z)(l H:Option Int):As (slice z l H):=by
 intro c hc;unfold slice at hc;split at hc;exact h c hc;simp only[List.mem_filterMap]at hc;obtain⟨i,_,H⟩:=hc;exact h c (Array.mem_toList_iff.mpr (Array.mem_of_getElem? H))
theorem slice_le(z:Str)(l h:Option Int):(slice z l h).length<=z.length:=Txt.slice_le z l h
def rW(h:As z):cW (.str z)=true:=by
 unfold cW;rw[Fw];refine⟨?_,rfl⟩;show PyData.strOk z=true;unfold PyData.strOk;rw[← Array.all_toList,DJ];intro c hc;have:=h c hc
 lia
def A2(d:D)(l:List D):cW d=true->cW (.lst l)=true->(cK d).depth<=59->cW (.lst (d::l))=true:=by
 intro a b e;obtain⟨h,f⟩:=cF a;obtain⟨A,c⟩:=cF b;unfold cW;rw[Fw,Dx];have g:(cK (.lst (d::l))).canLay0=((cK d).canLay0&&(cK (.lst l)).canLay0):=rfl;refine⟨by simp_all,?_⟩;simp only[cK,toPys,depth,depthAll]at c ⊢;lia
theorem rX:∀{b:List Str},(∀z∈b,As z)->cW (.lst (b.map D.str))=true
 |[],_=>rfl
 |z::r,h=>A2 _ _ (rW (h z pL)) (rX λy a=>h y (Af _ a)) (by show depth (.str z)<=59;simp[depth])
theorem A3:eD (nD (.tup l)) K=K l:=rfl
theorem Pc:eD (nD (.lst l)) K=K l:=rfl
theorem A4:aW [i] Z=Z.set i none:=rfl
theorem A5:aW [i,j] Z=(Z.set i none).set j none:=rfl
theorem A6:iY [i,j] Z a=(a.set i (Z[i]?.getD none)).set j (Z[j]?.getD none):=rfl
theorem A7:aW [i,j,k] Z=((Z.set i none).set j none).set k none:=rfl
theorem A8:iY [i,j,k] Z a=((a.set i (Z[i]?.getD none)).set j (Z[j]?.getD none)).set k (Z[k]?.getD none):=rfl
noncomputable def ov(b:Bool)(d:D):Option Sl:=if b=true then some ⟨.val,d⟩else none
theorem Pd{r:Sg}:PySem.PK 0 (ov b d::r) s K=K (some s::r):=by cases b<;>rfl
theorem yF:eD (Dp (.lst l) [.lst m]) K=(l.length+m.length<=sizeLine/\K (.lst (l++m),.non)):=by
 unfold Dp;rw[aP];rfl
theorem A9:Ff b Q (.nx Z)=b Z Q:=rfl
theorem yG:eD (GQ [.lst l,.lst m]) K=K (.val (.tup (GP l m))):=rfl
theorem B0{r:Sg}:lendO (some 0) (some ⟨.own,d⟩::r)=some ⟨.lent,d⟩::r:=rfl
theorem B1{r:Sg}:lendO (some 0) (some ⟨.par,d⟩::r)=some ⟨.lent,d⟩::r:=rfl
theorem B2{r:Sg}:lendO (some 0) (some ⟨.lent,d⟩::r)=some ⟨.lent,d⟩::r:=rfl
theorem B3{r:Sg}:lendO (some (i+1)) (o::r)=o::lendO (some i) r:=by
 show lend (i+1) (o::r)=o::lend i r;unfold lend;rw[EH];generalize r[i]?=x
 match x with
 |none|some none|some (some ⟨.own,_⟩)|some (some ⟨.par,_⟩)|some (some ⟨.val,_⟩)|some (some ⟨.lent,_⟩)=>rfl
theorem B4{a r:Sg}:sI (some 0) (some ⟨.own,e⟩::a) (some ⟨m,d⟩::r)=some ⟨.own,d⟩::r:=rfl
theorem B5{a r:Sg}:sI (some 0) (some ⟨.par,e⟩::a) (some ⟨m,d⟩::r)=some ⟨.par,d⟩::r:=rfl
theorem B6{a r:Sg}:sI (some 0) (some ⟨.lent,e⟩::a) (some ⟨m,d⟩::r)=some ⟨m,d⟩::r:=rfl
theorem B7{a r:Sg}:sI (some (i+1)) (o::a) (O::r)=O::sI (some i) a r:=by
 show CV (i+1) (o::a) (O::r)=O::CV i a r;unfold CV;rw[EH,EH];generalize a[i]?=x;generalize r[i]?=y
 match x,y with
 |none,_|some none,_|some (some _),none|some (some _),some none|some (some ⟨.own,_⟩),some (some _)|some (some ⟨.par,_⟩),some (some _)|some (some ⟨.val,_⟩),some (some _)|some (some ⟨.lent,_⟩),some (some _)=>rfl
theorem B8:jA (some i) Z (.nx a)=.nx (sI (some i) Z a):=rfl
noncomputable def wo(o:Option (List D)):Option Sl:=o.map λl=>⟨.own,.lst l⟩
theorem B9{r:Sg}:PySem.PK 0 (wo o::r) s K=K (some s::r):=by cases o<;>rfl
theorem yH:eD (Ki (.bl b)) K=K b:=rfl
local macro_rules | `(tactic|walk_at"dx")=>do
 let l:=("xF d6 rL yG A9 XS yF Pd Pc A3 z8 yE Wm zX zY zZ MX Wn Wq Wr Ws MY Wt MZ Na Wu Ww qT wG Wx Wy wH wI wJ Wz WA Nb WB WC WE WG WH WI WJ WK wK tX pK WL wL WM WN Nd WO WQ WR YJ Nf Ng Nh wM wN wO WS WT WU WV WW WX WY WZ Ni qU mJ qV Xa wP Xl Xm Xn Xp Xq Xr Xs xG Nm Xu wW mM nM YH Xz wX wZ XA XB XC XD XE XF XG XH XI XJ xA xB xC XM XN xD qW XO XP XQ XR XT XU XW XX aV XZ Ya Yb Yc Xc Xd Xf Xg Xh Xi wQ wR wS Xj Xk reduceIte rG B9 yH xO Wv Xo wY xE XY Xe xM Zm p6 Wo".splitOn " ").toArray.map fun s=>Lean.mkIdent s.toName
 let m:=("A7 A8 A4 A5 A6 Yd Ye Yf Np Yg Int.reducePow Int.reduceNeg Int.reduceLT Int.reduceLE Nat.reducePow Nat.reduceLT Int.reduceToNat Nat.reduceLeDiff Yk B1 B5 B8 Yh Yi Yj wT wU wV z9 List.getElem?_cons_succ List.getElem?_cons_zero Option.getD_some List.set_cons_zero List.set_cons_succ dH EX Nat.reduceEqDiff decide_false List.length_cons List.length_nil Nat.reduceAdd Nat.zero_add true_and and_true and_self Bool.not_false Bool.not_true Bool.false_eq_true Bool.true_and Bool.and_true Bool.or_false decide_eq_true_eq B0 B3 B4 B7 B2 B6".splitOn " ").toArray.map fun s=>Lean.mkIdent s.toName
 `(tactic|simp only[$[↓$l:ident],*,$[$m:ident],*])
def sl2:(2<=sizeLine):=by decide
def aO(h:0<m)(c:m<18446744073709551616)(k:∀d e f,0<=d->d<m->K (.val (.int d)) [⟨.par,.lst [.int e,.int f]⟩,⟨.val,.int m⟩]):CK aD [⟨.par,.lst [.int a,.int b]⟩,⟨.val,.int m⟩] K:=by
 unfold aD;rw[cB];show RS fN [_,_,none,none] _;unfold fN;walk_at"dx";rw[Np h c];split;exact⟨h,True.intro,k _ _ _ (emod_nonneg _ (by lia)) (Hr _ h)⟩;exact⟨h,k _ _ _ (emod_nonneg _ (by lia)) (Hr _ h)⟩
def Pe{ns:List Int}(H:0<=i)(h:i<(ns.length:Int)):∃c,atI (ns.map D.int) i=some (.int c):=by
 obtain⟨c,hc⟩:=zE (ys:=ns) H h;exact⟨c,by rw[vQ,hc];rfl⟩
def C0{ns:List Int}(h:0<=n)(H:n<1000)(k:∀a b,K (.own (.lst [.int a,.int b])) [⟨.val,.lst (ns.map D.int)⟩,⟨.val,.int n⟩]):CK fM [⟨.val,.lst (ns.map D.int)⟩,⟨.val,.int n⟩] K:=by
 unfold fM;rw[cB];show RS gJ [_,_,none,none] _;unfold gJ;walk_at"dx";split;obtain⟨c,hc⟩:=Pe (ns:=ns) h (by simp_all);rw[hc];walk_at"dx";exact⟨sl2,k _ _⟩;split;rename_i hc;refine⟨hc,?_⟩;obtain⟨c,hc⟩:=Pe (ns:=ns) (i:=n % ((ns.map D.int).length:Int)) (emod_nonneg _ (by lia)) (by have:=Hr n hc;simp_all);rw[hc];walk_at"dx";exact⟨sl2,k _ _⟩;exact⟨sl2,k _ _⟩
def fD(h:(zS l n)[i]?=some d):i<n/\d=.int (l+i):=by
 unfold zS at h;cases e:(range n)[i]? with
 |none=>simp_all
 | some k=>
   obtain⟨H,a⟩:=hR.mp e;rw[length_range]at H
   simp_all
def bI(l:Int)(n:Nat):(zS l n).length=n:=by simp[zS]
def yI{c:a}(h:atI l i=some c):c∈l:=by
 obtain⟨j,_,b⟩:=aB h;exact Ao b
def C1(b:0<=d)(H:d < (l.length:Int))(a:d < 9223372036854775808)(k:∀ y r,(y::r).Perm l->r.length+1=l.length->K (.lst r,y)):eD (tR (.lst l) [.int d]) K:=by
 obtain⟨n,rfl⟩:∃n:Nat,d=n:=⟨d.toNat,by lia⟩;have h:n<l.length:=by lia
 unfold tR;dsimp only;rw[eH ⟨by lia,by lia⟩];have e:AL l.length (n:Int)=some n:=by
  unfold AL
  simp_all
 rw[e];show eD ((l[n]?).map _) K;rw[nL h];exact k _ _ (xK l n h) (by grind)
def lW(P:Sg->Prop)(H:RS a Z λo=>∃c,o=.nx c/\P c)(d:∀c,P c->RS b c Q):RS (aR a b) Z Q:=by
 rw[Nc];refine aS H ?_;rintro o ⟨c,rfl,h⟩;exact d c h
def iX(g:m=.par/\t=.lst xs\/m=.val/\t=.lst xs\/m=.val/\t=.tup xs)(p:xs.length<=1000)(k:∀ Y c e,Y.Perm xs->K (.own (.lst Y)) [⟨.par,.lst [.int c,.int e]⟩,⟨m,t⟩]) :
  CK aT [⟨.par,.lst [.int a,.int b]⟩,⟨m,t⟩] K:=by
 unfold aT;rw[cB];show RS _ [_,_,none,none] _;unfold gB;refine lW (λs=>s=[some ⟨.par,.lst [.int a,.int b]⟩,some ⟨m,t⟩,some ⟨.own,.lst xs⟩,none]) ?_ ?_
 ·rcases g with⟨rfl,rfl⟩ | ⟨rfl,rfl⟩ | ⟨rfl,rfl⟩
  all_goals
   walk_at"dx";exact⟨_,rfl,rfl⟩
 ·rintro _ rfl;walk_at"dx";refine⟨sS _,?_⟩;refine YK (λm s=>∃c e L found,m=L.length/\L.length<=xs.length/\found.length+L.length=xs.length/\(found++L).Perm xs/\s=[some ⟨.par,.lst [.int c,.int e]⟩,some _,some ⟨.own,.lst L⟩,some ⟨.own,.lst found⟩]) xs.length (by lia) ⟨a,b,xs,[],rfl,hC _,by simp,.refl _,rfl⟩ ?_;rintro m s ⟨c,e,L,found,rfl,i,j,h,rfl⟩;walk_at"dx";split;refine aO (by simp_all) (by lia) λd A l n q=>?_;walk_at"dx";refine C1 n (by simp_all) (by lia) λy r f o=>?_;refine⟨Au (by lia:found.length<1001) (by decide),.inl ⟨_,r.length,.inl rfl,le_of_eq o,A,l,r,found++[y],rfl,by lia,by grind,?_,rfl⟩⟩;rw[append_assoc];exact(append_left found f).trans h
  rcases g with⟨rfl,rfl⟩|⟨rfl,rfl⟩|⟨rfl,rfl⟩<;>(simp_all;exact k _ _ _ h)
theorem Pf:∀ (d:List Str),(∀ z∈d,z.length<=1)->(d.map (·.length)).sum<=d.length
 |[],_=>by simp
 | z::r,h=>by
   have b:=h z pL;have c:=Pf r λy a=>h y (Af _ a)
   grind
def C2(a:0<=e)(b:e<26):∃c,atI (ofString "abcdefghijklmnopqrstuvwxyz").cps.toList e=some c/\c<128:=by
 obtain⟨c,hc⟩:=zE (ys:=(ofString "abcdefghijklmnopqrstuvwxyz").cps.toList) a (by exact b);exact⟨c,hc,Us c (yI hc)⟩
def Jo(h:c<128):As ⟨#[c]⟩:=by
 intro x a
 simp_all
def C3:∀n:_root_.Fin 24,((ofString "abcdefghijklmnopqrstuvwxyz").cps.toList.drop n).take 3=[97+(n:Nat),98+(n:Nat),99+(n:Nat)]:=by decide
def C4(h:0<=k)(H:k < 24):∃ (z:Str) (p q r:Nat),slice (slice (ofString "abcdefghijklmnopqrstuvwxyz") (some k) none) none (some 3)=z/\z.length=3/\iZ z=[.str ⟨#[p]⟩,.str ⟨#[q]⟩,.str ⟨#[r]⟩]/\(p < 128/\q < 128/\r < 128)/\p < q/\q < r:=by
 have d:(ofString "abcdefghijklmnopqrstuvwxyz").length=26:=rfl;have b:=pB (x:=ofString "abcdefghijklmnopqrstuvwxyz") h (by lia);have f:(slice (ofString "abcdefghijklmnopqrstuvwxyz") (some k) none).length=26-k.toNat:=by
  rw[Fm,b,DH,A0]
 have c:=zF (x:=slice (ofString "abcdefghijklmnopqrstuvwxyz") (some k) none) (j:=3) (by decide) (by lia);rw[b]at c;have e:=C3 ⟨k.toNat,by lia⟩;have a:(slice (slice (ofString "abcdefghijklmnopqrstuvwxyz") (some k) none) none (some 3)).cps.toList=[97+k.toNat,98+k.toNat,99+k.toNat]:=c.trans e;generalize slice (slice (ofString "abcdefghijklmnopqrstuvwxyz") (some k) none) none (some 3)=z at a;exact⟨z,_,_,_,rfl,by rw[Fm,a];rfl,by unfold iZ;rw[a];rfl,⟨by lia,by lia,by lia⟩,by simp,by simp⟩
def KQ(h:c<128):Tx ⟨#[c]⟩:=⟨by show 1<=100;decide,Jo h⟩
def Jp(h:x.length<=m/\As x)(a:y.length<=n/\As y):(x++y).length<=m+n/\As (x++y):=⟨by rw[hV];exact Nat.add_le_add h.1 a.1,nY h.2 a.2⟩
theorem KS(c:Nat):Str.length ⟨#[c]⟩=1:=rfl
def C5(H:0<=e)(h:e<11):∃z:Str,atI ([D.str "table",D.str "tree",D.str "none",D.str "answer",D.str "levels",D.str "looks"]++[D.str "at",D.str "count",D.str "ears",D.str "cover",D.str "place"]) e=some (.str z)/\Tx z:=by
 have:e=0\/e=1\/e=2\/e=3\/e=4\/e=5\/e=6\/e=7\/e=8\/e=9\/e=10:=by lia
 rcases this with rfl|rfl|rfl|rfl|rfl|rfl|rfl|rfl|rfl|rfl|rfl<;>exact⟨_,rfl,by unfold Tx;decide⟩
def yJ(y:List Str)(j:Nat)(z:Str):(y.map D.str).set j (.str z)=(y.set j z).map D.str:=by simp
def C6{n:Nat}{k:Int}(H:0<=k)(h:k < n)(q:∀ j,j < n->K j):eD (AL n k) K:=by
 obtain⟨m,rfl⟩:∃m:Nat,k=m:=⟨k.toNat,by lia⟩;have e:AL n (m:Int)=some m:=by
  unfold AL
  simp_all
 rw[e];exact q m (by lia)
def KU(h:m=0\/m=1):(Txt.mul "z" m).length<=1/\As (Txt.mul "z" m):=by
 rcases h with rfl|rfl;exact⟨by decide,by unfold As;decide⟩;exact⟨by decide,by unfold As;decide⟩
def Pg(p:Prop)[Decidable p]:(if p then(1:Int)else 0)=0\/(if p then(1:Int)else 0)=1:=by lia
def C7(a:0<=e)(b:e<26):atI (ofString "abcdefghijklmnopqrstuvwxyz").cps.toList e=some (97+e.toNat):=by
 have h:∀n:_root_.Fin 26,atI (ofString "abcdefghijklmnopqrstuvwxyz").cps.toList ((n:Nat):Int)=some (97+(n:Nat)):=by decide
 have:=h ⟨e.toNat,by lia⟩
 grind
theorem C8{Y:List Str}(h:∀(i j:Nat) y,i<j->Y[i]?=some y->Y[j]?=some y->False):Y.Nodup:=by
 rw[Ca,List.pairwise_iff_getElem];intro i j H b a z;exact h i j Y[i] a (nL H) (by simp_all)
def Jq{a:List Str}(H:As z)(h:∀ z∈a,As z)(k:K (.val (.bl (if neg=true then !a.contains z else a.contains z)))):eD (AM neg (.str z) (.lst (a.map D.str))) K:=by
 show eD (if _ then _ else none) K;rw[aP];refine⟨⟨rW H,rX h⟩,?_⟩;have e:((a.map D.str).any λy=>tU y (.str z))=a.contains z:=by
  rw[List.any_map,List.contains_eq_any_beq];congr 1;funext y;show(y==z)=(z==y)
  lia
 rw[e];exact k
def C9{a:Type}{l:List a}{z:a}(h:l.Nodup)(d:z∉l):(l.set j z).Nodup:=by
 rw[Ca,List.pairwise_iff_getElem]at h ⊢;intro i k H b c;rw[CS]at H b
 grind
def Ph(k:∀ (O:List Str) E F,O.length=6->O.Nodup->(∀ z∈O,Tx z)->K (.own (.lst (O.map D.str))) [⟨.par,.lst [.int E,.int F]⟩,⟨.val,.int 6⟩]) :
  CK cL [⟨.par,.lst [.int a,.int b]⟩,⟨.val,.int 6⟩] K:=by
 unfold cL;rw[cB];show RS eK [_,_,none,none,none,none,none,none,none,none,none,none,none,none,none] _;unfold eK;walk_at"dx";refine aO (by decide) (by decide) λn a1 b1 n0 n5=>?_;walk_at"dx";refine⟨by lia,by rw[bI];exact hQ (by lia:n.toNat<=5) (by decide),?_⟩;refine dI _ _ (λi acc τ=>i<=4/\∃(O:List Str) (E F:Int),acc=O.map D.str/\O.length=i/\(∀z∈O,z.length<=1/\As z)/\τ=[some ⟨.par,.lst [.int E,.int F]⟩,some ⟨.val,.int 6⟩,some ⟨.val,.str "abcdefghijklmnopqrstuvwxyz"⟩,none,none,none,none,none,none,none,none,none,none,none,none]) ⟨sS _,[],a1,b1,rfl,rfl,by simp,rfl⟩ ?_ ?_;rintro i d acc τ hd ⟨_,O,E,F,rfl,hl,f,rfl⟩;obtain⟨hi,rfl⟩:=fD hd;walk_at"dx";refine aO (by decide) (by decide) λe a2 b2 L M=>?_;walk_at"dx";refine⟨by decide,?_⟩;obtain⟨c,hc,N⟩:=C2 L M;rw[hc];walk_at"dx";refine⟨_,rfl,by lia,O++[⟨#[c]⟩],a2,b2,by rw[Aj];rfl,by rw[Av,hl];rfl,?_,rfl⟩;intro z π;rcases sU.mp π with h|h;exact f z h;rw[Aa]at h;subst h;exact⟨hC 1,Jo N⟩;rintro acc τ ⟨h5,O,E,F,rfl,hl,f,rfl⟩;have hs:=Pf O λz h=>(f z h).1;rw[Ym];refine⟨by simp only[show(ofString "").length=0 by decide];lia,?_⟩;have I:=vV (m:=128) (sep:=ofString "") (by decide) O λz h=>(f z h).2;have s:(Txt.join (ofString "") O).length<=4:=by
  refine hQ (Tq _ _) ?_;simp only[show(ofString "").length=0 by decide];lia
 revert I s;generalize Txt.join (ofString "") O=x;intro I s;have G:x.length<=sizeLine:=hQ s (by decide);walk_at"dx";rw[YI G];walk_at"dx";refine aO (by simp) (by lia) λo a2 b2 P k11=>?_;walk_at"dx";refine aO (by lia) (by lia) λv a3 b3 k20 k21=>?_;walk_at"dx";refine aO (by lia) (by lia) λk3 a4 b4 k30 k31=>?_;walk_at"dx";split
 ·refine aO (by lia) (by lia) λk4 a5 b5 A B=>?_;walk_at "dx";obtain⟨z,p,q,r,e,Q,es,⟨R,S,T⟩,pq,qr⟩:=C4 A B;rw[e,es];refine⟨by decide,hQ (slice_le _ _ _) (by decide),Q,?_⟩;walk_at "dx";simp only[hV,KS];refine⟨by decide,by decide,by decide,by decide,by decide,by decide,by decide,by decide,by decide,?_⟩;have tp:=KQ R;have tq:=KQ S;have tr:=KQ T;have l1:∀ {c:Nat},c < 128->Str.length ⟨#[c]⟩<=1/\As ⟨#[c]⟩:=λh=>⟨hC 1,Jo h⟩;have J:∀ {x:Str} {n:Nat},n<=100->x.length<=n/\As x->Tx x:=λhn h=>⟨hQ h.1 hn,h.2⟩;refine k [⟨#[p]⟩,⟨#[p]⟩++⟨#[q]⟩,⟨#[q]⟩,⟨#[q]⟩++⟨#[r]⟩,⟨#[r]⟩,⟨#[p]⟩++⟨#[r]⟩] _ _ rfl ?_ ?_
  ·have C:∀x y:Nat,(⟨#[x]⟩:Str)++⟨#[y]⟩=⟨#[x,y]⟩:=λ_ _=>rfl;have n1:p≠q:=Ay pq;have n2:q≠r:=by lia
   have n3:p≠r:=by lia
   rw[C,C,C];simp[n1,n2,n3,Ne.symm n1,Ne.symm n2,Ne.symm n3]
  intro z f;simp only[mem_cons,not_mem_nil,or_false]at f;rcases f with rfl|rfl|rfl|rfl|rfl|rfl;exact tp;exact J (by decide) (Jp (l1 R) (l1 S));exact tq;exact J (by decide) (Jp (l1 S) (l1 T));exact tr;exact J (by decide) (Jp (l1 R) (l1 T))
 ·refine⟨sS _,?_⟩;refine cP (λi τ=>i<=6/\∃ (ys:List Str) (b:Bool) (d e:D),ys.length=i/\(∀ (j:Nat) y,ys[j]? = some y->Tx y/\∃ t,y.cps.toList=(slice x none (some o)).cps.toList++(97+((v+5*(j:Int)) % 26).toNat)::t)/\τ=[some ⟨.par,.lst [.int a4,.int b4]⟩,some ⟨.val,.int 6⟩,some ⟨.val,.str "abcdefghijklmnopqrstuvwxyz"⟩,some ⟨.val,.str x⟩,some ⟨.val,.int o⟩,some ⟨.val,.int v⟩,some ⟨.val,.int k3⟩,none,none,none,none,some ⟨.own,.lst (ys.map D.str)⟩,ov b d,ov b e,none]) ⟨sS _,[],false,.non,.non,rfl,by simp,rfl⟩ ?_ ?_
  ·rintro i d τ hd ⟨_,ys,b0,d0,L,g,l,rfl⟩;obtain⟨hi,rfl⟩:=fD hd;have hc:=C7 (e:=(v+5*(0+(i:Int))) % 26) (emod_nonneg _ (by decide)) (Hr _ (by decide));have N:97+((v+5*(0+(i:Int))) % 26).toNat < 128:=by
    have:=Hr (v+5*(0+(i:Int))) (b:=26) (by decide);lia
   have l1:=slice_le x none (some o);have l2:=slice_le x (some o) none;have g1:=Pb (z:=x) I none (some o);have g2:=Pb (z:=x) I (some o) none;have sl:100<=sizeLine:=by decide
   have done:∀(w:Str) (m:Int) ,(w.length<=5/\As w)->(m=0\/m=1)->Tx (w++Txt.mul "z" m):=λw m U hm=>by
    have:=Jp U (KU hm);exact⟨by lia,this.2⟩
   have fin:∀ m:Int,(m=0\/m=1)->∀ (j:Nat) y,(ys++[slice x none (some o)++⟨#[97+((v+5*(0+(i:Int))) % 26).toNat]⟩++slice x (some o) none++Txt.mul "z" m])[j]? = some y->Tx y/\∃ t,y.cps.toList=(slice x none (some o)).cps.toList++(97+((v+5*(j:Int)) % 26).toNat)::t:=λm ht j y h=>by
    by_cases hj:j<ys.length;rw[Bz hj]at h;exact l j y h;have V:j=i:=by
     have:=(hR.mp h).1;rw[Av,length_singleton]at this;lia
    subst V;rw[CP (le_of_eq g),g,Nat.sub_self]at h;obtain rfl:=Ap h;refine⟨done _ _ ⟨?_,nY (nY g1 (Jo N)) g2⟩ ht,(slice x (some o) none).cps.toList++(Txt.mul "z" m).cps.toList,?_⟩;rw[hV,hV,KS,Fm,Fm,zF P (by lia),pB (by lia) (by lia),Bi,DH];rw[Fm]at s;lia;rw[nX,nX,nX,Int.zero_add];simp
   walk_at"dx";rw[hc];walk_at"dx";have z1:=KU (Pg ((0+(i:Int)) % 2=1));have z0:=KU (m:=0) (.inl rfl);have W:=Pg ((0+(i:Int)) % 2=1);simp only[hV,KS];revert W z1;generalize (if(0+(i:Int)) % 2=1 then(1:Int)else 0)=zz;intro z1 W;refine⟨G,by decide,by lia,by lia,by lia,?_⟩;have H:(List.map D.str ys).length<sizeLine:=by rw[fI];lia
   split;exact⟨⟨by decide,by lia,by lia⟩,by lia,H,_,.inl rfl,by lia,ys++[_],true,_,_,by rw[Av,g];rfl,fin _ W,by rw[Aj];rfl⟩;exact⟨by decide,by lia,H,_,.inl rfl,by lia,ys++[_],true,_,_,by rw[Av,g];rfl,fin 0 (.inl rfl),by rw[Aj];rfl⟩
  ·rintro τ ⟨_,ys,b0,d0,L,g,l,rfl⟩;rw[bI]at g;have hn:ys.Nodup:=C8 λi j y hij h1 h2=>by
    obtain⟨_,t1,M⟩:=l i y h1;obtain⟨_,J,C⟩:=l j y h2;rw[M]at C;have e3:=(List.cons.inj (List.append_cancel_left C)).1;have hj:=(hR.mp h2).1;rw[g]at hj;have h6:j<6:=by lia
    lia
   have u:∀z∈ys,Tx z:=λz f=>by
    obtain⟨j,hj⟩:=List.mem_iff_getElem?.mp f;exact(l j z hj).1
   have X:∀z∈ys,As z:=λz h=>(u z h).2;walk_at"dx";refine⟨by decide,by decide,by decide,aO (by lia) (by lia) λk4 a5 b5 A B=>?_⟩;obtain⟨w,U,tw⟩:=C5 A B;walk_at"dx";rw[U];walk_at"dx";refine aO (by lia) (by lia) λk5 a6 b6 k50 k51=>?_;walk_at"dx";split
   ·refine Jq tw.2 X ?_;walk_at "dx";split
    ·rename_i Y;have nw:w∉ys:=by simpa using Y
     refine aO (by lia) (by lia) λk6 a7 b7 σ k61=>?_;walk_at"dx";refine C6 σ (by rw[fI,g];lia) λj hj=>?_;rw[yJ];refine k _ _ _ (by rw[CS,g]) (C9 hn nw) λz f=>?_;rcases List.mem_or_eq_of_mem_set f with h|h;exact u z h;exact h▸tw
    ·exact k _ _ _ g hn u
   ·exact k _ _ _ g hn u
def KW{a:Type}{l:List a}(f:a->D)(H:0<=i)(h:i<(l.length:Int)):∃c,atI (l.map f) i=some (f c)/\c∈l:=by
 obtain⟨c,hc⟩:=zE (ys:=l) H h;exact⟨c,by rw[vQ,hc];rfl,yI hc⟩
def Pj(l:List D)(a b:Option Int):(CY l a b).length<=l.length:=by
 unfold CY;rw[Bi,DH];lia
def yK(h:RT r Z Q)(w:∀b c,Q b c->a b c):RT r Z a:=aS h λx=>w x.1 x.2
def yL(h:RE r Z Q)(w:∀b c,Q b c->a b c):RE r Z a:=aS h λx=>w x.1 x.2
def aX{m:Type}{g:D->Sg->Option Sg}(f:m->D)(u:m->D)(xs:List m)(l:Sg)(q:a=l)
  (w:∀x∈xs,eD (g (u x) l) λc=>RT t c λb h=>b=true/\RE e h λr j=>r=.val (f x)/\aW O j=l) (k:K (xs.map f,l)):eD (qZ O g t e (xs.map u) a) K:=by
 subst q;refine dI _ _ (λi A v=>A=(xs.take i).map f/\v=a) ⟨rfl,rfl⟩ ?_ ?_;rintro i d A v H ⟨rfl,rfl⟩;rw[An]at H;obtain⟨x,o,rfl⟩:=Bg.mp H;refine aS (w x (Ao o)) λc s=>yK s λb h n=>?_;obtain⟨rfl,n⟩:=n;rw[eH rfl];refine yL n λr j p=>?_;exact⟨_,p.1,by rw[Ed,o,Aj];rfl,p.2⟩
 grind
def cZ{n:Type}{g:D->Sg->Option Sg}(p:n->Bool)(f:n->D)(u:n->D)(xs:List n)(j:Sg)(o:a=j)
  (C:∀x∈xs,eD (g (u x) j) λl=>RT t l λb c=>b=p x/\aW O c=j/\RE e c λr m=>r=.val (f x)/\aW O m=j) (k:K ((xs.filter p).map f,j)):eD (qZ O g t e (xs.map u) a) K:=by
 subst o;refine dI _ _ (λi B A=>B=((xs.take i).filter p).map f/\A=a) ⟨rfl,rfl⟩ ?_ ?_
 ·rintro i d B A H ⟨rfl,rfl⟩;rw[An]at H;obtain⟨x,q,rfl⟩:=Bg.mp H;refine aS (C x (Ao q)) λl v=>yK v λb c s=>?_;obtain⟨rfl,s,w⟩:=s;have o:(xs.take (i+1)).filter p=(xs.take i).filter p++(if p x=true then[x]else[]):=by
   rw[Ed,q,filter_append];cases h:p x<;>simp[h]
  by_cases y:p x=true
  ·rw[eH y];refine yL w λr m z=>?_
   simp_all
  simp_all
 simp_all
def eV{a:Type}{f:a->D}{l:List a}{i:Nat}(h:(l.map f)[i]?=some d):∃y,l[i]?=some y/\d=f y:=by
 rw[An]at h;obtain⟨y,e,rfl⟩:=Bg.mp h
 simp_all
def Pk{a:Type}{l:List a}{y:a}(h:l[i]?=some y):l.take i++[y]=l.take (i+1):=by
 rw[Ed,h];rfl
def KX{c:Type}(f:c->D)(p:c->Bool)(l:List c)
  (H:∀y∈l,eD (g (f y) a) λb=>RE e b λr j=>r=.val (.bl (p y))/\aW O j=a) (k:K ((l.map p).map D.bl,a)):eD (qZ O g cO e (l.map f) a) K:=by
 refine dI _ _ (λi A o=>A=((l.take i).map p).map D.bl/\o=a) ⟨rfl,rfl⟩ ?_ ?_;rintro i d A o q ⟨rfl,rfl⟩;obtain⟨y,m,rfl⟩:=eV q;refine aS (H y (Ao m)) λb h=>?_;rw[qT,eH rfl];refine aS h λr n=>⟨_,n.1,?_,n.2⟩;rw[← Pk m,Aj,Aj];rfl
 simp_all
def Pl{a:Type}(p:a->Bool)(l:List a):(l.map p).all id=l.all p:=by simp
noncomputable def bJ(Q:List (Str×List Str)):List Str:=Q.foldl (λa q=>a++q.2.filter λc=>!a.contains c) []
def D0(Q:List (Str×List Str))(q:Str×List Str):bJ (Q++[q])=bJ Q++q.2.filter λc=>!(bJ Q).contains c:=by
 unfold bJ;rw[List.foldl_append];rfl
def Qn(Q:List (Str×List Str)):Prop:=Q.length<=100/\∀q∈Q,Tx q.1/\q.2.length<=100/\∀z∈q.2,Tx z
def nZ(h:z∈bJ Q):∃ q∈Q,z∈q.2:=by
 have a:∀ (l:List (Str×List Str)) (A:List Str),z∈l.foldl (λA q=>A++q.2.filter λc=>!A.contains c) A->z∈A\/∃ q∈l,z∈q.2:=by
  intro l
  induction l with
  |nil=>intro A h;exact .inl h
  | cons q r b=>
    intro A h;rcases b _ h with h|⟨d,e,f⟩;rcases sU.mp h with h|h;exact .inl h;exact .inr ⟨q,pL,(List.mem_filter.mp h).1⟩;exact .inr ⟨d,Af _ e,f⟩
 rcases a Q [] h with h|h;cases h;exact h
def uV(h:∀ q∈qs,q.2.length<=n):(bJ qs).length<=qs.length*n:=by
 have a:∀ (l:List (Str×List Str)) (A:List Str),(∀ q∈l,q.2.length<=n)->(l.foldl (λA q=>A++q.2.filter λc=>!A.contains c) A).length<=A.length+l.length*n:=by
  intro l
  induction l with
  |nil=>intro A _;simp
  | cons q r b=>
    intro A h;have d:=b (A++q.2.filter λc=>!A.contains c) λx e=>h x (Af _ e);have f:=h q pL;have g:=length_filter_le (λc=>!A.contains c) q.2;rw[Av]at d;rw[foldl_cons,Ee,succ_mul];lia
 have:=a qs [] h;rw[length_nil,Bj]at this;exact this
def bU{a:Type}{l:List a}{y:a}(h:l[i]?=some y):l.take (i+1)=l.take i++[y]:=(Pk h).symm
def oA(l:Qn qs)(k:∀ a b e f,Q (.nx [some ⟨.val,qD qs⟩,some ⟨.own,.lst ((bJ qs).map D.str)⟩,ov a e,ov b f,none])) :
  eD (EZ (eA 2 (aM (gY 2) (aM (gY 3) fA))) (dA (lY "list" 1 Dp (aA (bB [4] (Ad (aC 3)) (gY 4) (cJ (aJ (AM true) (aC 4) (aC 1))) (hJ (aC 4))) aE))) (qs.map qP) [some ⟨.val,qD qs⟩,some ⟨.own,.lst []⟩,none,none,none]) Q:=by
 have u:20000<=sizeLine:=by decide
 have r:∀i,∀z∈bJ (qs.take i),As z:=λi z s=>by
  obtain⟨q,m,o⟩:=nZ s;exact((l.2 q (BF m)).2.2 z o).2
 have t:∀i,(bJ (qs.take i)).length<=10000:=λi=>by
  have m:=uV (qs:=qs.take i) (n:=100) λq h=>(l.2 q (BF h)).2.1;have o:=l.1
  grind
 refine cP (λi p=>∃a b e f,p=[_,some ⟨.own,.lst ((bJ (qs.take i)).map D.str)⟩,ov a e,ov b f,none]) ⟨false,false,.non,.non,rfl⟩ ?_ ?_
 ·rintro i d p H ⟨a,b,e,f,rfl⟩;obtain⟨q,g,rfl⟩:=eV H;have j:=l.2 q (Ao g);walk_at "dx";refine⟨hQ (by rw[fI];exact j.2.1) (by decide),cZ (λc=>!(bJ (qs.take i)).contains c) D.str D.str q.2 [_,_,_,_,none] rfl (λc hc=>?_) ?_⟩;walk_at "dx";refine Jq (j.2.2 c hc).2 (r i) ?_;rfl;walk_at "dx";refine⟨by
   rw[fI,fI];have m:=t i;have o:=length_filter_le (λc=>!(bJ (qs.take i)).contains c) q.2
   lia,_,.inl rfl,true,true,.str q.1,.tup (q.2.map D.str),?_⟩
  rw[bU g,D0,Aj];rfl
 ·rintro p ⟨a,b,e,f,rfl⟩;rw[fI,take_length];exact k a b e f
def jP(a:Qn q)(k:K (.own (.lst ((bJ q).map D.str))) [⟨.val,qD q⟩]):CK bH [⟨.val,qD q⟩] K:=by
 unfold bH;rw[cB];show RS cQ [_,none,none,none,none] _;unfold cQ;walk_at"dx";refine⟨sS _,oA a λb c d e=>?_⟩;exact k
def D2(a:Qn q)(k:K (.val (.tup ((bJ q).map D.str))) [⟨.val,qD q⟩]):CK cT [⟨.val,qD q⟩] K:=by
 unfold cT;rw[cB];show RS dQ [_,none,none,none,none] _;unfold dQ;walk_at"dx";refine⟨sS _,oA a λb c d e=>?_⟩;exact k
def lX(l:List D)(h:0<=n):CY l none (some n)=l.take n.toNat:=by
 obtain⟨k,rfl⟩:=Int.eq_ofNat_of_zero_le h;unfold CY;rw[PySem.sIx_none,PySem.sIx_nat,drop_zero,Nat.sub_zero,toNat_natCast];simp
def yM(e:m=.par/\t=.lst xs\/m=.val/\t=.lst xs\/m=.val/\t=.tup xs)(f:xs.length<=1000)(h:0<=n)
  (k:∀(y:List D) c d,y.Perm xs->K (.val (.tup (y.take n.toNat))) [⟨.par,.lst [.int c,.int d]⟩,⟨m,t⟩,⟨.val,.int n⟩]):CK aL [⟨.par,.lst [.int a,.int b]⟩,⟨m,t⟩,⟨.val,.int n⟩] K:=by
 unfold aL;rw[cB];show RS bG [_,_,_] _;unfold bG;rcases e with⟨rfl,rfl⟩|⟨rfl,rfl⟩|⟨rfl,rfl⟩
 all_goals
  walk_at"dx";refine iX (by simp) f λy c d g=>?_;walk_at"dx";rw[lX _ h];exact k y c d g
def oB{d:Type}{f:d->D}{z:List d}(h:Y.Perm (z.map f)):∃ l:List d,Y=l.map f/\l.Perm z:=by
 generalize c:z.map f=w at h
 induction h generalizing z with
 |nil=>exact⟨[],rfl,by cases z with|nil=>exact .nil|cons a r=>cases c⟩
 | cons x h i=>
   cases z with
   |nil=>cases c
   | cons a r=>
     cases c;obtain⟨l,rfl,p⟩:=i rfl;exact⟨a::l,rfl,p.cons a⟩
 | swap x y l=>
   match z,c with
   |a::b::r,c=>cases c;exact⟨b::a::r,rfl,.swap ..⟩
 | trans j k m I=>
   obtain⟨n,rfl,e⟩:=I c;obtain⟨L,rfl,g⟩:=m rfl;exact⟨L,rfl,g.trans e⟩
def gN(h:y.Perm (z.map D.str)):∃l:List Str,y=l.map D.str/\l.Perm z:=oB h
def Cs(a l:List Str):Prop:=(1<=l.length/\l.length<=10)/\l.Nodup/\∀z∈l,z∈a
abbrev tT(l:List Str):D:=.tup (l.map D.str)
def uW(t:List (List Str))(l:List Str):oV (t++[l])=.lst ((t.map λl=>.tup (l.map D.str))++[.tup (l.map D.str)]):=by simp
theorem D3(w:I.length=6)(N:I.Nodup)(k:∀ T c e,Fl I T->K (.own (oV T)) [⟨.par,.lst [.int c,.int e]⟩,⟨.val,.lst (I.map D.str)⟩]) :
  CK aY [⟨.par,.lst [.int a,.int b]⟩,⟨.val,.lst (I.map D.str)⟩] K:=by
 unfold aY;rw[cB];show RS bP [_,_,none,none,none] _;unfold bP;walk_at"dx";refine aO (by decide) (by decide) λf a1 x y A=>?_;walk_at"dx";rw[lX _ (by lia),← DM];have M:(I.take (1+f).toNat).length=(1+f).toNat:=by grind
 have J:(I.take (1+f).toNat).Nodup:=N.sublist (take_sublist _ _);have L:∀z∈I.take (1+f).toNat,z∈I:=λz j=>BF j;generalize I.take (1+f).toNat=g at M J L ⊢;refine⟨sS _,?_⟩;refine aO (by decide) (by decide) λB Y r C E=>?_;walk_at"dx";refine⟨⟨by lia,by lia⟩,cP (λi m=>∃c e n o T,m=[some ⟨.par,.lst [.int c,.int e]⟩,some ⟨.val,.lst (I.map D.str)⟩,some ⟨.own,.lst (g.map D.str)⟩,some ⟨.own,oV T⟩,ov n o]/\T.length=i/\∀l∈T,Cs I l) ⟨Y,r,false,.non,[],rfl,rfl,λl h=>nomatch h⟩ ?_ ?_⟩;rintro i d m O ⟨c,e,n,o,T,rfl,p,hc⟩;obtain⟨hi,rfl⟩:=fD O;walk_at"dx";refine aO (by rw[fI];lia) (by lia) λs a5 F G H=>?_;walk_at"dx";refine yM (.inl ⟨rfl,rfl⟩) (by rw[fI];lia) (by lia) λys U t u=>?_;walk_at"dx";obtain⟨l,rfl,q⟩:=gN u;refine⟨Cb (by rw[fI];lia:_<=6) (by decide),_,.inl rfl,U,t,true,.int (0+(i:Int)),T++[l.take (1+s).toNat],?_,by simp[p],λv Q=>?_⟩;rw[uW,DM];rfl;rcases sU.mp Q with h|h;exact hc v h;rw[Aa.mp h];have:=q.length_eq;refine⟨by rw[Bi];lia,(q.nodup_iff.mpr J).sublist (take_sublist _ _),λz j=>L z (q.mem_iff.mp (BF j))⟩;rintro m ⟨c,e,n,o,T,rfl,p,hc⟩;rw[bI]at p;walk_at"dx";exact k T c e ⟨by lia,by lia,hc⟩
def Pn{ts:List (List Str)}(H:0<=i)(h:i<(ts.length:Int)):∃l,atI (ts.map λl=>D.tup (l.map D.str)) i=some (tT l)/\l∈ts:=KW _ H h
structure Ea(zs left:List Str)(ts:List (List Str)):Prop where
 nd:left.Nodup
 sub:∀z∈left,z∈zs
 cs:∀l∈ts,Cs zs l
 apart:∀l∈ts,∀c∈l,c∉left
structure Ow(zs left own:List Str):Prop where
 nd:own.Nodup
 sub:∀z∈own,z∈zs
 apart:∀c∈own,c∉left
def Ea.less(h:Ea e L t)(n:a.Nodup)(s:∀z∈a,z∈L):Ea e a t:=⟨n,λz b=>h.sub z (s z b),h.cs,λl d c hc z=>h.apart l d c hc (s c z)⟩
def D6:eD (HN (.lst ((l++[z]).map D.str)) []) K=K (.lst (l.map D.str),.str z):=by
 show eD ((((l++[z]).map D.str)[((l++[z]).map D.str).length-1]?).map _) K=_;simp[eD,List.dropLast_append]
def KY:DS:=(kQ (sJ (aA (aI 2 aD (aA (aC 0) (aA (aJ GC (dC (.int 5)) (hB iB (aA (aC 5) aE))) aE))) aE)) (gY 7)
 (jF (cJ (aJ Ce (hB iB (aA (aC 2) aE)) (dC (.int 0)))) (dA (dF "list" 5 pJ (aA (hJ (vZ "list" 2 HN)) aE))) dU))
def KZ:DS:=(jF (cJ (aJ (AE false) (hB iB (aA (aC 5) aE)) (dC (.int 0)))) (aU 5 (FD (cJ (aJ (AE false) (aC 4) (dC (.int 0)))) (fT (aA (aJ rN (aC 1) (dC (.int 0))) aE)) (fT (aA (aJ rN (aJ rN (aC 3) (dC (.int 0))) (dC (.int 0))) aE)))) dU)
def La:DS:=(aR (jF (Dl (cJ (aJ (AM false) (aJ rN (aC 1) (dC (.int 0))) (aC 5))) (cJ (aJ (AM false) (aJ rN (aC 1) (dC (.int 0))) (aC 2)))) (dA (dF "list" 2 HP (aA (aJ rN (aC 1) (dC (.int 0))) aE))) dU)
 (dA (dF "list" 3 pJ (aA (hB lP (aA (aI 2 aT (aA (aC 0) (aA (aC 5) aE))) aE)) aE))))
abbrev eS(a b:Int)(z l:List Str)(t:List (List Str))(c d e s:Option Sl):Sg:=[some ⟨.par,.lst [.int a,.int b]⟩,some ⟨.val,.lst (z.map D.str)⟩,some ⟨.own,.lst (l.map D.str)⟩,some ⟨.own,oV t⟩,c,d,e,s]
def D7{Q:Sg->Prop}(l:Ea G L T)(j:Ow G L own)(C:own.length<=4)
  (k:∀x A c O f g,Ea G c T->Ow G c O->O.length<=10->Q (eS x A G c T p (some ⟨.own,.lst (O.map D.str)⟩) q (ov f g))):RS KY (eS a b G L T p (some ⟨.own,.lst (own.map D.str)⟩) q (ov t u)) λo=>∃n,o=.nx n/\Q n:=by
 unfold KY eS;walk_at"dx";refine aO (by rw[fI];lia) (by lia) λE J v F B=>?_;walk_at"dx";rw[fI]at B;refine⟨⟨by lia,by lia⟩,cP (λi n=>∃c O f g,n=eS J v G c T p (some ⟨.own,.lst (O.map D.str)⟩) q (ov f g)/\Ea G c T/\Ow G c O/\O.length<=own.length+i) ⟨L,own,t,u,rfl,l,j,hC _⟩ ?_ ?_⟩
 ·rintro i d n M ⟨c,O,f,g,rfl,l,j,m⟩;obtain⟨Y,rfl⟩:=fD M;unfold eS;walk_at "dx";rcases List.eq_nil_or_concat c with rfl | ⟨w,z,rfl⟩
  ·rw[a0m (by simp)]
   try walk_at"dx"
   exact⟨_,.inl rfl,[],O,true,_,rfl,l,j,le_succ_of_le m⟩
  ·rw[List.concat_eq_append,eH (by simp)]
   try walk_at"dx"
   rw[D6];walk_at"dx";rw[List.concat_eq_append]at l j;have N:=List.nodup_append.mp l.nd;have r:z∉w:=λh=>N.2.2 z h z (by simp) rfl;refine⟨Cb (by rw[fI];lia:_<=20) (by decide),_,.inl rfl,w,O++[z],true,.int (0+(i:Int)),by simp[ov],l.less N.1 (λz r=>by simp[r]),⟨?_,?_,?_⟩,by simp;exact lt_succ_of_le m⟩;exact List.nodup_append.mpr ⟨j.nd,by simp,λa U b I e=>j.apart a U (by rw[List.mem_singleton]at I;subst I;rw[e];simp)⟩;intro y s;rcases sU.mp s with h|h;exact j.sub y h;exact l.sub y (by simp[List.mem_singleton.mp h]);intro y s h;rcases sU.mp s with H | H;exact j.apart y H (by simp[h]);rw[Aa.mp H]at h;exact r h
 ·rintro n ⟨c,O,f,g,rfl,l,j,m⟩;rw[bI]at m;exact⟨_,rfl,k J v c O f g l j (by lia)⟩
def D8{j L own:List Str}(n:∀ z∈f::j,As z)(g:Ea (f::j) L T)(y:own.Nodup)(O:∀ z∈own,z∈f::j)(o:∀ c∈own,c≠f->c∉L)(m:1<=own.length/\own.length<=10)(A:T.length<=6)
  (k:∀t u d l,Ea (f::j) d (T++[l])->Q (.nx (eS t u (f::j) d (T++[l]) r (some ⟨.own,.lst (own.map D.str)⟩) s E))):RS La (eS a b (f::j) L T r (some ⟨.own,.lst (own.map D.str)⟩) s E) Q:=by
 unfold La;refine lW (λx=>∃d,x=eS a b (f::j) d T r (some ⟨.own,.lst (own.map D.str)⟩) s E/\Ea (f::j) d T/\∀c∈own,c∉d) ?_ ?_
 ·have C:f∉own\/f∉L->∀ c∈own,c∉L:=λh c hc m=>by
   by_cases e:c=f;subst e;rcases h with h|h;exact h hc;exact h m;exact o c hc e m
  unfold eS;rw[Cj];walk_at"dx";refine Jq (n f (by simp)) (λz i=>n z (O z i)) ?_;walk_at"dx";by_cases v:own.contains f=true
  ·rw[v];walk_at "dx";refine Jq (n f (by simp)) (λz i=>n z (g.sub z i)) ?_;walk_at "dx";by_cases p:L.contains f=true
   ·rw[p];walk_at"dx";rw[Yp];have i:f∈L:=by simpa using p
    refine⟨⟨i,g.nd⟩,_,rfl,L.erase f,rfl,g.less (g.nd.erase f) (λz i=>List.mem_of_mem_erase i),λc hc m=>?_⟩;by_cases e:c=f;subst e;exact(List.Nodup.mem_erase_iff g.nd).mp m |>.1 rfl;exact o c hc e (List.mem_of_mem_erase m)
   ·rw[show L.contains f=false by simpa using p];walk_at"dx";exact⟨_,rfl,L,rfl,g,C (.inr (by simpa using p))⟩
  ·rw[show own.contains f=false by simpa using v];walk_at"dx";exact⟨_,rfl,L,rfl,g,C (.inl (by simpa using v))⟩
 ·rintro x ⟨d,rfl,g,o⟩;unfold eS;walk_at"dx";refine iX (by first|exact .inl ⟨rfl,rfl⟩|exact .inr (.inl ⟨rfl,rfl⟩)) (by rw[fI];lia) λY t u B=>?_;walk_at"dx";obtain⟨l,rfl,q⟩:=gN B;have:=q.length_eq;refine⟨Cb (by rw[fI];exact A:_<=6) (by decide),?_⟩;rw[← uW];refine k t u d l ⟨g.nd,g.sub,λw H=>?_,λw H=>?_⟩
  ·rcases sU.mp H with h|h;exact g.cs w h;rw[Aa.mp h];exact⟨by lia,q.nodup_iff.mpr y,λz i=>O z (q.mem_iff.mp i)⟩
  ·rcases sU.mp H with h|h;exact g.apart w h;rw[Aa.mp h];exact λc hc=>o c (q.mem_iff.mp hc)
def Lb(P:Sg->Prop)(H:RS a Z λo=>∃b,o=.nx b/\P b)(c:∀b,P b->K (.nx b)):RS a Z K:=aS H λo z=>by obtain⟨b,e,h⟩:=z;simp_all
def D9{i:Nat}{Q:Sg->Prop}(y:ts.length=i)(m:Ea (d::f) L ts)(g:Ow (d::f) L own)(q:own.length<=10)
  (k:∀(O:List Str),O.Nodup->(∀z∈O,z∈d::f)->(∀c∈O,c≠d->c∉L)->(1<=O.length/\O.length<=10)->Q (eS a b (d::f) L ts (some ⟨.val,.int (0+(i:Int))⟩) (some ⟨.own,.lst (O.map D.str)⟩) j v)):RS KZ (eS a b (d::f) L ts (some ⟨.val,.int (0+(i:Int))⟩) (some ⟨.own,.lst (own.map D.str)⟩) j v) λo=>∃n,o=.nx n/\Q n:=by
 unfold KZ eS;walk_at"dx";rw[fI];by_cases h:own=[]
 ·subst h;rw[eH (by simp)]
  try walk_at"dx"
  by_cases H:i=0
  ·subst H;rw[eH (by simp),Cj]
   try walk_at"dx"
   refine⟨by decide,?_⟩
   try walk_at"dx"
   exact⟨_,rfl,k [d] (by simp) (by simp) (λc hc e=>absurd (Aa.mp hc) e) (by simp)⟩
  ·rw[a0m (by lia)]
   try walk_at"dx"
   obtain⟨l,s,p⟩:=Pn (ts:=ts) (i:=0) (by decide) (by lia);rw[s,aV];walk_at"dx";obtain⟨⟨w,_⟩,x,t⟩:=m.cs l p;cases l with
   |nil=>simp at w
   | cons c r=>
     rw[Cj];walk_at"dx";refine⟨by decide,?_⟩
     try walk_at"dx"
     exact⟨_,rfl,k [c] (by simp) (by simpa using t c (by simp)) (λu hc _=>by rw[List.mem_singleton.mp hc];exact m.apart _ p c (by simp)) (by simp)⟩
 ·rw[a0m (by have:=List.length_pos_iff.mpr h;lia)]
  try walk_at"dx"
  exact⟨_,rfl,k own g.nd g.sub (λc hc _=>g.apart c hc) ⟨List.length_pos_iff.mpr h,q⟩⟩
def Lc:DS:=(jF (cJ (aJ Ce (aC 4) (dC (.int 0)))) (aR (aU 6 (aJ rN (aC 3) (aI 2 aD (aA (aC 0) (aA (aC 4) aE)))))
 (aU 5 (hB nJ (aA (aI 3 aL (aA (aC 0) (aA (aC 6) (aA (aI 2 aD (aA (aC 0) (aA (aJ fB (hB oJ (aA (dC (.int 3)) (aA (hB iB (aA (aC 6) aE)) aE))) (dC (.int 1))) aE))) aE)))) aE)))) dU)
def E1{i:Nat}{Q:Sg->Prop}(U:ts.length=i)(F:i<=6)(m:Ea M L ts)
  (k:∀q r own d e,Ow M L own->own.length<=4->Q (eS q r M L ts (some ⟨.val,.int (0+(i:Int))⟩) (some ⟨.own,.lst (own.map D.str)⟩) (ov d e) s7)):RS Lc (eS a b M L ts (some ⟨.val,.int (0+(i:Int))⟩) (some ⟨.own,.lst []⟩) (ov g j) s7) λo=>∃n,o=.nx n/\Q n:=by
 unfold Lc eS;walk_at"dx";by_cases h0:i=0;rw[a0m (by lia)];exact⟨_,rfl,k a b [] g j ⟨.nil,(λz h=>nomatch h),(λz h=>nomatch h)⟩ (by simp)⟩;rw[eH (by lia)];refine aO (by lia) (by lia) λs a1 G t H=>?_;walk_at"dx";obtain⟨l,u,p⟩:=Pn (ts:=ts) (i:=s) t (by lia);rw[u,aV];walk_at"dx";obtain⟨⟨T,v⟩,N,w⟩:=m.cs l p;refine aO (by lia) (by lia) λx a2 I y J=>?_;walk_at"dx";refine yM (.inr (.inr ⟨rfl,rfl⟩)) (by grind) y λY O A B=>?_;obtain⟨C,rfl,f⟩:=gN B;rw[← DM];exact⟨_,rfl,k O A (C.take x.toNat) true _ ⟨(f.nodup_iff.mpr N).sublist (take_sublist _ _),λz E=>w z (f.mem_iff.mp (BF E)),λc hc=>m.apart l p c (f.mem_iff.mp (BF hc))⟩ (by grind)⟩
def E2(Q:zs.length=6)(nd:zs.Nodup)(R:∀ z∈zs,As z)(k:∀ ts u v,Fl zs ts->K (.own (oV ts)) [⟨.par,.lst [.int u,.int v]⟩,⟨.val,.lst (zs.map D.str)⟩]) :
  CK aZ [⟨.par,.lst [.int a,.int b]⟩,⟨.val,.lst (zs.map D.str)⟩] K:=by
 unfold aZ;rw[cB];show RS bQ [_,_,none,none,none,none,none,none] _;rw[show bQ=(aR (aU 2 (hB nJ (aA (Bu (aC 1) pI (dP (dC (.int 6)))) aE))) (aR (aU 3 (fT aE)) (aR (kQ (sJ (aA (aJ fB (dC (.int 1)) (aI 2 aD (aA (aC 0) (aA (dC (.int 6)) aE)))) aE)) (gY 4) (aR (aU 5 (fT aE)) (aR Lc (aR KY (aR KZ La))))) (iC (aC 3)))))from rfl];obtain⟨j,o,rfl⟩:∃j o,zs=j::o:=by cases zs with|nil=>cases Q|cons z r=>exact⟨z,r,rfl⟩
 walk_at"dx";rw[lX _ (by decide),Cg (by rw[fI,Q];decide)];refine⟨sS _,aO (by decide) (by decide) λV a1 S W X=>?_⟩;walk_at"dx";refine⟨⟨by lia,by lia⟩,cP (λi τ=>∃u v left ts C E F G H w x,τ=eS u v (j::o) left ts (ov C E) (fo F) (ov G H) (ov w x)/\ts.length=i/\Ea (j::o) left ts) ⟨a1,S,j::o,[],false,.non,none,false,.non,false,.non,rfl,rfl,nd,λz h=>h,(λl h=>nomatch h),(λl h=>nomatch h)⟩ ?_ ?_⟩
 ·rintro i d τ hd ⟨u,v,left,ts,C,E,F,G,H,w,x,rfl,hi,A⟩;obtain⟨T,rfl⟩:=fD hd;unfold eS;walk_at "dx";refine⟨sS _,?_⟩;refine Lb (λτ=>∃ a2 B own f g,Ow (j::o) left own/\own.length<=4/\τ=eS a2 B (j::o) left ts (some ⟨.val,.int (0+(i:Int))⟩) (some ⟨.own,.lst (own.map D.str)⟩) (ov f g) (ov w x))
   (E1 (s7:=ov w x) hi (by lia) A λa2 B own f g I J=>⟨a2,B,own,f,g,I,J,rfl⟩) ?_
  rintro τ ⟨a2,B,own,f,g,I,J,rfl⟩;rw[pK,tX];refine Lb (λτ=>∃a3 y e Y m n,Ea (j::o) e ts/\Ow (j::o) e Y/\Y.length<=10/\τ=eS a3 y (j::o) e ts (some ⟨.val,.int (0+(i:Int))⟩) (some ⟨.own,.lst (Y.map D.str)⟩) (ov f g) (ov m n))
   (D7 A I J λa3 y e Y m n p q s=>⟨a3,y,e,Y,m,n,p,q,s,rfl⟩) ?_
  rintro τ ⟨a3,y,e,Y,m,n,p,q,s,rfl⟩;rw[pK,tX];refine Lb (λτ=>∃(O:List Str),O.Nodup/\(∀z∈O,z∈j::o)/\(∀c∈O,c≠j->c∉e)/\(1<=O.length/\O.length<=10)/\τ=eS a3 y (j::o) e ts (some ⟨.val,.int (0+(i:Int))⟩) (some ⟨.own,.lst (O.map D.str)⟩) (ov f g) (ov m n))
   (D9 hi p q s λO L M N π=>⟨O,L,M,N,π,rfl⟩) ?_
  rintro τ ⟨O,L,M,N,π,rfl⟩;rw[pK];refine D8 R p L M N π (by lia) λa4 U t l P=>?_;refine⟨_,.inl rfl,a4,U,t,ts++[l],true,.int (0+(i:Int)),some (true,.lst (O.map D.str)),f,g,m,n,rfl,by simp[hi],P⟩
 ·rintro τ ⟨u,v,left,ts,C,E,F,G,H,w,x,rfl,hi,A⟩;rw[bI]at hi;unfold eS;walk_at"dx";exact k ts u v ⟨by lia,by lia,A.cs⟩
def Ld:DS:=(aU 2 (aJ fB (dC (.int 3)) (aI 2 aD (aA (aC 0) (aA (dC (.int 4)) aE)))))
def Le:DS:=(aU 3 (Bu (aC 1) pI (dP (aC 2))))
def Lf:DS:=(aU 4 (bB [7] (sJ (aA (aC 2) aE)) (gY 7) cO (hJ (fT (aA (hJ (aJ rN (aC 3) (aC 7))) (aA (hJ (aJ rN (aC 3) (aJ zV (aJ fB (aC 7) (dC (.int 1))) (aC 2)))) aE))))))
def Lg:DS:=(jF (Dl (cJ (aJ DU (aC 2) (dC (.int 6)))) (cJ (aJ (AE false) (aI 2 aD (aA (aC 0) (aA (dC (.int 2)) aE))) (dC (.int 0))))) (aU 4 (bB [5] (Ad (aC 3)) (gY 5) cO (hJ (bB [8] (Ad (aC 3)) (gY 8) (cJ (aJ (AE true) (aC 8) (aC 5))) (hJ (aC 8)))))) dU)
def Lh:DS:=(jF (Dl (cJ (aJ DU (aC 2) (dC (.int 6)))) (cJ (aJ (AE false) (aI 2 aD (aA (aC 0) (aA (dC (.int 2)) aE))) (dC (.int 0))))) (aR (aU 5 (aJ rN (aC 4) (aI 2 aD (aA (aC 0) (aA (aC 2) aE))))) (dA (dF "list" 4 pJ (aA (hJ (hB nJ (aA (aI 3 aL (aA (aC 0) (aA (aC 5) (aA (aJ fB (dC (.int 1)) (aI 2 aD (aA (aC 0) (aA (dC (.int 2)) aE)))) aE)))) aE))) aE)))) dU)
def oC:DS:=(iC (bB [6] (Ad (aI 2 aT (aA (aC 0) (aA (aC 4) aE)))) (gY 6) cO (hB lP (aA (aI 2 aT (aA (aC 0) (aA (aC 6) aE))) aE))))
def Jr:DT:=(Dl (cJ (aJ DU (aC 2) (dC (.int 6)))) (Dl (cJ (aJ DU (hB iB (aA (aJ rN (aC 4) (dC (.int 0))) aE)) (dC (.int 4)))) (cJ (aJ (AE false) (aI 2 aD (aA (aC 0) (aA (dC (.int 2)) aE))) (dC (.int 0))))))
def uX:DE:=(Bu (aC 4) pI (dP (aJ fB (dC (.int 1)) (aI 2 aD (aA (aC 0) (aA (dC (.int 2)) aE))))))
def cH.ex(x:cH P w H h a o):∃u,h.get? a=some u:=by
 induction o with
 |lst b=>obtain⟨_,_,_,_,e⟩:=x;exact⟨_,e⟩
 |tup b=>obtain⟨_,_,_,⟨_,e,_⟩,_⟩:=x;exact⟨_,e⟩
 |dK k|dT k|dM k=>obtain⟨_,_,_,_,_,_,_,e,_⟩:=x;exact⟨_,e⟩
 |set S n=>obtain⟨_,_,_,_,e,_⟩:=x;exact⟨_,e⟩
 |ins C j c=>obtain⟨_,_,_,e,_⟩:=x;exact⟨_,e⟩
 |own p=>exact x
 |xd c=>obtain⟨_,⟨_,_,_,e,_⟩,_⟩:=x;exact⟨_,e⟩
 |rng l i=>obtain⟨_,_,_,e⟩:=x;exact⟨_,e⟩
 |frz O u=>exact⟨_,x.1⟩
 |tbl g|met f y=>exact⟨_,x⟩
 |ext d=>exact x.2.1
open Classical in
noncomputable def Fn(S:Addr->Prop)(H:Hp):Hp:=λb=>if S b then H b else none
open Classical in
noncomputable def DW(S:Addr->Prop)(H a:Hp):Hp:=λb=>if S b\/H b=none then a b else H b
def E3(F:AH P w K mg base CU k f fd ps sp')
  (h:∀O H Q E,sp O H Q E->∃S:Addr->Prop,(∀a o,S a->H a=some o->(∃xs,o=.lst xs)\/∃ob xs,o=.frz ob (.lst xs))/\sp' O (Fn S H) (λv i=>(∀a,¬S a->H a≠none->i a=none)->Q v (DW S H i)) E):AH P w K mg base CU k f fd ps sp:=by
 refine⟨λO H Q E q=>by obtain⟨S,_,q⟩:=h O H Q E q;exact F.len _ _ _ _ q,λA Y s H args us O Q E G d hb I hs=>?_⟩;obtain⟨S,hS,q⟩:=h O H Q E hs;have rs:∀{b},S b->Fn S H b=H b:=λz=>eH z;have t:∀{b},¬S b->Fn S H b=none:=λz=>a0m z;have l:∀{b},H b=none->Fn S H b=none:=λ{b} z=>by
  by_cases y:S b;rw[rs y,z];exact t y
 refine Gb (F.run A Y s (Fn S H) args us O _ E G ⟨d.frames,d.mod,λb o e=>⟨(d.bs b o e).1,l (d.bs b o e).2⟩,d.bsz,d.funs,λb z=>l (d.frf b z),λa o e=>?_,d.bare⟩ hb I q) λr s' c=>?_
 ·by_cases y:S a;rw[rs y]at e;have x:=d.hok a o e;rcases hS a o y e with⟨xs,rfl⟩|⟨ob,xs,rfl⟩;exact x;exact x;rw[t y]at e;cases e
 ·cases r with
  |error e=>exact c
  |ok J=>
  cases J with
  | ret u=>
    obtain⟨v,i,L,M,j,N,π,R⟩:=c;have m:∀a,¬S a->H a≠none->i a=none:=λa y n=>by
     obtain⟨o,e⟩:=Option.ne_none_iff_exists'.mp n;obtain⟨u,T⟩:=(d.hok a o e).ex;exact j.free a u T (t y) (λz=>nomatch z)
    have B:∀{b},S b\/H b=none->DW S H i b=i b:=λz=>eH z;have p:∀{b o},¬S b->H b=some o->DW S H i b=some o:=λ{b o} y e=>(a0m (λz=>z.elim y λn=>by rw[n]at e;cases e)).trans e;have D1:∀{b o},i b=some o->DW S H i b=some o:=λ{b o} e=>by grind
    have nt:∀{b xs},H b=some (.tup xs)->¬S b:=λ{b xs} e y=>by rcases hS b _ y e with⟨_,z⟩|⟨_,_,z⟩<;>cases z
    have no:∀{b c},H b=some (.own c)->¬S b:=λ{b c} e y=>by rcases hS b _ y e with⟨_,z⟩|⟨_,_,z⟩<;>cases z
    have nb:∀{b ps},H b=some (.tbl ps)->¬S b:=λ{b ps} e y=>by rcases hS b _ y e with⟨_,z⟩|⟨_,_,z⟩<;>cases z
    refine⟨v,DW S H i,L,M,⟨λb o e n=>j.keep b o e (l n),λb o e n=>j.slot b o e (l n),λb o e n x=>?_,j.there,λb xs e=>p (nt e) e,λb o u e=>?_,λb ps e=>⟨#[],by rw[p (nb e) e];simp⟩⟩,λa o e=>?_,π,R m⟩;rw[B (.inr n)];exact j.free b o e (l n) x;by_cases y:S b;rw[B (.inl y)];exact j.frzs b o u (by rw[rs y];exact e);exact p y e
    ·by_cases z:S a\/H a=none;rw[B z]at e;exact(N a o e).stay (λb u _ e=>e) (λb e=>D1 e) λb xs e=>D1 e;have C:H a=some o:=(a0m z:DW S H i a=H a).symm.trans e;have U:¬S a:=λy=>z (.inl y);have kp:∀b u,¬S b->H b≠none->s.heap.get? b=some u->s'.heap.get? b=some u:=λb u y n g=>j.keep b u g (t y) (λfr=>n (d.frf b fr)) (λz=>nomatch z);refine(d.hok a o C).stay (λb u hb g=>?_) (λb e=>p (no e) e) λb xs e=>p (nt e) e;rcases hb with rfl|hb;exact kp _ u U (λz=>by rw[z]at C;cases C) g;exact kp b u (no hb) (λz=>by rw[z]at hb;cases hb) g
  |_=>exact c
def Js(H₀:Hp):V->List V->Hp->VK->Prop:=λx v H Q=>∃l o a y,x=.ref l/\v=[y]/\H l=some (.frz o (.lst a))/\H₀ l=none/\a.length<sizeLine/\∀O,Q .non (gV H l (.frz O (.lst (a++[y]))))
def E4:Fy X "list.append" (Js X.H₀):=by
 intro m s Z H x t v U Q I b c h;obtain⟨l,o,n,y,rfl,rfl,d,e,f,q⟩:=h;refine thn (mX m s Z _ _ _ v U (λv r=>v=.non/\r=gV H l (.lst (n++[y]))) (t8 I d e) b c ⟨l,n,y,rfl,rfl,aH,f,rfl,Lu⟩) λu A z=>?_;obtain⟨w,r,g,i,j,k⟩:=z;subst j k;obtain⟨O,a⟩:=vX g (p:=l) aH True.intro;rw[Lu]at a;exact⟨.non,_,a,i,q O⟩
noncomputable abbrev AF(l:List Str):D:=.lst (l.map D.str)
def E5(a:cW (.str x)=true)(b:cW (.str y)=true)(k:K (.val (.bl (!decide (x=y))))):eD (AE true (.str x) (.str y)) K:=by
 have h:tU (.str x) (.str y)=decide (x=y):=rfl;show eD (if _ then _ else none) K;rw[aP,h];exact⟨⟨a,b⟩,k⟩
structure Ey(rg:List Str)(n:Nat)(Ls:List (List Str)):Prop where
 n:n<=Ls.length
 m:Ls.length<=6
 l:∀l∈Ls,(1<=l.length/\l.length<=5)/\l.Nodup/\∀z∈l,z∈rg
 d:Ls[0]? ≠ Ls[1]?
def E6(d:3<=n)(f:n<=6)(a:rg.length=n)(m:rg.Nodup):Ey rg n ((range n).map λk=>[rg.getD k "",rg.getD ((k+1) % n) ""]):=by
 have N:∀i j,i<n->j<n->i≠j->rg.getD i ""≠rg.getD j "":=λi j o H h e=>by
  rw[CC,CC,nL (by lia),nL (by lia)]at e;exact h ((getElem_inj m).mp e)
 refine⟨by simp,by simp_all,λl a=>?_,?_⟩
 ·obtain⟨k,g,rfl⟩:=oT.mp a;have b:(k+1) % n < n:=mod_lt _ (by lia);have c:k≠(k+1) % n:=λe=>by
   rcases lt_or_ge (k+1) n with h|h;rw[Nat.mod_eq_of_lt h]at e;lia;have:k+1=n:=by lia
   rw[this,Nat.mod_self]at e;lia
  simp_all
 ·rw[An,An,List.getElem?_range (by lia),List.getElem?_range (by lia)];intro e;have:=(List.cons.inj (Ap e)).1;exact N 0 1 (by lia) (by lia) (by decide) this
def E7{l:List Str}(n:l.Nodup)(b:x∈l):(l.filter λz=>!decide (z=x)).length+1=l.length:=by
 induction l with
 |nil=>grind
 | cons a l i=>
   obtain⟨d,N⟩:=CD.mp n;by_cases e:a=x;subst e;rw[List.filter_cons_of_neg (by simp),List.filter_eq_self.mpr λz c=>by simp;exact λe=>d (e▸c)];rfl;rw[List.filter_cons_of_pos (by simp_all),Ee,Ee,i N ((sY.mp b).resolve_left λz=>e z.symm)]
def E8(c:3<=n)(d:n<=5)(a:r.length=n)(N:r.Nodup):Ey r n (r.map λx=>r.filter λz=>!decide (z=x)):=by
 refine⟨by simp[a],by grind,λl a=>?_,λe=>?_⟩
 ·obtain⟨x,b,rfl⟩:=oT.mp a;have:=E7 N b
  grind
 ·have h:r[0]?=some r[0]:=nL (by lia);have f:r[1]?=some r[1]:=nL (by lia);have:r[1]∈r.filter λz=>!decide (z=r[0]):=List.mem_filter.mpr ⟨Dh _,by simp;exact λe=>absurd ((getElem_inj N).mp e) (by decide)⟩
  simp_all
def Ey.snoc{n:Nat}(h:Ey r n L)(f:3<=n)(a:L.length<=5)(b:1<=C.length/\C.length<=5)(c:C.Nodup)(e:∀z∈C,z∈r):Ey r n (L++[C]):=by
 have:=h.n;refine⟨by grind,by simp_all,λl a=>?_,?_⟩;rcases sU.mp a with z|z;exact h.l l z;rw[Aa.mp z];exact⟨b,c,e⟩;rw[Bz (by lia),Bz (by lia)];exact h.d
abbrev Li(K:W.Frag)(H:Hp)(a:Gm):TS:=CG (Ba a Ex.no Ld) (CG (Ba a Ex.no Le) (CG (Ba a Ex.no Lf) (CG (Ba a Ex.no Lg) (CG (Ba a Ex.no Lh)
 (CG (JI (Cw a Jr) (DN (HD K (Bd a uX)) (fS 6) (vI (DP K "list" (Js H) (mD 6) (Iq (Ei HC (mD 1) (mD 2)) Gp)))) JG) (Ba a Ex.no oC))))))
def Po{r:List Str}{j:Int}{n:Nat}(e:j=n)(h:n<r.length):atI (r.map D.str) j=some (.str (r.getD n "")):=by
 unfold atI AL
 simp_all
def Pp{D:AG}(ok:dY g H Z f)(P:Sg->Prop)(h:RS r Z λo=>∃a,o=.nx a/\P a)(k:∀a c d,P a->dY g d a c->t D c d):CG (Ba g Ex.no r) t D f H:=
 HZ ok (aS h λo z=>by obtain⟨a,e,p⟩:=z;subst e;exact λc d b _=>k a c d p b)
abbrev Fo(a b:Int)(z r:List Str)(m:Int)(L:List (List Str))(c:Option Sl):Sg:=[some ⟨.par,.lst [.int a,.int b]⟩,some ⟨.val,AF z⟩,some ⟨.val,.int m⟩,some ⟨.own,AF r⟩,some ⟨.own,.lst (L.map AF)⟩,c,none,none,none]
def E9{p q:Addr}(Γ:Gm)(ok:dY Γ H [some ⟨.par,.lst [.int T,.int U]⟩,some ⟨.val,AF zs⟩,none,none,none,none,none,none,none] σV)(V:zs.length=6)(X:zs.Nodup)(J:∀ z∈zs,cW (.str z)=true)
  (k:∀a b rg m O c σV' H',dY Γ H' (Fo a b zs rg m O c) σV'->3<=m->m<=6->rg=zs.take m.toNat->Ey rg m.toNat O->(c=none\/∃d,c=some ⟨.val,d⟩)->CG (JI (Cw Γ Jr) (DN (HD K (Bd Γ uX)) (fS 6) (vI (DP K "list" (Js Γ.H₀) (mD 6) (Iq (Ei HC (mD 1) (mD 2)) Gp)))) JG) (Ba Γ Ex.no oC) En σV' H'):Li K Γ.H₀ Γ En σV H:=by
 refine HZ ok ?_;unfold Ld;walk_at"dx";refine aO (by decide) (by decide) λd a1 Y d0 d1=>?_;walk_at"dx";refine λL H1 j _=>HZ j ?_;unfold Le;walk_at"dx";rw[lX _ (by lia),← DM];refine λM H2 o _=>?_;have r:3<=3+d:=by lia
 have s:3+d<=6:=by lia
 generalize 3+d=m at *;have e:(zs.take m.toNat).length=m.toNat:=by rw[Bi,V];lia
 have N:(zs.take m.toNat).Nodup:=X.sublist (take_sublist _ _);have π:∀z∈zs.take m.toNat,z∈zs:=λz h=>BF h;generalize t:zs.take m.toNat=rg at *;refine HZ o ?_;unfold Lf;walk_at"dx";have u:m.toNat<=6:=by lia
 refine⟨⟨by lia,by lia⟩,by rw[bI];exact hQ u (by decide),?_⟩;refine aX (λk=>AF [rg.getD k "",rg.getD ((k+1) % m.toNat) ""]) (λk:Nat=>D.int (0+(k:Int))) (range m.toNat) _ rfl (λk P=>?_) ?_
 ·have P:=Cc.mp P;have σ:((0:Int)+k+1) % m=((k+1) % m.toNat:Nat):=by rw[Int.natCast_emod,Int.toNat_of_nonneg (by lia)];simp
  walk_at"dx";rw[Po (n:=k) (by lia) (by lia),Po σ (by rw[e];exact mod_lt _ (by lia))];exact⟨by lia,by decide,rfl⟩
 ·walk_at "dx";rw[show(range m.toNat).map (λk=>AF [rg.getD k "",rg.getD ((k+1) % m.toNat) ""])=((range m.toNat).map λk=>[rg.getD k "",rg.getD ((k+1) % m.toNat) ""]).map AF by rw[map_map];rfl];have S:=E6 (rg:=rg) (n:=m.toNat) (by lia) (by lia) e N;have Sl:((range m.toNat).map λk=>[rg.getD k "",rg.getD ((k+1) % m.toNat) ""]).length=m.toNat:=by simp
  generalize (range m.toNat).map (λk=>[rg.getD k "",rg.getD ((k+1) % m.toNat) ""])=O at S Sl ⊢;refine λQ H3 v _=>Pp v (λg=>∃a b O,g=Fo a b zs rg m O none/\Ey rg m.toNat O/\O.length=m.toNat) ?_ ?_
  ·unfold Lg;walk_at "dx";split
   ·refine aO (by decide) (by decide) λd2 a2 f w y=>?_;walk_at"dx";split
    ·refine⟨hQ (by rw[fI,e];exact u) (by decide),aX (λx=>AF (rg.filter λz=>!decide (z=x))) D.str rg [some ⟨.par,.lst [.int a2,.int f]⟩,some ⟨.val,AF zs⟩,some ⟨.val,.int m⟩,some ⟨.lent,AF rg⟩,some ⟨.own,.lst (O.map AF)⟩,none,none,none,none] rfl (λx hx=>?_) ?_⟩;walk_at"dx";refine⟨hQ (by rw[fI,e];exact u) (by decide),cZ (λz=>!decide (z=x)) D.str D.str rg [some ⟨.par,.lst [.int a2,.int f]⟩,some ⟨.val,AF zs⟩,some ⟨.val,.int m⟩,some ⟨.lent,AF rg⟩,some ⟨.own,.lst (O.map AF)⟩,some ⟨.val,.str x⟩,none,none,none] rfl (λz A=>?_) ?_⟩;walk_at"dx";refine E5 (J z (π z A)) (J x (π x hx)) ?_;walk_at"dx";walk_at"dx";walk_at"dx";exact⟨_,rfl,a2,f,rg.map λx=>rg.filter λz=>!decide (z=x),by unfold Fo;rw[map_map];rfl,E8 (by lia) (by lia) e N,by rw[fI,e]⟩
    ·exact⟨_,rfl,a2,f,O,rfl,S,Sl⟩
   ·exact⟨_,rfl,a1,Y,O,rfl,S,Sl⟩
  ·rintro g R H4 ⟨a2,f,O,rfl,S,Sl⟩ B;refine Pp B (λg=>∃a b O c,g=Fo a b zs rg m O c/\Ey rg m.toNat O/\(c=none\/∃d,c=some ⟨.val,d⟩)) ?_ ?_
   ·unfold Lh;walk_at"dx";split;rename_i hm;refine aO (by decide) (by decide) λd2 a3 C w y=>?_;walk_at"dx";split;refine aO (by lia) (by lia) λd4 a4 b4 E d41=>?_;walk_at"dx";obtain⟨l,hl,F⟩:=KW AF (l:=O) E (by lia);rw[hl];walk_at"dx";obtain⟨l1,l2,l3⟩:=S.l l F;refine aO (by decide) (by decide) λd5 a5 b5 d50 d51=>?_;walk_at"dx";refine yM (.inr (.inl ⟨rfl,rfl⟩)) (by rw[fI];lia) (by lia) λys a6 b6 yp=>?_;obtain⟨cs,rfl,G⟩:=gN yp;walk_at"dx";rw[← DM];have hc:=G.length_eq;refine⟨Cb (by rw[fI];exact S.m:_<=6) (by decide),_,rfl,a6,b6,O++[cs.take (1+d5).toNat],_,by unfold Fo;rw[Aj];rfl,S.snoc (by lia) (by lia) ?_ ((G.nodup_iff.mpr l2).sublist (take_sublist _ _)) λz A=>l3 z (G.mem_iff.mp (BF A)),.inr ⟨_,rfl⟩⟩;rw[Bi];lia;exact⟨_,rfl,a3,C,O,none,rfl,S,.inl rfl⟩;exact⟨_,rfl,a2,f,O,none,rfl,S,.inl rfl⟩
   ·rintro g i H5 ⟨a3,C,O,c,rfl,S,ho⟩ I;exact k a3 C rg m O c i H5 I r s t.symm S ho
def F0(ok:dY f H Z d)(a:σ'.length=Z.length)(h:∀(i:Nat) s,σ'[i]?=some (some s)->Z[i]?=some (some s)):dY f H σ' d:=
 ⟨λi s e=>ok.rel i s (h i s e),λi j s t p n b c=>ok.dis i j s t p n (h i s b) (h j t c),λi s p e=>ok.own i s p (h i s e),λi s p e=>ok.par i s p (h i s e),ok.keep,ok.dom,a.trans ok.len⟩
def Pq(ok:dY O H [some ⟨.par,.lst [.int a,.int b]⟩,none,none,none,some ⟨.own,.lst (Ls.map AF)⟩,none,none,none,none] N)(g:Fl Q Ls)
  (k:∀T c e v J G L,Fl Q T->dY O L (some ⟨.par,.lst [.int c,.int e]⟩::J) G->gC O L (some ⟨.par,.lst [.int c,.int e]⟩::J) G (.own (oV T)) v->En.rt v L):Ba O Ex.no oC En N H:=by
 refine HZ ok ?_;unfold oC;walk_at"dx";refine iX (xs:=Ls.map AF) (.inl ⟨rfl,rfl⟩) (by rw[fI];have:=g.2.1;lia) λY a1 q j=>?_;obtain⟨B,rfl,U⟩:=oB j;have C:=U.length_eq;have l6:=g.2.1;walk_at"dx";refine⟨hQ (by rw[fI];lia:_<=6) (by decide),?_⟩;refine dI _ _ (λi I M=>∃(T:List (List Str)) (c e:Int),I=T.map (λl=>.tup (l.map D.str))/\T.length=i/\(∀l∈T,(1<=l.length/\l.length<=10)/\l.Nodup/\∀z∈l,z∈Q)/\M=[some ⟨.par,.lst [.int c,.int e]⟩,none,none,none,some ⟨.own,.lst (Ls.map AF)⟩,none,none,none,none]) ⟨[],a1,q,rfl,rfl,(λl h=>nomatch h),rfl⟩ ?_ ?_;rintro i d I M hd ⟨T,c,e,rfl,m,f,rfl⟩;obtain⟨l,n,rfl⟩:=eV hd;obtain⟨r,s,t⟩:=g.2.2 l (U.mem_iff.mp (Ao n));walk_at"dx";refine iX (xs:=l.map D.str) (.inr (.inl ⟨rfl,rfl⟩)) (by grind) λY a2 u j=>?_;obtain⟨cs,rfl,o⟩:=oB j;refine⟨_,rfl,T++[cs],a2,u,by rw[Aj];rfl,by rw[Av,m];rfl,λx w=>?_,rfl⟩;rcases sU.mp w with h|h;exact f x h;rw[Aa.mp h];exact⟨by rw[o.length_eq];exact r,o.nodup_iff.mpr s,λz y=>t z (o.mem_iff.mp y)⟩;rintro I M ⟨T,c,e,rfl,m,f,rfl⟩;rw[fI]at m;have E:=g.1;walk_at"dx";exact λv G L p A _=>k T c e v _ G L ⟨by lia,by lia,f⟩ p A
def rY{a b:List Str}(h:a.map V.str=b.map V.str):a=b:=List.map_inj_right (λx y e=>by injection e) |>.mp h
def F3{s:List (List Str)}(h:∀ (a:Addr) (o:Obj) (l:List Str),H a=some (.frz o (.lst (l.map V.str)))->∃ (O:Obj) (b:List Str),H' a=some (.frz O (.lst (b.map V.str)))/\(b=l\/b=l++[z])):∀ {xs:List V},Rps H (s.map AF) xs->∃ L:List (List Str),Rps H' (L.map AF) xs/\L.length=s.length/\∀ b∈L,∃ l∈s,b=l\/b=l++[z]:=by
 induction s with
 |nil=>intro xs r;cases r;exact⟨[],.nil,rfl,λl h=>nomatch h⟩
 | cons l s i=>
   intro xs r;cases r with
   | cons e f=>
     obtain⟨g,j,k,p⟩:=i f;cases e with
     | lst c m=>
       rw[m.strs_inv]at c;obtain⟨O,b,n,q⟩:=h _ _ _ c;refine⟨b::g,.cons (.lst n (qK b)) j,by simp[k],λx d=>?_⟩;rcases sY.mp d with rfl|d
       ·simp_all
       simp_all
def F4{L:List (List Str)}{j:Nat}(r:Rps H (L.map AF) xs)(e:xs[j]?=some x):∃l a o,L[j]?=some l/\x=.ref a/\H a=some (.frz o (.lst (l.map V.str))):=by
 have h:j<L.length:=by have:=r.length;rw[fI]at this;rw[this];exact(hR.mp e).1
 obtain⟨y,b,c⟩:=r.get (i:=j) (d:=AF L[j]) (by simp_all);rw[e]at b;cases b;cases c with
 | lst f g=>
   rw[g.strs_inv]at f;exact⟨L[j],_,_,nL h,rfl,f⟩
def F5(ok:dY Γ H (Fo a b zs rg m Ls o5) σV)(m3:3<=m)(m6:m < 6)(P:rg=zs.take m.toNat)(S:Ey rg m.toNat Ls)(z6:zs.length=6)(zn:zs.Nodup)
  (hq:Γ.H₀ q=some (.frz ob (.lst (zs.map V.str)))) (hpq:¬Γ.pr q) (hd:∀x,Γ.H₀ x≠none->x=p\/x=q) (hpr:∀x,Γ.pr x->x=p)
  (k:∀a b (Q:List (List Str)) σV' H',dY Γ H' [some ⟨.par,.lst [.int a,.int b]⟩,none,none,none,some ⟨.own,.lst (Q.map AF)⟩,none,none,none,none] σV'->Fl zs Q->En.nx σV' H') :
  DN (HD K (Bd Γ uX)) (fS 6) (vI (DP K "list" (Js Γ.H₀) (mD 6) (Iq (Ei HC (mD 1) (mD 2)) Gp))) En σV H:=by
 refine u1 ok ?_;unfold uX;walk_at"dx";refine aO (by decide) (by decide) λd a1 R d0 d1=>?_;walk_at"dx";rw[lX _ (by lia),← DM];intro v H2 r r2 _;obtain⟨c,rfl,⟨O,c1,c2⟩,c3,c4⟩:=r2;obtain⟨v1,q1,q2⟩:=r.rel 1 _ rfl;obtain⟨v2,n1,n2⟩:=r.rel 2 _ rfl;cases n2;obtain⟨v4,s1,s2⟩:=r.rel 4 _ rfl;obtain⟨s,rfl,xs,s3,s4⟩:=s2;obtain⟨v0,p1,p2⟩:=r.rel 0 _ rfl;obtain⟨p',rfl,ys,p3,p4⟩:=p2;obtain rfl:p'=p:=hpr _ (r.par 0 _ p' rfl rfl p1);cases q2 with
 |@lst _ qa _ qo q3 q4=>
 rw[q4.strs_inv]at q3;have lk:∀l∈Ls,(1<=l.length/\l.length<=5)/\l.Nodup/\∀z∈l,z∈rg:=S.l;obtain⟨z,hz⟩:∃z,zs[m.toNat]?=some z:=⟨_,nL (by lia)⟩;have zr:z∉rg:=λh=>by
  rw[P]at h;obtain⟨i,hi,e⟩:=Cv h;obtain⟨F,f⟩:=hR.mp hz;rw[List.getElem_take,← f]at e;have:=(getElem_inj zn).mp e;rw[Bi]at hi;lia
 have zz:z∈zs:=Ao hz;have qk:=r.keep q _ hq hpq;have F1:∀(x:Addr) (o:Obj) (l:List Str),H2 x=some (.frz o (.lst (l.map V.str)))->l.length<=5->Γ.H₀ x=none:=λx o l e h5=>AB λn=>by
  rcases hd x n with rfl|rfl;rw[p3]at e;cases e;rw[qk]at e;injection e with e;injection e with _ e;injection e with e
  rw[← rY e]at h5;lia
 have π:O.length<=2:=by have:=c2.length;rw[fI,Bi]at this;lia
 have B:∀(j:Nat) x,O[j]?=some x->∃l w o,Ls[j]?=some l/\l∈Ls/\x=.ref w/\H2 w=some (.frz o (.lst (l.map V.str))):=λj x e=>by
  obtain⟨l,w,o,A,E,L⟩:=F4 c2 e;rw[getElem?_take]at A;split at A;exact⟨l,w,o,A,Ao A,E,L⟩;cases A
 have dis:∀(i j:Nat) w,O[i]?=some (.ref w)->O[j]?=some (.ref w)->i=j:=λi j w D f=>by
  obtain⟨l,w1,o,A,_,E,L⟩:=B i _ D;obtain⟨l',w2,o',T,_,h2',U⟩:=B j _ f;cases E;cases h2';rw[L]at U;injection U with e;injection e with _ e;injection e with e
  have:=rY e;subst this;have hi:=(hR.mp D).1;have hj:=(hR.mp f).1;have:=S.d
  match i,j,hi,hj with
  |0,0,_,_ | 1,1,_,_=>rfl
  |0,1,_,_ | 1,0,_,_=>rw[A,T]at this;exact absurd rfl this
  |i+2,_,h,_|_,j+2,_,h=>lia
 have nf:∀(j:Nat) w o,O[j]?=some (.ref w)->H2 w≠some (.lst o):=λj w o D f=>by
  obtain⟨_,_,_,_,_,e,h⟩:=B j _ D;cases e;rw[f]at h;cases h
 refine .inl ⟨O,zB c1,λi n τ H'=>n=O.length-i/\i<=O.length/\(∀j,j≠6->τ[j]?=σV[j]?)/\τ.length=σV.length/\(∀w,(∀j,j<i->O[j]? ≠ some (.ref w))->H' w=H2 w)/\∀j w,j<i->O[j]?=some (.ref w)->∃o l,Ls[j]?=some l/\H' w=some (.frz o (.lst ((l++[z]).map V.str))),⟨_,rfl,sS _,λ_ _=>rfl,rfl,λ_ _=>rfl,λj w h=>absurd h (Ef _)⟩,?_⟩;rintro i n τ H' ⟨rfl,hi,A,h0,E,L⟩;have M:∀w o,H2 w=some (.lst o)->H' w=some (.lst o):=λw o e=>by rw[E w λj _ f=>nf j w o f e];exact e
 have qo:∀j:Nat,O[j]? ≠ some (V.ref qa):=λj e=>by
  obtain⟨l,w,o,_,F,D,f⟩:=B j _ e;cases D;rw[q3]at f;injection f with f;injection f with _ f;injection f with f
  have:=((lk l F).1).2;rw[← rY f]at this;lia
 rcases lt_or_ge i O.length with X|N
 ·have G:O[i]?=some O[i]:=nL X;refine .inr ⟨⟨O,_,.of (M c _ c1),G⟩,λσ' H''=>σ'=τ.set 6 (some O[i])/\∃l w o,Ls[i]?=some l/\O[i]=.ref w/\H''=gV H' w (.frz o (.lst ((l++[z]).map V.str))),?_,?_⟩;rintro σ' H'' ⟨rfl,l,w,o,D,f,rfl⟩;refine⟨_,by lia,rfl,X,λj hj=>by rw[Ae (oI hj)];exact A j hj,by rw[CS];exact h0,λy J=>?_,λj y hj ey=>?_⟩;rw[aF λz=>J i (EJ _) (by rw[G,f,z])];exact E y λj hj=>J j (lt_succ_of_lt hj);by_cases z:j=i;subst z;rw[G,f]at ey;cases ey;exact⟨o,l,D,aH⟩;rw[aF λe=>z (dis j i y ey (by rw[G,f,e]))];exact L j y (by lia) ey;rintro x H'' ⟨rfl,hx⟩;have ex:=hx O (.of (M c _ c1));rw[G]at ex;cases ex;obtain⟨l,w,o,D,F,f,C⟩:=B i _ G;have e4:H'' w=some (.frz o (.lst (l.map V.str))):=by rw[E w λj hj e=>Ay hj (dis j i w e (by rw[G,f]))];exact C
  have g:∀j,j≠6->(τ.set 6 (some O[i]))[j]?=σV[j]?:=λj hj=>by rw[Ae (oI hj)];exact A j hj
  have l9:=r.len;refine⟨O[i],by rw[Bo (by rw[h0,← l9];show 6<9;decide)],?_,_,(g 1 (by decide)).trans q1,_,(g 2 (by decide)).trans n1,.str z,?_,w,o,l.map V.str,.str z,f,rfl,e4,F1 w o l C (lk l F).1.2,?_,λo'=>⟨rfl,l,w,o',D,f,by rw[Aj];rfl⟩⟩;rw[f];exact .inl ⟨rfl,_,.inl (.inr ⟨o,e4⟩)⟩;show((cG H'' qa).bind λq=>atI q.2 m)=_;rw[mE (by rw[E qa λj _=>qo j];exact q3)];show atI (zs.map V.str) m=_;unfold atI AL;rw[eH (by lia),eH (by rw[fI];lia)];show(zs.map V.str)[_]?=_;rw[An,hz];rfl;rw[fI];exact Cb (lk l F).1.2 (by decide)
 ·refine .inl ⟨⟨O,.of (M c _ c1),N⟩,?_⟩;obtain⟨Lt,t1,t2,t3⟩:=F3 (H':=H') (z:=z) (λw o l e=>by
   by_cases Y:∃j:Nat,O[j]?=some (V.ref w)
   ·obtain⟨j,hj⟩:=Y;obtain⟨l',w',o',D,_,f,C⟩:=B j _ hj;cases f;rw[e]at C;injection C with C;injection C with _ C;injection C with C
    obtain⟨o2,l2,f1,f2⟩:=L j w (Au (hR.mp hj).1 N) hj;rw[D]at f1;cases f1;exact⟨o2,_,f2,.inr (by rw[rY C])⟩
   ·exact⟨o,l,by rw[E w λj _ e=>Y ⟨j,e⟩];exact e,.inl rfl⟩) s4
  have n1:=S.n;have n6:=S.m;have I:∀(i:Nat) t,([some ⟨.par,.lst [.int a1,.int R]⟩,none,none,none,some ⟨.own,.lst (Lt.map AF)⟩,none,none,none,none]:Sg)[i]?=some (some t)->∃t',(Fo a1 R zs rg m Ls o5)[i]?=some (some t')/\t'.m=t.m/\i≠6:=λi t e=>by
   match i,e with
   |0,e | 4,e=>cases e;exact⟨_,rfl,rfl,by decide⟩
   |1,e | 2,e | 3,e | 5,e | 6,e | 7,e | 8,e=>cases e
  refine k a1 R Lt τ H' ⟨?_,?_,?_,?_,?_,?_,?_⟩ ⟨by lia,by lia,λl M=>?_⟩
  ·intro i t e
   match i,e with
   |0,e=>cases e;exact⟨_,(A 0 (by decide)).trans p1,_,rfl,ys,M _ _ p3,by rw[Rps.ints_inv (ns:=[a1,R]) p4];exact iR [a1,R]⟩
   |4,e=>cases e;exact⟨_,(A 4 (by decide)).trans s1,s,rfl,xs,M s _ s3,t1⟩
   |1,e | 2,e | 3,e | 5,e | 6,e | 7,e | 8,e=>cases e
  ·intro i j t u w n G ej m m' e e';obtain⟨t',σ,π,x3⟩:=I i t G;obtain⟨u',y1,y2,y3⟩:=I j u ej;exact r.dis i j t' u' w n σ y1 (by rw[π];exact m) (by rw[y2];exact m') ((A i x3).symm.trans e) ((A j y3).symm.trans e')
  ·intro i t w e m v;obtain⟨t',σ,π,x3⟩:=I i t e;exact r.own i t' w σ (π.trans m) ((A i x3).symm.trans v)
  ·intro i t w e m v;obtain⟨t',σ,π,x3⟩:=I i t e;exact r.par i t' w σ (π.trans m) ((A i x3).symm.trans v)
  ·intro w o e n;rw[E w λj _ f=>by
    obtain⟨l,w',o',_,F,C,e4⟩:=B j _ f;cases C;rw[F1 w o' l e4 (lk l F).1.2]at e;cases e]
   exact r.keep w o e n
  ·intro w e;by_cases Y:∃j:Nat,O[j]?=some (V.ref w);obtain⟨j,hj⟩:=Y;obtain⟨o2,l2,f1,f2⟩:=L j w (Au (hR.mp hj).1 N) hj;rw[f2]at e;cases e;exact r.dom w (by rw[← E w λj _ e=>Y ⟨j,e⟩];exact e)
  ·rw[h0];exact r.len
  ·obtain⟨l0,F,e⟩:=t3 l M;obtain⟨⟨k1,k2⟩,k3,k4⟩:=lk l0 F;have sub:∀y∈l0,y∈zs:=λy J=>by have:=k4 y J;rw[P]at this;exact BF this
   rcases e with rfl|rfl;exact⟨⟨k1,by lia⟩,k3,sub⟩;refine⟨by simp;lia,List.nodup_append.mpr ⟨k3,by simp,λx hx y J e=>?_⟩,λy J=>?_⟩;rw[Aa.mp J]at e;exact zr (k4 z (e▸hx));rcases sU.mp J with h|h;exact sub y h;rw[Aa.mp h];exact zz
def F6(ok:dY O H [some ⟨.par,.lst [.int B,.int C]⟩,some ⟨.val,AF zs⟩,none,none,none,none,none,none,none] σV)(r:zs.length=6)(s:zs.Nodup)(D:∀ z∈zs,cW (.str z)=true)
  (E:O.H₀ q=some (.frz ob (.lst (zs.map V.str)))) (d:¬O.pr q) (hd:∀x,O.H₀ x≠none->x=p\/x=q) (f:∀x,O.pr x->x=p)
  (k:∀ts u w v σ' n H',Fl zs ts->dY O H' (some ⟨.par,.lst [.int u,.int w]⟩::σ') n->gC O H' (some ⟨.par,.lst [.int u,.int w]⟩::σ') n (.own (oV ts)) v->En.rt v H'):Li K O.H₀ O En σV H:=by
 refine E9 (p:=p) (q:=q) O ok r s D λa b rg m Ls F n H' g G N h S π=>?_;have n1:=S.n;have P:=S.m;have skip:∀ a b n H',dY O H' (Fo a b zs rg m Ls F) n->Ba O Ex.no oC En n H':=λa b n H' ok=>Pq (Ls:=Ls) (F0 (σ':=[some ⟨.par,.lst [.int a,.int b]⟩,none,none,none,some ⟨.own,.lst (Ls.map AF)⟩,none,none,none,none]) ok rfl λi t e=>by
   match i,e with
   |0,e | 4,e=>exact e
   |1,e | 2,e | 3,e | 5,e | 6,e | 7,e=>cases e
   | 8,e=>cases e) ⟨by lia,by lia,λl j=>by
     obtain⟨⟨Q,R⟩,T,U⟩:=S.l l j
     grind⟩ k
 refine u0 g ?_;unfold Jr;walk_at"dx";split
 ·rename_i I;obtain⟨l,j,_⟩:=KW AF (l:=Ls) (i:=0) (by decide) (by lia);rw[j];walk_at"dx";split;refine aO (by decide) (by decide) λX a2 Y J L=>?_;walk_at"dx";intro y c _;split;exact F5 (En:={En with nx:=Ba O Ex.no oC En}) c G (by simpa using I) h S r s E d hd f λa b σ A H3 o M=>Pq o M k;exact skip _ _ _ _ c;intro y c _;exact skip _ _ _ _ c
 ·intro y c _;exact skip _ _ _ _ c
def F7(vs:List V)(H:Hp)(Q:PySem.VK)(E:XK)(h:CW 2 FV vs H Q E):∃ S:Addr->Prop,(∀ a o,S a->H a=some o->(∃ xs,o=.lst xs)\/∃ ob xs,o=.frz ob (.lst xs))/\(∃ p q,vs=[.ref p,.ref q]/\∀ x,Fn S H x≠none->x=p\/x=q)/\CW 2 FV vs (Fn S H) (λv d=>(∀ a,¬ S a->H a≠none->d a=none)->Q v (DW S H d)) E:=by
 obtain⟨as,g,σ,a,b,zs,rfl,I,J,K,q⟩:=h;obtain⟨v0,L,p,rfl,xs,F,M⟩:=g.rel 0 _ rfl;obtain⟨v1,N,π⟩:=g.rel 1 _ rfl;obtain rfl:=z7 g.len L N;have m:Rp H (.lst (zs.map D.str)) v1:=π;cases m with
 |@lst _ c ys ob G P=>
 have O:∀{b},b=p\/b=c->Fn (λx=>x=p\/x=c) H b=H b:=λz=>eH z;refine⟨λx=>x=p\/x=c,λx o z e=>?_,⟨p,c,rfl,λx n=>AB λz=>n (a0m z)⟩,_,⟨rfl,λi s e=>?_,g.dis,g.own⟩,rfl,a,b,zs,rfl,I,J,K,λts t u R v d A T j=>q ts t u R v _ ⟨λi s e mt=>?_,λx o e n=>?_,λx e=>?_⟩ ?_⟩;rcases z with rfl|rfl;rw[F]at e;cases e;exact .inl ⟨_,rfl⟩;rw[G]at e;cases e;exact .inr ⟨_,_,rfl⟩
 ·match i,e with
  |0,e=>cases e;exact⟨_,rfl,p,rfl,xs,(O (.inl rfl)).trans F,by rw[Rps.ints_inv (ns:=[a,b]) M];exact iR [a,b]⟩
  |1,e=>cases e;exact⟨_,rfl,.lst ((O (.inr rfl)).trans G) (by rw[P.strs_inv];exact qK zs)⟩
 all_goals
  have l:∀{y},(y=p\/y=c)\/H y=none->DW (λx=>x=p\/x=c) H d y=d y:=λz=>eH z
 ·match i,e with
  | 0,e=>
    cases e;obtain⟨s',w,U,f2,W,X⟩:=A.rel 0 _ rfl rfl;cases U;cases W;obtain⟨p',Y,f,k,B⟩:=X;cases Y;exact⟨_,_,rfl,rfl,rfl,p,rfl,f,(l (.inl (.inl rfl))).trans k,by rw[Rps.ints_inv (ns:=[t,u]) B];exact iR [t,u]⟩
  |1,e=>cases e;cases mt
 ·by_cases z:x=p\/x=c;rw[l (.inl z)];exact A.fr x o ((O z).trans e) n;exact(a0m (λy=>y.elim z λn=>by rw[n]at e;cases e)).trans e
 ·by_cases z:(x=p\/x=c)\/H x=none;rw[l z]at e;rcases z with z|z;exact(O z).symm.trans (A.dom x e);exact z;exact(a0m z:DW (λx=>x=p\/x=c) H d x=H x).symm.trans e
 ·obtain⟨r,rfl,n,f,k,B⟩:=T;have C:∀ {y o},d y=some o->DW (λx=>x=p\/x=c) H d y=some o:=λ{y o} e=>by
   by_cases z:(y=p\/y=c)\/H y=none;rw[l z,e]
   simp_all
  refine⟨r,rfl,AB λz=>?_,f,C k,B.mono ⟨λ_ _ e=>C e,λ_ _ _ e=>C e⟩⟩;by_cases y:r=p\/r=c;rw[O y]at n;exact z n;rw[j r y z]at k;cases k
def F8(f:BD H [⟨.par,.lst [.int a,.int b]⟩,⟨.val,AF k⟩] [.ref p,.ref q]):dY ⟨H,λx=>x=p⟩ H [some ⟨.par,.lst [.int a,.int b]⟩,some ⟨.val,AF k⟩,none,none,none,none,none,none,none] [some (.ref p),some (.ref q),none,none,none,none,none,none,none]:=by
 have c:∀(i:Nat) s,([some ⟨.par,.lst [.int a,.int b]⟩,some ⟨.val,AF k⟩,none,none,none,none,none,none,none]:Sg)[i]?=some (some s)->i=0/\s.m=.par\/i=1/\s.m=.val:=λi s e=>by
  match i,e with
  |0,e | 1,e=>cases e;simp
  |2,e | 3,e | 4,e | 5,e | 6,e | 7,e | 8,e=>cases e
 refine⟨λi s e=>?_,λi j s t w n g h m M _ _=>?_,λi s w e m _=>?_,λi s w e m v=>?_,λ_ _ e _=>e,λ_ e=>e,rfl⟩;rcases c i s e with⟨rfl,_⟩|⟨rfl,_⟩;cases e;obtain⟨v,d,r⟩:=f.rel 0 _ rfl;cases d;exact⟨_,rfl,r⟩;cases e;obtain⟨v,d,r⟩:=f.rel 1 _ rfl;cases d;exact⟨_,rfl,r⟩
 ·rcases c i s g with⟨rfl,_⟩ | ⟨rfl,z⟩
  ·rcases c j t h with⟨rfl,_⟩|⟨rfl,z⟩
   ·simp_all
   simp_all
  ·rw[z]at m;cases m
 ·rcases c i s e with⟨_,z⟩|⟨_,z⟩<;>(simp_all)
 ·rcases c i s e with⟨rfl,_⟩|⟨_,z⟩
  ·simp_all
  lia
def uY{u:Sg}(ok:dY ⟨H,λx=>x=p⟩ y (some ⟨.par,.lst [.int d,.int f]⟩::u) t)(r:gC ⟨H,λx=>x=p⟩ y (some ⟨.par,.lst [.int d,.int f]⟩::u) t (.own (oV T)) v) :
  Bk [⟨.par,.lst [.int a,.int b]⟩,⟨.val,AF zs⟩] [.ref p,.ref q] H [⟨.par,.lst [.int d,.int f]⟩,⟨.val,AF zs⟩] y/\vC H y (.own (oV T)) v:=by
 obtain⟨w,rfl,g,_,j⟩:=r;obtain⟨l,k,x,rfl,h⟩:=ok.rel 0 _ rfl;obtain rfl:x=p:=ok.par 0 _ x rfl rfl k;refine⟨⟨λi s e m=>?_,λc o e n=>ok.keep c o e λz=>n ⟨0,_,rfl,rfl,by rw[z];rfl⟩,ok.dom⟩,w,rfl,j,g⟩
 match i,e with
 |0,e=>cases e;exact⟨_,_,rfl,rfl,rfl,_,rfl,h⟩
 |1,e=>cases e;cases m
def fR{r:PySem.Aa4}(i:Nat)(h:tb[i]? = some f)(T:Txt X.K X.mg a)(F:Fk X.prog X.w X.K X.mg X.base a i k (AW n r))(c:Ah k X.A)(d:Gl X f.n)(m:GA X (e::E) b)
  (H:(f.n==("__debug__":Str))=false:=by decide) (g:starEach (e::E) X.env=(false,eval e X.env)::starEach E X.env:=by rfl) (j:(backTo pos (starEach E X.env)).any (·.1)=false:=by rfl):GE X (.Call (.Name f.n p) (e::E) [] pos) (aI n r b):=
 Vq λl=>vK F c d (T.m i f h) (T.F i f h).kp (bn T i f h) .nil JW (gA m l) H g j
def Pr:zQ [i] (fS i) (gY i):=eB (by simp)
def F9:zQ [i,j] (qI K 2 (pZ (fS i) (pZ (fS j) Gk))) (eA 2 (aM (gY i) (aM (gY j) fA))):=tN (dG (eB (by simp)) (dG (eB (by simp)) nB))
def G0:zQ [k,i,j] (qI K 2 (pZ (qI L 2 (pZ (fS i) (pZ (fS j) Gk))) (pZ (fS k) Gk))) (eA 2 (aM (eA 2 (aM (gY i) (aM (gY j) fA))) (aM (gY k) fA))):=tN (dG (tN (dG (eB (by simp)) (dG (eB (by simp)) nB))) (dG (eB (by simp)) nB))
set_option hygiene false in
open Lean in
def Pt(l:List Syntax):MacroM Syntax:=do
 let p:=fun(l:List Syntax)=>match l with
  |[]=>Syntax.missing
  |[x]=>x
  |h::r=>(Syntax.mkApp ⟨h⟩ (r.map fun x=>⟨x⟩).toArray).raw
 match l with
 |.atom _ "λ"::r=>return(←`(fun Γ=>$(⟨p r⟩))).raw
 |.atom _ "λ1"::r=>return(←`(fun _=>$(⟨p r⟩))).raw
 |.atom _ "λ2"::r=>return(←`(fun _ _=>$(⟨p r⟩))).raw
 |.atom _ "λ4"::r=>return(←`(fun _ _ _ _=>$(⟨p r⟩))).raw
 |[.atom _ ":",x,v]=>return mkNode ``Parser.Term.namedArgument #[mkAtom "(",x,mkAtom ":=",v,mkAtom ")"]
 |_=>return p l
open Lean in
def G1(z:List (String×Term))(t:String):MacroM Syntax:=do
 if let some x:=z.lookup t then return x.raw
 let c:=t.toList.headD ' '
 let u:=String.ofList (t.toList.drop 1)
 if c=='λ'||c==':' then return mkAtom t
 if c=='\'' then return(Syntax.mkStrLit u).raw
 if c=='.' then return mkNode ``Parser.Term.dotIdent #[mkAtom ".",mkIdent u.toName]
 if c=='@' then return mkNode ``Parser.Term.explicit #[mkAtom "@",mkIdent u.toName]
 if c.isDigit then return(Syntax.mkNumLit t).raw
 return(mkIdent t.toName).raw
open Lean in
def Pu(z:List (String×Term))(s:String):MacroM Term:=do
 let mut w:List (List Syntax):=[[]]
 for t in((((s.replace "(" " ( ").replace ")" " ) ").replace "[" " [ ").replace "]" " ] ").splitOn " " do
  if t=="" then continue
  if t=="("||t=="[" then w:=[]::w
  else if t==")"||t=="]" then
   let l:=(w.headD []).reverse
   let x←if t==")" then Pt l else do
    let y:Array Term:=(l.map fun x=>⟨x⟩).toArray
    pure (←`([$y,*])).raw
   let r:=w.drop 1
   w:=(x::r.headD [])::r.drop 1
  else
   let x←G1 z t
   w:=(x::w.headD [])::w.drop 1
 return ⟨←Pt (w.headD []).reverse⟩
set_option hygiene false in
local macro_rules | `(tactic|walk_at"k")=>do
 let z:=[("_",←`(_)),("?",←`(?_)),("%Q",←`(⟨rfl,rfl,rfl,rfl⟩)),("%O",←`(by first|exact .inl rfl|exact .inr rfl)),("%N",←`(T.o _ (by decide +kernel))),("%H",←`(hr.mono (by decide))),("%U",←`(by with_unfolding_all rfl)),("%X",←`(by kernel_rfl)),("%R",←`(by rfl)),("%D",←`(by decide))]
 let r:="GA _ _(aA _ _)~Mz ? ?|GE _ _(aC _)~Uw(pv _)|GA _ _ aE~My|GE _ _(dC(.int _))~Ux|Cy _ _ _(aR _ _)~zO ? ?|Cy _ _[_]_~MB ?|GE _ _(hJ _)~UN ?|GE _ _(aJ rN _ _)~VD ? ?(λ2 rfl)|GE _ _(aJ fB _ _)~nA Vy Vz ? ?|GE _ _(aI _ aD _)~fR 1 rfl T(BY T)%H %R ?|GE _ _(fT _)~UP ?|GS _ _ _(iC _)~UW ?|GI _ _ _(Ad _)~Ve K %R ?|GS _ _ _(jF _ _ _)~UX ? ? ?|Cy _ _[]_~US|GE _ _(hB iB _)~jW VE(λ gQ Tf %R %N Nu(gA ? Γ))|GE _ _(dC(.str _))~Uz|DR _[]_~Vm|GE _ _(bB _ _(gY _)_ _)~MF(eB %D)(λ Mb(JZ _ %X)(gI ? Γ)(λ4(cN nd rfl %O %O))(jT %D)(λ4 ?)(λ4 gE ? Γ))|GS _ _ _(dA _)~UU ?|GE _ _(hB lP _)~jW VW(λ mS Tu %R %N pN(gA ? Γ))|GE _ _(aJ pH _ _)~nA VA VB ? ?|GE _ _(aJ zV _ _)~nA Rt Vt ? ?|GT _ _(cJ(aJ(AE false)_ _))~pD(MT hr.units)(Ko(: neg false))? ?(lC _)|GO _ _(dP _)~VJ ?|GO _ _ pI~VI|GE _ _(Bu _ _ _)~VM ? ? ?|GE _ _(dF _ _ _ _)~qM VX(λ lJ K %R EI F.slot_list_append F.type_list_append mX(pv _)(gA ? Γ))|GI _ _ _(sJ _)~Vg(λ Rk %R %N(gA ? Γ))PySem.cU8|GT _ _(cJ(aJ Ce _ _))~pD LM MI ? ?(lC _)|GE _ _(pE _)~UO ?|GE _ _(hB oJ _)~jW VS(λ gQ(RJ %R)%R %N qX(gA ? Γ))|GM _ _ _(vD _ _)~Oj ? ?|GT _ _(cJ(aJ(AM false)_ _))~pD(MU hr.units)(Kq(: neg false))? ? %U|Ds _ _ _(RS _)~ZF ?|GE _ _(aI _ bO _)~fR 15 rfl T(BM T)%H %R ?|GE _ _(hB Ep _)~jW VT(λ mS RK %R %N YA(gA ? Γ))|GE _ _(aJ GH _ _)~nA Wd We ? ?|GS _ _ _(FH _ _ _)~Wc(λ LD(gE ? Γ)(QZ(pv _)(gE ? Γ)Sv))|GE _ _(aJ(AE false)_ _)~tL(MT hr.units)(Ko(: neg false))? ?(lC _)|GT _ _(cJ(aJ(AM true)_ _))~pD(Wi hr.units)(Kq(: neg true))? ? %U|GE _ _(hB nJ _)~jW VU(λ mS Tt %R %N YB(gA ? Γ))|GE _ _(aI _ aT _)~fR 3 rfl T(BH T)%H %R ?|GS _ _ _(kQ _(gY _)_)~Kk Pr(λ oW Fx rfl(gI ? Γ)(cN nd rfl %O)(IM ? Γ))|GM _ _ _(RS _)~ZE ?|DR _[_]_~Vn ?|GE _ _(aI _ bT _)~fR 14 rfl T(CN T)%H %R ?|GE _(.BoolOp _[_]_)_~UH ?|GE _ _(Gx _ _)~UI ? ?|GW _(.BoolOp .And[_]_)_~UE ?|GW _ _(Dl _ _)~UG ? ?|GT _(.BoolOp _ _ _)_~GW.gt ?|GE _ _(aI _ aL _)~fR 4 rfl T(AA T)%H %R ?|GE _ _(aJ GC _ _)~nA Rq Vs ? ?|GE _ _(FD _ _ _)~UJ ? ? ?|GE _ _(aI _ cL _)~fR 2 rfl T(BG T)%H %R ?|GM _ _[_]_~ZG ?|Ds _ _ _(Fg _ _ _)~ZH ? ? ?|GE _ _(lY _ _ _ _)~UQ VZ(λ lJ K %R EI F.slot_list_extend F.type_list_extend VY(pv _)(gA ? Γ))|GS _ _ _(kQ _(eA _(aM(gY _)(aM(gY _)fA)))_)~Kk F9(λ oW Fx rfl(gI ? Γ)(jU(: n 2)K rfl rfl(dB(cN nd rfl %O)(dB(cN nd rfl %O)mQ)))(IM ? Γ))|GE _ _(aI _ bW _)~fR 10 rfl T(BI T)%H %R ?|GS _ _ _(aU _(bB _ _(gY _)_ _))~Vo(eB %D)(λ SY nd rfl rfl(JZ _ %X)(gI ? Γ)(λ4(cN nd rfl %O %O))(jT %D)(λ4 ?)(λ4 gE ? Γ)rfl)|GE _ _(aJ Ce _ _)~tL LM MI ? ?(lC _)|GE _ _(hB fZ _)~jW uT(λ NS(: id 'sorted)(: U 'set)(rU rfl(Zn hr))%R %N jJ %R %N Nv(gA ? Γ))|GE _ _(hB EY _)~jW VP(λ gQ(VQ K %R %R)%R %N Yz(gA ? Γ))|GT _ _(cJ(aJ DU _ _))~pD LL MH ? ?(lC _)|GE _ _(aJ IJ _ _)~nA Ru Vu ? ?|GE _ _(aJ IK _ _)~tL Rv Vv ? ?(lC _)|GE _ _(HG(GL _)_)~Yl(: sep ')K(λ lJ K %R F.plainAttrs_str F.slot_str_join F.type_str_join(Yn K %R)Lx(gA ? Γ))|GS _ _ _(HJ(eA _(aM(gY 7)(aM(gY 8)(aM(gY 9)fA))))_)~Va(: own[7 8 9])(tN(dG(eB %D)(dG(eB %D)(dG(eB %D)nB))))(λ LD(gE ? Γ)(jU(: n 3)K rfl rfl(dB(cN nd rfl %O)(dB(cN nd rfl %O)(dB(cN nd rfl %O)mQ)))))|GE _ _(dF _ _ _ _)~qM Wb(λ lJ K %R EI F.slot_list_pop F.type_list_pop SF(pv _)(gA ? Γ))|GS _ _ _(tO _ _)~Vk(λ Rf Fx(gT ? Γ)(IM ? Γ))|GE _ _(vZ _ _ _)~UR Wa(Ud K %R EI F.slot_list_pop F.type_list_pop SE(pv _))|GE _ _(dF _ _ _ _)~qM Yo(λ lJ K %R EI F.slot_list_remove F.type_list_remove TF(pv _)(gA ? Γ))|GS _ _ _(HL _ _ _)~Vc(: j 3)(λ Ra(: j 3)rfl nd rfl rfl %D rfl rfl(gA ? Γ)rfl)|GE _ _(aI _ aY _)~fR 5 rfl T(AO T)%H %R ?|GE _ _(aI _ aZ _)~fR 6 rfl T(AQ T)%H %R ?|Ds _ _ _(uN _ _ _ _)~Ol yC(λ yX nd rfl %O(vK(@AJ P w K mg base a T)%H %R(T.m 7 _ rfl)(DQ.kp(T.F 7 _ rfl))(bn T 7 _ rfl).nil JW(gA ? Γ)))|GE _ _(hB GQ _)~jW f6(λ TY(: T 'tuple)(: U 'zip)(d9 rfl)%R %N pN %R %N Nw(gA ? Γ))|GE _ _(aI _ bH _)~fR 9 rfl T(Bm T)%H %R ?|GE _ _(aJ DU _ _)~tL LL MH ? ?(lC _)|GE _ _(dF _ _ _ _)~qM ZC(λ lJ K %R EI F.slot_list_index F.type_list_index ZA(pv _)(gA ? Γ))|GE _ _(hB GF _)~jW VR(λ gQ(RH %R)%R %N YC(gA ? Γ))|GI _ _ _(GZ _)~d3(λ ZZ %R %N Nw(gA ? Γ))|GE _ _(bB _ _(eA _(aM(gY _)(aM(gY _)fA)))_ _)~MF(tN(dG(eB %D)(dG(eB %D)nB)))(λ Mb(JZ _ %X)(gI ? Γ)(λ4(jU(: n 2)K rfl rfl(dB(cN nd rfl %O %O)(dB(cN nd rfl %O %O)mQ))))(Uc(oZ(jT %D)(oZ(jT %D)SS pA)pA))(λ4 ?)(λ4 gE ? Γ))|GE _ _(Fe _ _ _)~Zl Zp(λ Zj F.slot_tuple_index F.type_tuple_index Zo(gE ? Γ)(gA ? Γ))|BB _[_]_~jD(vJ(lJ K %R EI F.slot_list_append F.type_list_append mX(i6(Iu hr)(pv _)(gE ? Γ)(LQ JS)%Q)(gA ? Γ)))|Cy _ _ _(FU _ _ _ _ _)~u4(: K K)(: g 5)(: row 6)%D(yX nd rfl %O Ur)(λ oW Fx rfl(gI ? Γ)(cN nd rfl %O)?)(Lz(j9(pv _)))|GE _ _(aI _ eP _)~fR 17 rfl T(BZ T)%H %R ?|GE _ _(aI _ lB _)~fR 18 rfl T(FW T)%H %R ?|GE _ _(aI _ fP _)~fR 16 rfl T(Cp T)%H %R ?|GE _ _(aJ(AM false)_ _)~tL(MU hr.units)(Kq(: neg false))? ? %U|GT _ _(HH _)~UD ?(λ1 rfl)|GS _ _ _(aU _ _)~YG nd rfl %O ?|GE _ _(aJ HR _ _)~nA YL YM ? ?|GE _ _(hB yB _)~jW y9(λ gQ(y8 %R)%R %N qX(gA ? Γ))|GI _ _ _(GR _)~Yy K(λ Yw K %R %R %N oM(gA(Mz ? My)Γ))|GS _ _ _(kQ _(eA _(aM(eA _ _)_))_)~Kk G0(λ oW Fx rfl(gI ? Γ)(jU(: n 2)K rfl rfl(dB(jU(: n 2)K rfl rfl(dB(cN nd rfl %O)(dB(cN nd rfl %O)mQ)))(dB(cN nd rfl %O)mQ)))(IM ? Γ))|GE _ _(aJ Ew _ _)~y0(Iu hr)? ?(λ2 rfl)|GE _ _(hB HY _)~jW r8(λ gQ q9 %R %N jJ(gA ? Γ))|GE _ _(hB Ha _)~jW h9(λ g9 %R %R %N qX %R %N Nu(gA ? Γ))|GS _ _ _(Ib _ _ _)~v7(λ Rb nd rfl(Or.inl rfl)(gE ? Γ)Rc)|GE _ _ Jj~k8|GS _ _ _(Ie _ _ _)~x4(λ w5(Iu hr)(pv _)(pv _)(gE ? Γ)rfl)|GE _ _(hB kH _)~jW uM(λ NS(: id 'sorted)(: U 'set)(rH rfl)%R %N jJ %R %N Nv(gA ? Γ))|GE _ _(Hb _ _ _)~j8(Iu hr)? ? ? %Q|GE _ _(aI _ cM _)~fR 23 rfl T(BN T)%H %R ?|GE _ _(aI _ dL _)~fR 12 rfl T(BL T)%H %R ?|GE _ _(aI _ cR _)~fR 13 rfl T(Bv T)%H %R ?|GE _ _(aI _ cS _)~fR 19 rfl T(Bw T)%H %R ?|GE _ _(aI _ fG _)~fR 20 rfl T(CO T)%H %R ?|GE _ _(aI _ cT _)~fR 21 rfl T(Bx T)%H %R ?|Ds _ _ _(GV _ _ _)~ZN Pr(eC eX(eC(kI(kY bA))eX))(λ oW Fx rfl(gI ? Γ)(cN nd rfl(Or.inl rfl))(GM.to ? Γ))|Ds _ _ _(uN _ _ _ _)~Ol(kY bA)(λ yX nd rfl(Or.inr rfl)(vK(Be T)%H %R(T.m 8 _ rfl)(DQ.kp(T.F 8 _ rfl))(bn T 8 _ rfl).nil JW(gA ? Γ)))|GT _ _(cJ(aJ(AE true)_ _))~pD(Wg hr.units)(Ko(: neg true))? ?(lC _)|GE _ _(hB rV _)~jW u9(λ gQ(u7 hr.gd hr.units)%R %N YD(gA ? Γ))|GE _ _(dC(.bl _))~Uy|GE _ _(aI _ fM _)~fR 0 rfl T(Co T)%H %R ?|GE _ _(aI _ dJ _)~fR 11 rfl T(BJ T)%H %R ?|GE _ _(aI _ bX _)~fR 22 rfl T(By T)%H %R ?|GE _ _(aI _ eE _)~fR 24 rfl T(Cq T)%H %R ?|GT _ _(cJ _)~UB ?".splitOn "|"
 let p←r.mapM fun r=>Pu z ((r.splitOn "~").headD "")
 let q←r.mapM fun r=>Pu z ((r.splitOn "~").getD 1 "")
 let p:=p.toArray
 let q:=q.toArray
 `(tactic|(try first|refine zO ?_ ?_|refine MB ?_|refine Oj ?_ ?_)<;>repeat' first $[| (with_reducible show $p);refine $q]*)
def Co(T:Txt K mg a):Fk P w K mg base a 0 1 (AW 2 fM):=by
 refine bE (T.F 0 _ rfl) (sc 0 _ rfl) (by decide) gJ (λcdv A outer s H E hr=>?_);have nd:=(sc 0 _ rfl).nd;unfold gJ;walk_at"k"
def BY(T:Txt K mg a):Fk P w K mg base a 1 1 (AW 2 aD):=by
 refine bE (T.F 1 _ rfl) (sc 1 _ rfl) (by decide) fN (λcdv A outer s H E hr=>?_);have nd:=(sc 1 _ rfl).nd;unfold fN;walk_at"k"
def BG(T:Txt K mg a):Fk P w K mg base a 2 2 (AW 2 cL):=by
 refine bE (T.F 2 _ rfl) (sc 2 _ rfl) (by decide) eK (λcdv A outer s H E hr=>?_);have nd:=(sc 2 _ rfl).nd;unfold eK;walk_at"k"
def BH(T:Txt K mg a):Fk P w K mg base a 3 2 (AW 2 aT):=by
 refine bE (T.F 3 _ rfl) (sc 3 _ rfl) (by decide) gB (λcdv A outer s H E hr=>?_);have nd:=(sc 3 _ rfl).nd;unfold gB;walk_at"k"
def AA(T:Txt K mg a):Fk P w K mg base a 4 3 (AW 3 aL):=by
 refine bE (T.F 4 _ rfl) (sc 4 _ rfl) (by decide) bG (λcdv A outer s H E hr=>?_);have nd:=(sc 4 _ rfl).nd;unfold bG;walk_at"k"
def AO(T:Txt K mg a):Fk P w K mg base a 5 4 (AW 2 aY):=by
 refine bE (T.F 5 _ rfl) (sc 5 _ rfl) (by decide) bP (λcdv A outer s H E hr=>?_);have nd:=(sc 5 _ rfl).nd;unfold bP;walk_at"k"
def AQ(T:Txt K mg a):Fk P w K mg base a 6 4 (AW 2 aZ):=by
 refine bE (T.F 6 _ rfl) (sc 6 _ rfl) (by decide) bQ (λcdv A outer s H E hr=>?_);have nd:=(sc 6 _ rfl).nd;unfold bQ;walk_at"k"
def AJ{P:Program}{w:World}{K:W.Frag}{mg:Str->Option Value}{base:Heap}{a:IU}(T:Txt K mg a):Fk P w K mg base a 7 4 (CW 2 FV):=by
 refine E3 (sp':=λvs H Q E=>(∃p q,vs=[.ref p,.ref q]/\∀x,H x≠none->x=p\/x=q)/\CW 2 FV vs H Q E) ?_ F7;refine(T.F 7 _ rfl).ok (sc 7 _ rfl) (λvs H Q E h=>by obtain⟨⟨p,q,rfl,_⟩,_⟩:=h;rfl) (λcdv A outer s H vs Q E hr h=>?_);have nd:=(sc 7 _ rfl).nd;obtain⟨⟨p,q,rfl,hd⟩,as,ao,hl,a0,b0,zs,rfl,z6,zn,zc,k⟩:=h;have hq:∃ob,H q=some (.frz ob (.lst (zs.map V.str))):=by
  obtain⟨v,e,r⟩:=ao.rel 1 _ rfl;cases e;cases (show Rp H (.lst (zs.map D.str)) (.ref q)from r)with
  |lst h1 h2=>rw[h2.strs_inv]at h1;exact⟨_,h1⟩
 obtain⟨ob,hq⟩:=hq;have hpq:q≠p:=λz=>by
  obtain⟨v,e,x,e',ys,h1,_⟩:=ao.rel 0 _ rfl;cases e;cases e';rw[← z,hq]at h1;cases h1
 refine⟨Li K H ⟨H,λx=>x=p⟩,eF (GS.to ?_ _) (eF (GS.to ?_ _) (eF (GS.to ?_ _) (eF (GS.to ?_ _) (eF (GS.to ?_ _)
  (eF (JJ (gT ?_ _) (jD (oW Fx rfl (Mo K (by rfl) (gE ?_ _)) (cN (i:=6) nd rfl (by first|exact .inl rfl|exact .inr rfl)) (jD (vJ (lJ K (by rfl) EI F.slot_list_append F.type_list_append E4 (pv 6) (LP (LU Mc (pv 1) (pv 2) (λ_ _=>rfl)) JS)))))) Ly) (jD (GS.to ?_ _))))))),F6 (F8 ao) z6 zn zc hq hpq hd (λ_ h=>h) λts a' b' v σ' σV' H' ht ok r=>k ts a' b' ht v H' (uY ok r).1 (uY (a:=a0) (b:=b0) (q:=q) (zs:=zs) ok r).2⟩
 ·unfold Ld;walk_at"k"
 ·unfold Le;walk_at"k"
 ·unfold Lf;walk_at"k"
 ·unfold Lg;walk_at"k"
 ·unfold Lh;walk_at"k"
 ·unfold Jr;walk_at"k"
 ·unfold uX;walk_at"k"
 ·unfold oC;walk_at"k"
def Be(T:Txt K mg a):Fk P w K mg base a 8 5 (CW 2 cU):=by
 refine wC (T.F 8 _ rfl) (sc 8 _ rfl) (by decide) bR bA (λcdv A outer s H E hr=>GM.to ?_);have nd:=(sc 8 _ rfl).nd;unfold bR;walk_at"k"
def Bm(T:Txt K mg a):Fk P w K mg base a 9 1 (AW 1 bH):=by
 refine bE (T.F 9 _ rfl) (sc 9 _ rfl) (by decide) cQ (λcdv A outer s H E hr=>?_);have nd:=(sc 9 _ rfl).nd;unfold cQ;walk_at"k"
def BI(T:Txt K mg a):Fk P w K mg base a 10 2 (AW 2 bW):=by
 refine bE (T.F 10 _ rfl) (sc 10 _ rfl) (by decide) eL (λcdv A outer s H E hr=>?_);have nd:=(sc 10 _ rfl).nd;unfold eL;walk_at"k"
def BJ(T:Txt K mg a):Fk P w K mg base a 11 3 (AW 3 dJ):=by
 refine bE (T.F 11 _ rfl) (sc 11 _ rfl) (by decide) eM (λcdv A outer s H E hr=>?_);have nd:=(sc 11 _ rfl).nd;unfold eM;walk_at"k"
def BL(T:Txt K mg a):Fk P w K mg base a 12 1 (AW 2 dL):=by
 refine bE (T.F 12 _ rfl) (sc 12 _ rfl) (by decide) eN (λcdv A outer s H E hr=>?_);have nd:=(sc 12 _ rfl).nd;unfold eN;walk_at"k"
def Bv(T:Txt K mg a):Fk P w K mg base a 13 1 (AW 1 cR):=by
 refine bE (T.F 13 _ rfl) (sc 13 _ rfl) (by decide) dN (λcdv A outer s H E hr=>?_);have nd:=(sc 13 _ rfl).nd;unfold dN;walk_at"k"
def CN(T:Txt K mg a):Fk P w K mg base a 14 1 (AW 2 bT):=by
 refine bE (T.F 14 _ rfl) (sc 14 _ rfl) (by decide) fO (λcdv A outer s H E hr=>?_);have nd:=(sc 14 _ rfl).nd;unfold fO;walk_at"k"
def BM(T:Txt K mg a):Fk P w K mg base a 15 1 (AW 2 bO):=by
 refine bE (T.F 15 _ rfl) (sc 15 _ rfl) (by decide) eO (λcdv A outer s H E hr=>?_);have nd:=(sc 15 _ rfl).nd;unfold eO;walk_at"k"
def Cp(T:Txt K mg a):Fk P w K mg base a 16 2 (AW 3 fP):=by
 refine bE (T.F 16 _ rfl) (sc 16 _ rfl) (by decide) gK (λcdv A outer s H E hr=>?_);have nd:=(sc 16 _ rfl).nd;unfold gK;walk_at"k"
def BZ(T:Txt K mg a):Fk P w K mg base a 17 1 (AW 2 eP):=by
 refine bE (T.F 17 _ rfl) (sc 17 _ rfl) (by decide) fQ (λcdv A outer s H E hr=>?_);have nd:=(sc 17 _ rfl).nd;unfold fQ;walk_at"k"
def FW(T:Txt K mg a):Fk P w K mg base a 18 2 (AW 2 lB):=by
 refine bE (T.F 18 _ rfl) (sc 18 _ rfl) (by decide) uU (λcdv A outer s H E hr=>?_);have nd:=(sc 18 _ rfl).nd;unfold uU;walk_at"k"
def Bw(T:Txt K mg a):Fk P w K mg base a 19 3 (AW 3 cS):=by
 refine bE (T.F 19 _ rfl) (sc 19 _ rfl) (by decide) dO (λcdv A outer s H E hr=>?_);have nd:=(sc 19 _ rfl).nd;unfold dO;walk_at"k"
def CO(T:Txt K mg a):Fk P w K mg base a 20 1 (AW 2 fG):=by
 refine bE (T.F 20 _ rfl) (sc 20 _ rfl) (by decide) iN (λcdv A outer s H E hr=>?_);have nd:=(sc 20 _ rfl).nd;unfold iN;walk_at"k"
def Bx(T:Txt K mg a):Fk P w K mg base a 21 1 (AW 1 cT):=by
 refine bE (T.F 21 _ rfl) (sc 21 _ rfl) (by decide) dQ (λcdv A outer s H E hr=>?_);have nd:=(sc 21 _ rfl).nd;unfold dQ;walk_at"k"
def By(T:Txt K mg a):Fk P w K mg base a 22 4 (AW 3 bX):=by
 refine bE (T.F 22 _ rfl) (sc 22 _ rfl) (by decide) dS (λcdv A outer s H E hr=>?_);have nd:=(sc 22 _ rfl).nd;unfold dS;walk_at"k"
def BN(T:Txt K mg a):Fk P w K mg base a 23 1 (AW 4 cM):=by
 refine bE (T.F 23 _ rfl) (sc 23 _ rfl) (by decide) eQ (λcdv A outer s H E hr=>?_);have nd:=(sc 23 _ rfl).nd;unfold eQ;walk_at"k"
def Cq(T:Txt K mg a):Fk P w K mg base a 24 2 (AW 3 eE):=by
 refine bE (T.F 24 _ rfl) (sc 24 _ rfl) (by decide) gM (λcdv A outer s H E hr=>?_);have nd:=(sc 24 _ rfl).nd;unfold gM;walk_at"k"
def G2(T:Txt K mg a):Fk P w K mg base a 25 6 (CW 1 nW):=by
 refine wC (T.F 25 _ rfl) (sc 25 _ rfl) (by decide) pW yD (λcdv A outer s H E hr=>GM.to ?_);have nd:=(sc 25 _ rfl).nd;unfold pW;walk_at"k"
def Pw(h:GJ a K o):MG a K o:=by
 cases o with
 |nx Z=>exact h
 |rt r Z=>exact bM.mp h
 |bk Z|ct Z|ex c f Z=>exact h
def Px(e:GU C)(h:RA d Z λr a=>AK a r λf=>(f.length=n/\dH r=true)/\C f λy A=>BK r A a λb=>PtK i y b λc=>Q (.nx c)):uN i n C d Z Q:=
 aS h λx h=>aS h λf h=>⟨h.1,e _ _ _ (λy A q=>by rw[Ku h.1.2];exact q) h.2⟩
structure Qc(qs:List (Str×List Str)):Prop where
 l1:1<=qs.length
 l6:qs.length<=6
 qn:Qn qs
 cd:∀q∈qs,q.2.Nodup
 ne:∀q∈qs,q.2≠[]
 cs:∃cs:List Str,cs.length=6/\∀q∈qs,∀z∈q.2,z∈cs
 nn:(qs.map Prod.fst).Nodup
theorem Py{a b:Type}:∀{l:List a} {m:List b},((l.zip m).map Prod.fst).Sublist l
 |[],_|_::_,[]=>by simp
 |x::l,y::m=>by exact Py.cons_cons x
def Lj(n:List Str)(t:List (List Str)):D.tup (GP (n.map D.str) (t.map λl=>.tup (l.map D.str)))=qD (n.zip t):=by
 unfold GP;rw[List.zip_map,map_map];rfl
def Lk{k n:List Str}(d:k.length=6)(g:∀ z∈k,Tx z)(f:n.length=6)(l:∀ z∈n,Tx z)(N:n.Nodup)(h:Fl k t):Qc (n.zip t):=by
 have c:(n.zip t).length=t.length:=by rw[length_zip,f];have:=h.2.1;lia
 have b:∀q∈n.zip t,q.1∈n/\q.2∈t:=λq a=>of_mem_zip a;refine⟨by rw[c];exact h.1,by rw[c];exact h.2.1,⟨by grind,λq a=>?_⟩,λq a=>(h.2.2 _ (b q a).2).2.1,λq a e=>?_,⟨k,d,λq a=>(h.2.2 _ (b q a).2).2.2⟩,N.sublist Py⟩
 ·obtain⟨⟨m,L⟩,i,j⟩:=h.2.2 _ (b q a).2
  grind
 ·have:=(h.2.2 _ (b q a).2).1.1
  simp_all
def yN(k:∀ Q c d,Qc Q->K (.val (qD Q)) [⟨.par,.lst [.int c,.int d]⟩,⟨.val,.int 3⟩]):cU [⟨.par,.lst [.int a,.int b]⟩,⟨.val,.int 3⟩] K:=by
 unfold cU GB;refine bA _ _ _ (λo h=>Pw h) ?_;show bR [_,_,none,none,none,none] _;unfold bR;show RS _ _ (Ff _ _);walk_at "dx";refine Ph λC J r e i f=>?_;walk_at "dx";refine Ph λN I s j B A=>?_;walk_at "dx";have G:∀ (N:List Str) (c d:Int),N.length=6->(∀ z∈N,Tx z)->N.Nodup->vD (RS (aU 4 (hJ (aC 1)))) (vD (RS (jF (cJ (aJ (AE false) (aC 1) (dC (.int 3)))) (aU 4 (aI 2 aD (aA (aC 0) (aA (dC (.int 3)) aE)))) dU))
   (vD (Fg (cJ (aJ (AE false) (aC 4) (dC (.int 0)))) (RS (aU 5 (aI 2 aY (aA (aC 0) (aA (aC 2) aE))))) (Fg (cJ (aJ (AE false) (aC 4) (dC (.int 1)))) (RS (aU 5 (aI 2 aZ (aA (aC 0) (aA (aC 2) aE))))) (uN 5 2 FV (aA (aC 0) (aA (aC 2) aE)))))
   (RS (iC (hB GQ (aA (aC 3) (aA (aC 5) aE))))))) [some ⟨.par,.lst [.int c,.int d]⟩,some ⟨.val,.int 3⟩,some ⟨.val,.lst (C.map D.str)⟩,some ⟨.val,.lst (N.map D.str)⟩,none,none] (GJ [⟨.par,.lst [.int a,.int b]⟩,⟨.val,.int 3⟩] K):=by
  intro N c d j A B;show RS _ _ (Ff _ _);walk_at"dx";show RS _ _ (Ff _ _);walk_at"dx";refine aO (by decide) (by decide) λy E n t u=>?_;walk_at"dx";unfold vD Fg;walk_at"dx";split;refine D3 e i λT c d h=>?_;walk_at"dx";rw[Lj];exact k _ _ _ (Lk e f j A B h);split;refine E2 e i (λz g=>(f z g).2) λT c d h=>?_;walk_at"dx";rw[Lj];exact k _ _ _ (Lk e f j A B h);refine Px yC ?_;walk_at"dx";refine⟨E,n,C,rfl,e,i,λz g=>rW (f z g).2,λT c d h=>?_⟩;walk_at"dx";rw[Lj];exact k _ _ _ (Lk e f j A B h)
 refine⟨⟨rfl,rfl,by decide⟩,?_⟩;show RS _ _ (Ff _ _);walk_at"dx";refine aO (by decide) (by decide) λv E n w x=>?_;walk_at"dx";split;refine iX (.inr (.inl ⟨rfl,rfl⟩)) (by rw[fI];lia) λY H p q=>?_;obtain⟨l,rfl,m⟩:=gN q;walk_at"dx";exact G l H p (by rw[m.length_eq];exact e) (λz g=>f z (m.mem_iff.mp g)) (m.nodup_iff.mpr i)
 simp_all
def Ll{l:List a}(h:j < l.length):atI l (j:Int)=l[j]?:=by
 unfold atI;have e:AL l.length (j:Int)=some j:=by
  unfold AL
  simp_all
 simp_all
def G3(H:0<=e)(h:e<12):∃v:Int,atI [D.int 0,D.int 1,D.int 2,D.int 10,D.int 11,D.int 12,D.int 21,D.int 101,D.int 111,D.int 112,D.int 121,D.int 211] e=some (.int v)/\0<=v/\v<1000:=by
 obtain⟨c,hc⟩:=zE (ys:=[(0:Int),1,2,10,11,12,21,101,111,112,121,211]) H h;exact⟨c,by have:=vQ (f:=D.int) (ys:=[(0:Int),1,2,10,11,12,21,101,111,112,121,211]) (i:=e);rw[hc]at this;exact this,(by decide:∀c∈[(0:Int),1,2,10,11,12,21,101,111,112,121,211],0<=c/\c<1000) c (yI hc)⟩
def G4(h:0<m)(l:m<=1000)(k:∀v g i,0<=v/\v<1000->K (.val (.int v)) [⟨.par,.lst [.int g,.int i]⟩,⟨.val,.int m⟩]):CK bW [⟨.par,.lst [.int a,.int b]⟩,⟨.val,.int m⟩] K:=by
 unfold bW;rw[cB];show RS eL [_,_,none] _;unfold eL;walk_at"dx";refine aO h (by lia) λd A c f n=>?_;walk_at"dx";split;obtain⟨v,j,H⟩:=G3 (e:=d) f (by lia);refine⟨by decide,?_⟩;rw[j];exact k v A c H;exact k d A c ⟨f,by lia⟩
def G5(H:0<=e)(h:e<5):∃m:Int,atI [D.int 2,D.int 3,D.int 5,D.int 12,D.int 1000] e=some (.int m)/\0<m/\m<=1000:=by
 have:e=0\/e=1\/e=2\/e=3\/e=4:=by lia
 rcases this with rfl|rfl|rfl|rfl|rfl<;>exact⟨_,rfl,by decide,by decide⟩
def G6{a:Int}{n:Nat}(b:a=3000\/a=300)(H:1<=n)(h:n<=6):∃(l:List D) (m:Int),atI [D.lst [D.int 40,D.int 40,D.int 14,D.int 7,D.int 4,D.int 3],D.lst [D.int 40,D.int 17,D.int 6,D.int 4,D.int 3,D.int 2]] (if a<2000 then 1 else 0)=some (.lst l)/\atI l ((n:Int)-1)=some (.int m)/\0<=m/\m<=40:=by
 have:n=1\/n=2\/n=3\/n=4\/n=5\/n=6:=by lia
 rcases b with rfl|rfl<;>rcases this with rfl|rfl|rfl|rfl|rfl|rfl<;>exact⟨_,_,rfl,rfl,by decide,by decide⟩
def uZ(b:q∈Q)(h:z∈q.2):z∈bJ Q:=by
 have a:∀ (l:List (Str×List Str)) (A:List Str),(z∈A\/∃ q∈l,z∈q.2)->z∈l.foldl (λA q=>A++q.2.filter λc=>!A.contains c) A:=by
  intro l
  induction l with
  | nil=>
    simp
  | cons p r d=>
    grind
 exact a Q [] (.inr ⟨q,b,h⟩)
def Pz(h:∀k∈j,k.length=n)(g:2<=(sT j).length):∀k∈j,k≠[]:=by
 rintro k i rfl;have d:n=0:=(h [] i).symm;have f:=fL j
 match e:sT j,g with
 | a::b::r,_=>
   rw[e]at f;have c:=(Dg.mp f).1 b pL;have l:=h a ((bY j a).mp (by simp_all));have H:=h b ((bY j b).mp (by rw[e];simp));rw[DB (l.trans d),DB (H.trans d)]at c;cases c
noncomputable abbrev lI(v:List Int):D:=.lst (v.map D.int)
abbrev Vb(a:List Int):Prop:=∀v∈a,0<=v/\v<1000
def drawn{y:Type}{f:y->D}{l:List y}(z:0 < m)(A:m<=1000)(k:∀ (G:List Int) p q,G.length=l.length->Vb G->K (G.map D.int,[some ⟨.par,.lst [.int p,.int q]⟩,N,M,r,some ⟨.val,.int m⟩,s,t,L,u,w,c,e,g,j,n,none,o])) :
  eD (qZ [15] (gY 15) cO (hJ (aI 2 bW (aA (aC 0) (aA (aC 4) aE)))) (l.map f) [some ⟨.par,.lst [.int a,.int b]⟩,N,M,r,some ⟨.val,.int m⟩,s,t,L,u,w,c,e,g,j,n,none,o]) K:=by
 refine dI _ _ (λi H I=>∃(G:List Int) (p q:Int),H=G.map D.int/\G.length=i/\Vb G/\I=[some ⟨.par,.lst [.int p,.int q]⟩,N,M,r,some ⟨.val,.int m⟩,s,t,L,u,w,c,e,g,j,n,none,o]) ⟨[],a,b,rfl,rfl,(λ_ h=>nomatch h),rfl⟩ ?_ ?_;rintro i d H I Q ⟨G,p,q,rfl,B,J,rfl⟩;walk_at"dx";refine G4 z A λv O C E=>?_;walk_at"dx";exact⟨_,rfl,G++[v],O,C,by simp,by simp_all,λx F=>(sU.mp F).elim (J x) λh=>Aa.mp h▸E,rfl⟩;rintro H I ⟨G,p,q,rfl,B,J,rfl⟩;exact k G p q (by simp_all) J
def G7(a:0<=L/\L<=40)(h:0<=e)(H:e<2):∃c:Int,atI [D.int (L+1),D.int ((if 5<L then 5 else L)+1)] e=some (.int c)/\0<c/\c<=41:=by
 have:e=0\/e=1:=by lia
 rcases this with rfl|rfl;exact⟨_,rfl,by lia,Int.lt_of_le_of_lt a.2 h⟩;exact⟨_,rfl,by lia,by lia⟩
abbrev hT(k:List (List Int)):D:=.tup (k.map tI)
abbrev hD(h:List (List (List Int))):D:=.tup (h.map hT)
noncomputable def prL:List (List (List Int))->Nat
 |[]=>1
 |k::r=>k.length*prL r
theorem rZ:∀{h:List (List (List Int))},prL (h++[k])=prL h*k.length
 |[]=>by show k.length*1=1*k.length;simp
 |x::r=>by show x.length*prL (r++[k])=x.length*prL r*k.length;rw[rZ,mul_assoc]
abbrev PB(Q:List (Str×List Str))(h:List (List (List Int))):Prop:=∀(i:Nat) q k,Q[i]?=some q->h[i]?=some k->(∀r∈k,r.length=q.2.length/\Vb r)/\Dq k/\k.length<=40
def Hh(q:List (Str×List Str))(h:List (List (List Int)))(r:Int):Prop:=PB q h/\(∀j,prL (h.take j)<=3000)/\(prL h:Int)*r<=3000
structure Ho(qs:List (Str×List Str))(hs:List (List (List Int))):Prop where
 l:hs.length=qs.length
 w:PB qs hs
 p:∀j,prL (hs.take j)<=3000
def G8(h:c<=3000):Hh Q [] c:=⟨λi q k _ e=>by simp at e,λj=>by rw[List.take_nil];decide,by show((1:Nat):Int)*c<=3000;lia⟩
def Hh.nx(h:Hh Q H u)(t:H.length=i)(l:Q[i]? = some q)(m:∀ r∈v,r.length=q.2.length/\Vb r)(c:Dq v)(d:v.length<=40)(a:(v.length:Int)<=u):Hh Q (H++[v]) (u / (if(v.length:Int) > 1 then(v.length:Int)else 1)):=by
 obtain⟨n,o,k⟩:=h;have L:(prL H:Int)*v.length<=3000:=le_trans (Int.mul_le_mul_of_nonneg_left a (by lia)) k;refine⟨λj p e f b=>?_,λj=>?_,?_⟩
 ·rcases lt_or_ge j H.length with w | w;rw[Bz w]at b;exact n j p e f b;rw[CP w]at b;have s:j-H.length=0:=by
   rcases Nat.eq_zero_or_pos (j-H.length)with z|z;exact z;rw[List.getElem?_eq_none (by simp;exact z)]at b;cases b
  rw[s]at b;cases b;have:j=i:=by lia
  rw[this,l]at f;cases f;exact⟨m,c,d⟩
 ·rcases lt_or_ge H.length j with w|w;rw[Cg (by simp;exact w),rZ];lia;rw[List.take_append_of_le_length w];exact o j
 ·rw[rZ,Int.natCast_mul];have g:(v.length:Int)*(u / (if(v.length:Int) > 1 then(v.length:Int)else 1))<=u:=by
   split;rw[Int.mul_comm];exact Int.ediv_mul_le _ (by lia);rw[Int.ediv_one];have:(v.length:Int)=0\/(v.length:Int)=1:=by lia
   rcases this with z|z;rw[z];lia;rw[z];simp
  rw[Int.mul_assoc];exact le_trans (Int.mul_le_mul_of_nonneg_left g (by lia)) k
def PD{a:Type}{l:List a}{f:a->Nat}(h:Vb v):Vb (l.map λc=>v.getD (f c) 0):=by
 intro x b;obtain⟨c,_,rfl⟩:=oT.mp b;rw[CC];cases e:v[f c]? with
 |none=>simp
 |some y=>exact h y (Ao e)
abbrev oL(k:List (List Int)):Option Sl:=some ⟨.own,.lst (k.map tI)⟩
abbrev hS(d:Int)(Q:List (Str×List Str))(m:Int)(c:List (List Int))(e r:Int)(f:Bool)(h:List (List (List Int)))(q:Str×List Str)(v:Md)(a b L:Int)(s t u:Option Sl):Sg:=[some ⟨.par,.lst [.int a,.int b]⟩,some ⟨.val,qD Q⟩,some ⟨.val,.int d⟩,some ⟨.own,.lst ((bJ Q).map D.str)⟩,some ⟨.val,.int m⟩,some ⟨v,.lst (c.map lI)⟩,some ⟨.val,.int e⟩,some ⟨.val,.int r⟩,some ⟨.val,.bl f⟩,some ⟨.own,.lst (h.map hT)⟩,some ⟨.val,.str q.1⟩,some ⟨.val,.tup (q.2.map D.str)⟩,some ⟨.val,.int L⟩,s,t,none,u]
def G9(hce:o=3000\/o=300)(x:Qc qs)(k:∀ (hs:List (List (List Int))) J M,Ho qs hs->K (.val (hD hs)) [⟨.par,.lst [.int J,.int M]⟩,⟨.val,qD qs⟩,⟨.val,.int o⟩]) :
  CK dJ [⟨.par,.lst [.int a,.int b]⟩,⟨.val,qD qs⟩,⟨.val,.int o⟩] K:=by
 have sl:10000<=sizeLine:=by decide
 unfold dJ;rw[cB];show RS eM [_,_,_,none,none,none,none,none,none,none,none,none,none,none,none,none,none] _;unfold eM;walk_at"dx";refine jP x.qn ?_;have hcl:(bJ qs).length<=600:=by
  have h1:=uV (qs:=qs) (n:=100) λq h=>(x.qn.2 q h).2.1;have h2:=Nat.mul_le_mul_right 100 x.l6;exact hQ h1 h2
 walk_at"dx";refine⟨by decide,aO (by decide) (by decide) λn a1 b1 n0 n5=>?_⟩;obtain⟨m,hm,m0,m1⟩:=G5 n0 n5;walk_at"dx";rw[hm];walk_at"dx";refine aO (by decide) (by decide) λn2 a2 b2 n20 n21=>?_;walk_at"dx";refine⟨by lia,by rw[bI];exact hQ (by lia:n2.toNat<=6) (by decide),?_⟩;refine dI _ _ (λi acc τ=>i<=6/\∃(vss:List (List Int)) (J M:Int),acc=vss.map lI/\vss.length=i/\(∀vs∈vss,vs.length=(bJ qs).length/\Vb vs)/\τ=[some ⟨.par,.lst [.int J,.int M]⟩,_,_,_,_,none,none,none,none,none,none,none,none,none,none,none,none]) ⟨sS _,[],a2,b2,rfl,rfl,by simp,rfl⟩ ?_ ?_;rintro i d acc τ hd ⟨_,vss,J,M,rfl,hl,σ,rfl⟩;obtain⟨hi,rfl⟩:=fD hd;walk_at"dx";refine⟨by rw[fI];lia,drawn m0 m1 λvs a3 b3 t z=>?_⟩;walk_at"dx";refine⟨_,rfl,by lia,vss++[vs],a3,b3,by rw[Aj];rfl,by rw[Av,hl];rfl,?_,rfl⟩;intro y hy;rcases sU.mp hy with h|h;exact σ y h;rw[Aa.mp h];exact⟨t,z⟩;rintro acc τ ⟨_,vss,J,M,rfl,hl,σ,rfl⟩;rw[bI]at hl;have lq:(qs.map qP).length=qs.length:=fI _;walk_at"dx";rw[lq];obtain⟨el,s,he1,hev,ev0,ev1⟩:=G6 hce x.l1 x.l6;have c0:o > 0:=by lia
 rw[he1];walk_at"dx";rw[hev];walk_at"dx";rw[eH c0];refine⟨by decide,by decide,by decide,aO (by decide) (by decide) λn3 a3 b3 n30 n31=>?_⟩;walk_at"dx";generalize decide (n3=0)=be;refine⟨sS _,?_⟩;refine cP (λi τ=>i<=6/\∃(hs:List (List (List Int))) (a b O:Int) (A B C e:Bool) (E F G f:D) (l:Option (List D)),0<=O/\hs.length=i/\Hh qs hs O/\τ=[some ⟨.par,.lst [.int a,.int b]⟩,some ⟨.val,qD qs⟩,some ⟨.val,.int o⟩,some ⟨.own,.lst ((bJ qs).map D.str)⟩,some ⟨.val,.int m⟩,some ⟨.own,.lst (vss.map lI)⟩,some ⟨.val,.int s⟩,some ⟨.val,.int O⟩,some ⟨.val,.bl be⟩,some ⟨.own,.lst (hs.map hT)⟩,ov A E,ov B F,ov C G,wo l,ov e f,none,none]) ⟨sS _,[],a3,b3,o,false,false,false,false,.non,.non,.non,.non,none,by lia,rfl,G8 (by lia),rfl⟩ ?_ ?_
 ·rintro i d τ hd ⟨_,hs,a,b,O,A,B,C,e,E,F,G,f,l,r0,u,v,rfl⟩;obtain⟨q,H,rfl⟩:=eV hd;have hil:i<qs.length:=(hR.mp H).1;have N:=Ao H;have hqq:=x.qn.2 q N;have hq6:=x.l6;simp only[qU,mJ,qV,Ni,Nh,Pd,Nf,Ng,length_cons,length_nil,Nat.reduceAdd,true_and];refine lW (λτ=>τ=(hS o qs m vss s O be hs q .own a b 40 (wo l) (ov e f) none)) ?_ ?_;walk_at"dx";exact⟨_,rfl,rfl⟩
  rintro τ rfl;refine lW (λτ=>∃L:Int,(0<=L/\L<=40/\L<=O)/\τ=(hS o qs m vss s O be hs q .own a b L (wo l) (ov e f) none)) ?_ ?_;walk_at"dx";rw[eH c0];refine⟨_,rfl,_,?_,rfl⟩;split<;>lia
  rintro τ ⟨L0,π,rfl⟩;refine lW (λτ=>∃L:Int,(0<=L/\L<=40/\L<=O)/\τ=(hS o qs m vss s O be hs q .own a b L (wo l) (ov e f) none)) ?_ ?_;walk_at"dx";split;refine⟨_,rfl,_,?_,rfl⟩;split<;>lia;exact⟨_,rfl,_,π,rfl⟩
  rintro τ ⟨L,hL,rfl⟩;clear π;have hcq:(q.2.map D.str).length=q.2.length:=fI _;refine lW (λτ=>∃ks:List (List Int),ks.length<=5/\(∀r∈ks,r.length=q.2.length/\Vb r)/\τ=(hS o qs m vss s O be hs q .own a b L (oL ks) (ov e f) none)) ?_ ?_
  ·simp only[↓Nd,↓Nb,↓mM,↓Nm,↓zX,↓zY,↓zZ,↓MX,↓MY,↓Pc,↓Na,↓MZ];walk_at"dx";refine⟨by rw[fI];lia,aX (λvs=>tI (q.2.map λc=>vs.getD ((bJ qs).idxOf c) 0)) lI vss (hS o qs m vss s O be hs q .lent a b L (wo l) (ov e f) none) rfl (λvs I=>?_) ?_⟩;walk_at"dx";refine⟨by lia,aX (λc=>.int (vs.getD ((bJ qs).idxOf c) 0)) D.str q.2 (hS o qs m vss s O be hs q .lent a b L (wo l) (ov e f) (some ⟨.val,lI vs⟩)) rfl (λc hc=>?_) ?_⟩;walk_at"dx";have P:=uZ N hc;refine⟨P,?_⟩;have hix:=List.idxOf_lt_length_iff.mpr P;have t:=(σ vs I).1;rw[Ll (by rw[fI];lia),An,nL (by lia),CC,nL (by lia)];rfl;walk_at"dx";show kN.val (.tup _)=kN.val (.tup ((q.2.map _).map D.int));rw[map_map];rfl;show PySem.PtK 13 (.own (.lst _)) (hS o qs m vss s O be hs q .own a b L (wo l) (ov e f) none) _;walk_at"dx";refine⟨_,rfl,vss.map λvs=>q.2.map λc=>vs.getD ((bJ qs).idxOf c) 0,by rw[fI];lia,?_,by unfold hS oL;rw[map_map];rfl⟩;intro r w;obtain⟨vs,I,rfl⟩:=oT.mp w;exact⟨fI _,PD (σ vs I).2⟩
  rintro τ ⟨ks0,Q,R,rfl⟩;refine lW (λτ=>∃(ks:List (List Int)) (a b:Int),ks.length<=5/\(∀r∈ks,r.length=q.2.length/\Vb r)/\τ=(hS o qs m vss s O be hs q .own a b L (oL ks) (ov e f) none)) ?_ ?_;walk_at"dx";refine aO (by decide) (by decide) λn4 a4 b4 n40 n41=>?_;walk_at"dx";split;exact⟨sS _,_,rfl,[],a4,b4,sS _,(λr h=>nomatch h),rfl⟩;exact⟨_,rfl,ks0,a4,b4,Q,R,rfl⟩
  rintro τ ⟨ks1,a5,b5,S,T,rfl⟩;clear Q R;refine lW (λτ=>∃(ks:List (List Int)) (a b:Int) (e:Bool) (f:D),ks.length<=45/\(∀r∈ks,r.length=q.2.length/\Vb r)/\τ=(hS o qs m vss s O be hs q .own a b L (oL ks) (ov e f) none)) ?_ ?_
  ·walk_at"dx";refine⟨by decide,aO (by decide) (by decide) λn6 a7 b7 n60 n61=>?_⟩;obtain⟨c,hc,c0,c1⟩:=G7 ⟨hL.1,hL.2.1⟩ n60 n61;walk_at"dx";rw[hc];walk_at"dx";refine aO c0 (by lia) λn7 a8 b8 n70 n71=>?_;walk_at"dx";refine⟨by lia,?_⟩;refine cP (λj τ=>j<=40/\∃(ks:List (List Int)) (a b:Int) (e:Bool) (f:D),ks.length<=5+j/\(∀r∈ks,r.length=q.2.length/\Vb r)/\τ=(hS o qs m vss s O be hs q .own a b L (oL ks) (ov e f) none)) ⟨sS _,ks1,a8,b8,e,f,S,T,rfl⟩ ?_ ?_;rintro j d τ hd ⟨_,ks,a,b,e,f,hk,w,rfl⟩;obtain⟨hj,rfl⟩:=fD hd;walk_at"dx";refine⟨by lia,drawn m0 m1 λvs a9 b9 t z=>?_⟩;walk_at"dx";refine⟨by rw[fI];lia,_,.inl rfl,by lia,ks++[vs],a9,b9,true,_,by rw[Av];simp;exact lt_succ_of_le hk,?_,by unfold hS oL;rw[Aj];rfl⟩;intro y hy;rcases sU.mp hy with h|h;exact w y h;rw[Aa.mp h];exact⟨t,z⟩;rintro τ ⟨hj,ks,a,b,e,f,hk,w,rfl⟩;exact⟨_,rfl,ks,a,b,e,f,by lia,w,rfl⟩
  rintro τ ⟨p,a6,b6,U,V,hk2,W,rfl⟩;clear S T;have hsl:=jO p;walk_at"dx";refine⟨⟨by lia,Pz λr w=>(W r w).1⟩,?_⟩;rw[lX _ hL.1,← DM];have hl3:((sT p).take L.toNat).length<=L.toNat:=by rw[Bi];exact Nat.min_le_left _ _
  have X:∀r∈(sT p).take L.toNat,r.length=q.2.length/\Vb r:=λr w=>W r ((bY p r).mp (BF w));have Y:Dq ((sT p).take L.toNat):=List.Pairwise.sublist (take_sublist _ _) (fL p);generalize (sT p).take L.toNat=g at hl3 X Y ⊢;have l3:(g.map tI).length=g.length:=fI _;rw[l3];have nx:=v.nx u H X Y (by lia) (show(g.length:Int)<=O by lia);have hc:0<(if(g.length:Int) > 1 then(g.length:Int)else 1)/\(if(g.length:Int) > 1 then(g.length:Int)else 1)<=100:=by split<;>lia
  revert hc nx;generalize (if(g.length:Int) > 1 then(g.length:Int)else 1)=c;intro nx hc;refine⟨by rw[fI];lia,⟨hc.1,by lia⟩,_,.inl rfl,by lia,hs++[g],a6,b6,O / c,true,true,true,U,_,_,_,V,some (g.map tI),Int.ediv_nonneg r0 (Int.le_of_lt hc.1),by rw[Av,u];rfl,nx,by rw[Aj];rfl⟩
 ·rintro τ ⟨h6,hs,a,b,O,A,B,C,e,E,F,G,f,l,r0,u,v,rfl⟩;walk_at"dx";exact k hs a b ⟨u.trans (fI _),v.1,v.2.1⟩
def H9(h:a.length<4000/\(2<=(sT a).length->∀k∈a,k≠[]))(k:K (.own (.lst ((sT a).map tI)))):eD (fZ [.tup (a.map tI)]) K:=by rw[q0];exact⟨h,k⟩
noncomputable def pk(c s:List Str)(row:List Int):List Int:=s.map λz=>row.getD (c.idxOf z) 0
def pX{row:List Int}(h:n<row.length):atI (row.map D.int) (n:Int)=some (.int (row.getD n 0)):=by
 unfold atI AL
 simp_all
def eR{a:Type}{l:List a}(h:l.length<=100):l.length<=sizeLine:=hQ h (by decide)
def Hf{c:List Str}(h:z∈c):c.idxOf z<c.length:=List.idxOf_lt_length_of_mem h
def PF(c s:List Str)(row:List Int):tI (pk c s row)=.tup (s.map λz=>.int (row.getD (c.idxOf z) 0)):=by
 unfold tI pk;rw[map_map];rfl
def kO{c s:List Str}(h:∀ z∈s,z∈c)(a:s.length<=100)(k:K (.own (.lst (s.map λz=>.int (c.idxOf z:Nat)))) [⟨.val,.tup (c.map D.str)⟩,⟨.val,.tup (s.map D.str)⟩]) :
  CK bO [⟨.val,.tup (c.map D.str)⟩,⟨.val,.tup (s.map D.str)⟩] K:=by
 unfold bO;rw[cB];show RS eO [_,_,none] _;unfold eO;walk_at"dx";refine⟨eR (by simp_all),aX (λz=>.int (c.idxOf z:Nat)) D.str s [_,_,none] rfl (λz b=>?_) k⟩;walk_at"dx"
 simp_all
def I0{c:List Str}(a:(m=.par\/m=.val)/\r=.lst (ks.map tI)\/m=.val/\r=.tup (ks.map tI))(h:ks.length<4000/\(2<=(sT ks).length->∀k∈ks,k≠[]))
   (k:K (.val (.tup [.tup (c.map D.str),.tup ((sT ks).map tI)])) [⟨.val,.tup (c.map D.str)⟩,⟨m,r⟩]):CK eP [⟨.val,.tup (c.map D.str)⟩,⟨m,r⟩] K:=by
 unfold eP;rw[cB];show RS fQ [_,_] _;unfold fQ;rcases a with⟨rfl|rfl,rfl⟩|⟨rfl,rfl⟩;walk_at"dx";exact⟨h,sl2,k⟩;walk_at"dx";exact⟨h,sl2,k⟩;walk_at"dx";refine H9 h ?_;exact⟨sl2,k⟩
def oE(a:row.length=C.length)(h:∀ z∈s,z∈C)(c:s.length<=100)(k:K (.val (tI (pk C s row))) [⟨.val,tI row⟩,⟨.par,.lst (s.map λz=>.int (C.idxOf z:Nat))⟩]) :
  CK bT [⟨.val,tI row⟩,⟨.par,.lst (s.map λz=>.int (C.idxOf z:Nat))⟩] K:=by
 unfold bT;rw[cB];show RS fO [_,_,none] _;unfold fO;walk_at"dx";refine⟨eR (by simp_all),aX (λz=>.int (row.getD (C.idxOf z) 0)) (λz=>.int (C.idxOf z:Nat)) s [_,_,none] rfl (λz b=>?_) ?_⟩;walk_at"dx";rw[pX (by rw[a];exact Hf (h z b))];rfl;rw[PF]at k;exact k
def PJ(h:cW d=true)(k:K (.val (.bl (!neg)))):eD (AE neg d d) K:=by
 have e:tU d d=true:=SeqAt.eqv_refl _ (cF h).1;show eD (if _ then _ else none) K;rw[aP,e];refine⟨⟨h,h⟩,?_⟩;cases neg<;>exact k
def vA{K:a->Prop}(e:o=some x)(k:K x):eD o K:=bM.mpr ⟨x,e,k⟩
def J0(H:Z[g]?=some none)(h:RI r (Z.set g (some SG)) λI l k=>l=none/\k[g]?=some (some SG)/\I.length<4000/\eD (FR row a b I [] (k.set g none)) λy=>Q (.rt (.own (pT y.1)) (y.2.set g none))):RS (FU g row r a b) Z Q:=by
 obtain⟨x,e,d,f,i,c⟩:=bM.mp h;obtain⟨y,j,q⟩:=bM.mp c;refine vA (x:=.rt (.own (pT y.1)) (y.2.set g none)) ?_ q;unfold FU
 simp_all
theorem PL{h:Type}(u:h->D)(f:h->List Key)(v:h->D)(P:Sg->Prop):∀ (xs:List h) (C:AX) (b:Sg),P b ->
  (∀x∈xs,∀b,P b->eD (gY row (u x) b) λc=>RE i c λr g=>HW r=some (f x)/\RA l g λE d=>vals E=some [v x]/\P d)->(∀b,P b->K (xs.foldl (λa x=>vE (f x) (v x) a) C,b))->eD (FR row i l (xs.map u) C b) K
 |[],C,b,j,_,k=>vA rfl (k b j)
 | x::xs,C,b,j,H,k=>by
   obtain⟨c,m,n⟩:=bM.mp (H x pL b j);obtain⟨⟨r,g⟩,o,p,s⟩:=bM.mp n;obtain⟨⟨E,d⟩,t,w,A⟩:=bM.mp s;obtain⟨z,e,q⟩:=bM.mp (PL (K:=K) u f v P xs (vE (f x) (v x) C) d A (λy B=>H y (Af _ B)) k);refine vA (x:=z) ?_ q;show(gY row (u x) b).bind _=some z;rw[m];show(i c).bind _=some z;rw[o];show(HW r).bind _=some z;rw[p];rw[t];show(vals E).bind _=some z;rw[w];exact e
noncomputable def lk:AX->List Key->Option (List D)
 |[],_=>none
 |p::r,k=>if p.1=k then some p.2 else lk r k
theorem gO:∀ k:List Key,gG (k.map iQ)=some k
 |[]=>rfl
 | x::r=>by
   show(KJ (iQ x)).bind _=_;have e:KJ (iQ x)=some x:=by cases x<;>rfl
   rw[e];rw[gO r];rfl
theorem sA(k:List Key):∀ a:AX,xP (a.map λp=>.tup (p.1.map iQ)) (a.map λp=>.lst p.2) k=some ((lk a k).map .lst)
 |[]=>rfl
 | p::r=>by
   show(gG (p.1.map iQ)).bind _=some ((if p.1=k then some p.2 else lk r k).map D.lst);rw[gO];show(if p.1=k then _ else _)=_;by_cases e:p.1=k
   ·simp_all
   ·rw[a0m e,a0m e];exact sA k r
theorem PM(k j:List Key)(v:D):∀ a:AX,lk (vE k v a) j=if k=j then some ((lk a k).getD []++[v])else lk a j
 |[]=>rfl
 | p::r=>by
   show lk (if p.1=k then _ else _) j=_;by_cases e:p.1=k
   ·rw[eH e];show(if p.1=j then _ else _)=_;by_cases z:k=j
    ·rw[eH (e.trans z),eH z];show _=some ((if p.1=k then some p.2 else _).getD []++[v])
     simp_all
    ·rw[a0m (λq=>z (e.symm.trans q)),a0m z];show _=(if p.1=j then _ else _)
     simp_all
   ·rw[a0m e];show(if p.1=j then _ else _)=_;rw[PM k j v r];show _=if k=j then some ((if p.1=k then some p.2 else lk r k).getD []++[v])else(if p.1=j then _ else _)
    by_cases z:k=j
    ·simp_all
    simp_all
theorem PN{b:Type}(f:b->List Key)(v:b->D)(k:List Key):∀ (xs:List b) (A:AX),((lk (xs.foldl (λa x=>vE (f x) (v x) a) A) k).getD []=(lk A k).getD []++(xs.filter λx=>decide (f x=k)).map v) /\
  ((lk (xs.foldl (λa x=>vE (f x) (v x) a) A) k).isSome=((lk A k).isSome||xs.any λx=>decide (f x=k)))
 |[],A=>by simp
 | x::xs,A=>by
   obtain⟨c,d⟩:=PN f v k xs (vE (f x) (v x) A);rw[foldl_cons,c,d,PM];by_cases e:f x=k;simp[e]
   simp_all
abbrev tD(c:List Str)(k:List (List Int)):D:=.tup [.tup (c.map D.str),.tup (k.map tI)]
def vB{a:List Str}(H:As z)(h:∀ z∈a,As z)(k:K (.val (.bl (if neg=true then !a.contains z else a.contains z)))):eD (AM neg (.str z) (.tup (a.map D.str))) K:=by
 show eD (if _ then _ else none) K;rw[aP];refine⟨⟨rW H,rX h⟩,?_⟩;have e:((a.map D.str).any λy=>tU y (.str z))=a.contains z:=by
  rw[List.any_map,List.contains_eq_any_beq];congr 1;funext y;show(y==z)=(z==y)
  lia
 rw[e];exact k
noncomputable def cmn(c d:List Str):List Str:=c.filter λz=>d.contains z
def yO:∀z∈cmn c d,z∈c:=λz h=>(List.mem_filter.mp h).1
def PQ:∀z∈cmn c d,z∈d:=λz h=>by simpa using(List.mem_filter.mp h).2
def J1(l:List Int):HW (.val (tI l))=some (l.map Sum.inl):=by
 show gG (l.map D.int)=_;have:l.map D.int=(l.map (Sum.inl:Int->Key)).map iQ:=by rw[map_map];rfl
 rw[this,gO]
def Ig(c s m:List Str)(k:List (List Int)):AX:=k.foldl (λa x=>vE ((pk c s x).map Sum.inl) (tI (pk c m x)) a) []
def J2(c:∀ y∈i,y.length=C.length)(h:i.length<=600)(H:∀ z∈s,z∈C)(e:∀ z∈mo,z∈C)(j:s.length<=100)(f:mo.length<=100)
  (k:K (.own (pT (Ig C s mo i))) [⟨.val,tD C i⟩,⟨.val,.tup (s.map D.str)⟩,⟨.val,.tup (mo.map D.str)⟩]) :
  CK fP [⟨.val,tD C i⟩,⟨.val,.tup (s.map D.str)⟩,⟨.val,.tup (mo.map D.str)⟩] K:=by
 unfold fP;rw[cB];show RS gK [_,_,_,none,none,none,none] _;unfold gK;walk_at"dx";refine kO H j ?_;walk_at"dx";refine kO e f ?_;walk_at"dx";refine J0 rfl ?_;walk_at"dx";refine⟨by rw[fI];lia,PL tI (λx=>(pk C s x).map Sum.inl) (λx=>tI (pk C mo x)) (λa=>∃b d,a=[_,_,_,_,_,none,ov b d]) i [] _ ⟨false,.non,rfl⟩ ?_ ?_⟩;rintro x g a ⟨b,d,rfl⟩;walk_at"dx";refine oE (c x g) H j ?_;walk_at"dx";refine⟨J1 _,oE (c x g) e f ?_⟩;exact⟨rfl,true,_,rfl⟩;rintro a ⟨b,d,rfl⟩;exact k
def PR{a:Type}{l:List a}(h:l.length<=3600):l.length<=sizeLine:=hQ h (by decide)
def J3(h:r=.tup l\/r=.lst l):nD r=some l:=by rcases h with rfl|rfl<;>rfl
def PU{ks:List (List Int)}(a:r=.tup (ks.map tI)\/r=.lst (ks.map tI))(d:∀ y∈ks,y.length=C.length)(h:∀ z∈s,z∈C)(c:s.length<=100)(e:ks.length<=3600)
   (k:K (.val (tD s (sT (ks.map (pk C s))))) [⟨.val,.tup [.tup (C.map D.str),r]⟩,⟨.val,.tup (s.map D.str)⟩]) :
  CK lB [⟨.val,.tup [.tup (C.map D.str),r]⟩,⟨.val,.tup (s.map D.str)⟩] K:=by
 unfold lB;rw[cB];show RS uU [_,_,none,none] _;unfold uU;walk_at"dx";refine kO h c ?_;walk_at"dx";rw[J3 a];refine⟨PR (by simp_all),aX (λy=>tI (pk C s y)) tI ks [_,_,_,none] rfl (λy b=>?_) ?_⟩;walk_at"dx";refine oE (d y b) h c ?_;walk_at"dx";walk_at"dx";refine I0 (ks:=ks.map (pk C s)) (.inl ⟨.inl rfl,by simp⟩) ⟨by grind,Pz (n:=s.length) λy b=>?_⟩ ?_;obtain⟨x,_,rfl⟩:=oT.mp b;exact fI ..;exact k
abbrev Tw:=List Str×List (List Int)
abbrev Ez(t:Tw):D:=tD t.1 t.2
theorem sC{a b:Type}{f:a->D}{g:b->D}:∀ {l:List a} {m:List b},CM (l.map f) (m.map g)=(l.zip m).map λp=>D.tup [f p.1,g p.2]
 |[],_|_::_,[]=>rfl
 | x::l,y::m=>by
   show D.tup [f x,g y]::CM (l.map f) (m.map g)=_;rw[sC];rfl
noncomputable def twL(q:List (Str×List Str))(h:List (List (List Int))):List Tw:=(q.zip h).map λp=>(p.1.2,p.2)
def J4(a:h.length=q.length)(b:q.length<=6)(k:K (.own (.lst ((twL q h).map Ez))) [⟨.val,qD q⟩,⟨.val,hD h⟩]):CK dL [⟨.val,qD q⟩,⟨.val,hD h⟩] K:=by
 unfold dL;rw[cB];show RS eN [_,_,none,none] _;unfold eN;walk_at"dx";refine⟨by simp_all,?_⟩;rw[sC];refine⟨hQ (by grind:_<=6) (by decide),aX (λp:(Str×List Str)×List (List Int)=>Ez (p.1.2,p.2)) _ (q.zip h) [_,_,none,none] rfl (λp c=>?_) ?_⟩;walk_at"dx";exact sl2;rw[show(q.zip h).map (λp:(Str×List Str)×List (List Int)=>Ez (p.1.2,p.2))=(twL q h).map Ez by unfold twL;simp];exact k
structure Du(t:Tw):Prop where
 r:∀y∈t.2,y.length=t.1.length
 k:t.2.length<=40
 l:t.1.length<=20
 t:∀z∈t.1,Tx z
def EA(g:List Str)(c:Str)(t:Tw):D:=.tup [.lst ((cmn g t.1).map λz=>.int (g.idxOf z:Nat)),pT (Ig (cmn g t.1++[c]) (cmn g t.1) [c] (sT (t.2.map (pk t.1 (cmn g t.1++[c])))))]
noncomputable def has(c:Str)(t:Tw):Bool:=t.1.contains c
def sD:(cmn cs ds).length<=cs.length:=length_filter_le ..
def J5{T:List Tw}(w:∀ t∈T,Du t)(A:∀ z∈g,Tx z)(I:g.length<=20)(hc:Tx c)(F:T.length<=6)
  (k:K (.own (.lst ((T.filter (has c)).map (EA g c)))) [⟨.par,.lst (T.map Ez)⟩,⟨.val,.tup (g.map D.str)⟩,⟨.val,.str c⟩]) :
  CK cS [⟨.par,.lst (T.map Ez)⟩,⟨.val,.tup (g.map D.str)⟩,⟨.val,.str c⟩] K:=by
 unfold cS;rw[cB];show RS dO [_,_,_,none,none,none,none,none] _;unfold dO;walk_at"dx";refine⟨sS _,?_⟩;refine cP (λi m=>∃(n e f:Bool) (p j l:D),m=[some ⟨.lent,.lst (T.map Ez)⟩,some ⟨.val,.tup (g.map D.str)⟩,some ⟨.val,.str c⟩,some ⟨.own,.lst (((T.take i).filter (has c)).map (EA g c))⟩,ov n p,ov e j,ov f l,none]) ⟨false,false,false,.non,.non,.non,rfl⟩ ?_ ?_
 ·rintro i d m H ⟨n,e,f,p,j,l,rfl⟩;obtain⟨t,a,rfl⟩:=eV H;have o:=w t (Ao a);have B:i < T.length:=(hR.mp a).1;walk_at "dx";refine vB hc.2 (λz h=>(o.t z h).2) ?_;walk_at "dx";by_cases b:has c t=true
  ·have q:c∈t.1:=by simpa[has]using b
   rw[eH (show t.1.contains c=true from b)];refine⟨eR (by rw[fI];lia),cZ (λz=>t.1.contains z) D.str D.str g _ rfl (λz s=>?_) ?_⟩;walk_at"dx";refine vB (A z s).2 (λz h=>(o.t z h).2) ?_;rfl
   rw[show g.filter (λz=>t.1.contains z)=cmn g t.1 from rfl];have G:=sD (cs:=g) (ds:=t.1);have u:∀z∈cmn g t.1++[c],z∈t.1:=λz s=>(sU.mp s).elim (PQ z) λh=>by rw[Aa.mp h];exact q
   walk_at"dx";refine⟨by decide,hQ (by rw[fI];lia:_<=21) (by decide),?_⟩;rw[show(cmn g t.1).map D.str++[D.str c]=(cmn g t.1++[c]).map D.str by rw[Aj];rfl];refine PU (.inl rfl) o.r u (by rw[Av];simp only[length_singleton];lia) (by have:=o.k;lia) ?_;walk_at"dx";have r:=jO (t.2.map (pk t.1 (cmn g t.1++[c])));rw[fI]at r;have v:∀y∈sT (t.2.map (pk t.1 (cmn g t.1++[c]))),y.length=(cmn g t.1++[c]).length:=λy C=>by
    obtain⟨x,_,rfl⟩:=oT.mp ((bY _ y).mp C);exact fI _
   refine⟨by decide,J2 (mo:=[c]) v (by have:=o.k;lia) (λz h=>sU.mpr (.inl h)) (λz h=>sU.mpr (.inr h)) (by lia) (by show 1<=100;decide) ?_⟩;walk_at"dx";refine kO yO (by lia) ?_;walk_at"dx";have E:((T.take i).filter (has c)).length<=6:=hQ (length_filter_le ..) (by rw[Bi];lia);refine⟨by decide,Cb (by rw[fI];exact E) (by decide:6<sizeLine),?_⟩;rw[bU a,filter_append,List.filter_cons_of_pos b,filter_nil,Aj];exact⟨_,.inl rfl,true,true,true,_,_,_,rfl⟩
  ·rw[a0m (show ¬t.1.contains c=true from b)];refine⟨_,.inl rfl,true,e,f,Ez t,j,l,?_⟩;rw[bU a,filter_append,List.filter_cons_of_neg b,filter_nil,Ci];rfl
 ·rintro m ⟨n,e,f,p,j,l,rfl⟩;rw[fI,take_length];walk_at"dx";exact k
def PV(l:List Int):Ok 1 (tI l):=Ok.tup λd h=>by obtain⟨i,_,rfl⟩:=oT.mp h;exact Ok.int
def J6:tI a=tI b↔a=b:=by
 constructor
 ·intro h;have:a.map D.int=b.map D.int:=by simp_all
  exact(List.map_inj_right (f:=D.int) λx y h=>by simp_all).mp this
 simp_all
def J7{l:List (List Int)}(k:K (.val (.bl (decide (a∈l))))):eD (AM false (tI a) (.lst (l.map tI))) K:=OU (PV a) (λx h=>by obtain⟨y,_,rfl⟩:=oT.mp h;exact PV y) (by decide) (by decide) (by
 have:decide (tI a∈l.map tI)=decide (a∈l):=by
  rw[Bool.eq_iff_iff,Dx,Dx,oT];exact⟨λ⟨y,h,e⟩=>J6.mp e▸h,λh=>⟨a,h,rfl⟩⟩
 rw[this];exact k)
def J8{L:List (List (List Int))}(a:L.length<=6)(k:K (.val (.bl (L.all λl=>decide (x∈l)))) [⟨.val,tI x⟩,⟨.par,.lst (L.map λl=>.lst (l.map tI))⟩]) :
  CK fG [⟨.val,tI x⟩,⟨.par,.lst (L.map λl=>.lst (l.map tI))⟩] K:=by
 unfold fG;rw[cB];show RS iN [_,_,none] _;unfold iN;walk_at"dx";refine⟨eR (by grind),KX _ (λl:List (List Int)=>decide (x∈l)) L (λl _=>?_) ?_⟩;walk_at"dx";exact J7 rfl;walk_at"dx"
 simp_all
def J9(a:H.length<=6)(k:K (.own (.lst ((if(H.all λh=>decide (0 < h.length))then[[]]else[]).map tI))) [⟨.val,hD H⟩]) :
  CK cR [⟨.val,hD H⟩] K:=by
 unfold cR;rw[cB];show RS dN [_,none] _;unfold dN;walk_at"dx";refine⟨eR (by grind),KX _ (λh:List (List Int)=>decide (0<h.length)) H (λh _=>?_) ?_⟩;walk_at"dx";simp;walk_at"dx";rw[Pl];by_cases e:(H.all λh=>decide (0<h.length))=true;rw[eH e]at k ⊢;exact⟨sS _,by decide,k⟩;rw[a0m e]at k ⊢
 simp_all
def PX{l m:List Int}(d:l.Pairwise (· < ·))(f:m.Pairwise (· < ·))(h:∀ v,v∈l↔v∈m):l=m:=by
 induction l generalizing m with
 | nil=>
   cases m with
   |nil=>rfl
   |cons b m=>exact nomatch (h b).mpr pL
 | cons a l i=>
   cases m with
   |nil=>exact nomatch (h a).mp pL
   | cons b m=>
     obtain⟨n,L⟩:=Dg.mp d;obtain⟨g,j⟩:=Dg.mp f;have k:a=b:=by
      rcases sY.mp ((h a).mp pL)with e|e;exact e;rcases sY.mp ((h b).mpr pL)with z|z
      ·simp_all
      grind
     subst k;rw[i L j λv=>⟨λc=>?_,λc=>?_⟩];rcases sY.mp ((h v).mp (Af _ c))with e|e;subst e;exact absurd (n v c) (Int.lt_irrefl v);exact e;rcases sY.mp ((h v).mpr (Af _ c))with e|e;subst e;exact absurd (g v c) (Int.lt_irrefl v);exact e
def VL(t:Tw)(g:List Str)(c:Str)(a l:List Int):Prop:=l.Pairwise (· < ·)/\∀v,v∈l↔∃r∈t.2,pk t.1 (cmn g t.1) r=a/\r.getD (t.1.idxOf c) 0=v
def VL.un(a:VL t g c d l)(b:VL t g c d m):l=m:=PX a.1 b.1 λv=>(a.2 v).trans (b.2 v).symm
def PY{c:List Str}(n:c.Nodup)(h:i<c.length):c.idxOf c[i]=i:=List.Nodup.idxOf_getElem n i h
def Lm(n:(s++[c]).Nodup)(d:a.length=s.length):pk (s++[c]) s (a++[v])=a/\pk (s++[c]) [c] (a++[v])=[v]:=by
 constructor
 ·refine EK λi=>?_;unfold pk;rw[An];rcases lt_or_ge i s.length with h|h;have e:(s++[c])[i]'(by rw[Av];lia)=s[i]:=List.getElem_append_left h;have b:=PY n (i:=i) (by rw[Av];lia);rw[e]at b;rw[nL h,map_some,b,CC,Bz (by lia),nL (by lia)];rfl
  grind
 ·have e:(s++[c])[s.length]'(by simp)=c:=by simp
  have b:=PY n (i:=s.length) (by simp);unfold pk
  simp_all
def yP:pk C (s++[c]) r=pk C s r++[r.getD (C.idxOf c) 0]:=by unfold pk;rw[Aj];rfl
def K0{a:List Int}{v w:Int}:Az (a++[v]) (a++[w])=true->v<w:=by
 induction a with
 | nil=>
   intro h;have H:(if v=w then Az [] []else decide (v<w))=true:=h;split at H;cases H
   simp_all
 | cons x a i=>
   intro h;have H:(if x=x then Az (a++[v]) (a++[w])else decide (x<x))=true:=h
   simp_all
def K1(N:(cmn g t.1++[c]).Nodup)(h:∃ r∈t.2,pk t.1 (cmn g t.1) r=d) :
  ∃l,VL t g c d l/\l≠[]/\lk (Ig (cmn g t.1++[c]) (cmn g t.1) [c] (sT (t.2.map (pk t.1 (cmn g t.1++[c]))))) (d.map Sum.inl)=some (l.map λv=>tI [v]):=by
 have w:∀y∈sT (t.2.map (pk t.1 (cmn g t.1++[c]))),∃r∈t.2,y=pk t.1 (cmn g t.1) r++[r.getD (t.1.idxOf c) 0]:=λy j=>by
  obtain⟨r,i,rfl⟩:=oT.mp ((bY _ y).mp j);exact⟨r,i,yP⟩
 have O:=fL (t.2.map (pk t.1 (cmn g t.1++[c])));have M:∀r∈t.2,pk t.1 (cmn g t.1) r++[r.getD (t.1.idxOf c) 0]∈sT (t.2.map (pk t.1 (cmn g t.1++[c]))):=λr i=>(bY _ _).mpr (oT.mpr ⟨r,i,yP⟩);generalize sT (t.2.map (pk t.1 (cmn g t.1++[c])))=Y at w O M ⊢;obtain⟨p,A⟩:=PN (λy=>(pk (cmn g t.1++[c]) (cmn g t.1) y).map (Sum.inl:Int->Key)) (λy=>tI (pk (cmn g t.1++[c]) [c] y)) (d.map Sum.inl) Y [];have I:∀{a b:List Int},a.map (Sum.inl:Int->Key)=b.map Sum.inl↔a=b:=λ{a b}=>⟨λe=>(List.map_inj_right (f:=(Sum.inl:Int->Key)) λx y h=>by injection h).mp e,λe=>by rw[e]⟩;have H:∀r:List Int,(pk t.1 (cmn g t.1) r).length=(cmn g t.1).length:=λr=>fI _;have k:∀y∈Y.filter (λy=>decide ((pk (cmn g t.1++[c]) (cmn g t.1) y).map (Sum.inl:Int->Key)=d.map Sum.inl)),∃r∈t.2,pk t.1 (cmn g t.1) r=d/\y=d++[r.getD (t.1.idxOf c) 0]:=λy j=>by
  obtain⟨j,n⟩:=List.mem_filter.mp j;obtain⟨r,i,rfl⟩:=w y j;have n:=of_decide_eq_true n;rw[(Lm N (H r)).1,I]at n;exact⟨r,i,n,by rw[n]⟩
 have o:∀r∈t.2,pk t.1 (cmn g t.1) r=d->d++[r.getD (t.1.idxOf c) 0]∈Y.filter (λy=>decide ((pk (cmn g t.1++[c]) (cmn g t.1) y).map (Sum.inl:Int->Key)=d.map Sum.inl)):=λr i e=>by
  have m:=M r i;refine List.mem_filter.mpr ⟨e▸m,FY ?_⟩;rw[← e,(Lm N (H r)).1]
 have B:Dq (Y.filter (λy=>decide ((pk (cmn g t.1++[c]) (cmn g t.1) y).map (Sum.inl:Int->Key)=d.map Sum.inl))):=List.Pairwise.sublist List.filter_sublist O;have J:(Y.any λy=>decide ((pk (cmn g t.1++[c]) (cmn g t.1) y).map (Sum.inl:Int->Key)=d.map Sum.inl))=true:=by
  obtain⟨r,i,e⟩:=h;obtain⟨D,E⟩:=List.mem_filter.mp (o r i e);exact List.any_eq_true.mpr ⟨_,D,E⟩
 rw[J,Bool.or_true]at A;generalize Y.filter (λy=>decide ((pk (cmn g t.1++[c]) (cmn g t.1) y).map (Sum.inl:Int->Key)=d.map Sum.inl))=Q at p k o B;have F:(d.length=(cmn g t.1).length):=by obtain⟨r,_,e⟩:=h;rw[← e];exact H r
 refine⟨Q.map λy=>y.getLastD 0,⟨List.pairwise_map.mpr (imp_of_mem (λ{a b} U T q=>?_) B),λv=>⟨λs=>?_,λs=>?_⟩⟩,?_,?_⟩;obtain⟨r,_,_,rfl⟩:=k a U;obtain⟨G,_,_,rfl⟩:=k b T;simpa using K0 q;obtain⟨y,j,rfl⟩:=oT.mp s;obtain⟨r,i,e,rfl⟩:=k y j;exact⟨r,i,e,by simp⟩;obtain⟨r,i,e,rfl⟩:=s;exact oT.mpr ⟨_,o r i e,by simp⟩;obtain⟨r,i,e⟩:=h;intro z;have:=o r i e;rw[List.map_eq_nil_iff.mp z]at this;exact nomatch this;obtain⟨L,C⟩:=Option.isSome_iff_exists.mp A;rw[C]at p;unfold Ig;rw[C];have u:L=Q.map λy=>tI (pk (cmn g t.1++[c]) [c] y):=p;rw[u,map_map];refine BO some (map_congr_left λy j=>?_);obtain⟨r,i,e,rfl⟩:=k y j;rw[(Lm N F).2];simp
def K2(A:AX)(h:RE g Z λx b=>RD b x λj=>KL j=true/\RE i b λy c=>RE f c λz a=>z=.own (.lst [])/\RD a x λd=>RD a y λe=>∃ l,d=pT A/\e=tI l/\∀ v,(v=.val (.lst ((lk A (l.map Sum.inl)).getD []))\/v=.own (.lst ((lk A (l.map Sum.inl)).getD [])))->Q v a):RE (Hb g i f) Z Q:=by
 obtain⟨⟨x,b⟩,m,h⟩:=bM.mp h;obtain⟨j,n,H,h⟩:=bM.mp h;obtain⟨⟨y,c⟩,o,h⟩:=bM.mp h;obtain⟨⟨z,a⟩,p,q,h⟩:=bM.mp h;obtain⟨d,r,h⟩:=bM.mp h;obtain⟨e,s,l,rfl,rfl,k⟩:=bM.mp h;have t:Ji (pT A) (tI l)=some ((lk A (l.map Sum.inl)).map D.lst):=by
  show(gG (l.map D.int)).bind _=_;have:l.map D.int=(l.map (Sum.inl:Int->Key)).map iQ:=by rw[map_map];rfl
  rw[this,gO];exact sA _ A
 have u:Hb g i f Z=some ((match (lk A (l.map Sum.inl)).map D.lst with|some v=>.val v|none=>z),a):=by
  unfold Hb;rw[m];show(rd b x).bind _=_;rw[n];show(if KL j=true then _ else none)=_;rw[eH H,o];show(f c).bind _=_;rw[p];show(rd a x).bind _=_;rw[r];rw[s];show(Ji (pT A) (tI l)).bind _=_;rw[t];rfl
 refine vA u (k _ ?_);subst q;cases w:lk A (l.map Sum.inl)with
 |none|some v=>simp
open Classical in
noncomputable def EB(k:List Key)(L:List D)(a:AX):AX:=if k∈a.map Prod.fst then a.map λp=>if p.1=k then(p.1,L)else p else a++[(k,L)]
def K3:(EB k L a).length<=a.length+1:=by
 unfold EB;split;simp
 simp
def K4(h:k∉A.map Prod.fst):lk A k=none:=by
 induction A with
 |nil=>rfl
 | cons p r i=>
   have a:¬p.1=k:=λe=>h (by rw[← e];exact pL);show(if p.1=k then some p.2 else lk r k)=none;rw[a0m a];exact i λz=>h (Af _ z)
def K5(k j:List Key)(L:List D)(A:AX):lk (EB k L A) j=if k=j then some L else lk A j:=by
 unfold EB;by_cases a:k∈A.map Prod.fst
 ·rw[eH a]
  induction A with
  |nil=>simp_all
  | cons p r i=>
    show(if(if p.1=k then(p.1,L)else p).1=j then some (if p.1=k then(p.1,L)else p).2 else lk (r.map λp=>if p.1=k then(p.1,L)else p) j)=if k=j then some L else if p.1=j then some p.2 else lk r j
    by_cases e:p.1=k
    ·rw[eH e];subst e;by_cases f:p.1=j
     ·simp_all
     ·rw[a0m f,a0m f,a0m f];by_cases b:p.1∈r.map Prod.fst;rw[i b,a0m f];rw[show(r.map λq=>if q.1=p.1 then(q.1,L)else q)=r from ?_];refine(map_congr_left (g:=id) λq c=>?_).trans (List.map_id r);have h:¬q.1=p.1:=λz=>b (oT.mpr ⟨q,c,z⟩)
      simp_all
    ·rw[a0m e];have b:k∈r.map Prod.fst:=(sY.mp a).resolve_left λz=>e z.symm;by_cases f:p.1=j;rw[eH f,eH f,a0m (λz=>e (f.trans z.symm))];rw[a0m f,a0m f,i b]
 ·rw[a0m a];have d:lk (A++[(k,L)]) j=(lk A j).or (if k=j then some L else none):=by
   clear a
   induction A with
   |nil=>rfl
   | cons p r i=>
     show(if p.1=j then some p.2 else lk (r++[(k,L)]) j)=(if p.1=j then some p.2 else lk r j).or _;by_cases f:p.1=j
     ·simp_all
     simp_all
  rw[d];by_cases f:k=j;subst f;rw[K4 a,eH rfl];rfl
  simp_all
def K6(h:A.length < 4000):He k (.lst L) (pT A)=some (pT (EB k L A)):=by
 have b:A.map (λp=>D.tup (p.1.map iQ))=(A.map Prod.fst).map λk=>D.tup (k.map iQ):=by simp
 unfold pT He;dsimp only;rw[b,OX];show(if(A.map Prod.fst).length<4000 then _ else none)=_;rw[fI,eH h];unfold EB;by_cases a:k∈A.map Prod.fst
 ·rw[eH a,eH a];have c:(A.map λp=>if p.1=k then(p.1,L)else p).map (λp=>D.tup (p.1.map iQ))=(A.map Prod.fst).map λk=>D.tup (k.map iQ):=by
   rw[map_map,map_map];refine map_congr_left λp _=>?_
   lia
  have d:Ic k (.lst L) (A.map Prod.fst) (A.map λp=>D.lst p.2)=(A.map λp=>if p.1=k then(p.1,L)else p).map λp=>D.lst p.2:=by
   clear h a c b
   induction A with
   |nil=>rfl
   | cons p r i=>
     show(if p.1=k then D.lst L else D.lst p.2)::Ic k (.lst L) (r.map Prod.fst) (r.map λp=>D.lst p.2)=D.lst (if p.1=k then(p.1,L)else p).2::_;rw[i];by_cases e:p.1=k;rw[eH e,eH e];rw[a0m e,a0m e]
  rw[c,d]
 ·rw[a0m a,a0m a,Aj,Aj,b];rfl
def K7(A:AX)(l:List Int)(h:RE c Z λx i=>∃ L,x=.val (.lst L)/\i[j]? = some (some ⟨.val,tI l⟩)/\i[k]? = some (some ⟨.own,pT A⟩)/\A.length < 4000/\Q (.nx (i.set k (some ⟨.own,pT (EB (l.map Sum.inl) L A)⟩)))):RS (Ie k j c) Z Q:=by
 obtain⟨⟨x,i⟩,d,L,rfl,e,f,g,q⟩:=bM.mp h;refine vA (x:=.nx (i.set k (some ⟨.own,pT (EB (l.map Sum.inl) L A)⟩))) ?_ q;unfold Ie;rw[d];show(match i[j]? with
  |some (some ⟨.val,.tup l⟩)=>(gG l).bind λz=>(zN (λa _=>(He z (.lst L) a).map λb=>(b,.non)) k [] i).bind λy=>some (BR.nx y.2)
  |_=>none)=_
 rw[e];show(gG (l.map D.int)).bind _=_;have:l.map D.int=(l.map (Sum.inl:Int->Key)).map iQ:=by rw[map_map];rfl
 rw[this,gO];unfold zN;rw[f];show(((He (l.map Sum.inl) (.lst L) (pT A)).map λb=>(b,D.non)).bind _).bind _=_;rw[K6 g];rfl
def LV(k:List Int->List Int)(c:List Int->Int)(b:List (List Int))(A:AX):Prop:=A.length<=b.length/\∀a:List Int,if(∃r∈b,k r=a)then ∃l:List Int,lk A (a.map Sum.inl)=some (l.map D.int)/\l.length<=b.length/\l.Pairwise (· < ·)/\∀v,v∈l↔∃r∈b,k r=a/\c r=v else lk A (a.map Sum.inl)=none
def K8{a b:List Int}:a.map (Sum.inl:Int->Key)=b.map Sum.inl↔a=b:=⟨λe=>(List.map_inj_right (f:=(Sum.inl:Int->Key)) λx y h=>by simp_all).mp e,λe=>by rw[e]⟩
def PZ(l:List Int):(oR l).Pairwise (· < ·):=by
 refine List.pairwise_map.mpr (imp_of_mem (λ{a b} H h c=>?_) (fL (l.map one)));obtain⟨x,_,rfl⟩:=oT.mp ((bY _ a).mp H);obtain⟨y,_,rfl⟩:=oT.mp ((bY _ b).mp h);rw[Oe,Dx]at c;exact c
def yQ(l:List Int):(oR l).length<=l.length:=by
 unfold oR;rw[fI];exact hQ (jO _) (le_of_eq (fI _))
open Classical in
def LV.step(h:LV s u t A)(r:List Int):∃ l:List Int,(lk A ((s r).map Sum.inl)).getD []=l.map D.int/\l.length<=t.length/\LV s u (t++[r]) (EB ((s r).map Sum.inl) ((oR (l++[u r])).map D.int) A):=by
 obtain⟨p,o⟩:=h;have j:=o (s r);have E:∃l:List Int,(lk A ((s r).map Sum.inl)).getD []=l.map D.int/\l.length<=t.length/\∀v,v∈l↔∃x∈t,s x=s r/\u x=v:=by
  by_cases e:∃x∈t,s x=s r;rw[eH e]at j;obtain⟨l,a,b,c,d⟩:=j;exact⟨l,by rw[a];rfl,b,d⟩;rw[a0m e]at j;exact⟨[],by rw[j];rfl,sS _,λv=>⟨(λz=>nomatch z),λ⟨x,g,a,_⟩=>absurd ⟨x,g,a⟩ e⟩⟩
 obtain⟨l,a,b,d⟩:=E;refine⟨l,a,b,by rw[Av];exact hQ K3 (succ_le_succ p),λi=>?_⟩;rw[K5];by_cases e:s r=i
 ·subst e;rw[eH ⟨r,sU.mpr (.inr pL),rfl⟩,eH rfl];refine⟨_,rfl,?_,PZ _,λv=>?_⟩;refine hQ (yQ _) ?_;rw[Av,Av];exact succ_le_succ b;rw[Of,sU,d];constructor;rintro(⟨x,g,a,b⟩|q);exact⟨x,sU.mpr (.inl g),a,b⟩;exact⟨r,sU.mpr (.inr pL),rfl,(Aa.mp q).symm⟩;rintro⟨x,g,a,b⟩;rcases sU.mp g with g|g;exact .inl ⟨x,g,a,b⟩;cases Aa.mp g;exact .inr (by rw[b];exact pL)
 ·rw[a0m λz=>e (K8.mp z)];have k:=o i;by_cases f:∃x∈t,s x=i;rw[eH f]at k;obtain⟨x,g,n⟩:=f;rw[eH ⟨x,sU.mpr (.inl g),n⟩];obtain⟨m,a,b,c,d⟩:=k;refine⟨m,a,by rw[Av];exact le_succ_of_le b,c,λv=>(d v).trans ⟨λ⟨x,g,a,b⟩=>⟨x,sU.mpr (.inl g),a,b⟩,λw=>?_⟩⟩;obtain⟨x,g,a,b⟩:=w;rcases sU.mp g with g|g;exact⟨x,g,a,b⟩;cases Aa.mp g;exact absurd a e;rw[a0m f]at k;rw[a0m,k];rintro⟨x,g,n⟩;rcases sU.mp g with g|g;exact f ⟨x,g,n⟩;cases Aa.mp g;exact e n
def K9{n:Type}{g:D->Sg->Option Sg}(p:n->Bool)(f:n->D)(u:n->D)(xs:List n)(j:Sg)(o:a=j)
  (C:∀x∈xs,eD (g (u x) j) λl=>RT t l λb c=>b=p x/\aW O c=j/\(p x=true->RE e c λr m=>r=.val (f x)/\aW O m=j)) (k:K ((xs.filter p).map f,j)):eD (qZ O g t e (xs.map u) a) K:=by
 subst o;refine dI _ _ (λi B A=>B=((xs.take i).filter p).map f/\A=a) ⟨rfl,rfl⟩ ?_ ?_
 ·rintro i d B A H ⟨rfl,rfl⟩;rw[An]at H;obtain⟨x,q,rfl⟩:=Bg.mp H;refine aS (C x (Ao q)) λl w=>yK w λb c s=>?_;obtain⟨rfl,s,y⟩:=s;have o:(xs.take (i+1)).filter p=(xs.take i).filter p++(if p x=true then[x]else[]):=by
   rw[Ed,q,filter_append];cases h:p x<;>simp[h]
  by_cases v:p x=true
  ·rw[eH v];refine yL (y v) λr m z=>?_
   simp_all
  simp_all
 simp_all
def L1:RE Jj Z Q=Q (.own (.dic [] [])) Z:=rfl
theorem Jt:D.tup (s.map λz=>.int (row.getD (c.idxOf z) 0))=tI (pk c s row):=(PF c s row).symm
def L3(h:n.length<4000)(a:(oR n).length<64)(k:K (.own (.lst ((oR n).map D.int)))):eD (kH [.lst (n.map D.int)]) K:=by
 refine vA (x:=.own (.lst ((oR n).map D.int))) ?_ k;show(oQ (n.map D.int)).bind _=_;rw[nR]
 simp_all
noncomputable abbrev Dw(t:Tw)(c:Str)(r:List Int):Int:=r.getD (t.1.idxOf c) 0
def L4(o:Du t)(hc:c∈t.1)(G:Tx c)(x:∀ z∈g,Tx z)(O:g.length<=20)
  (k:∀I,LV (pk t.1 (cmn g t.1)) (Dw t c) t.2 I->K (.own (pT I)) [⟨.val,.tup (t.1.map D.str)⟩,⟨.val,.tup (t.2.map tI)⟩,⟨.val,.tup (g.map D.str)⟩,⟨.val,.str c⟩]) :
  CK cM [⟨.val,.tup (t.1.map D.str)⟩,⟨.val,.tup (t.2.map tI)⟩,⟨.val,.tup (g.map D.str)⟩,⟨.val,.str c⟩] K:=by
 unfold cM;rw[cB];show RS eQ [_,_,_,_,none,none,none,none,none,none,none] _;unfold eQ;walk_at"dx";refine⟨eR (by rw[fI];lia),K9 (λz=>t.1.contains z) (λz=>.int (t.1.idxOf z:Nat)) D.str g _ rfl (λz e=>?_) ?_⟩;walk_at"dx";refine vB (x z e).2 (λz h=>(o.t z h).2) ?_;walk_at"dx";intro h;simpa using h
 rw[show g.filter (λz=>t.1.contains z)=cmn g t.1 from rfl];walk_at"dx";refine⟨hc,?_⟩;rw[L1];walk_at"dx";refine cP (λi J=>∃(I:AX) (f j:Bool) (m p:D),LV (pk t.1 (cmn g t.1)) (Dw t c) (t.2.take i) I/\J=[some ⟨.val,.tup (t.1.map D.str)⟩,some ⟨.val,.tup (t.2.map tI)⟩,some ⟨.val,.tup (g.map D.str)⟩,some ⟨.val,.str c⟩,some ⟨.own,.lst ((cmn g t.1).map λz=>.int (t.1.idxOf z:Nat))⟩,some ⟨.val,.int (t.1.idxOf c:Nat)⟩,some ⟨.own,pT I⟩,ov f m,ov j p,none,none]) ⟨[],false,false,.non,.non,⟨hC _,λy=>by simp;rfl⟩,rfl⟩ ?_ ?_
 ·rintro i d J M ⟨I,f,j,m,p,L,rfl⟩;obtain⟨r,a,rfl⟩:=eV M;have q:=Ao a;have b:=o.r r q;have A:i < t.2.length:=(hR.mp a).1;have H:=sD (cs:=g) (ds:=t.1);have u:=o.k;have B:I.length < 4000:=by have:=L.1;rw[Bi]at this;lia
  walk_at"dx";refine⟨eR (by rw[fI];lia),aX (λz=>.int (r.getD (t.1.idxOf z) 0)) _ (cmn g t.1) _ rfl (λz e=>?_) ?_⟩;walk_at"dx";rw[pX (by rw[b];exact Hf (PQ z e))];rfl
  walk_at"dx";simp only[Jt];refine K7 I (pk t.1 (cmn g t.1) r) ?_;obtain⟨l,C,E,s⟩:=L.step r;rw[Bi]at E;walk_at"dx";refine K2 I ?_;walk_at"dx";refine⟨rfl,sS _,_,rfl,λv w=>?_⟩;rw[C]at w;have F:=pX (row:=r) (n:=t.1.idxOf c) (by rw[b];exact Hf hc);rcases w with rfl|rfl
  all_goals
   walk_at"dx";rw[F];walk_at"dx";refine⟨by decide,hQ (by rw[fI];lia:_<=41) (by decide),?_⟩;rw[show l.map D.int++[D.int (r.getD (t.1.idxOf c) 0)]=(l++[Dw t c r]).map D.int by rw[Aj];rfl];have N:(l++[Dw t c r]).length<=41:=by rw[Av];have:=o.k;simp only[length_singleton];lia
   refine L3 (by lia) (by have:=yQ (l++[Dw t c r]);lia) ?_;walk_at"dx";refine⟨_,rfl,B,_,.inl rfl,_,true,true,_,_,by rw[bU a];exact s,rfl⟩
 ·rintro J ⟨I,f,j,m,p,L,rfl⟩;rw[fI,take_length]at L;walk_at"dx";exact k I L
def CB(t:Tw)(g:List Str)(c:Str)(a:List Int):List Int:=oR ((t.2.filter λr=>decide (pk t.1 (cmn g t.1) r=a)).map (Dw t c))
def Ju(t:Tw)(g:List Str)(c:Str)(a:List Int):VL t g c a (CB t g c a):=by
 refine⟨PZ _,λv=>?_⟩;unfold CB;rw[Of,oT];constructor;rintro⟨r,b,e⟩;obtain⟨d,f⟩:=List.mem_filter.mp b;exact⟨r,d,of_decide_eq_true f,e⟩;rintro⟨r,b,h,e⟩;exact⟨r,List.mem_filter.mpr ⟨b,FY h⟩,e⟩
def Qa:(CB t g c a).length<=t.2.length:=by
 refine hQ (yQ _) ?_;rw[fI];exact length_filter_le ..
def Jv(t:Tw)(g:List Str)(a:List Int):Prop:=∃r∈t.2,pk t.1 (cmn g t.1) r=a
def L5(n:(cmn g t.1++[c]).Nodup)(h:Jv t g d) :
  lk (Ig (cmn g t.1++[c]) (cmn g t.1) [c] (sT (t.2.map (pk t.1 (cmn g t.1++[c]))))) (d.map Sum.inl)=some ((CB t g c d).map λv=>tI [v]):=by
 obtain⟨l,a,_,b⟩:=K1 (c:=c) n h;rw[b,a.un (Ju t g c d)]
def L6(h:LV (pk t.1 (cmn g t.1)) (Dw t c) t.2 A)(m:Jv t g e):lk A (e.map Sum.inl)=some ((CB t g c e).map D.int):=by
 have:=h.2 e;rw[eH (show ∃r∈t.2,pk t.1 (cmn g t.1) r=e from m)]at this;obtain⟨l,a,_,b,d⟩:=this;have v:VL t g c e l:=⟨b,d⟩;rw[a,v.un (Ju t g c e)]
def Qb(h:lk A (a.map Sum.inl)=some L)(k:K (.val (.lst L))):eD (Ew (pT A) (tI a)) K:=by
 refine vA (x:=.val (.lst L)) ?_ k;show(gG (a.map D.int)).bind _=_;have:a.map D.int=(a.map (Sum.inl:Int->Key)).map iQ:=by rw[map_map];rfl
 rw[this,gO];show(xP _ _ (a.map Sum.inl)).bind _=_;rw[sA,h];rfl
def L7{L:List (List Int)}(c:∀l∈L,l.Pairwise (· < ·))(h:a∈L)(hb:b∈L):(a.filter λv=>L.all λl=>decide (v∈l))=b.filter λv=>L.all λl=>decide (v∈l):=by
 refine PX (filter _ (c a h)) (filter _ (c b hb)) λv=>?_
 grind
def L8(l:List D)(r:List (List D)):∃ m∈l::r,(∀ x∈l::r,m.length<=x.length)/\mB (.lst l) l.length (r.map D.lst)=some (.lst m):=by
 induction r generalizing l with
 |nil=>exact⟨l,pL,λx b=>by simp_all,rfl⟩
 | cons a r i=>
   by_cases h:a.length<l.length
   ·obtain⟨m,d,c,e⟩:=i a;refine⟨m,Af _ d,λx b=>?_,?_⟩;rcases sY.mp b with rfl|b;exact hQ (c a pL) (Aq h);exact c x b;show(if a.length<l.length then mB (.lst a) a.length (r.map D.lst)else mB (.lst l) l.length (r.map D.lst))=_
    simp_all
   ·obtain⟨m,d,c,e⟩:=i l;refine⟨m,?_,λx b=>?_,?_⟩
    ·grind
    ·rcases sY.mp b with rfl | b
     ·simp_all
     ·rcases sY.mp b with rfl|b;exact hQ (c l pL) (DK h)
      simp_all
    ·show(if a.length<l.length then mB (.lst a) a.length (r.map D.lst)else mB (.lst l) l.length (r.map D.lst))=_;rw[a0m h];exact e
def L9(n:L≠[])(k:∀m∈L,(∀x∈L,m.length<=x.length)->K (.val (.lst m))):eD (Ha [.lst (L.map D.lst)]) K:=by
 cases L with
 |nil=>simp_all
 | cons l r=>
   obtain⟨m,a,b,c⟩:=L8 l r;refine vA (x:=.val (.lst m)) ?_ (k m a b);show(mB (.lst l) l.length (r.map D.lst)).map kN.val=_
   simp_all
def M0(a:row.length=C.length)(h:∀ z∈s,z∈C)(c:s.length<=100)(k:K (.val (tI (pk C s row))) [⟨.val,tI row⟩,⟨.val,.lst (s.map λz=>.int (C.idxOf z:Nat))⟩]) :
  CK bT [⟨.val,tI row⟩,⟨.val,.lst (s.map λz=>.int (C.idxOf z:Nat))⟩] K:=by
 unfold bT;rw[cB];show RS fO [_,_,none] _;unfold fO;walk_at"dx";refine⟨eR (by simp_all),aX (λz=>.int (row.getD (C.idxOf z) 0)) (λz=>.int (C.idxOf z:Nat)) s [_,_,none] rfl (λz b=>?_) ?_⟩;walk_at"dx";rw[pX (by rw[a];exact Hf (h z b))];rfl;walk_at"dx";rw[Jt];exact k
def lsA(T:List Tw)(g:List Str)(c:Str)(row:List Int):List (List Int):=(T.filter (has c)).map λt=>CB t g c (pk g (cmn g t.1) row)
noncomputable def DX(L:List (List Int))(v:Int):Bool:=L.all λl=>decide (v∈l)
def De(l:List (List Int))(row:List Int):List (List Int):=((l.headD []).filter (DX l)).map λv=>row++[v]
noncomputable def mnL(l:List (List Int)):Nat:=((l.map List.length).min?).getD 0
def Qd(h:m∈l)(a:∀ x∈l,m.length<=x.length):m.length=mnL l:=by
 unfold mnL;have:(l.map List.length).min?=some m.length:=List.min?_eq_some_iff.mpr ⟨List.mem_map_of_mem h,λb H=>by
  obtain⟨x,c,rfl⟩:=oT.mp H
  simp_all⟩
 simp_all
def sK(T:List Tw)(g:List Str)(row:List Int):Prop:=row.length=g.length/\∀t∈T,Jv t g (pk g (cmn g t.1) row)
def yR:∀l∈lsA ts g c row,l.Pairwise (· < ·):=λl a=>by
 obtain⟨t,_,rfl⟩:=oT.mp a;exact(Ju ..).1
def Qe(b:∀l∈L,l.Pairwise (· < ·))(h:m∈L):(m.filter (DX L)).map (λv=>row++[v])=De L row:=by
 cases L with
 |nil=>grind
 |cons a r=>exact BO _ (L7 b h pL)
def sE:cmn (g++[c]) d=cmn g d++if d.contains c=true then[c]else[]:=by
 unfold cmn;rw[filter_append,List.filter_cons,filter_nil]
def Qg(a:row.length=g.length)(h:∀z∈s,z∈g):pk (g++[c]) s (row++[v])=pk g s row:=by
 refine map_congr_left λz b=>?_
 grind
def M3(a:row.length=g.length)(hc:c∉g):pk (g++[c]) [c] (row++[v])=[v]:=by
 unfold pk;rw[List.map_singleton,List.idxOf_append,a0m hc,List.idxOf_cons_self,CC,Bj,← a,CP (hC _),Nat.sub_self];rfl
def M4(h:sK T g row)(hc:c∉g)(j:DX (lsA T g c row) v=true):sK T (g++[c]) (row++[v]):=by
 obtain⟨a,k⟩:=h;refine⟨by simp_all,λt i=>?_⟩;by_cases e:t.1.contains c=true
 ·have l:CB t g c (pk g (cmn g t.1) row)∈lsA T g c row:=oT.mpr ⟨t,List.mem_filter.mpr ⟨i,e⟩,rfl⟩;have b:=of_decide_eq_true (DJ.mp j _ l);obtain⟨r,d,f,m⟩:=((Ju t g c _).2 v).mp b;refine⟨r,d,?_⟩;rw[sE,eH e,yP,f];have:pk (g++[c]) (cmn g t.1++[c]) (row++[v])=pk (g++[c]) (cmn g t.1) (row++[v])++pk (g++[c]) [c] (row++[v]):=by unfold pk;rw[Aj]
  rw[this,Qg a yO,M3 a hc]
  simp_all
 ·obtain⟨r,d,f⟩:=k t i;refine⟨r,d,?_⟩;rw[sE,a0m e,Ci,Qg a yO];exact f
def M5(h:sK t g row)(hc:c∉g):∀y∈De (lsA t g c row) row,sK t (g++[c]) y:=λy a=>by
 obtain⟨v,b,rfl⟩:=oT.mp a;exact M4 h hc (List.mem_filter.mp b).2
def M6(h:∀t∈T,t.2≠[]):sK T [] []:=⟨rfl,λt a=>by
 obtain⟨r,b⟩:=List.exists_mem_of_ne_nil _ (h t a);exact⟨r,b,rfl⟩⟩
def Qh{a b:Nat}(h:a<=1000)(hb:b<=1000):PySem.nG (a:Int) (b:Int):=.inl (.inl ⟨by lia,by lia⟩)
def M7:((L.map λl=>l.map λx=>[x]).all λl=>decide ([v]∈l))=DX L v:=by
 rw[List.all_map];congr 1
 grind
def M8:eD (Hc (.int a) (.int b)) K=K (.val (.int (a+b))):=rfl
def Ln:DS:=(aR (aU 12 (bB [14,15] (Ad (aC 9)) (eA 2 (aM (gY 14) (aM (gY 15) fA))) cO (aJ Ew (aC 15) (aI 2 bT (aA (aC 11) (aA (aC 14) aE))))))
 (aR (aU 13 (hB Ha (aA (aC 12) aE)))
 (aR (Ib 6 Hc (aJ pH (hB iB (aA (aC 13) aE)) (hB iB (aA (aC 12) aE))))
 (dA (lY "list" 10 Dp (aA (bB [16] (Ad (aC 13)) (gY 16) (cJ (aI 2 fG (aA (aC 16) (aA (aC 12) aE)))) (hJ (aJ fB (aC 11) (aC 16)))) aE))))))
abbrev bS(d l k e f g:Option Sl)(L:Int)(s h:Option Sl)(i:D)(j:List (List Int))(a b c:Option Sl):Sg:=[d,l,k,e,f,g,some ⟨.val,.int L⟩,s,h,some ⟨.own,i⟩,some ⟨.own,.lst (j.map tI)⟩,a,b,c,none,none,none]
def M9(j:sK ts g row)(gl:g.length<=20)(T:∀ t∈ts,Du t)(t6:ts.length<=6)(nd:∀ t∈ts,(cmn g t.1++[c]).Nodup)(hc:∃ t∈ts,has c t=true)(I:0<=N)(l1:N<=100000000)(B:b.length<=1000000)
  (k:∀n a,Q (.nx (bS r s1 s2 s u w (N+(mnL (lsA ts g c row)*(lsA ts g c row).length:Nat)) s7 y (.lst ((ts.filter (has c)).map (EA g c))) (b++De (lsA ts g c row) row) (some ⟨.val,tI row⟩) (fo n) (ov true a)))) :
  RS Ln (bS r s1 s2 s u w N s7 y (.lst ((ts.filter (has c)).map (EA g c))) b (some ⟨.val,tI row⟩) (fo Y) (ov U a)) Q:=by
 unfold Ln;have C:(ts.filter (has c)).length<=6:=hQ (length_filter_le ..) t6;walk_at"dx";refine⟨eR (by rw[fI];lia),aX (λt=>.lst ((CB t g c (pk g (cmn g t.1) row)).map λv=>tI [v])) (EA g c) (ts.filter (has c)) _ rfl (λt o=>?_) ?_⟩;have d:=(List.mem_filter.mp o).1;unfold EA;walk_at"dx";have J:=sD (cs:=g) (ds:=t.1);refine M0 j.1 yO (by lia) ?_;walk_at"dx";refine Qb (L5 (nd t d) (j.2 t d)) ?_;rfl
 walk_at"dx";have e:=yR (ts:=ts) (g:=g) (c:=c) (row:=row);have A:(lsA ts g c row).length<=6:=by unfold lsA;rw[fI];exact C
 have O:lsA ts g c row≠[]:=λz=>by
  obtain⟨t,E,F⟩:=hc;have:CB t g c (pk g (cmn g t.1) row)∈lsA ts g c row:=oT.mpr ⟨t,List.mem_filter.mpr ⟨E,F⟩,rfl⟩;rw[z]at this;exact nomatch this
 have f:∀l∈lsA ts g c row,l.length<=40:=λl h=>by
  obtain⟨t,o,rfl⟩:=oT.mp h;exact hQ Qa (T t (List.mem_filter.mp o).1).k
 rw[show(ts.filter (has c)).map (λt=>D.lst ((CB t g c (pk g (cmn g t.1) row)).map λv=>tI [v]))=((lsA ts g c row).map λl=>l.map λv=>tI [v]).map D.lst by unfold lsA;rw[map_map,map_map];rfl];generalize lsA ts g c row=M at e A O f k ⊢;refine L9 (λz=>O (List.map_eq_nil_iff.mp z)) λm p i=>?_;obtain⟨l,h,rfl⟩:=oT.mp p;have q:l.length=mnL M:=Qd h λx G=>by
  have:=i _ (oT.mpr ⟨x,G,rfl⟩);rw[fI,fI]at this;exact this
 have K:=f l h;unfold Ib;walk_at"dx";rw[fI,fI,fI];refine⟨Qh (by lia) (by lia),?_⟩;rw[M8];walk_at"dx";refine⟨eR (by rw[fI];lia),cZ (DX M) (λv=>tI (row++[v])) (λv=>tI [v]) l _ rfl (λv L=>?_) ?_⟩;walk_at"dx";rw[show(M.map λl=>l.map λv=>tI [v]).map D.lst=(M.map λl=>l.map λx=>[x]).map λl=>D.lst (l.map tI) by rw[map_map,map_map];refine map_congr_left λl _=>?_;show D.lst _=D.lst ((l.map λx=>[x]).map tI);rw[map_map];rfl];refine J8 (by rw[fI];exact A) ?_;rw[M7];walk_at"dx";refine⟨hQ (by rw[fI,fI,j.1];simp only[length_singleton];lia:_<=21) (by decide),?_⟩;rw[← Aj]
 walk_at"dx";refine⟨hQ (by rw[fI,fI];have:=length_filter_le (DX M) l;lia:_<=1000100) (by decide),?_⟩;have H:b.map tI++(l.filter (DX M)).map (λv=>tI (row++[v]))=(b++De M row).map tI:=by rw[Aj,← Qe e h,map_map];rfl
 rw[H,q,show(mnL M:Int)*(M.length:Int)=((mnL M*M.length:Nat):Int)from(Int.natCast_mul ..).symm];exact k (some (true,_)) _
def BE(t:List Tw)(g:List Str)(c:Str)(R:List (List Int)):List (List Int):=R.flatMap λa=>De (lsA t g c a) a
def csA(t:List Tw)(g:List Str)(c:Str)(row:List Int):Nat:=mnL (lsA t g c row)*(lsA t g c row).length
def ckA(t:List Tw)(g:List Str)(c:Str)(R:List (List Int)):Nat:=(R.map (csA t g c)).sum
structure Bn(ts:List Tw)(g:List Str)(c:Str):Prop where
 gl:g.length<=20
 tok:∀t∈ts,Du t
 t6:ts.length<=6
 nd:∀t∈ts,(cmn g t.1++[c]).Nodup
 hc:∃t∈ts,has c t=true
def Qi(h:Bn t g c):(lsA t g c row).length<=6:=by
 unfold lsA;rw[fI];exact hQ (length_filter_le ..) h.t6
def Lo(h:Bn T g c):∀l∈lsA T g c row,l.length<=40:=λl a=>by
 obtain⟨t,b,rfl⟩:=oT.mp a;exact hQ Qa (h.tok t (List.mem_filter.mp b).1).k
def N0(h:Bn t g c):(De (lsA t g c row) row).length<=40:=by
 unfold De;rw[fI];refine hQ (length_filter_le ..) ?_;cases e:lsA t g c row with
 |nil=>simp
 |cons a r=>exact Lo h a (by rw[e];simp)
def N2(h:Bn t g c):csA t g c row<=240:=by
 have a:mnL (lsA t g c row)<=40:=by
  unfold mnL;cases e:((lsA t g c row).map List.length).min? with
  |none=>simp
  | some n=>
    obtain⟨l,b,z⟩:=oT.mp (List.min?_eq_some_iff.mp e).1;rw[← z];exact Lo h l b
 exact hQ (Nat.mul_le_mul a (Qi h)) (by decide)
def Qj(h:Bn t g c)(R:List (List Int)):(BE t g c R).length<=R.length*40:=by
 unfold BE
 induction R with
 |nil=>simp
 | cons a R i=>
   rw[List.flatMap_cons,Av,Ee,succ_mul,add_comm];exact Nat.add_le_add i (N0 h)
def yS(h:Bn t g c)(R:List (List Int)):ckA t g c R<=R.length*240:=by
 unfold ckA
 induction R with
 |nil=>simp
 | cons a R i=>
   rw[Cj,List.sum_cons,Ee,succ_mul,add_comm];exact Nat.add_le_add i (N2 h)
def N3(h:Bn T g c)(q:∀ row∈R,sK T g row)(t:R.length<=3000)(u:0<=L)(z:L<=90000000)
  (k:∀x11 b e x13 a,K (.nx (bS f x w i l m (L+(ckA T g c R:Nat)) v n (.lst ((T.filter (has c)).map (EA g c))) (BE T g c R) (ov x11 b) (fo e) (ov x13 a)))) :
  eD (EZ (gY 11) Ln (R.map tI) (bS f x w i l m L v n (.lst ((T.filter (has c)).map (EA g c))) [] (ov x11 b) (fo x12) (ov x13 a))) K:=by
 refine cP (λj o=>∃(x11 x13:Bool) (b a:D) (x12:Option (Bool×D)),o=bS f x w i l m (L+(ckA T g c (R.take j):Nat)) v n (.lst ((T.filter (has c)).map (EA g c))) (BE T g c (R.take j)) (ov x11 b) (fo x12) (ov x13 a)) ⟨x11,x13,b,a,x12,by show _=bS _ _ _ _ _ _ (L+((0:Nat):Int)) _ _ _ _ _ _ _;rw[Int.natCast_zero,Int.add_zero];rfl⟩ ?_ ?_
 ·rintro j d o H ⟨x11,x13,b,a,x12,rfl⟩;obtain⟨row,p,rfl⟩:=eV H;have y:=Qj h (R.take j);have A:=yS h (R.take j);rw[Bi]at y A;walk_at "dx";refine M9 (q row (Ao p)) h.gl h.tok h.t6 h.nd h.hc (by lia) (by lia) (by lia) λe a=>?_;have r:BE T g c (R.take (j+1))=BE T g c (R.take j)++De (lsA T g c row) row:=by
   unfold BE;rw[bU p,List.flatMap_append,List.flatMap_singleton]
  have s:ckA T g c (R.take (j+1))=ckA T g c (R.take j)+mnL (lsA T g c row)*(lsA T g c row).length:=by
   unfold ckA;rw[bU p,Aj,List.sum_append];rfl
  refine⟨_,.inl rfl,true,true,tI row,a,e,?_⟩;rw[r,s,natCast_add,Int.add_assoc];rfl
 ·rintro o ⟨x11,x13,b,a,x12,rfl⟩;rw[fI,take_length];exact k _ _ _ _ _
noncomputable def Br(o:List Str)(i:Nat):Str:=(o[i]?).getD (ofString "")
def Ab(t:List Tw)(o:List Str)(r:List (List Int)):Nat->List (List Int)×List Int×Nat
 |0=>(r,[],0)
 |i+1=>(BE t (o.take i) (Br o i) (Ab t o r i).1,(Ab t o r i).2.1++[((BE t (o.take i) (Br o i) (Ab t o r i).1).length:Int)],(Ab t o r i).2.2+ckA t (o.take i) (Br o i) (Ab t o r i).1)
structure AR(ts:List Tw)(os:List Str):Prop where
 nd:os.Nodup
 t:∀z∈os,Tx z
 l:os.length<=6
 tok:∀t∈ts,Du t
 t6:ts.length<=6
 hc:∀c∈os,∃t∈ts,has c t=true
def AR.out{o:List Str}(h:AR T o)(H:o[i]?=some c):c∉o.take i:=λz=>by
 have n:=h.nd;have e:o.take (i+1)=o.take i++[c]:=by rw[Ed,H];rfl
 have:=List.Nodup.sublist (take_sublist (i+1) o) n;rw[e]at this;exact(List.nodup_append.mp this).2.2 c z c pL rfl
def AR.lv{o:List Str}(h:AR T o)(H:o[i]?=some c):Bn T (o.take i) c:=by
 refine⟨hQ (List.length_take_le ..) (by have:=h.l;grind),h.tok,h.t6,λt _=>?_,h.hc c (Ao H)⟩;refine List.nodup_append.mpr ⟨List.Nodup.sublist List.filter_sublist (List.Nodup.sublist (take_sublist ..) h.nd),CD.mpr ⟨(λz=>nomatch z),.nil⟩,λa f b d e=>?_⟩;cases Aa.mp d;subst e;exact h.out H (yO _ f)
theorem iO{o:List Str}(h:AR t o)(f:∀ r∈g,sK t [] r):∀ i,i<=o.length->∀ r∈(Ab t o g i).1,sK t (o.take i) r
 |0,_,r,a=>f r a
 | i+1,H,r,a=>by
   have b:o[i]?=some o[i]:=nL H;have hc:Br o i=o[i]:=by unfold Br;rw[b];rfl
   obtain⟨c,e,d⟩:=List.mem_flatMap.mp a;rw[hc]at d;rw[Ed,b];exact M5 (iO h f i (Aq H) c e) (h.out b) r d
theorem Jw{os:List Str}:∀ i,(Ab ts os R0 i).2.1.length=i
 |0=>rfl
 | i+1=>by
   show((Ab ts os R0 i).2.1++[_]).length=i+1;rw[Av,Jw i];rfl
theorem Jx{o:List Str}(h:AR t o)(a:∀ i,i<=o.length->(Ab t o r i).1.length<=3000):∀ i,i<=o.length->(Ab t o r i).2.2<=i*720000
 |0,_=>hC _
 | i+1,H=>by
   have b:o[i]?=some o[i]:=nL H;have hc:Br o i=o[i]:=by unfold Br;rw[b];rfl
   have c:=Jx h a i (Aq H);have d:=yS (hc▸h.lv b:Bn t (o.take i) (Br o i)) (Ab t o r i).1;have e:=a i (Aq H);show(Ab t o r i).2.2+ckA t (o.take i) (Br o i) (Ab t o r i).1<=(i+1)*720000;lia
def N4{O:List Str}(B:l.length=Q.length)(C:Q.length<=6)(E:Qn Q)(h:AR (twL Q l) O)(F:(bJ Q).length<=100)(g:∀ z∈bJ Q,z∈O)(j:t=if(l.all λh=>decide (0 < h.length))then[[]]else[])(N:∀ r∈t,sK (twL Q l) [] r)(m:∀ i,i<=O.length->(Ab (twL Q l) O t i).1.length<=3000)
  (k:K (.val (.tup [.tup ((sT ((Ab (twL Q l) O t O.length).1.map (pk O (bJ Q)))).map tI),.tup ((Ab (twL Q l) O t O.length).2.1.map D.int),.int ((Ab (twL Q l) O t O.length).2.2:Nat)])) [⟨.val,qD Q⟩,⟨.val,hD l⟩,⟨.val,.tup (O.map D.str)⟩]) :
  CK bX [⟨.val,qD Q⟩,⟨.val,hD l⟩,⟨.val,.tup (O.map D.str)⟩] K:=by
 unfold bX;rw[cB];show RS dS [_,_,_,none,none,none,none,none,none,none,none,none,none,none,none,none,none] _;unfold dS;walk_at"dx";refine J4 B C ?_;walk_at"dx";refine J9 (by lia) ?_;rw[← j];walk_at"dx";refine⟨sS _,?_⟩;refine cP (λi n=>i<=6/\∃(o p x11 x13:Bool) (q s a b:D) (u e x12:Option (Bool×D)),n=[some ⟨.val,qD Q⟩,some ⟨.val,hD l⟩,some ⟨.val,.tup (O.map D.str)⟩,some ⟨.own,.lst ((twL Q l).map Ez)⟩,some ⟨.val,.lst ((Ab (twL Q l) O t i).1.map tI)⟩,some ⟨.own,.lst ((Ab (twL Q l) O t i).2.1.map D.int)⟩,some ⟨.val,.int ((Ab (twL Q l) O t i).2.2:Nat)⟩,ov o q,ov p s,fo u,fo e,ov x11 a,fo x12,ov x13 b,none,none,none]) ⟨sS _,false,false,false,false,.non,.non,.non,.non,none,none,none,rfl⟩ ?_ ?_
 ·rintro i d n T ⟨_,o,p,x11,x13,q,s,a,b,u,e,x12,rfl⟩;obtain⟨y,v,rfl⟩:=iJ T;obtain⟨c,hc,rfl⟩:=eV v;have G:i<O.length:=(hR.mp hc).1;have L:=h.l;have M:=h.lv hc;rw[Bj];walk_at"dx";rw[lX _ (Int.natCast_nonneg _),toNat_natCast,← DM];refine J5 M.tok (λz H=>h.t z (BF H)) M.gl (h.t c (Ao hc)) M.t6 ?_;have A:=m i (by lia);have U:=Jx h m i (by lia);have f:=iO h N i (by lia);have w:Br O i=c:=by unfold Br;rw[hc];rfl
  have I:Ab (twL Q l) O t (i+1)=(BE (twL Q l) (O.take i) c (Ab (twL Q l) O t i).1,(Ab (twL Q l) O t i).2.1++[((BE (twL Q l) (O.take i) c (Ab (twL Q l) O t i).1).length:Int)],(Ab (twL Q l) O t i).2.2+ckA (twL Q l) (O.take i) c (Ab (twL Q l) O t i).1):=by rw[← w];rfl
  walk_at"dx";refine⟨sS _,?_⟩;refine N3 (x11:=x11) (x13:=x13) (x12:=x12) M f A (by lia) (by lia) λx11 a x x13 b=>?_;walk_at"dx";refine⟨Cb (by rw[fI,Jw];lia:_<=6) (by decide),?_⟩;rw[I];exact⟨_,.inl rfl,by lia,true,true,x11,x13,_,_,a,b,some (true,_),some (false,_),x,by rw[fI,Aj,natCast_add];rfl⟩
 ·rintro n ⟨J,o,p,x11,x13,q,s,a,b,u,e,x12,rfl⟩;rw[fX,fI];have f:=iO h N O.length (hC _);rw[take_length]at f;have A:=m O.length (hC _);walk_at"dx";refine⟨by decide,D2 E ?_⟩;walk_at"dx";refine PU (.inr rfl) (λy v=>(f y v).1) g F (by lia) ?_;walk_at"dx";exact⟨by decide,k⟩
def N5{l:List Int}(k:K (.val (.bl (decide (a∈l))))):eD (AM false (.int a) (.lst (l.map D.int))) K:=OU (Ok.int (n:=1)) (λx h=>by obtain⟨y,_,rfl⟩:=oT.mp h;exact Ok.int (n:=1)) (by decide) (by decide) (by grind)
def Lp:DS:=(aR (aU 15 (fT aE))
 (aR (kQ (Ad (aC 8)) (eA 2 (aM (gY 12) (aM (gY 16) fA)))
 (dA (dF "list" 15 pJ (aA (aJ Ew (aC 16) (hB lP (aA (bB [17] (Ad (aC 12)) (gY 17) cO (aJ rN (aC 14) (aC 17))) aE))) aE))))
 (aR (aU 5 (aJ fB (aC 5) (aJ pH (hB yB (aA (bB [19] (Ad (aC 15)) (gY 19) cO (hB iB (aA (aC 19) aE))) aE)) (hB iB (aA (aC 15) aE)))))
 (dA (lY "list" 13 Dp (aA (bB [18] (Ad (aJ rN (aC 15) (dC (.int 0)))) (gY 18) (cJ (hB EY (aA (bB [19] (Ad (aC 15)) (gY 19) cO (aJ (AM false) (aC 18) (aC 19))) aE))) (hJ (aJ fB (aC 14) (pE (aA (hJ (aC 18)) aE))))) aE))))))
def EC(g:List Str)(z:Tw×AX):D:=.tup [.lst ((cmn g z.1.1).map λx=>.int (g.idxOf x:Nat)),pT z.2]
abbrev lS(g o n h i:Option Sl)(L:Int)(j s:Option Sl)(k:D)(l a b c:Option Sl)(m:List (List Int))(d e f:Option Sl):Sg:=[g,o,n,h,i,some ⟨.val,.int L⟩,j,s,some ⟨.own,k⟩,l,a,b,c,some ⟨.own,.lst (m.map tI)⟩,d,e,f,none,none,none]
def N6{zs:List (Tw×AX)}(h:Bn ts g c)(u:sK ts g row)(hz:zs.map Prod.fst=ts.filter (has c))(N:∀ z∈zs,LV (pk z.1.1 (cmn g z.1.1)) (Dw z.1 c) z.1.2 z.2)(W:0<=lo)(l1:lo<=100000000)(π:o.length<=1000000)
  (k:∀E F O b,Q (.nx (lS w s1 s2 y A (lo+(csA ts g c row:Nat)) B s7 (.lst (zs.map (EC g))) C e f (fo E) (o++De (lsA ts g c row) row) (some ⟨.val,tI row⟩) (fo F) (ov O b)))) :
  RS Lp (lS w s1 s2 y A lo B s7 (.lst (zs.map (EC g))) C e f (fo x12) o (some ⟨.val,tI row⟩) (fo x15) (ov O b)) Q:=by
 unfold Lp;have X:zs.length<=6:=by have:=BO List.length hz;rw[fI]at this;have:=length_filter_le (has c) ts;have:=h.t6;lia
 have P:∀z∈zs,z.1∈ts:=λz G=>(List.mem_filter.mp (hz▸List.mem_map_of_mem G:z.1∈ts.filter (has c))).1;have ls:zs.map (λz=>CB z.1 g c (pk g (cmn g z.1.1) row))=lsA ts g c row:=by unfold lsA;rw[← hz,map_map];rfl
 walk_at"dx";refine⟨sS _,?_⟩;refine cP (λj H=>∃(x12:Option (Bool×D)) (O:Bool) (b:D),H=[w,s1,s2,y,A,some ⟨.val,.int lo⟩,B,s7,some ⟨.lent,.lst (zs.map (EC g))⟩,C,e,f,fo x12,some ⟨.own,.lst (o.map tI)⟩,some ⟨.val,tI row⟩,some ⟨.own,.lst ((zs.take j).map λz=>.lst ((CB z.1 g c (pk g (cmn g z.1.1) row)).map D.int))⟩,ov O b,none,none,none]) ⟨x12,O,b,rfl⟩ ?_ ?_
 ·rintro j d H hd ⟨x12,O,b,rfl⟩;obtain⟨z,i,rfl⟩:=eV hd;have p:=Ao i;have Y:=sD (cs:=g) (ds:=z.1.1);have gl:=h.gl;have σ:j<zs.length:=(hR.mp i).1;rw[show EC g z=D.tup [.lst ((cmn g z.1.1).map λx=>.int (g.idxOf x:Nat)),pT z.2]from rfl];walk_at"dx";refine⟨eR (by rw[fI];lia),aX (λx=>.int (row.getD (g.idxOf x) 0)) _ (cmn g z.1.1) _ rfl (λx I=>?_) ?_⟩;walk_at"dx";rw[pX (by rw[u.1];exact Hf (yO x I))];rfl
  walk_at"dx";simp only[Jt];refine Qb (L6 (N z p) (u.2 z.1 (P z p))) ?_;walk_at"dx";refine⟨Cb (by rw[fI,Bi];lia:_<=6) (by decide),?_⟩;rw[bU i,Aj];exact⟨_,.inl rfl,some (false,_),true,_,rfl⟩
 ·rintro H ⟨x12,O,b,rfl⟩;rw[fI,take_length,show zs.map (λz=>D.lst ((CB z.1 g c (pk g (cmn g z.1.1) row)).map D.int))=(lsA ts g c row).map (λl=>D.lst (l.map D.int)) by rw[← ls,map_map];rfl];have q:=yR (ts:=ts) (g:=g) (c:=c) (row:=row);have R:=Qi (row:=row) h;have n:=Lo (row:=row) h;have ne:lsA ts g c row≠[]:=λz=>by
   obtain⟨t,S,T⟩:=h.hc;have:CB t g c (pk g (cmn g t.1) row)∈lsA ts g c row:=oT.mpr ⟨t,List.mem_filter.mpr ⟨S,T⟩,rfl⟩;rw[z]at this;exact nomatch this
  unfold csA at k;generalize lsA ts g c row=L at q R n ne k ⊢;walk_at"dx";refine⟨eR (by rw[fI];lia),aX (λl=>.int (l.length:Nat)) (λl=>D.lst (l.map D.int)) L _ rfl (λl s=>?_) ?_⟩;walk_at"dx";rw[fI]
  rw[show(L.map λl=>D.int ((l.length:Nat):Int))=(L.map λl=>((l.length:Nat):Int)).map D.int by rw[map_map];rfl];refine OZ (λz=>ne (List.map_eq_nil_iff.mp z)) λm J K=>?_;obtain⟨l,s,rfl⟩:=oT.mp J;have M:l.length=mnL L:=Qd s λx I=>by have:=K _ (oT.mpr ⟨x,I,rfl⟩);lia
  have l4:=n l s;walk_at"dx";rw[fI];refine⟨Qh (by lia) (by lia),?_⟩;obtain⟨a,ha,U⟩:∃a∈L,atI (L.map λl=>D.lst (l.map D.int)) 0=some (.lst (a.map D.int)):=by
   cases L with
   |nil=>exact absurd rfl ne
   |cons a r=>exact⟨a,pL,(Ll (j:=0) (by simp)).trans rfl⟩
  have a4:=n a ha;rw[U];walk_at"dx";refine⟨eR (by rw[fI];lia),cZ (DX L) (λv=>tI (row++[v])) D.int a _ rfl (λv N=>?_) ?_⟩;walk_at"dx";refine⟨eR (by rw[fI];lia),KX _ (λl:List Int=>decide (v∈l)) L (λl s=>?_) ?_⟩;walk_at"dx";exact N5 rfl;walk_at"dx";rw[Pl];refine⟨rfl,by decide,hQ (by rw[fI,u.1];have:=h.gl;lia:_<=21) (by decide),?_⟩;show kN.val (D.tup (row.map D.int++[v].map D.int))=_;rw[← Aj]
  walk_at"dx";refine⟨hQ (by rw[fI,fI];have:=length_filter_le (DX L) a;lia:_<=1000100) (by decide),?_⟩;have V:o.map tI++(a.filter (DX L)).map (λv=>tI (row++[v]))=(o++De L row).map tI:=by rw[Aj,← Qe q ha,map_map];rfl
  rw[V,M,show(mnL L:Int)*(L.length:Int)=((mnL L*L.length:Nat):Int)from(Int.natCast_mul ..).symm];exact k x12 (some (true,_)) O b
def yT{A:List (Tw×AX)}(h:Bn T g c)(t:∀ row∈R,sK T g row)(x:R.length<=3000)(H:A.map Prod.fst=T.filter (has c))(u:∀ z∈A,LV (pk z.1.1 (cmn g z.1.1)) (Dw z.1 c) z.1.2 z.2)(y:0<=L)(M:L<=90000000)
  (k:∀i l x14 x16 b a,K (.nx (lS m E C n o (L+(ckA T g c R:Nat)) p B (.lst (A.map (EC g))) q e f (fo i) (BE T g c R) (ov x14 b) (fo l) (ov x16 a)))) :
  eD (EZ (gY 14) Lp (R.map tI) (lS m E C n o L p B (.lst (A.map (EC g))) q e f (fo x12) [] (ov x14 b) (fo x15) (ov x16 a))) K:=by
 refine cP (λj r=>∃(x14 x16:Bool) (b a:D) (x12 x15:Option (Bool×D)),r=lS m E C n o (L+(ckA T g c (R.take j):Nat)) p B (.lst (A.map (EC g))) q e f (fo x12) (BE T g c (R.take j)) (ov x14 b) (fo x15) (ov x16 a)) ⟨x14,x16,b,a,x12,x15,by show _=lS _ _ _ _ _ (L+((0:Nat):Int)) _ _ _ _ _ _ _ _ _ _ _;rw[Int.natCast_zero,Int.add_zero];rfl⟩ ?_ ?_
 ·rintro j d r G ⟨x14,x16,b,a,x12,x15,rfl⟩;obtain⟨row,s,rfl⟩:=eV G;have J:=Qj h (R.take j);have I:=yS h (R.take j);rw[Bi]at J I;walk_at "dx";refine N6 h (t row (Ao s)) H u (by lia) (by lia) (by lia) λi l x16 a=>?_;have v:BE T g c (R.take (j+1))=BE T g c (R.take j)++De (lsA T g c row) row:=by
   unfold BE;rw[bU s,List.flatMap_append,List.flatMap_singleton]
  have w:ckA T g c (R.take (j+1))=ckA T g c (R.take j)+csA T g c row:=by
   unfold ckA;rw[bU s,Aj,List.sum_append];rfl
  refine⟨_,.inl rfl,true,x16,tI row,a,i,l,?_⟩;rw[v,w,natCast_add,Int.add_assoc];rfl
 ·rintro r ⟨x14,x16,b,a,x12,x15,rfl⟩;rw[fI,take_length];exact k _ _ _ _ _ _
def Qk:DS:=(jF (cJ (aJ (AM false) (aC 7) (aC 10))) (aR (aU 12 (bB [17] (sJ (aA (aC 6) aE)) (gY 17) (cJ (aJ (AM false) (aJ rN (aC 2) (aC 17)) (aC 10))) (hJ (aC 17))))
 (dA (dF "list" 8 pJ (aA (pE (aA (hJ (aC 12)) (aA (hJ (aI 4 cM (aA (aC 10) (aA (aC 11) (aA (Bu (aC 2) pI (dP (aC 6))) (aA (aC 7) aE)))))) aE))) aE)))) dU)
def N7{o:List Str}(N:o.Nodup)(h:i<=o.length)(own:List Str):((range i).filter λa=>own.contains (Br o a)).map (λa=>((a:Nat):Int))=(cmn (o.take i) own).map λx=>(((o.take i).idxOf x:Nat):Int):=by
 induction i with
 |zero=>rfl
 | succ i b=>
   have c:o[i]?=some o[i]:=nL h;have hc:Br o i=o[i]:=by unfold Br;rw[c];rfl
   have t:o.take (i+1)=o.take i++[o[i]]:=by simp
   have n:=List.Nodup.sublist (take_sublist (i+1) o) N;rw[t]at n;have O:o[i]∉o.take i:=λz=>(List.nodup_append.mp n).2.2 _ z _ pL rfl;rw[List.range_succ,filter_append,Aj,b (Aq h),t,sE,Aj];have d:(cmn (o.take i) own).map (λx=>(((o.take i++[o[i]]).idxOf x:Nat):Int))=(cmn (o.take i) own).map λx=>(((o.take i).idxOf x:Nat):Int):=map_congr_left λx f=>by rw[List.idxOf_append,eH (yO x f)]
   rw[d,List.filter_cons,filter_nil,hc];by_cases e:own.contains o[i]=true;rw[eH e,eH e,List.map_singleton,List.map_singleton,List.idxOf_append,a0m O,List.idxOf_cons_self,Bi,Bj,min_eq_left (Aq h)];rw[a0m e,a0m e];rfl
def N8(n:Nat):zS 0 n=(range n).map λa=>D.int ((a:Nat):Int):=by
 unfold zS;simp
noncomputable abbrev qH(q:List (Str×List Str))(h:List (List (List Int))):List ((Str×List Str)×List (List Int)):=q.zip h
def N9{l:List Str}{ii:Int}(H:0<=ii)(s:ii.toNat=i)(h:AR (twL T U) l)(hi:l[i]? = some c)
  (k:∀(Q:List (Tw×AX)) x9 x10 x11 m b f B,Q.map Prod.fst=(twL T U).filter (has c)->(∀z∈Q,LV (pk z.1.1 (cmn (l.take i) z.1.1)) (Dw z.1 c) z.1.2 z.2)->K (.nx [some ⟨.val,qD T⟩,some ⟨.val,hD U⟩,some ⟨.val,.tup (l.map D.str)⟩,w,y,A,some ⟨.val,.int ii⟩,some ⟨.val,.str c⟩,some ⟨.own,.lst (Q.map (EC (l.take i)))⟩,ov x9 m,ov x10 b,ov x11 f,fo B,fo x13,ov x14 n,fo x15,ov Y q,none,none,none])) :
  eD (EZ (eA 2 (aM (eA 2 (aM (gY 9) (aM (gY 10) fA))) (aM (gY 11) fA))) Qk ((qH T U).map λp=>D.tup [qP p.1,hT p.2]) [some ⟨.val,qD T⟩,some ⟨.val,hD U⟩,some ⟨.val,.tup (l.map D.str)⟩,w,y,A,some ⟨.val,.int ii⟩,some ⟨.val,.str c⟩,some ⟨.own,.lst []⟩,ov x9 m,ov x10 b,ov x11 f,fo x12,fo x13,ov x14 n,fo x15,ov Y q,none,none,none]) K:=by
 refine cP (λj τ=>∃(Q:List (Tw×AX)) (x9 x10 x11:Bool) (m b f:D) (x12:Option (Bool×D)),Q.map Prod.fst=((twL T U).take j).filter (has c)/\(∀z∈Q,LV (pk z.1.1 (cmn (l.take i) z.1.1)) (Dw z.1 c) z.1.2 z.2)/\τ=[some ⟨.val,qD T⟩,some ⟨.val,hD U⟩,some ⟨.val,.tup (l.map D.str)⟩,w,y,A,some ⟨.val,.int ii⟩,some ⟨.val,.str c⟩,some ⟨.own,.lst (Q.map (EC (l.take i)))⟩,ov x9 m,ov x10 b,ov x11 f,fo x12,fo x13,ov x14 n,fo x15,ov Y q,none,none,none]) ⟨[],x9,x10,x11,m,b,f,x12,rfl,(λ_ h=>nomatch h),rfl⟩ ?_ ?_
 ·rintro j d τ hd ⟨Q,x9,x10,x11,m,b,f,x12,g,v,rfl⟩;obtain⟨⟨⟨N,O⟩,ks⟩,I,rfl⟩:=eV hd;have C:(twL T U)[j]? = some (O,ks):=by unfold twL;rw[An,I];rfl
  have o:=h.tok _ (Ao C);have E:i<l.length:=(hR.mp hi).1;have π:=h.l;unfold Qk;walk_at"dx";refine vB (h.t c (Ao hi)).2 (λz g=>(o.t z g).2) ?_;walk_at"dx";by_cases u:O.contains c=true
  ·rw[eH u];refine⟨by lia,by rw[bI];exact hQ (by lia:ii.toNat<=6) (by decide),?_⟩;rw[s,N8];refine cZ (λa=>O.contains (Br l a)) (λa=>.int ((a:Nat):Int)) (λa=>.int ((a:Nat):Int)) (range i) _ rfl (λa ha=>?_) ?_
   ·have J:a<i:=Cc.mp ha;have r:l[a]?=some l[a]:=nL (by lia);have F:Br l a=l[a]:=by unfold Br;rw[r];rfl
    walk_at"dx";rw[Ll (by rw[fI];lia),An,r,map_some,aV];refine vB (h.t _ (Ao r)).2 (λz g=>(o.t z g).2) ?_;rw[F];rfl
   have L:((range i).filter λa=>O.contains (Br l a)).map (λa=>D.int ((a:Nat):Int))=(cmn (l.take i) O).map λx=>D.int (((l.take i).idxOf x:Nat):Int):=by
    have:=BO (List.map D.int) (N7 h.nd (Aq E) O);rw[map_map,map_map]at this;exact this
   rw[L];walk_at"dx";rw[lX _ H,s,← DM];have M:Q.length<=6:=by have:=BO List.length g;rw[fI]at this;have:=length_filter_le (has c) ((twL T U).take j);have:=h.t6;rw[Bi]at *;lia
   refine L4 (t:=(O,ks)) o (by simpa using u) (h.t c (List.mem_of_getElem? hi)) (λz g=>h.t z (List.mem_of_mem_take g)) (by rw[List.length_take];lia) λacc lv=>?_;walk_at"dx";refine⟨by decide,Cb (by rw[fI];exact M) (by decide:6<sizeLine),?_⟩;rw[bU C,filter_append,List.filter_cons_of_pos (show has c (O,ks)=true from u),filter_nil];exact⟨_,.inl rfl,Q++[((O,ks),acc)],true,true,true,_,_,_,some (false,_),by rw[Aj,g];rfl,λz G=>(sU.mp G).elim (v z) λe=>by rw[Aa.mp e];exact lv,by rw[Aj];rfl⟩
  ·rw[a0m u];refine⟨_,.inl rfl,Q,true,true,true,_,_,_,x12,?_,v,rfl⟩;rw[bU C,filter_append,List.filter_cons_of_neg (show ¬has c (O,ks)=true from u),filter_nil,Ci];exact g
 ·rintro τ ⟨Q,x9,x10,x11,m,b,f,x12,g,v,rfl⟩;rw[fI]at g;exact k Q _ _ _ _ _ _ _ (by rw[g,Cg (by unfold twL;rw[fI];exact hC _)]) v
def O0{O:List Str}(S:hs.length=l.length)(h6:l.length<=6)(v:hs≠[])(T:Qn l)(h:AR (twL l hs) O)(P:(bJ l).length<=100)(cne:bJ l≠[])(o:∀ z∈bJ l,z∈O)(w:R0=if(hs.all λh=>decide (0 < h.length))then[[]]else[])(h0:∀ r∈R0,sK (twL l hs) [] r)(A:∀ i,i<=O.length->(Ab (twL l hs) O R0 i).1.length<=3000)(U:((Ab (twL l hs) O R0 O.length).1.map (pk O (bJ l))).Nodup)
  (k:K (.val (.tup [.tup ((sT ((Ab (twL l hs) O R0 O.length).1.map (pk O (bJ l)))).map tI),.tup ((Ab (twL l hs) O R0 O.length).2.1.map D.int),.int ((Ab (twL l hs) O R0 O.length).2.2:Nat)])) [⟨.val,qD l⟩,⟨.val,hD hs⟩,⟨.val,.tup (O.map D.str)⟩]) :
  CK eE [⟨.val,qD l⟩,⟨.val,hD hs⟩,⟨.val,.tup (O.map D.str)⟩] K:=by
 unfold eE;rw[cB];show RS gM [_,_,_,none,none,none,none,none,none,none,none,none,none,none,none,none,none,none,none,none] _;unfold gM;walk_at"dx";refine⟨sS _,by decide,eR (by rw[fI];lia),aX (λh=>.int (h.length:Nat)) hT hs _ rfl (λx _=>?_) ?_⟩;walk_at"dx";rw[fI]
 rw[show(hs.map λh=>D.int ((h.length:Nat):Int))=(hs.map λh=>((h.length:Nat):Int)).map D.int by rw[map_map];rfl];refine OZ (λz=>v (List.map_eq_nil_iff.mp z)) λm p q=>?_;have B:(0<m)↔(hs.all λh=>decide (0<h.length))=true:=by
  obtain⟨x,C,rfl⟩:=oT.mp p;constructor;intro z;refine DJ.mpr λy s=>FY ?_;have:=q _ (oT.mpr ⟨y,s,rfl⟩);lia;intro z;have:=of_decide_eq_true (DJ.mp z x C);lia
 have Q:R0.map tI=if 0<m then[D.tup []]else[]:=by
  rw[w];by_cases z:0<m;rw[eH z,eH (B.mp z)];rfl;rw[a0m z,a0m λe=>z (B.mpr e)];rfl
 walk_at"dx";rw[YN];refine⟨⟨by split<;>decide,by split<;>decide,by decide⟩,?_⟩;rw[show(replicate (if 0<m then(1:Int)else 0).toNat [D.tup []]).flatten=R0.map tI by rw[Q];split<;>rfl];clear Q B q p;walk_at"dx";refine⟨sS _,?_⟩;refine cP (λi E=>i<=6/\∃(F G x9 x10 x11 x14 x16:Bool) (H I t a b f g:D) (J x12 j x15:Option (Bool×D)),E=[some ⟨.val,qD l⟩,some ⟨.val,hD hs⟩,some ⟨.val,.tup (O.map D.str)⟩,some ⟨.val,.lst ((Ab (twL l hs) O R0 i).1.map tI)⟩,some ⟨.own,.lst ((Ab (twL l hs) O R0 i).2.1.map D.int)⟩,some ⟨.val,.int ((Ab (twL l hs) O R0 i).2.2:Nat)⟩,ov F H,ov G I,fo J,ov x9 t,ov x10 a,ov x11 b,fo x12,fo j,ov x14 f,fo x15,ov x16 g,none,none,none]) ⟨sS _,false,false,false,false,false,false,false,.non,.non,.non,.non,.non,.non,.non,none,none,none,none,rfl⟩ ?_ ?_
 ·rintro i d E hd ⟨_,F,G,x9,x10,x11,x14,x16,H,I,t,a,b,f,g,J,x12,j,x15,rfl⟩;obtain⟨y,s,rfl⟩:=iJ hd;obtain⟨c,hc,rfl⟩:=eV s;have V:i<O.length:=(hR.mp hc).1;have ol:=h.l;have lv:=h.lv hc;have R:=A i (by lia);have lo:=Jx h A i (by lia);have u:=iO h h0 i (by lia);have L:Br O i=c:=by unfold Br;rw[hc];rfl
  have W:Ab (twL l hs) O R0 (i+1)=(BE (twL l hs) (O.take i) c (Ab (twL l hs) O R0 i).1,(Ab (twL l hs) O R0 i).2.1++[((BE (twL l hs) (O.take i) c (Ab (twL l hs) O R0 i).1).length:Int)],(Ab (twL l hs) O R0 i).2.2+ckA (twL l hs) (O.take i) c (Ab (twL l hs) O R0 i).1):=by rw[← L];rfl
  rw[Bj];obtain⟨ii,M⟩:∃ii:Int,((i:Nat):Int)=ii:=⟨_,rfl⟩;rw[M];walk_at"dx";refine⟨sS _,by rw[fI,fI,S],?_⟩;rw[sC];refine N9 (x9:=x9) (x10:=x10) (x11:=x11) (x12:=x12) (by lia) (show ii.toNat=i by lia) h hc λzs x9 x10 x11 t a b n N X=>?_;walk_at"dx";refine⟨sS _,?_⟩;refine yT (x12:=n) (x15:=x15) (x14:=x14) (x16:=x16) lv u R N X (by lia) (by lia) λn π x14 x16 f g=>?_;walk_at"dx";refine⟨Cb (by rw[fI,Jw];lia:_<=6) (by decide),?_⟩;rw[W];exact⟨_,.inl rfl,by lia,true,true,x9,x10,x11,x14,x16,_,_,t,a,b,f,g,some (true,_),n,some (false,_),π,by rw[fI,Aj,natCast_add];rfl⟩
 ·rintro E ⟨Y,F,G,x9,x10,x11,x14,x16,H,I,t,a,b,f,g,J,x12,j,x15,rfl⟩;rw[fX,fI];have u:=iO h h0 O.length (hC _);rw[take_length]at u;have R:=A O.length (hC _);walk_at "dx";refine jP T ?_;walk_at "dx";refine⟨eR (by rw[fI];exact P),aX (λz=>.int (O.idxOf z:Nat)) D.str (bJ l) _ rfl (λz N=>?_) ?_⟩;walk_at "dx";exact o z N
  walk_at"dx";refine⟨PR (by rw[fI];lia),aX (λr=>tI (pk O (bJ l) r)) tI _ _ rfl (λr σ=>?_) ?_⟩
  ·walk_at"dx";refine⟨eR (by rw[fI];exact P),aX (λx=>.int (r.getD (O.idxOf x) 0)) _ (bJ l) _ rfl (λx C=>?_) ?_⟩;walk_at"dx";rw[pX (by rw[(u r σ).1];exact Hf (o x C))];rfl
   walk_at"dx";rw[Jt]
  walk_at"dx";rw[show(Ab (twL l hs) O R0 O.length).1.map (λr=>tI (pk O (bJ l) r))=((Ab (twL l hs) O R0 O.length).1.map (pk O (bJ l))).map tI by rw[map_map];rfl,t7];refine⟨⟨by rw[fI];lia,U,λ_ y s z=>?_⟩,?_⟩;obtain⟨r,_,rfl⟩:=oT.mp s;exact cne (List.map_eq_nil_iff.mp z)
  walk_at"dx";exact⟨by decide,k⟩
def O1(c:∀ l∈L,l.Pairwise (· < ·)):(De L row).Nodup:=by
 have h:(L.headD []).Pairwise (· < ·):=by
  cases L with
  |nil=>simp
  |cons a r=>exact c a pL
 refine Ca.mpr (List.pairwise_map.mpr ((filter _ h).imp λ{a b} d e=>?_))
 simp_all
theorem Lq{o:List Str}(h:AR t o)(l:∀ r∈k,sK t [] r)(c:k.Nodup):∀ i,i<=o.length->(Ab t o k i).1.Nodup
 |0,_=>c
 | i+1,H=>by
   have d:=Lq h l c i (Aq H);show(BE t (o.take i) (Br o i) (Ab t o k i).1).Nodup;refine Ca.mpr (List.pairwise_flatMap.mpr ⟨λa _=>Ca.mp (O1 yR),?_⟩);refine imp_of_mem (λ{a b} n m f x g y j e=>?_) (Ca.mp d);obtain⟨v,_,rfl⟩:=oT.mp g;obtain⟨w,_,rfl⟩:=oT.mp j
   simp_all
def Ql{o C:List Str}(n:o.Nodup)(h:∀z∈o,z∈C)(g:a.length=o.length)(hb:b.length=o.length)(e:pk o C a=pk o C b):a=b:=by
 have c:∀z∈C,a.getD (o.idxOf z) 0=b.getD (o.idxOf z) 0:=List.map_inj_left.mp e;refine List.ext_getElem (g.trans hb.symm) λi d f=>?_;have H:i<o.length:=by lia
 have:=c o[i] (h _ (Dh H))
 simp_all
def O2{o C:List Str}(h:AR t o)(H:∀r∈g,sK t [] r)(f:g.Nodup)(hc:∀z∈o,z∈C):((Ab t o g o.length).1.map (pk o C)).Nodup:=by
 have c:=iO h H o.length (hC _);rw[take_length]at c;refine Ca.mpr (List.pairwise_map.mpr (imp_of_mem (λ{a b} j i d e=>d ?_) (Ca.mp (Lq h H f o.length (hC _)))));exact Ql h.nd hc (c a j).1 (c b i).1 e
def sF{b:Type}{l m:List b}[DecidableEq b](n:l.Nodup)(h:∀x∈l,x∈m):l.length<=m.length:=by
 induction l generalizing m with
 |nil=>simp
 | cons a l i=>
   obtain⟨d,N⟩:=CD.mp n;have H:=h a pL;have:=i (m:=m.erase a) N λx c=>(List.mem_erase_of_ne (λe:x=a=>d (by simp_all))).mpr (h x (Af _ c))
   grind
noncomputable def Ih:List (List (List Int))->List (List (List Int))
 |[]=>[[]]
 |k::r=>k.flatMap λx=>(Ih r).map (x :: ·)
def O3(h:List (List (List Int))):(Ih h).length=prL h:=by
 induction h with
 |nil=>rfl
 | cons k r i=>
   show(k.flatMap λx=>(Ih r).map (x :: ·)).length=k.length*prL r;rw[← i]
   induction k with
   |nil=>simp
   |cons x k j=>rw[List.flatMap_cons,Av,fI,j,Ee,succ_mul,add_comm]
def FX(g:List Str)(row:List Int):List Tw->List (List Int)->Prop
 |[],[]=>True
 |t::T,r::a=>pk t.1 (cmn g t.1) r=pk g (cmn g t.1) row/\FX g row T a
 |_,_=>False
def O4(h:∀t∈T,Jv t g (pk g (cmn g t.1) row)):∃C∈Ih (T.map Prod.snd),FX g row T C:=by
 induction T with
 |nil=>exact⟨[],pL,True.intro⟩
 | cons t T i=>
   obtain⟨r,a,e⟩:=h t pL;obtain⟨C,b,c⟩:=i λt d=>h t (Af _ d);exact⟨r::C,List.mem_flatMap.mpr ⟨r,a,oT.mpr ⟨C,b,rfl⟩⟩,e,c⟩
def O5(h:FX g a T C)(c:FX g b T C):∀t∈T,pk g (cmn g t.1) a=pk g (cmn g t.1) b:=by
 induction T generalizing C with
 |nil=>simp
 | cons t T i=>
   cases C with
   |nil=>exact h.elim
   |cons r C=>exact List.forall_mem_cons.mpr ⟨h.1.symm.trans c.1,i h.2 c.2⟩
def O6(n:g.Nodup)(d:∀z∈g,∃t∈T,z∈t.1)(H:a.length=g.length)(hb:b.length=g.length)(i:FX g a T C)(e:FX g b T C):a=b:=by
 refine Ql n (λz c=>c) H hb (map_congr_left λz c=>?_);obtain⟨t,f,h⟩:=d z c;have:=O5 i e t f;exact List.map_inj_left.mp this z (List.mem_filter.mpr ⟨c,by simp_all⟩)
open Classical in
def O7{R:List (List Int)}(N:g.Nodup)(i:∀ z∈g,∃ t∈T,z∈t.1)(n:R.Nodup)(h:∀ r∈R,sK T g r):R.length<=prL (T.map Prod.snd):=by
 have E:∀r:List Int,∃m:List (List Int),r∈R->m∈Ih (T.map Prod.snd)/\FX g r T m:=λr=>by
  by_cases c:r∈R;obtain⟨m,j,k⟩:=O4 (h r c).2;exact⟨m,λ_=>⟨j,k⟩⟩;exact⟨[],λz=>absurd z c⟩
 have C:=λr=>Classical.choose_spec (E r);rw[← O3,← fI (f:=λr=>Classical.choose (E r))];refine sF ?_ λx l=>?_;refine Ca.mpr (List.pairwise_map.mpr (imp_of_mem (λ{a b} o H d e=>d ?_) (Ca.mp n)));exact O6 N i (h a o).1 (h b H).1 (C a o).2 (e▸(C b H).2);obtain⟨r,c,rfl⟩:=oT.mp l;exact(C r c).1
def Qm(h:∀ q∈Q,q.2.Nodup):(bJ Q).Nodup:=by
 have d:∀ (Q:List (Str×List Str)) (A:List Str),A.Nodup->(∀ q∈Q,q.2.Nodup)->(Q.foldl (λA q=>A++q.2.filter λc=>!A.contains c) A).Nodup:=λQ=>by
  induction Q with
  |nil=>exact λA n _=>n
  | cons q Q i=>
    intro A n f;refine i _ (List.nodup_append.mpr ⟨n,List.Nodup.sublist List.filter_sublist (f q pL),λa g b H e=>?_⟩) λq h=>f q (Af _ h)
    grind
 exact d Q [] .nil h
def Lr{O:List Str}(e:Qc Q)(m:Ho Q H)(f:O.Perm (bJ Q)):AR (twL Q H) O:=by
 have N:=Qm e.cd;have M:∀z∈O,∃q∈Q,z∈q.2:=λz d=>nZ (f.mem_iff.mp d);have o:∀t∈twL Q H,∃(i:Nat) (q:Str×List Str),Q[i]?=some q/\H[i]?=some t.2/\t.1=q.2:=λt h=>by
  obtain⟨p,f,rfl⟩:=oT.mp h;obtain⟨i,l⟩:=getElem?_of_mem f;obtain⟨a,b⟩:=List.getElem?_zip_eq_some.mp l;exact⟨i,p.1,a,b,rfl⟩
 obtain⟨C,r,g⟩:=e.cs;refine⟨f.nodup_iff.mpr N,λz d=>?_,?_,λt h=>?_,?_,λc hc=>?_⟩;obtain⟨q,a,b⟩:=M z d;exact(e.qn.2 q a).2.2 z b
 ·rw[← r];exact sF (f.nodup_iff.mpr N) λz d=>by obtain⟨q,a,b⟩:=M z d;exact g q a z b
 ·obtain⟨i,q,a,b,n⟩:=o t h;obtain⟨u,v,s⟩:=m.w i q t.2 a b;have j:=Ao a;refine⟨λy x=>by simp_all,s,?_,λz d=>?_⟩;rw[n];exact hQ (sF (e.cd q j) (g q j)) (by lia);rw[n]at d;exact(e.qn.2 q j).2.2 z d
 ·unfold twL;rw[fI,length_zip];have:=e.l6;lia
 ·obtain⟨q,a,b⟩:=M c hc;obtain⟨i,l⟩:=getElem?_of_mem a;have k:i<H.length:=by rw[m.l];exact(hR.mp l).1
  refine⟨(q.2,H[i]),oT.mpr ⟨(q,H[i]),Ao (i:=i) (List.getElem?_zip_eq_some.mpr ⟨l,nL k⟩),rfl⟩,?_⟩;show q.2.contains c=true;simpa using b
def Qo(h:H.length=q.length):(twL q H).map Prod.snd=H:=by
 unfold twL;rw[map_map];exact List.map_snd_zip (by lia)
noncomputable abbrev R0A(H:List (List (List Int))):List (List Int):=if(H.all λh=>decide (0<h.length))then[[]]else[]
def pY(h:H.length=q.length):∀ r∈R0A H,sK (twL q H) [] r:=λr a=>by
 unfold R0A at a;split at a
 ·rename_i e;rw[Aa.mp a];refine M6 λt b z=>?_;have:t.2∈H:=by rw[← Qo h];exact List.mem_map_of_mem b
  have:=of_decide_eq_true (DJ.mp e _ this)
  simp_all
 grind
def Qp:(R0A h).Nodup:=by
 unfold R0A;split;simp
 simp
def sG{o:List Str}(a:Ho q H)(h:AR (twL q H) o)(i:Nat)(f:i<=o.length):(Ab (twL q H) o (R0A H) i).1.length<=3000:=by
 have b:∀z∈o.take i,∃t∈twL q H,z∈t.1:=λz c=>by
  obtain⟨t,d,e⟩:=h.hc z (BF c);exact⟨t,d,by simpa[has]using e⟩
 have:=O7 (List.Nodup.sublist (take_sublist i o) h.nd) b (Lq h (pY a.l) Qp i f) (iO h (pY a.l) i f);rw[Qo a.l]at this;have p:=a.p H.length
 grind
def Jy(q:List (Str×List Str))(h:List (List (List Int)))(o:List Str):D:=.tup [.tup ((sT ((Ab (twL q h) o (R0A h) o.length).1.map (pk o (bJ q)))).map tI),.tup ((Ab (twL q h) o (R0A h) o.length).2.1.map D.int),.int ((Ab (twL q h) o (R0A h) o.length).2.2:Nat)]
def Jz(b:Qc Q):(bJ Q).length<=100:=by
 obtain⟨C,f,a⟩:=b.cs;exact hQ (sF (Qm b.cd) λz c=>by obtain⟨q,d,e⟩:=nZ c;exact a q d z e) (by lia)
def O8{o:List Str}(a:Qc q)(b:Ho q H)(c:o.Perm (bJ q))(k:K (.val (Jy q H o)) [⟨.val,qD q⟩,⟨.val,hD H⟩,⟨.val,.tup (o.map D.str)⟩]) :
  CK bX [⟨.val,qD q⟩,⟨.val,hD H⟩,⟨.val,.tup (o.map D.str)⟩] K:=by
 have h:=Lr a b c;exact N4 b.l a.l6 a.qn h (Jz a) (λz d=>c.mem_iff.mpr d) rfl (pY b.l) (sG b h) k
def O9{o:List Str}(a:Qc Q)(b:Ho Q H)(f:o.Perm (bJ Q))(k:K (.val (Jy Q H o)) [⟨.val,qD Q⟩,⟨.val,hD H⟩,⟨.val,.tup (o.map D.str)⟩]) :
  CK eE [⟨.val,qD Q⟩,⟨.val,hD H⟩,⟨.val,.tup (o.map D.str)⟩] K:=by
 have h:=Lr a b f;obtain⟨q,c⟩:∃q,q∈Q:=List.exists_mem_of_length_pos a.l1;obtain⟨z,d⟩:=List.exists_mem_of_ne_nil _ (a.ne q c);refine O0 b.l a.l6 (λe=>?_) a.qn h (Jz a) (λe=>?_) (λz d=>f.mem_iff.mpr d) rfl (pY b.l) (sG b h) (O2 h (pY b.l) Qp λz d=>f.mem_iff.mp d) k
 ·have:=b.l
  grind
 ·have:=uZ c d
  grind
def P0(H:As s)(h:∀ t∈T,t.length<=n/\As t):(s.join T).length<=T.length*(n+s.length)/\As (s.join T):=by
 induction T with
 |nil=>exact⟨sS _,λc hc=>nomatch hc⟩
 | cons a r i=>
   have g:=h a pL;have d:=i λt f=>h t (Af _ f);rw[Ee,succ_mul];cases r with
   | nil=>
     have e:s.join [a]=a:=rfl
     lia
   | cons b r=>
     have e:s.join (a::b::r)=a++s++s.join (b::r):=rfl;rw[e,hV,hV];exact⟨by lia,nY (nY g.2 H) d.2⟩
def P1(h:∀t∈T,t.length<=n/\As t):(tupleText T).length<=3+T.length*(n+2)/\As (tupleText T):=by
 unfold tupleText;have:=P0 (s:=ofString ", ") (by unfold As;decide) h;have a:(ofString ", ").length=2:=rfl;have b:(ofString "(").length=1:=rfl;rw[hV,hV,b];rw[a]at this;have c:(ofString (if(T.length==1)=true then ",)" else ")")).length<=2/\As (ofString (if(T.length==1)=true then ",)" else ")")):=by unfold As;split<;>decide
 exact⟨by lia,nY (nY (by unfold As;decide) this.2) c.2⟩
structure Sh(n d:Nat)(x:D):Prop where
 c:(cK x).canLay0=true
 s:(cK x).showable=true
 h:(cK x).hasDict=false
 d:(cK x).depth<=d
 l:(cK x).shown.length<=n/\As (cK x).shown
theorem Sh.tup{n d m:Nat}{l:List D}(h:∀ x∈l,Sh n d x)(j:3+l.length*(n+2)<=m):Sh m (d+1) (.tup l):=by
 have b:canLayAll0 (toPys l)=true/\PyData.showableAll (toPys l)=true/\hasDictAll (toPys l)=false/\depthAll (toPys l)<=d/\(shownAll (toPys l)).length=l.length/\∀ t∈shownAll (toPys l),t.length<=n/\As t:=by
  clear j
  induction l with
  |nil=>exact⟨rfl,rfl,rfl,sS _,rfl,λt k=>nomatch k⟩
  | cons a l i=>
    obtain⟨q,I,e,o,f,g⟩:=i λx p=>h x (Af _ p);have A:=h a pL;refine⟨?_,?_,?_,?_,?_,?_⟩;simp[toPys,canLayAll0,A.c,q];simp[toPys,PyData.showableAll,A.s,I];simp[toPys,hasDictAll,A.h,e];simp only[toPys,depthAll];have:=A.d;lia;simp only[toPys,shownAll,length_cons,f];exact List.forall_mem_cons.mpr ⟨A.l,g⟩
 obtain⟨q,I,e,o,f,g⟩:=b;refine⟨?_,?_,?_,?_,?_⟩;simpa[cK,canLay0]using q;simpa[cK,showable]using I;simpa[cK,PyData.hasDict]using e;simp only[cK,depth];lia;simp only[cK,PyData.shown];have:=P1 g;rw[f]at this
 lia
def Sh.le{n d a b:Nat}(h:Sh n d x)(H:n<=a)(e:d<=b):Sh a b x:=⟨h.c,h.s,h.h,hQ h.d e,hQ h.l.1 H,h.l.2⟩
theorem Sh.int(a:0<=v)(H:v < 10000000):Sh 13 0 (.int v):=by
 refine⟨rfl,?_,rfl,by simp[cK,depth],PyData.shown_int_le (by lia),λc hc=>Hs λz=>?_⟩
 ·simp[cK,showable];rcases Nat.eq_zero_or_pos v.natAbs with z|z
  ·simp_all
  ·exact Ck ((Nat.log2_lt (by lia)).mpr (by lia:v.natAbs<2^24)) (by decide)
 ·exact PyProof.Rows.shown_int_free' (k:=c) (by lia) v hc
def P2:∀c:_root_.Fin 128,(reprChar 39 c).all (· < 128)=true/\(reprChar 34 c).all (· < 128)=true:=by decide +kernel
theorem Sh.str(h:Tx z):Sh 1002 0 (.str z):=by
 refine⟨?_,rfl,rfl,by simp[cK,depth],?_⟩;simp only[cK,canLay0,PyData.strOk];simp;intro i e;have:=h.2 z.cps[i] (by simp);lia;simp only[cK,PyData.shown];refine⟨hQ (StrLaws.reprText_len z λc hc=>Ck (h.2 c hc) (by decide)) (by have:=h.1;lia),?_⟩;have q:reprQuote z=39\/reprQuote z=34:=by unfold reprQuote;split;exact .inr rfl;simp
 have b:∀ (l:List Nat) (a:Array Nat),(∀ c∈l,c < 128)->(∀ c∈a.toList,c < 128)->∀ c∈(l.foldl (λo c=>o++(reprChar (reprQuote z) c).toArray) a).toList,c < 128:=λl=>by
  induction l with
  |nil=>exact λa _ h=>h
  | cons x l i=>
    intro a d H;refine i _ (λc hc=>d c (Af _ hc)) λc hc=>?_;rw[toList_append]at hc;rcases sU.mp hc with hc|hc;exact H c hc
    ·have:=P2 ⟨x,d x pL⟩;rcases q with q|q;rw[q]at hc;exact of_decide_eq_true (DJ.mp this.1 c hc)
     simp_all
 intro c hc;unfold reprText at hc;rw[← Array.foldl_toList,DD]at hc;rcases sU.mp hc with hc|hc;refine b _ _ h.2 (λc hc=>?_) c hc;rw[Aa.mp hc];lia;rw[Aa.mp hc];lia
theorem Sh.ok{n d:Nat}(h:Sh n d x)(H:n<=16000000)(a:d<=40):Ia x:=
 ⟨h.c,h.s,h.h,hQ h.d a,hQ h.l.1 (hQ H (by decide))⟩
def Sh.cmp{n d:Nat}(h:Sh n d x):cW (.str (cK x).shown)=true:=by
 unfold cW;rw[Fw];refine⟨?_,rfl⟩;simp only[cK,canLay0,PyData.strOk];simp;intro i H;have:=h.l.2 (cK x).shown.cps[i] (by simp);lia
def P4{o:List Str}(c:Ho q l)(h:AR (twL q l) o)(d:sK (twL q l) o r)(H:z∈o):0<=r.getD (o.idxOf z) 0/\r.getD (o.idxOf z) 0<1000:=by
 obtain⟨t,a,hc⟩:=h.hc z H;obtain⟨b,f,e⟩:=d.2 t a;obtain⟨p,g,rfl⟩:=oT.mp a;obtain⟨i,m⟩:=getElem?_of_mem g;obtain⟨j,k⟩:=List.getElem?_zip_eq_some.mp m;have v:Vb b:=((c.w i _ _ j k).1 b f).2;have:Vb (pk o (cmn o p.1.2) r):=by rw[← e];exact PD v
 exact this _ (oT.mpr ⟨z,List.mem_filter.mpr ⟨H,by simpa[has]using hc⟩,rfl⟩)
def P5{o:List Str}(b:∀ i,i<=o.length->(Ab t o r i).1.length<=3000):∀ i,i<=o.length->∀ v∈(Ab t o r i).2.1,0<=v/\v < 10000000:=λi=>by
 induction i with
 |zero=>exact λ_ v a=>nomatch a
 | succ i j=>
   intro h v a;rcases sU.mp a with a|a;exact j (Aq h) v a
   ·rw[Aa.mp a];have:=b (i+1) h;have e:(Ab t o r (i+1)).1=BE t (o.take i) (Br o i) (Ab t o r i).1:=rfl
    lia
def Sh.ints{l:List Int}(h:∀ v∈l,0<=v/\v < 10000000)(c:3+l.length*15<=m):Sh m 1 (tI l):=
 .tup (n:=13) (d:=0) (λx b=>by
  obtain⟨v,a,rfl⟩:=oT.mp b;exact .int (h v a).1 (h v a).2) (by simp_all)
def P6{os:List Str}(e:Qc Q)(b:Ho Q H)(f:os.Perm (bJ Q)):Sh 16000000 3 (Jy Q H os):=by
 have h:=Lr e b f;have c:=sG b h;have s:=Jz e;have t:=h.l;have u:=c os.length (hC _);have g:=iO h (pY b.l) os.length (hC _);have L:=Jx h c os.length (hC _);have i:=P5 c os.length (hC _);have N:=Jw (ts:=twL Q H) (os:=os) (R0:=R0A H) os.length;rw[take_length]at g;unfold Jy;generalize Ab (twL Q H) os (R0A H) os.length=G at *;have l:Sh 4515003 2 (.tup ((sT (G.1.map (pk os (bJ Q)))).map tI)):=by
  refine .tup (n:=1503) (d:=1) (λx a=>?_) ?_;obtain⟨k,j,rfl⟩:=oT.mp a;obtain⟨r,o,rfl⟩:=oT.mp ((bY _ _).mp j);refine .ints (λv p=>?_) (by unfold pk;grind);obtain⟨z,q,rfl⟩:=oT.mp p;have:=P4 b h (g r o) (f.mem_iff.mpr q);lia;have:=jO (G.1.map (pk os (bJ Q)))
  grind
 have A:Sh 4515003 2 (tI G.2.1):=(Sh.ints (m:=93) i (by lia)).le (by decide) (by decide);have w:Sh 4515003 2 (.int (G.2.2:Nat)):=(Sh.int (by lia) (by lia)).le (by decide) (by decide);refine .tup (n:=4515003) (d:=2) (λx a=>?_) (by simp);rcases sY.mp a with rfl|a;exact l
 rcases sY.mp a with rfl|a;exact A
 simp_all
def P7(c:Qc Q)(e:Ho Q H):Sh 16000000 4 (.tup [qD Q,hD H]):=by
 have t:=c.l6;have C:Sh 1204893 3 (qD Q):=.tup (n:=200813) (d:=2) (λx a=>by
  obtain⟨q,f,rfl⟩:=oT.mp a;obtain⟨g,u,h⟩:=c.qn.2 q f;refine .tup (n:=100403) (d:=1) (λx a=>?_) (by simp);rcases sY.mp a with rfl|a;exact(Sh.str g).le (by decide) (by decide)
  rw[Aa.mp a];refine .tup (n:=1002) (d:=0) (λx a=>?_) (by grind);obtain⟨z,j,rfl⟩:=oT.mp a;exact .str (h z j)) (by grind)
 have E:Sh 1204893 3 (hD H):=.tup (n:=60203) (d:=2) (λx a=>by
  obtain⟨w,k,rfl⟩:=oT.mp a;obtain⟨i,l⟩:=getElem?_of_mem k;have b:i<Q.length:=by rw[← e.l];exact(hR.mp l).1
  obtain⟨m,y,A⟩:=e.w i _ w (nL b) l;have:=(c.qn.2 _ (Dh b)).2.1;refine .tup (n:=1503) (d:=1) (λx a=>?_) (by rw[fI];lia);obtain⟨r,o,rfl⟩:=oT.mp a;obtain⟨B,p⟩:=m r o;exact .ints (λv s=>by have:=p v s;lia) (by lia)) (by rw[fI,e.l];lia)
 refine .tup (n:=1204893) (d:=3) (λx a=>?_) (by simp);rcases sY.mp a with rfl|a;exact C
 simp_all
def yU:vD a b Z Q=a Z (Ff b Q):=rfl
def P8:GV r g b Z Q=RI r Z λl L a=>oS g b (λo=>Q (jA L a o)) l (lendO L a):=rfl
def P9(h:d∈CY l L H):d∈l:=mem_of_mem_drop (BF h)
abbrev oD(o:List Str):D:=.tup (o.map D.str)
def Q0(ns:List Int)(hn:ns.length<=63):nW [⟨.val,.lst (ns.map D.int)⟩] λy _=>y=.val (.bl true):=by
 have sl:10000<=sizeLine:=by decide
 unfold nW GB;refine yD _ _ _ (λo h=>Pw h) ?_;show pW [_,none,none,none,none,none,none,none,none] _;unfold pW;rw[yU,P8];walk_at"dx";have I:=Pj (ns.map D.int) none (some 2);rw[fI]at I;generalize (CY (ns.map D.int) none (some 2)).length=n at *;generalize J:(if(n:Int) > 1 then(n:Int)else 1)=N;have R:1<=N/\N<=63:=by rw[← J];split<;>lia
 refine⟨⟨by lia,by lia⟩,?_⟩;refine ZO (eC eX (eC (kI (kY bA)) eX)) _ (λi Y=>∃(q:Bool) (r:D) (s:Option (Bool×D)) (t u v:Bool) (w x A:D) (B:Option (Bool×D)) (c:Bool) (e:D),Y=[some ⟨.val,.lst (ns.map D.int)⟩,ov q r,fo s,ov t w,ov u x,ov v A,fo B,ov c e,none]) ⟨false,.non,none,false,false,false,.non,.non,.non,none,false,.non,rfl⟩ ?_ ?_
 ·rintro i d Y hd ⟨q,r,s,t,u,v,w,x,A,B,c,e,rfl⟩;obtain⟨hi,rfl⟩:=fD hd;walk_at "dx";rw[yU];show RS _ _ (Ff _ _);walk_at "dx";refine C0 (by lia) (by lia) λa b=>?_;walk_at "dx";rw[yU];refine Px (kY bA) ?_;walk_at "dx";refine yN λqs a1 S g=>?_;walk_at "dx";refine⟨by decide,?_⟩;obtain⟨p,K,l⟩:∃ p,atI [D.int 3000,.int 300] (if 0 < (0:Int)+i then 1 else 0)=some (.int p)/\(p=3000\/p=300):=by
   split;exact⟨300,rfl,.inr rfl⟩;exact⟨3000,rfl,.inl rfl⟩
  rw[K];walk_at"dx";refine G9 l g λhs a2 L f=>?_;have ps:=P7 g f;walk_at"dx";refine⟨by decide,mO (ps.ok (by decide) (by decide)) ?_⟩;have M:cW (.str (cK (.tup [qD qs,hD hs])).shown)=true:=ps.cmp;generalize π:(cK (.tup [qD qs,hD hs])).shown=z at *;walk_at"dx";refine⟨by rw[bI];exact hQ (by decide:2<=10000) sl,?_⟩;refine dI _ _ (λi acc Y=>∃(O:List (List Str)) (C E:Int),acc=O.map oD/\O.length=i/\(∀U∈O,U.Perm (bJ qs))/\Y=[_,_,some ⟨.own,.lst [.int C,.int E]⟩,_,_,_,_,_,none]) ⟨[],a2,L,rfl,rfl,(λU h=>nomatch h),rfl⟩ ?_ ?_;rintro j d acc Y hd ⟨O,C,E,rfl,F,G,rfl⟩;obtain⟨hj,rfl⟩:=fD hd;walk_at"dx";refine jP g.qn ?_;walk_at"dx";refine iX (xs:=(bJ qs).map D.str) (.inl ⟨rfl,rfl⟩) (by rw[fI];have:=Jz g;lia) λys a3 P Q=>?_;obtain⟨U,rfl,m⟩:=gN Q;walk_at"dx";refine⟨_,rfl,O++[U],a3,P,by rw[Aj];rfl,by rw[Av,F];rfl,λo H=>?_,rfl⟩;rcases sU.mp H with h|h;exact G o h;rw[Aa.mp h];exact m;rintro acc Y ⟨O,C,E,rfl,F,G,rfl⟩;rw[bI]at F;walk_at"dx";have T:=Pj (O.map oD) none (some 1);refine⟨by rw[fI]at *;exact hQ (by lia:_<=4) (hQ (by decide) sl),?_⟩;refine cP (λi Y=>∃(c:Bool) (e:D),Y=[_,_,_,_,_,_,_,ov c e,none]) ⟨c,e,rfl⟩ ?_ ?_
  ·rintro k d Y hd ⟨c,e,rfl⟩;obtain⟨U,H,rfl⟩:∃ U∈O,d=oD U:=by
    have:=Ao hd;rcases sU.mp this with h|h;obtain⟨U,l,rfl⟩:=oT.mp h;exact⟨U,l,rfl⟩;obtain⟨U,l,rfl⟩:=oT.mp (P9 h);exact⟨U,l,rfl⟩
   have m:=G U H;have ts:=P6 g f m;walk_at"dx";refine O8 g f m ?_;walk_at"dx";refine mO (ts.ok (by decide) (by decide)) ?_;walk_at"dx";refine O9 g f m ?_;walk_at"dx";refine mO (ts.ok (by decide) (by decide)) ?_;walk_at"dx";refine PJ ts.cmp ?_;walk_at"dx";exact⟨_,.inl rfl,true,_,rfl⟩
  ·rintro Y ⟨c,e,rfl⟩;walk_at"dx";refine⟨by decide,mO (ps.ok (by decide) (by decide)) ?_⟩;rw[π];walk_at"dx";refine PJ M ?_;walk_at"dx";exact⟨_,.inl rfl,true,_,some (true,_),true,true,true,_,_,_,some (true,_),c,e,rfl⟩
 ·rintro Y ⟨q,r,s,t,u,v,w,x,A,B,c,e,rfl⟩;show RS _ _ _;walk_at"dx"
def Qq:IU:=⟨λi=>[80,87,99,94,106,113,120,125,132,137,144,149,53,58,36,31,48,26,41,63,68,19,73,154,159,164].getD i 0,λi=>[PySem.cX4,PySem.cX5,PySem.cX7,PySem.cX6,PySem.bW5,PySem.bW6,PySem.bW7,PySem.bW8,PySem.bW9,PySem.bX0,PySem.bX1,PySem.bX2,PySem.cW9,PySem.cX0,PySem.cW6,PySem.cW5,PySem.cW8,PySem.cW4,PySem.cW7,PySem.cX1,PySem.cX2,PySem.cW3,PySem.cX3,PySem.bX3,PySem.bX4,PySem.yV].getD i default⟩
def Q1(e:a=W.fnOf x x (qC s) (jE s) (bZ s) .none .none .none a.pyModule none a.code .none)(l:K.lookup f=some ⟨.type "function",none,.func a,#[]⟩)(d:W.codeIn K a.code x=true)(k:W.keepIn K (.ref f)=true):DQ K x x s f a:=⟨⟨_,_,_,_,_,_,_,_,_,e,l,d⟩,k⟩
def Q2(X:(PySem.KF P).In h)(G:h.Ns mainGlobals mg):Txt (PySem.KF P) mg Qq:=by
 refine⟨?_,?_,λx h=>?_⟩
 ·unfold tb
  repeat' first|exact IV|refine qY (W.mg_of X G (by kernel_rfl)) ?_
 ·unfold tb
  repeat' first|exact IV|refine qY (Q1 (by kernel_rfl) (by kernel_rfl) (by kernel_rfl) (by kernel_rfl)) ?_
 ·repeat' (first|cases h;done|(cases h with|head=>exact W.mg_none_of X G (by kernel_rfl)|tail _ h=>?_))
def Q3(T:Txt (PySem.KF w.params) mg Qq):AH P w (PySem.KF w.params) mg base CU 6 164 PySem.yV ["_law_script"] (CW 1 nW):=
 G2 T
def bW4:W.WalkO PySem.Vw [] (W.XL PySem.Vw []) (W.InK PySem.KF) PySem.Challenge.rw_mostrows_k22_levels_and_looks.row.toRowW PySem.dP1 [] (λf i=>PySem.call f i):=by
 refine PySem.cE3 (l:=PySem.Challenge.rw_mostrows_k22_levels_and_looks) (K:=PySem.KF) (n:=63) (k:=6) (x:="_law_script") (CX:=λ_=>CU) (sp:=λw=>CW 1 nW) rfl (by decide) (by kernel_rfl) ⟨rfl,by decide,by decide,rfl⟩ (λw h Y=>Y) (λw m g h X G e=>?_) (λw _ a N b c H=>ZL (kY yD) (by kernel_rfl) c H (Q0 N b)) λ_ _ _ _ _ z=>z;have T:=Q2 X G;have d:=(T.m 25 _ rfl).symm.trans e;cases d;exact⟨PySem.yV,λs v=>.of_eq (by kernel_rfl),λB _ _=>Q3 T⟩
end PySem
open PySem.W PySem PyProof.Rows
theorem PySem.Challenge.cw_mostrows_k22_levels_and_looks_holds : PySem.Challenge.rw_mostrows_k22_levels_and_looks.Holds :=
 PySem.dY3 PySem.bW4
