import PyProof.Rows.All
import Wide.All
import OpenK.AllK
import Wide.FinOn
import Lean
import PyProof.EqAt
import PyProof.EqKinds
import PyProof.TupleCall
import PyProof.StationsW
import PyProof.RulesAs
import PyProof.ExcClass2
import PyProof.Rows.Exc
import OpenK.KMake
import PyProof.InstStoreFacts
import OpenK.KCls
import PyProof.ExcArgsOwn
import PyProof.ExcAttrAll.ValueError
import PyProof.FitsInt
import PyProof.FString
import PyProof.FString4
import PyProof.StrLawsRepr
import PyProof.NsDelKeeps
import PyProof.NoPylong
import PyProof.FitsBits
import PyProof.Rows.RuleM_int
import PyProof.P3In
import PyProof.NeData
import PyProof.Draws
import PyProof.ZipIter
import PyProof.EnumMake
import Wide.Seal
import PyProof.P3Eq
import PyProof.WalksMore
import PyProof.SetNew
import PyProof.SetKind
import PyProof.Rows.SetFrom
import PyProof.AttrMissHeap
import PyProof.DictRoadsH
import PySem.SetOps
import PyProof.SetScanFacts
import PyProof.TupleKey
import PyProof.IsRules
import PyProof.SetRoads
import PyProof.WalkInts
import PyProof.SeqI3
import PyProof.Rows.CallKwBuiltin
import PyProof.FactsAll.zip_1
import PyProof.ListMulAny
import PySem.Challenge.RW_mostrows_k43_hard_houses
set_option compiler.extract_closed false
set_option Elab.async false
set_option linter.all false
set_option maxRecDepth 100000
set_option maxHeartbeats 4000000
def a4x:=@PySem.wpAny_bind
def a4y:=@PySem.wpAny_pure
def a4z:=@if_neg
def a4A:=@if_pos
def a4B:=@beq_iff_eq
def a4C:=@PySem.wpAny_holding
def a4D:=@decide_eq_false
def a4E:=@decide_eq_true_eq
def a4F:=@if_false
def a4G:=@PySem.wpAny_field
def a4H:=@PySem.wpAny_call_entry
def a4I:=@PySem.wpAny_rule
def a4J:=@PySem.wpAny_newObj_type
def a4K:=@PySem.wpAny_seqItems
def a4L:=@if_true
def a4M:=@PySem.wpAny_mono
def a4N:=@PySem.wpAny_Call_Name_kw
def a4O:=@PySem.codeAny_builtin
def a4P:=@PySem.sizeLine_eq
def a4Q:=@PySem.wpAny_pyIter_tuple
def a4R:=@PySem.builtinLookup_eq_fast
def a4S:=@PySem.wpAny_loadPart'
def a4T:=@PySem.wpAny_truthy_bool
def a4U:=@PySem.plainId_quiet
def a4V:=@congrArg
def a4W:=@decide_eq_true
def a4X:=@PySem.wpAny_passesOwn
def a4Y:=@PySem.wpAny_specialOf
def a4Z:=@bne_self_eq_false
def a5k:=@PySem.wpAny_typeOf
def a5l:=@PySem.wpAny_getItem_str_slice
def a5m:=@PySem.wpAny_attempt
def a5n:=@PySem.wpAny_updateSeq
def a5o:=@PySem.call_meets
def a5p:=@PySem.wpAny_askSetting
def a5q:=@PySem.wpAny_setField
def a5r:=@PySem.wpAny_standAt
def a5s:=@PySem.codeAny_mono
def a5t:=@PySem.wpAny_ite_split
def a5u:=@PySem.wpAny_setEntries_of
def a5v:=@PySem.isSubtype_type
def a5w:=@PySem.putSet_of
def a0a:=@List.getElem?_eq_some_iff
def a1a:=@List.getElem?_eq_getElem
def a2a:=@PySem.Heap.get?_push_of_some
def a3a:=@List.getElem?_set_ne
def a4a:=@Option.some.inj
def a5a:=@PySem.Heap.lt_size
def a6a:=@List.size_toArray
def a7a:=@PySem.Heap.get?_push_size
def a8a:=@Nat.le_refl
def a9a:=@List.mem_cons_self
def a0b:=@List.mem_cons_of_mem
def a1b:=@List.mem_singleton
def a2b:=@List.mem_cons
def a3b:=@List.getElem?_set_self
def a4b:=@List.getElem?_append_right
def a5b:=@Array.getElem?_toList
def a6b:=@Array.getElem?_eq_getElem
def a7b:=@PySem.W.mg_of
def a8b:=@List.getElem?_map
def a9b:=@Nat.lt_of_lt_of_le
def a0c:=@List.length_append
def a1c:=@List.getElem?_toArray
def a2c:=@Option.map_eq_some_iff
def a3c:=@Bool.and_eq_true
def a4c:=@List.getElem?_append_left
def a5c:=@List.mem_append_right
def a6c:=@List.mem_of_getElem?
def a7c:=@List.mem_append
def a8c:=@Array.length_toList
def a9c:=@Bool.false_ne_true
def a0d:=@Nat.ne_of_lt
def a1d:=@PySem.Heap.get?_update_other
def a2d:=@List.take_of_length_le
def a3d:=@Ne.symm
def a4d:=@PySem.W.mg_none_of
def a5d:=@PySem.Heap.get?_update_self
def a6d:=@List.getElem?_eq_none_iff
def a7d:=@Nat.lt_irrefl
def a8d:=@List.map_cons
def a9d:=@PySem.PassesOwn.never
def a0e:=@List.eq_nil_of_length_eq_zero
def a1e:=@PySem.F.plainAttrs_list
def a2e:=@PyProof.Rows.callWith_type1
def a3e:=@List.length_map
def a4e:=@Nat.zero_le
def a5e:=@Nat.le_trans
def a6e:=@List.getD_eq_getElem?_getD
def a7e:=@List.getElem?_cons_succ
def a8e:=@PyProof.Rows.slot_tuple_getitem
def a9e:=@Nat.zero_add
def a0f:=@Array.getElem?_eq_some_iff
def a1f:=@Classical.byContradiction
def a2f:=@List.getElem_of_mem
def a3f:=@PySem.Heap.SameBut.update
def a4f:=@PySem.Around.under_plainId
def a5f:=@PySem.W.kia_one
def a6f:=@List.append_nil
def a7f:=@List.mem_range
def a8f:=@List.length_set
def a9f:=@List.pairwise_cons
def a0g:=@List.mem_append_left
def a1g:=@List.length_take
def a2g:=@Nat.lt_succ_self
def a3g:=@PySem.F.plain_extend_loop
def a4g:=@PySem.Heap.size_push
def a5g:=@PySem.F.slot_list_append
def a6g:=@PySem.F.type_list_append
def a7g:=@List.mem_of_mem_take
def a8g:=@Nat.le_of_lt
def a9g:=@Nat.lt_trans
def a0h:=@PyProof.Rows.F.plain_set_update_loop
def a1h:=@Nat.pow_succ
def a2h:=@Array.toList_push
def a3h:=@List.ext_getElem?
def a4h:=@List.filterMap_cons
def a5h:=@List.nodup_cons
def a6h:=@Array.getD_eq_getD_getElem?
def a7h:=@PySem.F.slot_tuple_iterator_next
def a8h:=@List.mem_filterMap
def a9h:=@Nat.ne_of_gt
def a0i:=@Nat.mul_comm
def a1i:=@List.mem_map
def a2i:=@PySem.mem_of_lookup
def a3i:=@List.length_drop
def a4i:=@List.lookup_cons
def a5i:=@List.all_eq_true
def a6i:=@List.getElem_mem
def a7i:=@List.length_cons
def a8i:=@List.map_append
def a9i:=@Nat.not_lt_zero
def a0j:=@List.getElem?_eq_none
def a1j:=@Nat.le_of_lt_succ
def a2j:=@Nat.le_of_not_lt
def a3j:=@Nat.lt_of_not_le
def a4j:=@Int.emod_lt_of_pos
def a5j:=@Nat.not_lt
def a6j:=@Nat.mul_assoc
namespace Hd
open PySem PySem.W
noncomputable def bI9(s:Stmt)(i:Nat):Stmt:=match s with
 | .ClassDef _ _ _ b _ _ _ _ _ _ _=>b.getD i (.Pass ⟨0,0,0,0⟩)
 | _=>.Pass ⟨0,0,0,0⟩
noncomputable def top(i:Nat):Stmt:=PySem.Challenge.pw_mostrows_k43_hard_houses.main.body.getD i (.Pass ⟨0,0,0,0⟩)
noncomputable def kG(x q:Str)(s:Stmt)(m:Value)(c:Addr):FuncData:=match s with
 | .FunctionDef _ a b _ _ _ e _ _ _=>fnOf x q a b e .none .none .none m none (.ref c) .none
 | _=>default
noncomputable def dB6:DefRec:=match top 51 with
 | .FunctionDef n a b _ _ _ e _ _ p=>⟨n,a,b,e,p⟩
 | _=>⟨"",default,[],default,default⟩
noncomputable def kE(P:Params)(x:Str)(t:Tok)(v:Value):DictEntry:=⟨PyData.keyHash P x,.str x t,v⟩
noncomputable def kT(l:List Value):Obj:=⟨.type "tuple",none,.seq l.toArray 0,#[]⟩
noncomputable def kF(f:FuncData):Obj:=⟨.type "function",none,.func f,#[]⟩
noncomputable def cM5:=kG "hard" "hard" (top 1) (.str "mostrows.hard" 187) 18
noncomputable def dB7:=kG "__init__" "BadQuestion.__init__" (bI9 (top 4) 0) (.str "mostrows.errors" 195) 45
noncomputable def dB8:=kG "__init__" "BadHouse.__init__" (bI9 (top 5) 0) (.str "mostrows.errors" 195) 64
noncomputable def cM6:=kG "is_name" "is_name" (top 9) (.str "mostrows.names" 265) 74
noncomputable def cM7:=kG "are_unlike_names" "are_unlike_names" (top 10) (.str "mostrows.names" 265) 79
noncomputable def cM8:=kG "names_of" "names_of" (top 15) (.str "mostrows.questions" 283) 84
noncomputable def cM9:=kG "columns_of" "columns_of" (top 16) (.str "mostrows.questions" 283) 89
noncomputable def cN0:=kG "is_right_alone" "is_right_alone" (top 17) (.str "mostrows.questions" 283) 96
noncomputable def bJ0:=kG "is_right_behind" "is_right_behind" (top 18) (.str "mostrows.questions" 283) 103
noncomputable def bJ1:=kG "look" "look" (top 19) (.str "mostrows.questions" 283) 110
noncomputable def bJ2:=kG "is_value" "is_value" (top 22) (.str "mostrows.tables" 329) 117
noncomputable def bJ3:=kG "is_row" "is_row" (top 23) (.str "mostrows.tables" 329) 122
noncomputable def bJ4:=kG "first_wrong_row" "first_wrong_row" (top 24) (.str "mostrows.tables" 329) 129
noncomputable def bJ5:=kG "table_of" "table_of" (top 25) (.str "mostrows.tables" 329) 136
noncomputable def bJ6:=kG "places_of" "places_of" (top 26) (.str "mostrows.tables" 329) 141
noncomputable def bJ7:=kG "picked" "picked" (top 27) (.str "mostrows.tables" 329) 146
noncomputable def bJ8:=kG "cut" "cut" (top 28) (.str "mostrows.tables" 329) 151
noncomputable def bJ9:=kG "common_columns" "common_columns" (top 29) (.str "mostrows.tables" 329) 156
noncomputable def bK0:=kG "grouped" "grouped" (top 30) (.str "mostrows.tables" 329) 163
noncomputable def bK1:=kG "joined" "joined" (top 31) (.str "mostrows.tables" 329) 168
noncomputable def bK2:=kG "look_house" "look_house" (top 33) (.str "mostrows.houses" 407) 175
noncomputable def bK3:=kG "tables_of" "tables_of" (top 34) (.str "mostrows.houses" 407) 180
noncomputable def bK4:=kG "named_tables" "named_tables" (top 35) (.str "mostrows.houses" 407) 187
noncomputable def bK5:=kG "first_rows" "first_rows" (top 37) (.str "mostrows.columnwise" 433) 192
noncomputable def bK6:=kG "tellers_of" "tellers_of" (top 38) (.str "mostrows.columnwise" 433) 197
noncomputable def bK7:=kG "in_all" "in_all" (top 39) (.str "mostrows.columnwise" 433) 202
noncomputable def bK8:=kG "by_columns" "by_columns" (top 40) (.str "mostrows.columnwise" 433) 207
noncomputable def bK9:=kG "pairs_of" "pairs_of" (top 42) (.str "mostrows.trees" 459) 214
noncomputable def bL0:=kG "by_tree" "by_tree" (top 44) (.str "mostrows.treewise" 471) 221
noncomputable def bL1:=kG "_law_box" "_law_box" (top 46) (.str "law_mostrows_k43_hard_houses" 485) 228
noncomputable def bL2:=kG "_law_take" "_law_take" (top 47) (.str "law_mostrows_k43_hard_houses" 485) 235
noncomputable def bL3:=kG "_law_formed" "_law_formed" (top 48) (.str "law_mostrows_k43_hard_houses" 485) 240
noncomputable def bL4:=kG "_law_by_trees" "_law_by_trees" (top 49) (.str "law_mostrows_k43_hard_houses" 485) 245
noncomputable def bL5:=kG "_law_by_orders" "_law_by_orders" (top 50) (.str "law_mostrows_k43_hard_houses" 485) 252
noncomputable def zT:=kG "law" "law" (top 51) (.str "law_mostrows_k43_hard_houses" 485) 259
noncomputable def kC(x:Str)(a:Tok)(q:Str)(b c:Tok)(d e f:Int)(g:Addr)(h:Int)(i j k l:Addr)(m n:Int)(o:Tok):Obj:=⟨.type "code",none,.fields #[.str x a,.str q b,.str "/claim/cut.py" c,.int d 0,.int e 0,.int 0 0,.int 0 0,.int f 0,.ref g,.bool true,.int h 0,.ref i,.none,.ref j,.ref k,.ref l,.int m 0,.int n 0,.str "/claim/cut.py" o],#[]⟩
noncomputable def KF(P:Params):W.Frag:=[
(2,⟨.none,none,(.dict #[] 0),#[]⟩),
(3,⟨(.type "dict"),none,(.dict #[kE P "__name__" 165 (.str "law_mostrows_k43_hard_houses" 485),kE P "__doc__" 166 .none,kE P "__package__" 167 .none,kE P "__loader__" 168 (.builtin "__main__.__loader__#opaque"),kE P "__spec__" 169 .none,kE P "__annotations__" 170 (.ref 6),kE P "__builtins__" 171 (.ref 4),kE P "__file__" 173 (.str "/claim/cut.py" 172),kE P "__cached__" 174 .none,kE P "hard" 194 (.ref 19),kE P "RowsError" 214 (.ref 29),kE P "BadQuestion" 239 (.ref 49),kE P "BadHouse" 264 (.ref 68),kE P "LETTERS" 268 (.str "abcdefghijklmnopqrstuvwxyz" 267),kE P "LONGEST" 270 (.int 6 269),kE P "is_name" 276 (.ref 75),kE P "are_unlike_names" 282 (.ref 80),kE P "MOST_TABLES" 286 (.int 6 285),kE P "MOST_COLUMNS" 288 (.int 6 287),kE P "WIDEST" 290 (.int 4 289),kE P "names_of" 296 (.ref 85),kE P "columns_of" 302 (.ref 90),kE P "is_right_alone" 310 (.ref 97),kE P "is_right_behind" 319 (.ref 104),kE P "look" 328 (.ref 111),kE P "GREATEST" 332 (.int 999 331),kE P "is_value" 339 (.ref 118),kE P "is_row" 345 (.ref 123),kE P "first_wrong_row" 355 (.ref 130),kE P "table_of" 363 (.ref 137),kE P "places_of" 369 (.ref 142),kE P "picked" 375 (.ref 147),kE P "cut" 381 (.ref 152),kE P "common_columns" 387 (.ref 157),kE P "grouped" 400 (.ref 164),kE P "joined" 406 (.ref 169),kE P "look_house" 418 (.ref 176),kE P "tables_of" 424 (.ref 181),kE P "named_tables" 432 (.ref 188),kE P "first_rows" 440 (.ref 193),kE P "tellers_of" 446 (.ref 198),kE P "in_all" 452 (.ref 203),kE P "by_columns" 458 (.ref 208),kE P "pairs_of" 470 (.ref 215),kE P "by_tree" 484 (.ref 222),kE P "_law_box" 496 (.ref 229),kE P "_law_take" 506 (.ref 236),kE P "_law_formed" 512 (.ref 241),kE P "_law_by_trees" 518 (.ref 246),kE P "_law_by_orders" 535 (.ref 253),kE P "law" 546 (.ref 260)] 51),#[]⟩),
(15,kT []),
(18,⟨(.type "code"),none,(.fields #[(.str "hard" 189),(.str "hard" 190),(.str "/claim/cut.py" 191),(.int 2 0),(.int 1 0),(.int 0 0),(.int 0 0),(.int 3 0),(.ref 15),(.bool true),(.int 181 0),(.ref 16),.none,.none,.none,(.ref 17),(.int 192 0),(.int 2 0),(.str "/claim/cut.py" 193)]),#[]⟩),
(19,kF cM5),
(20,kT [(.type "ValueError")]),
(27,kT []),
(28,⟨(.type "dict"),none,(.dict #[kE P "__module__" 204 (.str "mostrows.errors" 195),kE P "__firstlineno__" 208 (.int 7 207),kE P "__static_attributes__" 209 (.ref 27),kE P "__weakref__" 211 (.ref 30),kE P "__doc__" 212 .none] 3),#[]⟩),
(29,⟨(.type "type"),none,(.cls ⟨"RowsError",[(.type "ValueError")],[(.ref 29),(.type "ValueError"),(.type "Exception"),(.type "BaseException"),(.type "object")],28,"RowsError",true,[],[(.ref 49),(.ref 68)],false,none,false⟩),#[(some (.ref 20)),none,(some (.str "RowsError" 197)),(some (.str "RowsError" 205)),(some (.builtin "ValueError.__new__")),(some (.bool true))]⟩),
(30,⟨(.type "getset_descriptor"),none,(.fields #[(.str "__weakref__" 210),(.ref 29),(.builtin "ExceptionGroup.__weakref__"),.none]),#[]⟩),
(33,kT [(.ref 29)]),
(40,kT []),
(42,kT [(.str "self" 230),(.str "at" 231)]),
(43,kT []),
(45,kC "__init__" 227 "BadQuestion.__init__" 228 229 11 2 3 40 181 41 42 43 44 232 11 233),
(46,kF dB7),
(47,kT [(.str "at" 235)]),
(48,⟨(.type "dict"),none,(.dict #[kE P "__module__" 222 (.str "mostrows.errors" 195),kE P "__firstlineno__" 226 (.int 9 225),kE P "__init__" 234 (.ref 46),kE P "__static_attributes__" 236 (.ref 47),kE P "__doc__" 237 .none] 2),#[]⟩),
(49,⟨(.type "type"),none,(.cls ⟨"BadQuestion",[(.ref 29)],[(.ref 49),(.ref 29),(.type "ValueError"),(.type "Exception"),(.type "BaseException"),(.type "object")],48,"BadQuestion",true,[],[],false,none,false⟩),#[(some (.ref 33)),none,(some (.str "BadQuestion" 215)),(some (.str "BadQuestion" 223)),(some (.builtin "ValueError.__new__")),(some (.bool true))]⟩),
(52,kT [(.ref 29)]),
(59,kT []),
(61,kT [(.str "self" 255),(.str "table" 256)]),
(62,kT []),
(64,kC "__init__" 252 "BadHouse.__init__" 253 254 16 2 3 59 181 60 61 62 63 257 16 258),
(65,kF dB8),
(66,kT [(.str "table" 260)]),
(67,⟨(.type "dict"),none,(.dict #[kE P "__module__" 247 (.str "mostrows.errors" 195),kE P "__firstlineno__" 251 (.int 14 250),kE P "__init__" 259 (.ref 65),kE P "__static_attributes__" 261 (.ref 66),kE P "__doc__" 262 .none] 2),#[]⟩),
(68,⟨(.type "type"),none,(.cls ⟨"BadHouse",[(.ref 29)],[(.ref 68),(.ref 29),(.type "ValueError"),(.type "Exception"),(.type "BaseException"),(.type "object")],67,"BadHouse",true,[],[],false,none,false⟩),#[(some (.ref 52)),none,(some (.str "BadHouse" 240)),(some (.str "BadHouse" 248)),(some (.builtin "ValueError.__new__")),(some (.bool true))]⟩),
(71,kT []),
(74,⟨(.type "code"),none,(.fields #[(.str "is_name" 271),(.str "is_name" 272),(.str "/claim/cut.py" 273),(.int 22 0),(.int 1 0),(.int 0 0),(.int 0 0),(.int 3 0),(.ref 71),(.bool true),(.int 181 0),(.ref 72),.none,.none,.none,(.ref 73),(.int 274 0),(.int 22 0),(.str "/claim/cut.py" 275)]),#[]⟩),
(75,kF cM6),
(76,kT []),
(79,⟨(.type "code"),none,(.fields #[(.str "are_unlike_names" 277),(.str "are_unlike_names" 278),(.str "/claim/cut.py" 279),(.int 24 0),(.int 1 0),(.int 0 0),(.int 0 0),(.int 3 0),(.ref 76),(.bool true),(.int 181 0),(.ref 77),.none,.none,.none,(.ref 78),(.int 280 0),(.int 24 0),(.str "/claim/cut.py" 281)]),#[]⟩),
(80,kF cM7),
(81,kT []),
(84,⟨(.type "code"),none,(.fields #[(.str "names_of" 291),(.str "names_of" 292),(.str "/claim/cut.py" 293),(.int 30 0),(.int 1 0),(.int 0 0),(.int 0 0),(.int 3 0),(.ref 81),(.bool true),(.int 181 0),(.ref 82),.none,.none,.none,(.ref 83),(.int 294 0),(.int 30 0),(.str "/claim/cut.py" 295)]),#[]⟩),
(85,kF cM8),
(86,kT []),
(89,⟨(.type "code"),none,(.fields #[(.str "columns_of" 297),(.str "columns_of" 298),(.str "/claim/cut.py" 299),(.int 32 0),(.int 1 0),(.int 0 0),(.int 0 0),(.int 3 0),(.ref 86),(.bool true),(.int 181 0),(.ref 87),.none,.none,.none,(.ref 88),(.int 300 0),(.int 32 0),(.str "/claim/cut.py" 301)]),#[]⟩),
(90,kF cM9),
(91,kT []),
(93,kT [(.str "name" 306),(.str "columns" 307)]),
(94,kT []),
(96,kC "is_right_alone" 303 "is_right_alone" 304 305 37 2 3 91 181 92 93 94 95 308 37 309),
(97,kF cN0),
(98,kT []),
(100,kT [(.str "ahead" 314),(.str "name" 315),(.str "columns" 316)]),
(101,kT []),
(103,kC "is_right_behind" 311 "is_right_behind" 312 313 39 3 3 98 181 99 100 101 102 317 39 318),
(104,kF bJ0),
(105,kT []),
(107,kT [(.str "question" 323),(.str "at" 324),(.str "pair" 325)]),
(108,kT []),
(110,kC "look" 320 "look" 321 322 43 1 3 105 181 106 107 108 109 326 43 327),
(111,kF bJ1),
(112,kT []),
(114,kT [(.str "number" 336)]),
(115,kT []),
(117,kC "is_value" 333 "is_value" 334 335 52 1 3 112 181 113 114 115 116 337 52 338),
(118,kF bJ2),
(119,kT []),
(122,⟨(.type "code"),none,(.fields #[(.str "is_row" 340),(.str "is_row" 341),(.str "/claim/cut.py" 342),(.int 54 0),(.int 2 0),(.int 0 0),(.int 0 0),(.int 3 0),(.ref 119),(.bool true),(.int 181 0),(.ref 120),.none,.none,.none,(.ref 121),(.int 343 0),(.int 54 0),(.str "/claim/cut.py" 344)]),#[]⟩),
(123,kF bJ3),
(124,kT []),
(126,kT [(.str "width" 349),(.str "rows" 350),(.str "at" 351),(.str "row" 352)]),
(127,kT []),
(129,kC "first_wrong_row" 346 "first_wrong_row" 347 348 56 2 3 124 181 125 126 127 128 353 56 354),
(130,kF bJ4),
(131,kT []),
(133,kT [(.str "columns" 359),(.str "rows" 360)]),
(134,kT []),
(136,kC "table_of" 356 "table_of" 357 358 63 2 3 131 181 132 133 134 135 361 63 362),
(137,kF bJ5),
(138,kT []),
(141,⟨(.type "code"),none,(.fields #[(.str "places_of" 364),(.str "places_of" 365),(.str "/claim/cut.py" 366),(.int 65 0),(.int 2 0),(.int 0 0),(.int 0 0),(.int 3 0),(.ref 138),(.bool true),(.int 181 0),(.ref 139),.none,.none,.none,(.ref 140),(.int 367 0),(.int 65 0),(.str "/claim/cut.py" 368)]),#[]⟩),
(142,kF bJ6),
(143,kT []),
(146,⟨(.type "code"),none,(.fields #[(.str "picked" 370),(.str "picked" 371),(.str "/claim/cut.py" 372),(.int 67 0),(.int 2 0),(.int 0 0),(.int 0 0),(.int 3 0),(.ref 143),(.bool true),(.int 181 0),(.ref 144),.none,.none,.none,(.ref 145),(.int 373 0),(.int 67 0),(.str "/claim/cut.py" 374)]),#[]⟩),
(147,kF bJ7),
(148,kT []),
(151,⟨(.type "code"),none,(.fields #[(.str "cut" 376),(.str "cut" 377),(.str "/claim/cut.py" 378),(.int 69 0),(.int 2 0),(.int 0 0),(.int 0 0),(.int 3 0),(.ref 148),(.bool true),(.int 181 0),(.ref 149),.none,.none,.none,(.ref 150),(.int 379 0),(.int 69 0),(.str "/claim/cut.py" 380)]),#[]⟩),
(152,kF bJ8),
(153,kT []),
(156,⟨(.type "code"),none,(.fields #[(.str "common_columns" 382),(.str "common_columns" 383),(.str "/claim/cut.py" 384),(.int 72 0),(.int 2 0),(.int 0 0),(.int 0 0),(.int 3 0),(.ref 153),(.bool true),(.int 181 0),(.ref 154),.none,.none,.none,(.ref 155),(.int 385 0),(.int 72 0),(.str "/claim/cut.py" 386)]),#[]⟩),
(157,kF bJ9),
(158,kT []),
(160,kT [(.str "table" 391),(.str "columns" 392),(.str "others" 393),(.str "places" 394),(.str "other_places" 395),(.str "groups" 396),(.str "row" 397)]),
(161,kT []),
(163,kC "grouped" 388 "grouped" 389 390 74 3 3 158 181 159 160 161 162 398 74 399),
(164,kF bK0),
(165,kT []),
(168,⟨(.type "code"),none,(.fields #[(.str "joined" 401),(.str "joined" 402),(.str "/claim/cut.py" 403),(.int 81 0),(.int 2 0),(.int 0 0),(.int 0 0),(.int 3 0),(.ref 165),(.bool true),(.int 181 0),(.ref 166),.none,.none,.none,(.ref 167),(.int 404 0),(.int 81 0),(.str "/claim/cut.py" 405)]),#[]⟩),
(169,kF bK1),
(170,kT []),
(172,kT [(.str "question" 412),(.str "house" 413),(.str "at" 414),(.str "pair" 415)]),
(173,kT []),
(175,kC "look_house" 409 "look_house" 410 411 91 2 3 170 181 171 172 173 174 416 91 417),
(176,kF bK2),
(177,kT []),
(180,⟨(.type "code"),none,(.fields #[(.str "tables_of" 419),(.str "tables_of" 420),(.str "/claim/cut.py" 421),(.int 98 0),(.int 2 0),(.int 0 0),(.int 0 0),(.int 3 0),(.ref 177),(.bool true),(.int 181 0),(.ref 178),.none,.none,.none,(.ref 179),(.int 422 0),(.int 98 0),(.str "/claim/cut.py" 423)]),#[]⟩),
(181,kF bK3),
(182,kT []),
(184,kT [(.str "question" 428),(.str "house" 429)]),
(185,kT []),
(187,kC "named_tables" 425 "named_tables" 426 427 100 2 3 182 181 183 184 185 186 430 100 431),
(188,kF bK4),
(189,kT []),
(192,⟨(.type "code"),none,(.fields #[(.str "first_rows" 435),(.str "first_rows" 436),(.str "/claim/cut.py" 437),(.int 103 0),(.int 1 0),(.int 0 0),(.int 0 0),(.int 3 0),(.ref 189),(.bool true),(.int 181 0),(.ref 190),.none,.none,.none,(.ref 191),(.int 438 0),(.int 103 0),(.str "/claim/cut.py" 439)]),#[]⟩),
(193,kF bK5),
(194,kT []),
(197,⟨(.type "code"),none,(.fields #[(.str "tellers_of" 441),(.str "tellers_of" 442),(.str "/claim/cut.py" 443),(.int 105 0),(.int 3 0),(.int 0 0),(.int 0 0),(.int 3 0),(.ref 194),(.bool true),(.int 181 0),(.ref 195),.none,.none,.none,(.ref 196),(.int 444 0),(.int 105 0),(.str "/claim/cut.py" 445)]),#[]⟩),
(198,kF bK6),
(199,kT []),
(202,⟨(.type "code"),none,(.fields #[(.str "in_all" 447),(.str "in_all" 448),(.str "/claim/cut.py" 449),(.int 113 0),(.int 2 0),(.int 0 0),(.int 0 0),(.int 3 0),(.ref 199),(.bool true),(.int 181 0),(.ref 200),.none,.none,.none,(.ref 201),(.int 450 0),(.int 113 0),(.str "/claim/cut.py" 451)]),#[]⟩),
(203,kF bK7),
(204,kT []),
(207,⟨(.type "code"),none,(.fields #[(.str "by_columns" 453),(.str "by_columns" 454),(.str "/claim/cut.py" 455),(.int 115 0),(.int 3 0),(.int 0 0),(.int 0 0),(.int 3 0),(.ref 204),(.bool true),(.int 181 0),(.ref 205),.none,.none,.none,(.ref 206),(.int 456 0),(.int 115 0),(.str "/claim/cut.py" 457)]),#[]⟩),
(208,kF bK8),
(209,kT []),
(211,kT [(.str "tree" 464),(.str "found" 465),(.str "waiting" 466),(.str "one" 467)]),
(212,kT []),
(214,kC "pairs_of" 461 "pairs_of" 462 463 132 1 3 209 181 210 211 212 213 468 132 469),
(215,kF bK9),
(216,kT []),
(218,kT [(.str "question" 476),(.str "house" 477),(.str "tree" 478),(.str "made" 479),(.str "sizes" 480),(.str "pair" 481)]),
(219,kT []),
(221,kC "by_tree" 473 "by_tree" 474 475 142 3 3 216 181 217 218 219 220 482 142 483),
(222,kF bL0),
(223,kT []),
(225,kT [(.str "_law_script" 490),(.str "_law_k" 491),(.str "_law_cell" 492),(.str "_law_seed" 493)]),
(226,kT []),
(228,kC "_law_box" 487 "_law_box" 488 489 150 2 3 223 181 224 225 226 227 494 150 495),
(229,kF bL1),
(230,kT []),
(232,kT [(.str "_law_box_here" 500),(.str "_law_many" 501),(.str "_law_digit" 502),(.str "_law_one" 503)]),
(233,kT []),
(235,kC "_law_take" 497 "_law_take" 498 499 158 2 3 230 181 231 232 233 234 504 158 505),
(236,kF bL2),
(237,kT []),
(240,⟨(.type "code"),none,(.fields #[(.str "_law_formed" 507),(.str "_law_formed" 508),(.str "/claim/cut.py" 509),(.int 166 0),(.int 3 0),(.int 0 0),(.int 0 0),(.int 3 0),(.ref 237),(.bool true),(.int 181 0),(.ref 238),.none,.none,.none,(.ref 239),(.int 510 0),(.int 166 0),(.str "/claim/cut.py" 511)]),#[]⟩),
(241,kF bL3),
(242,kT []),
(245,⟨(.type "code"),none,(.fields #[(.str "_law_by_trees" 513),(.str "_law_by_trees" 514),(.str "/claim/cut.py" 515),(.int 174 0),(.int 3 0),(.int 0 0),(.int 0 0),(.int 3 0),(.ref 242),(.bool true),(.int 181 0),(.ref 243),.none,.none,.none,(.ref 244),(.int 516 0),(.int 174 0),(.str "/claim/cut.py" 517)]),#[]⟩),
(246,kF bL4),
(247,kT []),
(249,kT [(.str "_law_question" 522),(.str "_law_house" 523),(.str "_law_m" 524),(.str "_law_columns" 525),(.str "_law_rows" 526),(.str "_law_a" 527),(.str "_law_b" 528),(.str "_law_c" 529),(.str "_law_found" 530),(.str "_law_levels" 531),(.str "_law_looks" 532)]),
(250,kT []),
(252,kC "_law_by_orders" 519 "_law_by_orders" 520 521 184 3 3 247 181 248 249 250 251 533 184 534),
(253,kF bL5),
(254,kT []),
(256,kT [(.str "_law_script" 539),(.str "_law_k" 540),(.str "_law_m" 541),(.str "_law_question" 542),(.str "_law_house" 543)]),
(257,kT []),
(259,kC "law" 536 "law" 537 538 195 1 3 254 181 255 256 257 258 544 195 545),
(260,kF zT)]
noncomputable def Vw:Program:=view PySem.Challenge.pw_mostrows_k43_hard_houses [1,3,4,5,7,8,9,10,12,13,14,15,16,17,18,19,21,22,23,24,25,26,27,28,29,30,31,33,34,35,37,38,39,40,42,44,46,47,48,49,50,51]
def dL2:PySem.Challenge.rw_mostrows_k43_hard_houses.wellSaid=true:=by kernel_rfl
def left:LeftO PySem.Challenge.rw_mostrows_k43_hard_houses.row.prog Vw [] (λs=>xlAt Vw [] s&&recOk (RowW.records PySem.Challenge.rw_mostrows_k43_hard_houses.row.toRowW) s) (λs=>[2,3,15,18,19,20,27,28,29,30,33,40,42,43,45,46,47,48,49,52,59,61,62,64,65,66,67,68,71,74,75,76,79,80,81,84,85,86,89,90,91,93,94,96,97,98,100,101,103,104,105,107,108,110,111,112,114,115,117,118,119,122,123,124,126,127,129,130,131,133,134,136,137,138,141,142,143,146,147,148,151,152,153,156,157,158,160,161,163,164,165,168,169,170,172,173,175,176,177,180,181,182,184,185,187,188,189,192,193,194,197,198,199,202,203,204,207,208,209,211,212,214,215,216,218,219,221,222,223,225,226,228,229,230,232,233,235,236,237,240,241,242,245,246,247,249,250,252,253,254,256,257,259,260].map s.heap.get?) (λw=>(KF w.params).map λp=>some p.2) 3666:=λw=>by kernel_rfl
def dL3(h:WalkO Vw [] (XL Vw []) (InK KF) PySem.Challenge.rw_mostrows_k43_hard_houses.row.toRowW dB6 [] (λf vs=>PySem.call f vs)):PySem.Challenge.rw_mostrows_k43_hard_houses.Holds:=
 holds_law dL2 λe=>holds_open (d:=dB6) (kwd:=[]) left (InK.of λ_=>by kernel_rfl) InK.keeps (λs e=>xl_of s (Bool.and_eq_true_iff.mp e).1) XL.keeps (by kernel_rfl) (by kernel_rfl) (by kernel_rfl) (λs e=>recFacts_of (Bool.and_eq_true_iff.mp e).2) (by kernel_rfl) e (by kernel_rfl) ⟨rfl,rfl,rfl,rfl,rfl,by decide +kernel⟩ (by w_witness2) h
end Hd
namespace L2
open PySem PySem.Spec PyProof.Rows
abbrev Key:=Sum Int Str
noncomputable def yA:Key->Value->Bool
 | .inl k,v=>Value.isInt k v
 | .inr x,v=>Value.isStrOf x v
noncomputable def dL4(w:World):Key->Int
 | .inl k=>hashInt k
 | .inr x=>hashStr w x
def bX:∀ {k:Key} {v:Value},yA k v=true->(∃ i t,k=Sum.inl i/\v=Value.int i t)\/(∃ x t,k=Sum.inr x/\v=Value.str x t)
 | .inl i,v,h=>by
   obtain⟨t,e⟩:=Value.isInt_shape (k:=i) (v:=v) h;exact .inl ⟨i,t,rfl,e⟩
 | .inr x,v,h=>by
   obtain⟨t,e⟩:=Value.isStrOf_shape (x:=x) (v:=v) h;exact .inr ⟨x,t,rfl,e⟩
def aK7(i:Int)(t:Tok):yA (.inl i) (.int i t)=true:=by simp[yA,Value.isInt]
def aK8(x:Str)(t:Tok):yA (.inr x) (.str x t)=true:=by simp[yA,Value.isStrOf]
def cN1(a b:Int):decide ((Sum.inl a:Key)=Sum.inl b)=(a==b):=by
 by_cases e:a=b;subst e;simp;have h:¬ (Sum.inl a:Key)=Sum.inl b:=λq=>e (Sum.inl.inj q);rw[a4D h];exact(beq_eq_false_iff_ne.mpr e).symm
def cN2(a b:Str):decide ((Sum.inr a:Key)=Sum.inr b)=decide (a=b):=by
 by_cases e:a=b;subst e;simp;have h:¬ (Sum.inr a:Key)=Sum.inr b:=λq=>e (Sum.inr.inj q);rw[a4D h,a4D e]
def cN3(a:Int)(b:Str):decide ((Sum.inl a:Key)=Sum.inr b)=false:=a4D (λq=>nomatch q)
def cN4(a:Str)(b:Int):decide ((Sum.inr a:Key)=Sum.inl b)=false:=a4D (λq=>nomatch q)
noncomputable def bQ(prog:Program)(w:World):PySem.KeyKind prog w Key where
 is:=yA
 hash:=dL4 w
 inj:=λv a b ha hb=>by
  rcases bX ha with⟨i,t,rfl,rfl⟩ | ⟨x,t,rfl,rfl⟩
  ·rcases bX hb with⟨j,u,rfl,e⟩ | ⟨y,u,rfl,e⟩
   ·injection e with c _;rw[c]
   ·exact nomatch e
  ·rcases bX hb with⟨j,u,rfl,e⟩ | ⟨y,u,rfl,e⟩;exact nomatch e;injection e with c _;rw[c]
 byValue:=λk v h=>by
  rcases bX h with⟨i,t,rfl,rfl⟩ | ⟨x,t,rfl,rfl⟩<;>rfl
 pyHash:=λd h=>by
  rcases bX d with⟨i,t,rfl,rfl⟩ | ⟨x,t,rfl,rfl⟩;exact wpAny_pyHash_int h;exact wpAny_pyHash_str h
 eqBool:=λf d h=>by
  rcases bX f with⟨i,t,rfl,rfl⟩ | ⟨x,t,rfl,rfl⟩;rcases bX d with⟨j,u,rfl,rfl⟩ | ⟨y,u,rfl,rfl⟩;rw[cN1]at h;exact wpAny_eqBool_int h;rw[cN3]at h;exact SeqAt.EqAt.int_str i t y u _ _ _ _ h;rcases bX d with⟨j,u,rfl,rfl⟩ | ⟨y,u,rfl,rfl⟩;rw[cN4]at h;exact SeqAt.EqAt.str_int x t j u _ _ _ _ h;rw[cN2]at h;exact wpAny_eqBool_str h
 «strs»:=λk x t v h=>by
  rcases bX h with⟨i,u,rfl,e⟩ | ⟨y,u,rfl,e⟩;exact nomatch e;injection e with c _
  subst c;cases v<;>rfl
def yB(prog:Program)(w:World)(i:Int)(t:Tok):(bQ prog w).is (.inl i) (.int i t)=true:=aK7 i t
def yC(prog:Program)(w:World)(x:Str)(t:Tok):(bQ prog w).is (.inr x) (.str x t)=true:=aK8 x t
inductive V where
 | non | bl (b:Bool) | int (i:Int) | str (x:Str) | byt (b:Array UInt8) | flt (b:UInt64) | ref (a:Addr) | ty (n:String)
 deriving DecidableEq
def cE:V->Value->Prop
 | .non,u=>u=Value.none
 | .bl b,u=>u=Value.bool b
 | .int i,u=>∃ t,u=Value.int i t
 | .str x,u=>∃ t,u=Value.str x t
 | .byt b,u=>∃ t,u=Value.bytes b t
 | .flt b,u=>∃ t,u=Value.float b t
 | .ref a,u=>u=Value.ref a
 | .ty n,u=>u=Value.type n
abbrev bW:List V->List Value->Prop:=Paired cE
theorem bW.length{xs:List V}{us:List Value}(r:bW xs us):xs.length=us.length:=Paired.length r
theorem bW.get:∀ {xs:List V} {us:List Value} {i:Nat} {x:V},bW xs us->xs[i]? = some x->∃ u,us[i]? = some u/\cE x u
 | _,_,_,_,.nil,e=>by simp at e
 | _,_,0,_,.cons r _,e=>by simp at e;subst e;exact⟨_,rfl,r⟩
 | _,_,i+1,x,.cons _ t,e=>by
   obtain⟨u,a,b⟩:=bW.get (i:=i) (x:=x) t (by simpa using e);exact⟨u,by simpa using a,b⟩
theorem bW.set{x:V}{u:Value}(r:cE x u):∀ {xs:List V} {us:List Value} (i:Nat),bW xs us->bW (xs.set i x) (us.set i u)
 | _,_,_,.nil=>.nil
 | _,_,0,.cons _ t=>.cons r t
 | _,_,i+1,.cons q t=>.cons q (bW.set r i t)
theorem bW.append:∀ {xs ys:List V} {us ws:List Value},bW xs us->bW ys ws->bW (xs++ys) (us++ws)
 | _,_,_,_,.nil,s=>s
 | _,_,_,_,.cons r t,s=>.cons r (bW.append t s)
theorem bW.take:∀ {xs:List V} {us:List Value} (n:Nat),bW xs us->bW (xs.take n) (us.take n)
 | _,_,0,_=>.nil
 | _,_,_+1,.nil=>.nil
 | _,_,n+1,.cons r t=>.cons r (bW.take n t)
theorem bW.drop:∀ {xs:List V} {us:List Value} (n:Nat),bW xs us->bW (xs.drop n) (us.drop n)
 | _,_,0,r=>r
 | _,_,_+1,.nil=>.nil
 | _,_,n+1,.cons _ t=>bW.drop n t
def aK9:Option V->Option Value->Prop
 | some v,some u=>cE v u
 | none,none=>True
 | _,_=>False
def KV{κ:Type}:List (κ×V)->List (κ×Value)->Prop:=Paired λ(p:κ×V) (q:κ×Value)=>p.1=q.1/\cE p.2 q.2
noncomputable def kV:Key->V
 | .inl i=>.int i
 | .inr x=>.str x
inductive Tk where
 | s (x:Str) | p (a b:Tk)
deriving DecidableEq
noncomputable def Tk.dep:Tk->Nat
 | .s _=>0
 | .p a b=>max a.dep b.dep+1
noncomputable def fS(w:World):Tk->Int
 | .s x=>hashStr w x
 | .p a b=>reduceHash (Builtin.Tuple.tupleHashOf [fS w a,fS w b])
inductive HO where
 | lst (xs:List V)
 | tup (xs:List V)
 | dK (kvs:List (Key×V)) | dT (kvs:List (List Key×V)) | dM (kvs:List (Tk×V))
 | set (S:Int->Bool) (n:Nat)
 | ins (C dx:Addr) (fs:List (Str×V))
 | own (x:Addr)
 | xd (fs:List (Str×V))
 | met (f x:Addr)
 | rng (lo hi:Int)
 | frz (o:Obj) (u:HO)
 | tbl (ps:Array Value)
 | ext (φ:Heap->Prop)
abbrev Hp:=Addr->Option HO
noncomputable def upd(H:Hp)(a:Addr)(o:HO):Hp:=λb=>if b=a then some o else H b
def aQ{H:Hp}{a:Addr}{o:HO}:upd H a o a=some o:=by unfold upd;rw[a4A rfl]
def aK{H:Hp}{a b:Addr}{o:HO}(h:b≠a):upd H a o b=H b:=by unfold upd;rw[a4z h]
def dB9{H:Hp}{a b:Addr}{o u:HO}(h:H a=some o)(h':H b=some u)(d:o≠u):a≠b:=by
 intro e;subst e;rw[h]at h';exact d (a4a h')
def aY{H:Hp}{a b:Addr}{o:HO}(h:H a=some o)(h':H b=none):a≠b:=by
 intro e;subst e;rw[h]at h';cases h'
def yD(H:Hp):Tk->V->Prop
 | .s x,v=>v=.str x
 | .p a b,v=>∃ q x y,v=.ref q/\H q=some (.tup [x,y])/\yD H a x/\yD H b y
theorem yD.mono{H H':Hp}(a:∀ b xs,H b=some (.tup xs)->H' b=some (.tup xs)):∀ {k:Tk} {v:V},yD H k v->yD H' k v
 | .s _,_,h=>h
 | .p _ _,_,⟨q,x,y,e,c,d,f⟩=>⟨q,x,y,e,a _ _ c,yD.mono a d,yD.mono a f⟩
def dL5(h:Heap)(a:Addr):Prop:=∃ o,h.get? a=some o/\o.dict=none
section
variable(P:Program)(w:World)
def cM(H:Hp)(h:Heap)(a:Addr):HO->Prop
 | .lst xs=>xs.length<=sizeLine/\∃ (its:List Value) (n:Nat),bW xs its/\h.get? a=some {cls:=.type "list",data:=.seq its.toArray n}
 | .tup xs=>xs.length<=sizeLine/\∃ its:List Value,bW xs its/\IsTup h a its.toArray/\dL5 h a
 | .dK kvs=>kvs.length<=sizeLine/\(a==sysModules)=false/\∃ vs,KV kvs vs/\h.DictOf (bQ P w) a vs
 | .dT kvs=>kvs.length<=sizeLine/\(a==sysModules)=false/\∃ xs:List (List Key×Addr×Value),
   Paired (λ(p:List Key×V) (q:List Key×Addr×Value)=>p.1=q.1/\H q.2.1=some (.tup (p.1.map kV))/\cE p.2 q.2.2) kvs xs /\
   ∃ o es ep,h.get? a=some o/\o.ExactDict/\o.data=.dict es ep/\es.toList=xs.map (entryOfKey (tupleKind (bQ P w)))/\(xs.map (·.1)).Nodup
 | .dM kvs=>kvs.length<=sizeLine/\(a==sysModules)=false/\∃ xs:List (Tk×Value×Value),Paired (λ(p:Tk×V) (q:Tk×Value×Value)=>p.1=q.1/\(∃ y,yD H p.1 y/\cE y q.2.1)/\cE p.2 q.2.2) kvs xs /\
   ∃ o es ep,h.get? a=some o/\o.ExactDict/\o.data=.dict es ep/\es.toList=xs.map (λx=>⟨fS w x.1,x.2.1,x.2.2⟩)/\(xs.map (·.1)).Nodup
 | .set S n=>h.SetOf (intKind P w) a S n
 | .ins C dx fs=>H dx=some (.own a)/\fs.length<=1000/\dx≠a/\h.get? a=some (W.instObj C dx) /\
   ∃ mA,h.Ns1 dx mA/\(∀ f,aK9 (fs.lookup f) (mA f))/\Within mA (fs.map (·.1))
 | .own _=>∃ o,h.get? a=some o
 | .xd fs=>∃ mA,h.Ns1 a mA/\∀ f,aK9 (fs.lookup f) (mA f)
 | .rng lo hi=>∃ t u v,h.get? a=some {cls:=.type "range",data:=.fields #[.int lo t,.int hi u,.int 1 v]}
 | .frz o u=>h.get? a=some o/\cM H h a u
 | .tbl ps=>h.get? a=some {cls:=.none,data:=.fields ps}
 | .met f x=>h.get? a=some (W.methodObj (.ref f) (.ref x))
 | .ext φ=>φ h/\(∃ o,h.get? a=some o)/\∀ b c:Heap,φ b->(∀ o,b.get? a=some o->c.get? a=some o)->φ c
def HOk(H:Hp)(h:Heap):Prop:=∀ a o,H a=some o->cM P w H h a o
end
section
variable{P:Program}{w:World}{H H':Hp}{h h':Heap}{a:Addr}{o:HO}
theorem cM.lt(x:cM P w H h a o):a < h.objs.size:=by
 cases o with
 | lst xs=>obtain⟨_,_,_,_,e⟩:=x;exact a5a e
 | tup xs=>obtain⟨_,_,_,p,_⟩:=x;exact p.lt
 | dK kvs=>obtain⟨_,_,_,_,o,_,_,e,_⟩:=x;exact a5a e
 | dT kvs=>obtain⟨_,_,_,_,o,_,_,e,_⟩:=x;exact a5a e
 | dM kvs=>obtain⟨_,_,_,_,o,_,_,e,_⟩:=x;exact a5a e
 | set S n=>obtain⟨o,_,_,_,e,_⟩:=x;exact a5a e
 | ins C dx fs=>obtain⟨_,_,_,e,_⟩:=x;exact a5a e
 | own y=>obtain⟨_,e⟩:=x;exact a5a e
 | xd fs=>obtain⟨_,⟨_,_,_,e,_⟩,_⟩:=x;exact a5a e
 | rng lo hi=>obtain⟨_,_,_,e⟩:=x;exact a5a e
 | frz ob u=>obtain⟨e,_⟩:=x;exact a5a e
 | tbl ps=>exact a5a (show h.get? a=some _ from x)
 | met f y=>exact a5a (show h.get? a=some _ from x)
 | ext φ=>obtain⟨_,⟨_,e⟩,_⟩:=x;exact a5a e
theorem Paired.mapP{c d:Type}{F G:c->d->Prop}:∀ {l₁:List c} {l₂:List d},Paired F l₁ l₂->(∀ a b,F a b->G a b)->Paired G l₁ l₂
 | _,_,.nil,_=>.nil
 | _,_,.cons r t,f=>.cons (f _ _ r) (Paired.mapP t f)
def cM.stay(x:cM P w H h a o)(k:∀ b u,(b=a\/H b=some (.own a))->h.get? b=some u->h'.get? b=some u)
  (l:∀ b,H b=some (.own a)->H' b=some (.own a)) (j:∀ b xs,H b=some (.tup xs)->H' b=some (.tup xs)):cM P w H' h' a o:=by
 induction o with
 | lst xs=>obtain⟨z,its,n,r,e⟩:=x;exact⟨z,its,n,r,k _ _ (.inl rfl) e⟩
 | tup xs=>obtain⟨z,its,r,⟨ob,e,c⟩,⟨g,i,m⟩⟩:=x;exact⟨z,its,r,⟨ob,k _ _ (.inl rfl) e,c⟩,⟨g,k _ _ (.inl rfl) i,m⟩⟩
 | dK kvs=>obtain⟨z,y,vs,r,ob,es,ep,e,c⟩:=x;exact⟨z,y,vs,r,ob,es,ep,k _ _ (.inl rfl) e,c⟩
 | dT kvs=>
   obtain⟨z,y,xs,r,ob,es,ep,e,c⟩:=x;exact⟨z,y,xs,Paired.mapP r λp q z=>⟨z.1,j _ _ z.2.1,z.2.2⟩,ob,es,ep,k _ _ (.inl rfl) e,c⟩
 | dM kvs=>
   obtain⟨z,y,xs,r,ob,es,ep,e,c⟩:=x;exact⟨z,y,xs,Paired.mapP r λp q z=>⟨z.1,let ⟨y,a,b⟩:=z.2.1;⟨y,a.mono j,b⟩,z.2.2⟩,ob,es,ep,k _ _ (.inl rfl) e,c⟩
 | set S n=>obtain⟨ob,es,ep,t,e,c⟩:=x;exact⟨ob,es,ep,t,k _ _ (.inl rfl) e,c⟩
 | ins C dx fs=>
   obtain⟨d,z,ne,e,mA,⟨od,es,ep,i,c⟩,r⟩:=x;exact⟨l _ d,z,ne,k _ _ (.inl rfl) e,mA,⟨od,es,ep,k _ _ (.inr d) i,c⟩,r⟩
 | own y=>obtain⟨ob,e⟩:=x;exact⟨ob,k _ _ (.inl rfl) e⟩
 | xd fs=>obtain⟨mA,⟨od,es,ep,e,c⟩,r⟩:=x;exact⟨mA,⟨od,es,ep,k _ _ (.inl rfl) e,c⟩,r⟩
 | rng lo hi=>obtain⟨t,u,v,e⟩:=x;exact⟨t,u,v,k _ _ (.inl rfl) e⟩
 | frz ob u s=>obtain⟨e,q⟩:=x;exact⟨k _ _ (.inl rfl) e,s q⟩
 | tbl ps=>
   have e:h.get? a=some {cls:=.none,data:=.fields ps}:=x;show h'.get? a=some {cls:=.none,data:=.fields ps};exact k a _ (.inl rfl) e
 | met f y=>
   have e:h.get? a=some (W.methodObj (.ref f) (.ref y)):=x;show h'.get? a=some (W.methodObj (.ref f) (.ref y));exact k a _ (.inl rfl) e
 | ext φ=>obtain⟨p,⟨o,e⟩,st⟩:=x;exact⟨st _ _ p λo q=>k _ _ (.inl rfl) q,⟨o,k _ _ (.inl rfl) e⟩,st⟩
theorem HOk.lt(x:HOk P w H h)(e:H a=some o):a < h.objs.size:=(x a o e).lt
theorem HOk.fresh(x:HOk P w H h)(e:h.objs.size<=a):H a=none:=by
 cases q:H a with
 | none=>rfl
 | some u=>exact absurd (a9b (x.lt q) e) (a7d _)
def HOk.kept(x:HOk P w H h)(k:∀ b u,h.get? b=some u->h'.get? b=some u):HOk P w H h':=λa o e=>
 (x a o e).stay (λb u _ q=>k b u q) (λ_ q=>q) λ_ _ q=>q
def HOk.laid(x:HOk P w H h)(k:∀ b u,h.get? b=some u->h'.get? b=some u)(f:h.objs.size<=a)(d:cM P w (upd H a o) h' a o):HOk P w (upd H a o) h':=λb u e=>by
 have hn:=x.fresh f;by_cases hb:b=a;subst hb;rw[aQ]at e;cases e;exact d;rw[aK hb]at e;exact(x b u e).stay (λc v _ q=>k c v q) (λc q=>by rw[aK (aY q hn)];exact q) λc xs q=>by rw[aK (aY q hn)];exact q
end
def Rd(H:Hp)(a:Addr)(u:HO):Prop:=H a=some u\/∃ o,H a=some (.frz o u)
theorem Rd.ok{P:Program}{w:World}{H:Hp}{h:Heap}{a:Addr}{u:HO}(r:Rd H a u)(x:HOk P w H h):cM P w H h a u:=by
 rcases r with r | ⟨o,r⟩;exact x a u r;obtain⟨_,q⟩:=x a _ r;exact q
def Mut:Option HO->Prop
 | some (.lst _)=>True
 | some (.dK _)=>True
 | some (.dT _)=>True
 | some (.dM _)=>True
 | some (.set _ _)=>True
 | some (.ins _ _ _)=>True
 | some (.ext _)=>True
 | _=>False
section
variable{P:Program}{w:World}{H:Hp}{h h':Heap}{x e:Addr}{o':HO}
def HOk.write(ok:HOk P w H h)(mu:Mut (H x))(l:e=x\/H e=some (.own x))(k:∀ b u,b≠e->h.get? b=some u->h'.get? b=some u)(i:∃ u,h'.get? e=some u)
  (j:cM P w (upd H x o') h' x o'):HOk P w (upd H x o') h':=λb u q=>by
 have d:∀ c y,H c=some (.own y)->c≠x:=λc y r z=>by subst z;rw[r]at mu;exact mu
 have f:∀ c xs,H c=some (.tup xs)->c≠x:=λc xs r z=>by subst z;rw[r]at mu;exact mu
 by_cases hb:b=x;subst hb;rw[aQ]at q;cases q;exact j;rw[aK hb]at q;by_cases a:b=e
 ·have m:H b=some (.own x):=by
   rcases l with z | z;exact absurd (a.trans z) hb;rw[a];exact z
  rw[q]at m;cases m;obtain⟨v,n⟩:=i;exact⟨v,by rw[a];exact n⟩
 ·refine(ok b u q).stay (λc v g r=>k c v ?_ r) (λc r=>by rw[aK (d c b r)];exact r) λc xs r=>by rw[aK (f c xs r)];exact r
  rcases g with rfl | g;exact a;rintro rfl;rcases l with z | z;exact d c b g z;rw[g]at z;cases z;exact hb rfl
end
structure Un(fs ex:List Addr)(H H':Hp)(h h':Heap):Prop where
 keep:∀ b o,h.get? b=some o->H b=none->b∉fs->b∉ex->h'.get? b=some o
 slot:∀ b o,h.get? b=some o->H b=none->b∈fs->b∉ex->∃ sl,h'.get? b=some {o with slots:=sl}
 free:∀ b o,h.get? b=some o->H b=none->b∉ex->H' b=none
 there:∀ b o,h.get? b=some o->b∉ex->∃ o',h'.get? b=some o'
 tups:∀ b xs,H b=some (.tup xs)->H' b=some (.tup xs)
 frzs:∀ b o u,H b=some (.frz o u)->H' b=some (.frz o u)
 tbls:∀ b ps,H b=some (.tbl ps)->∃ more,H' b=some (.tbl (ps++more))
section
variable{fs fs' ex ex':List Addr}{H H1 H2:Hp}{h h1 h2 h':Heap}{a x e:Addr}{o:HO}
def Un.any(u:Un fs ex H H1 h h1){b:Addr}{ob:Obj}(q:h.get? b=some ob)(n:H b=none)(a:b∉ex):∃ sl,h1.get? b=some {ob with slots:=sl}:=by
 by_cases hb:b∈fs;exact u.slot b ob q n hb a;exact⟨ob.slots,u.keep b ob q n hb a⟩
def Un.kept(k:∀ b u,h.get? b=some u->h'.get? b=some u):Un fs ex H H h h':=
 ⟨λb ob q _ _ _=>k b ob q,λb ob q _ _ _=>⟨ob.slots,k b ob q⟩,λ_ _ _ n _=>n,λb ob q _=>⟨ob,k b ob q⟩,λ_ _ q=>q,λ_ _ _ q=>q,λ_ ps q=>⟨#[],by rw[q];simp⟩⟩
def Un.refl:Un fs ex H H h h:=Un.kept λ_ _ q=>q
def Un.laid(k:∀ b u,h.get? b=some u->h'.get? b=some u)(c:h.objs.size<=a)(hn:H a=none):Un fs ex H (upd H a o) h h' where
 keep:=λb u q _ _ _=>k b u q
 slot:=λb u q _ _ _=>⟨u.slots,k b u q⟩
 free:=λb u q n _=>by rw[aK (a0d (a9b (a5a q) c))];exact n
 there:=λb u q _=>⟨u,k b u q⟩
 tups:=λb xs q=>by rw[aK (aY q hn)];exact q
 frzs:=λb u xs q=>by rw[aK (aY q hn)];exact q
 tbls:=λb ps q=>⟨#[],by rw[aK (aY q hn),q];simp⟩
def Un.write(mu:Mut (H x))(f:e=x\/H e=some (.own x))(k:∀ b u,b≠e->h.get? b=some u->h'.get? b=some u)(c:∃ u,h'.get? e=some u):Un fs ex H (upd H x o) h h':=by
 have d:∀ b,H b=none->b≠x:=λb n z=>by subst z;rw[n]at mu;exact mu
 have hb:∀ b,H b=none->b≠e:=λb n z=>by
  subst z;rcases f with r | r;exact d b n r;rw[n]at r;cases r
 have hm:∀ b u,H b=some u->¬ Mut (some u)->b≠x:=λb u q g z=>by subst z;rw[q]at mu;exact g mu
 refine⟨λb u q n _ _=>k b u (hb b n) q,λb u q n _ _=>⟨u.slots,k b u (hb b n) q⟩,λb u q n _=>by rw[aK (d b n)];exact n,λb u q _=>?_,
  λb xs q=>by rw[aK (hm b _ q λz=>z)];exact q,λb u xs q=>by rw[aK (hm b _ q λz=>z)];exact q,λb ps q=>⟨#[],by rw[aK (hm b _ q λz=>z),q];simp⟩⟩
 by_cases a:b=e;subst a;exact c;exact⟨u,k b u a q⟩
end
noncomputable def trk(h:Heap)(H:Hp):List Addr:=(List.range h.objs.size).filter λa=>(H a).isSome
noncomputable def bA3(h:Heap)(H:Hp):Heap:=W.hideAll h (trk h H)
def aL0(h:Heap)(H:Hp):(bA3 h H).objs.size=h.objs.size:=W.hideAll_size _ _
def bA4{h:Heap}{H:Hp}{b:Addr}{o:Obj}(e:h.get? b=some o)(n:H b=none):(bA3 h H).get? b=some o:=
 W.hideAll_get _ e λhm=>by
  have q:(H b).isSome=true:=(List.mem_filter.mp hm).2;rw[n]at q;simp at q
def cA7{h:Heap}{H:Hp}{b:Addr}{o:Obj}(e:(bA3 h H).get? b=some o):h.get? b=some o/\H b=none:=by
 have a:h.get? b=some o:=W.of_hideAll (trk h H) e;refine⟨a,?_⟩;cases q:H b with
 | none=>rfl
 | some x=>
   have hm:b∈trk h H:=List.mem_filter.mpr ⟨a7f.mpr (a5a a),by simp[q]⟩;have z:(bA3 h H).get? b=none:=W.hideAll_none (trk h H) hm;rw[z]at e;cases e
noncomputable def kO(g h:Heap)(L:Addr):List (Addr×Obj):=(List.range h.objs.size).filterMap λa=>if a=L\/(g.get? a).isSome=true then none else(h.get? a).map λo=>(a,o)
def pG{g h:Heap}{L a:Addr}{o:Obj}(c:a≠L)(d:g.get? a=none)(b:h.get? a=some o):(a,o)∈kO g h L:=
 a8h.mpr ⟨a,a7f.mpr (a5a b),by simp[c,d,b]⟩
def rA{g h:Heap}{L:Addr}{p:Addr×Obj}(a:p∈kO g h L):p.1≠L/\g.get? p.1=none/\h.get? p.1=some p.2:=by
 obtain⟨b,_,e⟩:=a8h.mp a;split at e;cases e;rename_i hn;cases q:h.get? b with
 | none=>rw[q]at e;simp at e
 | some u=>
   rw[q]at e;simp only[Option.map_some,Option.some.injEq]at e;subst e;refine⟨λz=>hn (.inl z),?_,q⟩;show g.get? b=none;cases r:g.get? b with
   | none=>rfl
   | some v=>exact(hn (.inr (by simp[r]))).elim
noncomputable def dD(g h:Heap)(L d:Addr):List (Addr×Obj):=(kO g h L).filter λp=>decide (p.1≠d)
def bA5{g h:Heap}{L:Addr}:News g L h (kO g h L):=λp d=>let ⟨a,b,c⟩:=rA d;⟨c,a,b⟩
structure Mod(K:W.Frag)(mg:Str->Option Value)(base:Heap):Prop where
 kin:K.In base
 glob:base.Ns mainGlobals mg
 blt:∃ mb,base.Ns builtinsNs mb/\∀ x:Str,x≠"__name__"->mb x=bootBuiltins x
 nolimit:base.NoLimit
structure Cx where
 prog:Program
 w:World
 K:W.Frag
 mg:Str->Option Value
 base:Heap
 A:Around
 N:List Str
 s₀:Shared
 H₀:Hp
 env:Env
 outer:List Env
 stack:List Env
 ex:List Addr
 fn:Str->Bool
 calm:Bool
 pn:List (Addr×Obj)
 xe:Value->Shared->Prop
noncomputable def frs(l:List Env):List Addr:=l.filterMap (·.frame)
noncomputable abbrev Cx.fs(X:Cx):List Addr:=frs X.outer
def Vis(sc:Scope)(x:Str):Prop:=sc.names.lookup x=some .local\/sc.names.lookup x=some .cell\/sc.names.lookup x=some .free
def Loc(sc:Scope)(x:Str):Prop:=sc.names.lookup x=some .local\/sc.names.lookup x=some .cell
def dL6(env:Env)(h:Heap)(m:Str->Option Value)(x:Str)(u:Value):Prop:=
 (env.kindOf x=some .local/\m x=some u)\/((env.kindOf x=some .cell\/env.kindOf x=some .free)/\∃ c,env.cells.lookup x=some c/\h.IsCell c (some u))
structure Cx.Ok(X:Cx):Prop where
 mod:Mod X.K X.mg X.base
 kind:X.env.scope.kind=.function
 glob:X.env.globals=mainGlobals
 blt:X.env.builtins=builtinsNs
 above:X.s₀.heap.objs.size<=X.env.locals
 inj:∀ x y c,X.env.cells.lookup x=some c->X.env.cells.lookup y=some c->x=y
 has:∀ x,(X.env.kindOf x=some .cell\/X.env.kindOf x=some .free)->∃ c,X.env.cells.lookup x=some c
 cab:∀ x c,X.fn x=true->X.env.cells.lookup x=some c->X.s₀.heap.objs.size<=c
 hd:X.calm=true->X.A.handled=none
 frames:X.A.frames=some X.stack
 stk:X.stack=X.outer\/(X.stack=X.env::X.outer/\X.env.frame=some X.env.locals)
 exf:∀ b∈X.ex,b≠X.env.locals/\∀ x c,X.env.cells.lookup x=some c->c≠b
 bs:∀ b o,X.base.get? b=some o->X.s₀.heap.get? b=some o/\X.H₀ b=none
 bsz:X.base.objs.size<=X.s₀.heap.objs.size
 noex:∀ b o,X.base.get? b=some o->b∉X.ex
 exfs:∀ b∈X.ex,b∉X.fs
 funs:X.s₀.heap.FunFrames X.base X.outer
 frf:∀ b∈X.fs,X.H₀ b=none
structure Inv(X:Cx)(pins:List (Addr×Obj))(σ:List (Option V))(H:Hp)(s:Shared):Prop where
 ok:X.Ok
 os:s.os=X.s₀.os
 bare:AllBare s.gens
 base:Un X.fs X.ex X.H₀ H X.s₀.heap s.heap
 loc:∃ m,s.heap.Ns X.env.locals m/\∀ (i:Nat) (x:Str) (v:V),X.N[i]? = some x->σ[i]? = some (some v)->Vis X.env.scope x->∃ u,cE v u/\dL6 X.env s.heap m x u
 cell:∀ x c,X.env.cells.lookup x=some c->∃ v,s.heap.IsCell c v
 free:H X.env.locals=none
 freeC:∀ x c,X.env.cells.lookup x=some c->H c=none
 pin:∀ p∈X.pn++pins,s.heap.get? p.1=some p.2/\H p.1=none/\p.1≠X.env.locals/\p.1∉X.fs/\∀ v,p.2.data≠.cell v
 hok:HOk X.prog X.w H s.heap
 len:σ.length=X.N.length
section
variable{X:Cx}{pins:List (Addr×Obj)}{σ:List (Option V)}{H H':Hp}{s:Shared}{h':Heap}
def Cx.Ok.nofr(ok:X.Ok){b:Addr}{o:Obj}(e:X.base.get? b=some o):b∉X.fs:=λhb=>by
 have:=(ok.funs.mem hb).1;rw[e]at this;cases this
theorem Inv.bs(I:Inv X pins σ H s):∀ b o,X.base.get? b=some o->s.heap.get? b=some o/\H b=none:=λb o e=>
 ⟨I.base.keep b o (I.ok.bs b o e).1 (I.ok.bs b o e).2 (I.ok.nofr e) (I.ok.noex b o e),I.base.free b o (I.ok.bs b o e).1 (I.ok.bs b o e).2 (I.ok.noex b o e)⟩
def Inv.bk(I:Inv X pins σ H s):∀ b o,X.base.get? b=some o->s.heap.get? b=some o:=λb o e=>(I.bs b o e).1
theorem Inv.mod(I:Inv X pins σ H s):Mod X.K X.mg X.base:=I.ok.mod
def Inv.kIn(I:Inv X pins σ H s):X.K.In s.heap:=I.ok.mod.kin.keeps I.bk
def Inv.fr(I:Inv X pins σ H s):∃ m,Fr X.base X.env.locals s.heap m:=
 let ⟨m,hn,_⟩:=I.loc
 ⟨m,hn,I.bk,a5e I.ok.bsz I.ok.above⟩
theorem Inv.lt(I:Inv X pins σ H s):X.env.locals < s.heap.objs.size:=let ⟨_,hn,_⟩:=I.loc;hn.lt
def Inv.sz(I:Inv X pins σ H s):X.s₀.heap.objs.size<=s.heap.objs.size:=a5e I.ok.above (a8g I.lt)
def Inv.nofs(I:Inv X pins σ H s){a:Addr}(h:s.heap.objs.size<=a):a∉X.fs:=λhb=>by
 obtain⟨_,o,b,_⟩:=I.ok.funs.mem hb;exact absurd (a9b (a5a b) (a5e I.sz h)) (a7d _)
def Inv.cne(I:Inv X pins σ H s):∀ x c,X.env.cells.lookup x=some c->c≠X.env.locals:=λx c e z=>by
 obtain⟨v,o,d,hd⟩:=I.cell x c e;obtain⟨m,⟨o',es,ep,a,b,_⟩,_⟩:=I.loc;rw[z,a]at d;cases d;rw[b]at hd;cases hd
theorem Inv.funs(I:Inv X pins σ H s):s.heap.FunFrames X.base X.outer:=by
 have all:∀ (l:List Env),(∀ b∈frs l,b∈X.fs)->X.s₀.heap.FunFrames X.base l->s.heap.FunFrames X.base l:=by
  intro l
  induction l with
  | nil=>intro _ _;trivial
  | cons env r d=>
    intro hs f;obtain⟨g,⟨L,o,a,hn,h,hd⟩,i⟩:=f;have c:L∈X.fs:=hs L (by unfold frs;rw[a4h,a];exact a9a);obtain⟨sl,e⟩:=I.base.slot L o h (I.ok.frf L c) c λz=>I.ok.exfs L z c;exact⟨g,⟨L,_,a,hn,e,hd⟩,d (λb hb=>hs b (by unfold frs;rw[a4h,a];exact a0b _ hb)) i⟩
 exact all X.outer (λ_ hb=>hb) I.ok.funs
theorem Inv.stack(I:Inv X pins σ H s):s.heap.FunFrames X.base X.stack:=by
 rcases I.ok.stk with e | ⟨e,a⟩;rw[e];exact I.funs;rw[e];obtain⟨m,hn,_⟩:=I.loc;refine .cons (by rw[I.ok.kind];decide) a hn ?_ I.funs;exact Heap.get?_none_of_le (a5e I.ok.bsz I.ok.above)
def Inv.stkSub(I:Inv X pins σ H s):∀ b∈frs X.stack,b∈X.env.locals::X.fs:=λb hb=>by
 rcases I.ok.stk with e | ⟨e,a⟩;rw[e]at hb;exact a0b _ hb;rw[e]at hb;unfold frs at hb;rw[a4h,a]at hb;exact hb
def Inv.stkFree(I:Inv X pins σ H s):∀ b∈frs X.stack,H b=none:=λb hb=>by
 rcases a2b.mp (I.stkSub b hb)with e | hb;rw[e];exact I.free;obtain⟨_,o,a,_⟩:=I.ok.funs.mem hb;exact I.base.free b o a (I.ok.frf b hb) λz=>I.ok.exfs b z hb
def Inv.step{g':Array GenState}{t':Nat}{d':Drawn}{ch:List Addr}(I:Inv X pins σ H s)
  (f:∀ b∈ch,(b∈X.ex\/X.s₀.heap.objs.size<=b)/\b≠X.env.locals/\(∀ x c,X.env.cells.lookup x=some c->c≠b)/\∀ p∈X.pn++pins,p.1≠b)
  (keep:∀ b o,b≠X.env.locals->b∉X.fs->b∉ch->s.heap.get? b=some o->H b=none->h'.get? b=some o)
  (slot:∀ b o,b≠X.env.locals->b∈X.fs->b∉ch->s.heap.get? b=some o->H b=none->∃ sl,h'.get? b=some {o with slots:=sl}) (free:∀ b o,b∉ch->s.heap.get? b=some o->H b=none->H' b=none)
  (there:∀ b o,b∉ch->s.heap.get? b=some o->∃ o',h'.get? b=some o')
  (tups:∀ b xs,H b=some (.tup xs)->H' b=some (.tup xs)) (frzs:∀ b o u,H b=some (.frz o u)->H' b=some (.frz o u)) (tbls:∀ b ps,H b=some (.tbl ps)->∃ more,H' b=some (.tbl (ps++more)))
  (ns:∀ m,s.heap.Ns X.env.locals m->h'.Ns X.env.locals m) (hok:HOk X.prog X.w H' h') (G:AllBare g') :
  Inv X pins σ H' {s with heap:=h',gens:=g',drawn:=d',toks:=t'}:=by
 have A:∀ b o,X.s₀.heap.get? b=some o->b≠X.env.locals:=λb o e=>a0d (a9b (a5a e) I.ok.above);have j:∀ b o,X.s₀.heap.get? b=some o->b∉X.ex->b∉ch:=λb o e a hb=>by
  rcases(f b hb).1 with z | z;exact a z;exact absurd (a9b (a5a e) z) (a7d _)
 have g:∀ x c,X.env.cells.lookup x=some c->∀ v,s.heap.IsCell c v->h'.IsCell c v:=λx c e v ⟨o,y,hd⟩=>by
  have h:c∉ch:=λz=>(f c z).2.2.1 x c e rfl;by_cases D:c∈X.fs;obtain⟨sl,q⟩:=slot c o (I.cne x c e) D h y (I.freeC x c e);exact⟨_,q,hd⟩;exact⟨o,keep c o (I.cne x c e) D h y (I.freeC x c e),hd⟩
 refine⟨I.ok,I.os,G,⟨λb o e n hb a=>?_,λb o e n hb a=>?_,λb o e n a=>?_,λb o e a=>?_,λb xs e=>tups b xs (I.base.tups b xs e),λb o xs e=>frzs b o xs (I.base.frzs b o xs e),λb ps e=>?_⟩,?_,λx c e=>?_,?_,λx c e=>?_,λp E=>?_,hok,I.len⟩;exact keep b o (A b o e) hb (j b o e a) (I.base.keep b o e n hb a) (I.base.free b o e n a);obtain⟨sl,t⟩:=I.base.slot b o e n hb a;obtain⟨C,B⟩:=slot b _ (A b o e) hb (j b o e a) t (I.base.free b o e n a);exact⟨C,B⟩;obtain⟨o',t⟩:=I.base.there b o e a;exact free b o' (j b o e a) t (I.base.free b o e n a);obtain⟨o',t⟩:=I.base.there b o e a;exact there b o' (j b o e a) t;obtain⟨J,t⟩:=I.base.tbls b ps e;obtain⟨K,B⟩:=tbls b _ t;exact⟨J++K,by rw[B,Array.append_assoc]⟩;obtain⟨m,hn,L⟩:=I.loc;refine⟨m,ns m hn,λi x v t B M=>?_⟩;obtain⟨u,r,l⟩:=L i x v t B M;refine⟨u,r,?_⟩;rcases l with l | ⟨k,c,e,z⟩;exact .inl l;exact .inr ⟨k,c,e,g x c e _ z⟩;obtain⟨v,z⟩:=I.cell x c e;exact⟨v,g x c e v z⟩;obtain⟨m,⟨o,_,_,y,_⟩,_⟩:=I.loc;exact free _ o (λz=>(f _ z).2.1 rfl) y I.free;obtain⟨v,o,y,hd⟩:=I.cell x c e;exact free c o (λz=>(f c z).2.2.1 x c e rfl) y (I.freeC x c e);obtain⟨e,n,ne,F,d⟩:=I.pin p E;have h:p.1∉ch:=λz=>(f p.1 z).2.2.2 p E rfl;exact⟨keep p.1 p.2 ne F h e n,free p.1 p.2 h e n,ne,F,d⟩
def Inv.un{t':Nat}(I:Inv X pins σ H s)(u:Un X.fs [] H H' s.heap h')(hok:HOk X.prog X.w H' h'):Inv X pins σ H' {s with heap:=h',toks:=t'}:=by
 obtain⟨m,⟨o,es,ep,f,r⟩,_⟩:=id I.loc;obtain⟨sl,g⟩:=u.any f I.free (by simp);exact I.step (g':=s.gens) (d':=s.drawn) (ch:=[]) (λ_ z=>nomatch z) (λb o _ hb _ e n=>u.keep b o e n hb (by simp)) (λb o _ hb _ e n=>u.slot b o e n hb (by simp)) (λb o _ e n=>u.free b o e n (by simp)) (λb o _ e=>u.there b o e (by simp)) u.tups u.frzs u.tbls (λm' hm=>by
  obtain⟨o',c,d,a,h⟩:=hm;rw[f]at a;cases a;exact⟨_,c,d,g,h⟩) hok I.bare
def Inv.call{g':Array GenState}{t':Nat}{d':Drawn}{ch:List Addr}(I:Inv X pins σ H s)(u:Un (frs X.stack) ch H H' s.heap h')(hok:HOk X.prog X.w H' h')(k:AllBare g')
  (d:∀ b∈ch,(b∈X.ex\/X.s₀.heap.objs.size<=b)/\b≠X.env.locals/\(∀ x c,X.env.cells.lookup x=some c->c≠b)/\∀ p∈X.pn++pins,p.1≠b) :
  Inv X pins σ H' {s with heap:=h',gens:=g',drawn:=d',toks:=t'}:=by
 obtain⟨m,⟨o,es,ep,j,r⟩,_⟩:=id I.loc;obtain⟨sl,g⟩:=u.any j I.free λz=>(d _ z).2.1 rfl;exact I.step (ch:=ch) d (λb o g hb a e n=>u.keep b o e n (λz=>(a2b.mp (I.stkSub b z)).elim g hb) a) (λb o _ _ a e n=>u.any e n a) (λb o a e n=>u.free b o e n a) (λb o a e=>u.there b o e a) u.tups u.frzs u.tbls (λm' hm=>by
  obtain⟨o',h,i,f,l⟩:=hm;rw[j]at f;cases f;exact⟨_,h,i,g,l⟩) hok k
def Inv.turned{t':Nat}{it:Addr}(I:Inv X pins σ H s)(k:∀ b o,b≠it->s.heap.get? b=some o->h'.get? b=some o)(hn:H it=none)(f:it≠X.env.locals)
  (g:it∈X.ex\/X.s₀.heap.objs.size<=it) (h:∀ x c,X.env.cells.lookup x=some c->c≠it) (i:∀ p∈X.pn++pins,p.1≠it):Inv X pins σ H {s with heap:=h',toks:=t'}:=by
 have d:∀ b u,H b=some u->b≠it:=λb u e z=>by rw[z,hn]at e;cases e
 refine I.step (g':=s.gens) (d':=s.drawn) (ch:=[it]) (λb hb=>?_) (λb o _ _ a e _=>k b o (λz=>a (by simp[z])) e) (λb o _ _ a e _=>⟨o.slots,k b o (λz=>a (by simp[z])) e⟩) (λ_ _ _ _ n=>n)
  (λb o a e=>⟨o,k b o (λz=>a (by simp[z])) e⟩) (λ_ _ e=>e) (λ_ _ _ e=>e) (λb ps e=>⟨#[],by rw[e];simp⟩) (λm hm=>?_) (λb u e=>?_) I.bare
 ·have e:b=it:=by simpa using hb
  subst e;exact⟨g,f,h,i⟩
 ·obtain⟨o,es,ep,j,r⟩:=hm;exact⟨o,es,ep,k _ o (a3d f) j,r⟩
 ·refine(I.hok b u e).stay (λc v a q=>k c v ?_ q) (λ_ q=>q) λ_ _ q=>q;rcases a with z | z;rw[z];exact d b u e;exact d c _ z
def Inv.tok(I:Inv X pins σ H s)(t:Nat):Inv X pins σ H {s with toks:=t}:=I.un (h':=s.heap) (t':=t) Un.refl I.hok
theorem Inv.kept{t':Nat}(I:Inv X pins σ H s)(k:∀ b u,s.heap.get? b=some u->h'.get? b=some u):Inv X pins σ H {s with heap:=h',toks:=t'}:=I.un (Un.kept k) (I.hok.kept k)
theorem Inv.laid{a:Addr}{o:HO}{t':Nat}(I:Inv X pins σ H s)(k:∀ b u,s.heap.get? b=some u->h'.get? b=some u)(c:s.heap.objs.size<=a)(d:cM X.prog X.w (upd H a o) h' a o) :
  Inv X pins σ (upd H a o) {s with heap:=h',toks:=t'}:=I.un (Un.laid k c (I.hok.fresh c)) (I.hok.laid k c d)
theorem Inv.write{x e:Addr}{o:HO}{t':Nat}(I:Inv X pins σ H s)(mu:Mut (H x))(d:e=x\/H e=some (.own x))(k:∀ b u,b≠e->s.heap.get? b=some u->h'.get? b=some u)(a:∃ u,h'.get? e=some u)
  (c:cM X.prog X.w (upd H x o) h' x o):Inv X pins σ (upd H x o) {s with heap:=h',toks:=t'}:=I.un (Un.write mu d k a) (I.hok.write mu d k a c)
def Inv.weak{σ':List (Option V)}(I:Inv X pins σ H s)(b:σ'.length=σ.length)(w:∀ (i:Nat) v,σ'[i]? = some (some v)->σ[i]? = some (some v)):Inv X pins σ' H s:=
 ⟨I.ok,I.os,I.bare,I.base,let ⟨m,hn,a⟩:=I.loc;⟨m,hn,λi x v c d e=>a i x v c (w i v d) e⟩,I.cell,I.free,I.freeC,I.pin,I.hok,b.trans I.len⟩
def Inv.pins_of{a:List (Addr×Obj)}(I:Inv X pins σ H s)(h:∀ p∈a,s.heap.get? p.1=some p.2/\H p.1=none/\p.1≠X.env.locals/\p.1∉X.fs/\∀ v,p.2.data≠.cell v):Inv X a σ H s:=
 ⟨I.ok,I.os,I.bare,I.base,I.loc,I.cell,I.free,I.freeC,λp b=>(a7c.mp b).elim (λz=>I.pin p (a0g _ z)) (h p),I.hok,I.len⟩
def zU{N:List Str}(c:N.Nodup){i j:Nat}{x:Str}(a:N[i]? = some x)(b:N[j]? = some x):i=j:=by
 obtain⟨f,d⟩:=a0a.mp a;obtain⟨g,e⟩:=a0a.mp b;exact(List.getElem_inj c).mp (d.trans e.symm)
def vN{M:Model}{A:Around}{E:Value->Shared->Prop}{i:Nat}{x:Str}{v:V}{u:Value}{Q:Unit->Shared->Prop}(I:Inv X pins σ H s)(hN:X.N.Nodup)(hi:X.N[i]? = some x)(t:Loc X.env.scope x)(r:cE v u)
  (h:∀ s',Inv X pins (σ.set i (some v)) H s'->(∃ a,Heap.SameBut a s.heap s'.heap/\(a=X.env.locals\/X.env.cells.lookup x=some a))->Q () s') (hf:X.fn x=true\/X.env.scope.names.lookup x=some .local:=by first | exact .inl rfl | exact .inr rfl | assumption):wpAny M A (storeName X.env x u) Q E s:=by
 obtain⟨m,hn,hl⟩:=id I.loc;have J:(X.env.scope.kind==.class||(X.env.scope.kind==.module&&X.env.locals != X.env.globals))=false:=by rw[I.ok.kind];rfl
 have D:i < σ.length:=by rw[I.len];exact(a0a.mp hi).1
 have cne:=I.cne;have f:∀ {a:Addr} {h':Heap},(∃ o,s.heap.get? a=some o/\H a=none)->Heap.SameBut a s.heap h'->HOk X.prog X.w H h':=λ{a h'} ha hs b ob e=>by
  obtain⟨_,_,B⟩:=ha;refine(I.hok b ob e).stay (λc R l q=>(hs.2 c ?_).trans q) (λ_ q=>q) λ_ _ q=>q;rintro rfl;rcases l with rfl | l;rw[B]at e;cases e;rw[B]at l;cases l
 rcases t with F | F
 ·refine wpAny_storeName_local F hn (λh' T hs=>?_) J;obtain⟨oL,_,_,U,_⟩:=id hn;refine h _ ⟨I.ok,I.os,I.bare,⟨λb o e n hb t=>?_,λb o e n hb t=>?_,I.base.free,λb o e t=>?_,I.base.tups,I.base.frzs,I.base.tbls⟩,⟨_,T,λj y W g C Y=>?_⟩,λy c e=>?_,I.free,I.freeC,λp Z=>?_,f ⟨oL,U,I.free⟩ hs,by simpa using I.len⟩ ⟨_,hs,.inl rfl⟩;exact(hs.2 b (a0d (a9b (a5a e) I.ok.above))).trans (I.base.keep b o e n hb t);obtain⟨sl,g⟩:=I.base.slot b o e n hb t;exact⟨sl,(hs.2 b (a0d (a9b (a5a e) I.ok.above))).trans g⟩;obtain⟨o',g⟩:=I.base.there b o e t;exact⟨o',(hs.2 b (a0d (a9b (a5a e) I.ok.above))).trans g⟩;by_cases hj:j=i;subst hj;rw[hi]at g;cases g;rw[a3b D]at C;cases C;exact⟨u,r,.inl ⟨F,by simp⟩⟩;rw[a3a (a3d hj)]at C;obtain⟨u',r',q⟩:=hl j y W g C Y;refine⟨u',r',?_⟩;rcases q with⟨k,e⟩ | ⟨k,c,e,z⟩;refine .inl ⟨k,?_⟩;have:y≠x:=λe=>hj (zU hN g (e ▸ hi));simp[this,e];exact .inr ⟨k,c,e,z.sameBut hs (cne y c e)⟩;obtain⟨R,z⟩:=I.cell y c e;exact⟨R,z.sameBut hs (cne y c e)⟩;obtain⟨e,n,ne,nf,d⟩:=I.pin p Z;exact⟨(hs.2 p.1 ne).trans e,n,ne,nf,d⟩
 ·have G:X.fn x=true:=by
   rcases hf with z | z;exact z;rw[z]at F;cases F
  obtain⟨c,l⟩:=I.ok.has x (.inl F);obtain⟨R,z⟩:=I.cell x c l;refine wpAny_storeName_cell I.ok.kind F l z (λh' K hs=>?_);obtain⟨oc,L,O⟩:=id z;refine h {s with heap:=h'} ⟨I.ok,I.os,I.bare,⟨λb o e n hb t=>?_,λb o e n hb t=>?_,I.base.free,λb o e t=>?_,I.base.tups,I.base.frzs,I.base.tbls⟩,⟨m,hn.sameBut hs (a3d (cne x c l)),λj y W g C Y=>?_⟩,λy S e=>?_,I.free,I.freeC,λp Z=>?_,f ⟨oc,L,I.freeC x c l⟩ hs,by simpa using I.len⟩ ⟨c,hs,.inr l⟩;exact(hs.2 b (a0d (a9b (a5a e) (I.ok.cab x c G l)))).trans (I.base.keep b o e n hb t);obtain⟨sl,g⟩:=I.base.slot b o e n hb t;exact⟨sl,(hs.2 b (a0d (a9b (a5a e) (I.ok.cab x c G l)))).trans g⟩;obtain⟨o',g⟩:=I.base.there b o e t;exact⟨o',(hs.2 b (a0d (a9b (a5a e) (I.ok.cab x c G l)))).trans g⟩;by_cases hj:j=i;subst hj;rw[hi]at g;cases g;rw[a3b D]at C;cases C;exact⟨u,r,.inr ⟨.inl F,c,l,K⟩⟩;rw[a3a (a3d hj)]at C;obtain⟨u',r',q⟩:=hl j y W g C Y;refine⟨u',r',?_⟩;rcases q with q | ⟨k,S,e,z'⟩;exact .inl q;refine .inr ⟨k,S,e,z'.sameBut hs ?_⟩;rintro rfl;exact hj (zU hN g (I.ok.inj _ _ _ e l ▸ hi));by_cases P:S=c;subst P;exact⟨_,K⟩;obtain⟨w2,z2⟩:=I.cell y S e;exact⟨w2,z2.sameBut hs P⟩;obtain⟨e,n,ne,nf,d⟩:=I.pin p Z;refine⟨(hs.2 p.1 ?_).trans e,n,ne,nf,d⟩;intro q;rw[q,L]at e;have q':oc=p.2:=a4a e;exact d R (by rw[← q'];exact O)
def jU{M:Model}{A:Around}{E:Value->Shared->Prop}{i:Nat}{x:Str}{v:V}{u:Value}{Q:Unit->Shared->Prop}(I:Inv X pins σ H s)(a:X.N.Nodup)(hi:X.N[i]? = some x)(b:Loc X.env.scope x)(r:cE v u)
  (h:∀ s',Inv X pins (σ.set i (some v)) H s'->Q () s') (c:X.fn x=true\/X.env.scope.names.lookup x=some .local:=by first | exact .inl rfl | exact .inr rfl | assumption):wpAny M A (storeName X.env x u) Q E s:=
 vN I a hi b r (λs' d _=>h s' d) c
def Inv.call'{s':Shared}{ch:List Addr}(I:Inv X pins σ H s)(d:s'.os=s.os)(u:Un (frs X.stack) ch H H' s.heap s'.heap)(hok:HOk X.prog X.w H' s'.heap)(f:AllBare s'.gens)
  (a:∀ b∈ch,(b∈X.ex\/X.s₀.heap.objs.size<=b)/\b≠X.env.locals/\(∀ x c,X.env.cells.lookup x=some c->c≠b)/\∀ p∈X.pn++pins,p.1≠b):Inv X pins σ H' s':=by
 obtain⟨h',g',d',t',o'⟩:=s';have e:o'=s.os:=d;subst e;exact I.call (g':=g') (t':=t') (d':=d') u hok f a
end
abbrev XK:=Value->Option Addr->Hp->Prop
abbrev St:=List (Option V)
abbrev VK:=V->Hp->Prop
abbrev TE:=St->Hp->VK->Prop
abbrev TT:=St->Hp->(Bool->Hp->Prop)->Prop
abbrev TA:=St->Hp->(List V->Hp->Prop)->Prop
structure Ends where
 nx:St->Hp->Prop
 rt:VK
 bk:St->Hp->Prop:=λ_ _=>False
 ct:St->Hp->Prop:=λ_ _=>False
abbrev TS:=Ends->St->Hp->Prop
def EP(X:Cx)(pins:List (Addr×Obj))(σ:St)(Q:VK)(u:Value)(s':Shared):Prop:=∃ v H',Inv X pins σ H' s'/\cE v u/\Q v H'
def TP(X:Cx)(pins:List (Addr×Obj))(σ:St)(Q:Bool->Hp->Prop)(b:Bool)(s':Shared):Prop:=∃ H',Inv X pins σ H' s'/\Q b H'
def AP(X:Cx)(pins:List (Addr×Obj))(σ:St)(Q:List V->Hp->Prop)(us:List Value)(s':Shared):Prop:=∃ vs H',Inv X pins σ H' s'/\bW vs us/\Q vs H'
def SP(X:Cx)(pins:List (Addr×Obj))(D:Ends)(f:Flow)(s':Shared):Prop:=
 match f with
 | .next=>∃ σ' H',Inv X pins σ' H' s'/\D.nx σ' H'
 | .brk=>∃ σ' H',Inv X pins σ' H' s'/\D.bk σ' H'
 | .cont=>∃ σ' H',Inv X pins σ' H' s'/\D.ct σ' H'
 | .ret u=>∃ v σ' H',Inv X pins σ' H' s'/\cE v u/\D.rt v H'
def PE(X:Cx)(e:Expr)(t:TE):Prop:=
 ∀ (pins:List (Addr×Obj)) (s:Shared) (σ:St) (H:Hp) (Q:VK),Inv X pins σ H s->t σ H Q->wpAny (model X.prog X.w) X.A (eval e X.env) (EP X pins σ Q) X.xe s
def PT(X:Cx)(e:Expr)(t:TT):Prop:=
 ∀ (pins:List (Addr×Obj)) (s:Shared) (σ:St) (H:Hp) (Q:Bool->Hp->Prop),Inv X pins σ H s->t σ H Q->wpAny (model X.prog X.w) X.A (isTrue e X.env (eval e X.env)) (TP X pins σ Q) X.xe s
def PW(X:Cx)(e:Expr)(t:TT):Prop:=
 ∀ (a:Sem Value) (pins:List (Addr×Obj)) (s:Shared) (σ:St) (H:Hp) (Q:Bool->Hp->Prop),Inv X pins σ H s->t σ H Q->wpAny (model X.prog X.w) X.A (isTrue e X.env a) (TP X pins σ Q) X.xe s
def PW.pt{X:Cx}{e:Expr}{t:TT}(h:PW X e t):PT X e t:=h _
def PA(X:Cx)(es:List Expr)(t:TA):Prop:=
 ∀ (a:Pos) (pins:List (Addr×Obj)) (s:Shared) (σ:St) (H:Hp) (Q:List V->Hp->Prop),Inv X pins σ H s->t σ H Q->wpAny (model X.prog X.w) X.A (spliced (backTo a (starEach es X.env))) (AP X pins σ Q) X.xe s
def PS(X:Cx)(st:Stmt)(t:TS):Prop:=
 ∀ (pins:List (Addr×Obj)) (s:Shared) (σ:St) (H:Hp) (D:Ends),Inv X pins σ H s->t D σ H->wpAny (model X.prog X.w) X.A (exec st X.env) (SP X pins D) X.xe s
def PSs(X:Cx)(st:List Stmt)(t:TS):Prop:=
 ∀ (pins:List (Addr×Obj)) (s:Shared) (σ:St) (H:Hp) (D:Ends),Inv X pins σ H s->t D σ H->wpAny (model X.prog X.w) X.A (execs st X.env) (SP X pins D) X.xe s
def thn{b:Type}{t:Sem b}{Q c:b->Shared->Prop}{M:Model}{A:Around}{E:Value->Shared->Prop}{s:Shared}(h:wpAny M A t Q E s)(d:∀ a s,Q a s->c a s):wpAny M A t c E s:=a4M h d λ_ _ x=>x
section
variable{X:Cx}
def zV(i:Nat):TE:=λσ H Q=>∃ v,σ[i]? = some (some v)/\Q v H
def tC(v:V):TE:=λ_ H Q=>Q v H
def cN5{i:Nat}{x:Str}{pos:Pos}(g:X.N[i]? = some x)(j:Vis X.env.scope x)(hd:(x==("__debug__":Str))=false:=by decide)(d:(x==("__classdict__":Str))=false:=by decide):PE X (.Name x pos) (zV i):=by
 intro pins s σ H Q I h;obtain⟨v,e,h⟩:=h;obtain⟨m,hn,k⟩:=I.loc;obtain⟨u,r,l⟩:=k i x v g e j;have fin:EP X pins σ Q u s:=⟨v,H,I,r,h⟩;rcases l with⟨b,hm⟩ | ⟨b,c,f,a⟩;exact wpAny_Name (wpAny_loadName_local I.ok.kind b hn hm fin) hd;rcases b with b | b;exact wpAny_Name (wpAny_loadName_cell I.ok.kind b f a fin) hd;exact wpAny_Name (wpAny_loadName_free I.ok.kind b f a fin d) hd
def cN6{i j pos}:PE X (.Constant (.int i) j pos) (tC (.int i)):=λ_ _ _ H _ I h=>wpAny_Constant_int ⟨.int i,H,I.tok _,⟨_,rfl⟩,h⟩
def dC0{b j pos}:PE X (.Constant (.bool b) j pos) (tC (.bl b)):=λ_ _ _ H _ I h=>Constant_bool ⟨.bl b,H,I,rfl,h⟩
def cN7{j pos}:PE X (.Constant .none j pos) (tC .non):=λ_ _ _ H _ I h=>Constant_none ⟨.non,H,I,rfl,h⟩
def cN8{x j pos}:PE X (.Constant (.str x) j pos) (tC (.str x)):=λ_ _ _ H _ I h=>Calls.Constant_str ⟨.str x,H,I.tok _,⟨_,rfl⟩,h⟩
def Gl(X:Cx)(x:Str):Prop:=X.env.kindOf x=some .globalImplicit
def aL1{E:Value->Shared->Prop}{pins:List (Addr×Obj)}{s:Shared}{σ:St}{H:Hp}{x:Str}{u:Value}{pos:Pos}{Q:Value->Shared->Prop}(I:Inv X pins σ H s)(a:Gl X x)(hm:X.mg x=some u)(h:Q u s)
  (hd:(x==("__debug__":Str))=false:=by decide):wpAny (model X.prog X.w) X.A (eval (.Name x pos) X.env) Q E s:=
 Calls.Name_function_global I.ok.kind a (Calls.loadGlobal_global (by rw[I.ok.glob];exact I.mod.glob.keeps I.bk) hm h) hd
def gK{E:Value->Shared->Prop}{pins:List (Addr×Obj)}{s:Shared}{σ:St}{H:Hp}{x:Str}{u:Value}{pos:Pos}{Q:Value->Shared->Prop}(I:Inv X pins σ H s)(a:Gl X x)(hm:X.mg x=none)(b:bootBuiltins x=some u)(h:Q u s)
  (hn:x≠"__name__":=by decide) (hd:(x==("__debug__":Str))=false:=by decide):wpAny (model X.prog X.w) X.A (eval (.Name x pos) X.env) Q E s:=by
 obtain⟨mb,c,d⟩:=I.mod.blt;exact Calls.Name_function_global I.ok.kind a (Calls.loadGlobal_builtin (by rw[I.ok.glob];exact I.mod.glob.keeps I.bk) hm (by rw[I.ok.blt];exact c.keeps I.bk) ((d x hn).trans b) h) hd
def aL2{x:Str}{v:V}{u:Value}{pos:Pos}(a:Gl X x)(hm:X.mg x=some u)(r:cE v u)(hd:(x==("__debug__":Str))=false:=by decide):PE X (.Name x pos) (tC v):=
 λ_ _ _ H _ I h=>aL1 I a hm ⟨v,H,I,r,h⟩ hd
def tF{x:Str}{v:V}{u:Value}{pos:Pos}(a:Gl X x)(hm:X.mg x=none)(b:bootBuiltins x=some u)(r:cE v u)(hn:x≠"__name__":=by decide)(hd:(x==("__debug__":Str))=false:=by decide):PE X (.Name x pos) (tC v):=
 λ_ _ _ H _ I h=>gK I a hm b ⟨v,H,I,r,h⟩ hn hd
variable{a b:Expr}{ta tb:TE}{pos:Pos}
def tB(t:TE):TT:=λσ H Q=>t σ H λx a=>∃ c,x=.bl c/\Q c a
def cN9{e:Expr}{t:TE}(h:PE X e t)(b:∀ a,isTrue e X.env a=(do let v ← a;standAt e.pos;holding [v] (truthy v)):=by intro _;rfl):PT X e (tB t):=by
 intro pins s σ H Q I c;refine isTrue_plain (thn (h pins s σ H _ I c) λv s1 Z0=>?_) (b _);obtain⟨x,f,g,i,j⟩:=Z0;obtain⟨d,rfl,q⟩:=j;cases i;exact a4T ⟨f,g,q⟩
variable{tA tB':TT}{dD:List Expr}
def dL7(t u:TT):TT:=λσ H Q=>t σ H λc a=>if c=true then u σ a Q else Q false a
def tOr(t u:TT):TT:=λσ H Q=>t σ H λc a=>if c=true then Q true a else u σ a Q
def dL8(t:TT):TT:=λσ H Q=>t σ H λc a=>Q (!c) a
def cA8(ha:PT X a tA):PW X (.BoolOp .And [a] pos) tA:=by
 intro b pins s σ H Q I h;refine isTrue_and (thn (ha pins s σ H Q I h) λc s1 e=>?_);cases c with
 | true=>exact isTrue_and_nil e
 | false=>exact e
def cO0(ha:PT X a tA):PW X (.BoolOp .Or [a] pos) tA:=by
 intro b pins s σ H Q I h;refine isTrue_or (thn (ha pins s σ H Q I h) λc s1 e=>?_);cases c with
 | false=>exact isTrue_or_nil e
 | true=>exact e
def cO1(ha:PT X a tA)(hb:PW X (.BoolOp .And (b::dD) pos) tB'):PW X (.BoolOp .And (a::b::dD) pos) (dL7 tA tB'):=by
 intro g pins s σ H Q I h;refine isTrue_and (thn (ha pins s σ H _ I h) λc s1 Z0=>?_);obtain⟨d,e,f⟩:=Z0;cases c with
 | true=>exact hb g pins s1 σ d Q e f
 | false=>exact⟨d,e,f⟩
def dC1(ha:PT X a tA)(hb:PW X (.BoolOp .Or (b::dD) pos) tB'):PW X (.BoolOp .Or (a::b::dD) pos) (tOr tA tB'):=by
 intro g pins s σ H Q I h;refine isTrue_or (thn (ha pins s σ H _ I h) λc s1 Z0=>?_);obtain⟨d,e,f⟩:=Z0;cases c with
 | true=>exact⟨d,e,f⟩
 | false=>exact hb g pins s1 σ d Q e f
def cO2(ha:PT X a tA):PT X (.UnaryOp .Not a pos) (dL8 tA):=by
 intro pins s σ H Q I h;exact isTrue_not (ha pins s σ H (λc b=>Q (!c) b) I h)
def dC2(ta tb:TE):TE:=λσ H Q=>ta σ H λx a=>∃ c,x=.bl c/\if c=true then tb σ a Q else Q (.bl false) a
def dC3(ta:TE):TE:=λσ H Q=>ta σ H λx a=>∃ c,x=.bl c/\Q (.bl (!c)) a
def cO3{op}{t:TE}(h:PE X a t):PE X (.BoolOp op [a] pos) t:=λpins s σ H Q I b=>BoolOp_one (h pins s σ H Q I b)
def cO4(ha:PE X a ta)(hb:PE X (.BoolOp .And (b::dD) pos) tb):PE X (.BoolOp .And (a::b::dD) pos) (dC2 ta tb):=by
 intro pins s σ H Q I h;refine BoolOp_and (thn (ha pins s σ H _ I h) λv s1 Z0=>?_);obtain⟨x,e,f,g,d⟩:=Z0;obtain⟨c,rfl,d⟩:=d;cases g;refine a4T ?_;cases c with
 | true=>exact hb pins s1 σ e Q f d
 | false=>exact⟨.bl false,e,f,rfl,d⟩
def cO5(ha:PE X a ta):PE X (.UnaryOp .Not a pos) (dC3 ta):=by
 intro pins s σ H Q I h;refine UnaryOp_ (thn (ha pins s σ H _ I h) λv s1 Z0=>?_);obtain⟨x,d,e,f,b⟩:=Z0;obtain⟨c,rfl,b⟩:=b;cases f;exact not_of (a4T ⟨.bl (!c),d,e,rfl,b⟩)
def tIf(t:TT)(ta tb:TE):TE:=λσ H Q=>t σ H λc a=>if c=true then ta σ a Q else tb σ a Q
def bA6{c:Expr}(i:PT X c tA)(ha:PE X a ta)(hb:PE X b tb):PE X (.IfExp c a b pos) (tIf tA ta tb):=by
 intro pins s σ H Q I h;refine wpAny_IfExp (thn (i pins s σ H _ I h) λd s1 Z0=>?_);obtain⟨e,f,g⟩:=Z0;cases d with
 | true=>exact ha pins s1 σ e Q f g
 | false=>exact hb pins s1 σ e Q f g
end
def SqL(K:W.Frag)(H:Hp)(a:Addr)(xs:List V):Prop:=
 Rd H a (.lst xs) \/
  ∃ (o:Obj) (its:Array Value) (n:Nat),K.lookup a=some o/\o.cls=.type "list"/\o.dict=none/\o.data=.seq its n/\its.size<=sizeLine/\bW xs its.toList
def SqT(K:W.Frag)(H:Hp)(a:Addr)(xs:List V):Prop:=
 Rd H a (.tup xs) \/
  ∃ (o:Obj) (its:Array Value) (n:Nat),K.lookup a=some o/\o.cls=.type "tuple"/\o.data=.seq its n/\its.size<=sizeLine/\bW xs its.toList
noncomputable def dL9:Value->Option V
 | .none=>some .non
 | .bool b=>some (.bl b)
 | .int i _=>some (.int i)
 | .str x _=>some (.str x)
 | .bytes b _=>some (.byt b)
 | .float b _=>some (.flt b)
 | .ref a=>some (.ref a)
 | .type n=>some (.ty n)
 | _=>none
def cE.abs{x:V}{u:Value}(r:cE x u):dL9 u=some x:=by
 cases x with
 | non=>cases r;rfl
 | bl _=>cases r;rfl
 | int _=>obtain⟨t,rfl⟩:=r;rfl
 | str _=>obtain⟨t,rfl⟩:=r;rfl
 | byt _=>obtain⟨t,rfl⟩:=r;rfl
 | flt _=>obtain⟨t,rfl⟩:=r;rfl
 | ref _=>cases r;rfl
 | ty _=>cases r;rfl
def cE.inj{x y:V}{u:Value}(r:cE x u)(q:cE y u):x=y:=a4a (r.abs.symm.trans q.abs)
theorem bW.inj:∀ {xs ys:List V} {us:List Value},bW xs us->bW ys us->xs=ys
 | _,_,_,.nil,.nil=>rfl
 | _,_,_,.cons r t,.cons a b=>by rw[r.inj a,bW.inj t b]
section
variable{X:Cx}{pins:List (Addr×Obj)}{σ:St}{H:Hp}{s:Shared}{a:Addr}{xs ys:List V}
def SqL.of{K:W.Frag}(h:H a=some (.lst xs)):SqL K H a xs:=.inl (.inl h)
def SqT.of{K:W.Frag}(h:H a=some (.tup xs)):SqT K H a xs:=.inl (.inl h)
def Inv.list(I:Inv X pins σ H s)(h:SqL X.K H a xs):∃ its:List Value,bW xs its/\PlainL s.heap a its.toArray/\xs.length<=sizeLine:=by
 rcases h with h | ⟨o,its,n,b,c,hd,hs,d,r⟩;obtain⟨z,its,n,r,e⟩:=h.ok I.hok;exact⟨its,r,⟨_,n,e,rfl,rfl,rfl⟩,z⟩;refine⟨its.toList,r,⟨o,n,I.kIn a o b,c,hd,by simpa using hs⟩,?_⟩;have e:=r.length;simp only[Array.length_toList]at e;lia
def Inv.tuple(I:Inv X pins σ H s)(h:SqT X.K H a xs):∃ its:List Value,bW xs its/\IsTup s.heap a its.toArray/\xs.length<=sizeLine:=by
 rcases h with h | ⟨o,its,n,b,c,hs,d,r⟩;obtain⟨z,its,r,p,_⟩:=h.ok I.hok;exact⟨its,r,p,z⟩;refine⟨its.toList,r,⟨o,I.kIn a o b,c,n,by simpa using hs⟩,?_⟩;have e:=r.length;simp only[Array.length_toList]at e;lia
def Inv.list_inj(I:Inv X pins σ H s)(h:SqL X.K H a xs)(h':SqL X.K H a ys):xs=ys:=by
 obtain⟨its,r,⟨o,n,e,_,_,d⟩,_⟩:=I.list h;obtain⟨b,f,⟨o',i,c,_,_,d'⟩,_⟩:=I.list h';rw[e]at c;cases c;rw[d]at d';injection d' with g _
 have:its=b:=by simpa using a4V Array.toList g
 subst this;exact r.inj f
def Inv.tuple_inj(I:Inv X pins σ H s)(h:SqT X.K H a xs)(h':SqT X.K H a ys):xs=ys:=by
 obtain⟨its,r,⟨o,e,_,n,d⟩,_⟩:=I.tuple h;obtain⟨b,f,⟨o',c,_,i,d'⟩,_⟩:=I.tuple h';rw[e]at c;cases c;rw[d]at d';injection d' with g _
 have:its=b:=by simpa using a4V Array.toList g
 subst this;exact r.inj f
end
noncomputable abbrev Cx.wish(X:Cx)(E:Value->Shared->Prop):Cx:={X with xe:=E}
noncomputable abbrev Cx.nox(X:Cx):Cx:=X.wish λ_ _=>False
theorem Cx.Ok.wish{X:Cx}(ok:X.Ok)(E:Value->Shared->Prop):(X.wish E).Ok:=
 ⟨ok.mod,ok.kind,ok.glob,ok.blt,ok.above,ok.inj,ok.has,ok.cab,ok.hd,ok.frames,ok.stk,ok.exf,ok.bs,ok.bsz,ok.noex,ok.exfs,ok.funs,ok.frf⟩
def Cx.Ok.unwish{X:Cx}{E:Value->Shared->Prop}(ok:(X.wish E).Ok):X.Ok:=
 ⟨ok.mod,ok.kind,ok.glob,ok.blt,ok.above,ok.inj,ok.has,ok.cab,ok.hd,ok.frames,ok.stk,ok.exf,ok.bs,ok.bsz,ok.noex,ok.exfs,ok.funs,ok.frf⟩
section
variable{X:Cx}{pins:List (Addr×Obj)}{σ:St}{H:Hp}{s:Shared}{E:Value->Shared->Prop}
theorem Inv.wish(I:Inv X pins σ H s)(E:Value->Shared->Prop):Inv (X.wish E) pins σ H s:=⟨I.ok.wish E,I.os,I.bare,I.base,I.loc,I.cell,I.free,I.freeC,I.pin,I.hok,I.len⟩
theorem Inv.unwish(I:Inv (X.wish E) pins σ H s):Inv X pins σ H s:=⟨I.ok.unwish,I.os,I.bare,I.base,I.loc,I.cell,I.free,I.freeC,I.pin,I.hok,I.len⟩
theorem SP.unwish{D:Ends}{f:Flow}{s':Shared}(h:SP (X.wish E) pins D f s'):SP X pins D f s':=by
 cases f with
 | next=>obtain⟨σ',H',I,q⟩:=h;exact⟨σ',H',I.unwish,q⟩
 | brk=>obtain⟨σ',H',I,q⟩:=h;exact⟨σ',H',I.unwish,q⟩
 | cont=>obtain⟨σ',H',I,q⟩:=h;exact⟨σ',H',I.unwish,q⟩
 | ret u=>obtain⟨v,σ',H',I,r,q⟩:=h;exact⟨v,σ',H',I.unwish,r,q⟩
theorem PSs.nox{st:List Stmt}{t:TS}(h:PSs X.nox st t):PSs X st t:=λpins s σ H D I a=>
 a4M (h pins s σ H D (I.wish _) a) (λ_ _ q=>q.unwish) λ_ _ z=>False.elim z
end
section
variable{X:Cx}{st:Stmt}{dD:List Stmt}{t u:TS}{e:Expr}{te:TE}{pos:Pos}
def dC4:TS:=λD σ H=>D.nx σ H
def cO6(t u:TS):TS:=λD σ H=>t {D with nx:=u D} σ H
def cA9:PSs X [] dC4:=λ_ _ σ H _ I h=>wpAny_execs_nil ⟨σ,H,I,h⟩
def tG(a:PS X st t)(b:PSs X dD u):PSs X (st::dD) (cO6 t u):=by
 intro pins s σ H D I h;refine wpAny_execs_cons (thn (a pins s σ H {D with nx:=u D} I h) λf s1 q=>?_);cases f with
 | next=>
   obtain⟨σ',H',c,q⟩:=q;exact b pins s1 σ' H' D c q
 | ret v=>exact q
 | brk=>exact q
 | cont=>exact q
def yE(a:PS X st t):PSs X [st] t:=by
 intro pins s σ H D I h;refine wpAny_execs_cons (thn (a pins s σ H D I h) λf s1 q=>?_);cases f with
 | next=>exact wpAny_execs_nil q
 | ret v=>exact q
 | brk=>exact q
 | cont=>exact q
def Inv.quiet{pins:List (Addr×Obj)}{σ:St}{H:Hp}{s:Shared}(I:Inv X pins σ H s):interactive X.env=false:=by simp[interactive,I.ok.kind]
def aL3(te:TE):TS:=λD σ H=>te σ H λ_ a=>D.nx σ a
def aL4(a:PE X e te)(hs:swapsWith e none pos.line X.env=pure false:=by rfl):PS X (.Expr e pos) (aL3 te):=by
 intro pins s σ H D I h;exact wpAny_Expr_any (thn (a pins s σ H _ I h) λv s1 ⟨x,b,c,f,d⟩=>⟨σ,b,c,d⟩) I.quiet hs
def cZ8(te:TE):TS:=λD σ H=>te σ H D.rt
def bL6(a:PE X e te):PS X (.Return (some e) pos) (cZ8 te):=by
 intro pins s σ H D I h;exact wpAny_Return_some (thn (a pins s σ H _ I h) λv s1 ⟨x,b,c,d,f⟩=>⟨x,σ,b,c,d,f⟩)
def dM0(c:TT)(t u:TS):TS:=λD σ H=>c σ H λb a=>if b=true then t D σ a else u D σ a
def dC5{c:Expr}{a b:List Stmt}{e:TT}(j:PT X c e)(ha:PSs X a t)(hb:PSs X b u):PS X (.If c a b pos) (dM0 e t u):=by
 intro pins s σ H D I h;refine wpAny_If (thn (j pins s σ H _ I h) λd s1 Z0=>?_);obtain⟨f,g,i⟩:=Z0;cases d with
 | true=>exact ha pins s1 σ f D g i
 | false=>exact hb pins s1 σ f D g i
end
abbrev TG:=V->St->Hp->(St->Hp->Prop)->Prop
abbrev TGs:=List V->St->Hp->(St->Hp->Prop)->Prop
def PG(X:Cx)(a:Expr)(t:TG):Prop:=
 ∀ (pins:List (Addr×Obj)) (s:Shared) (σ:St) (H:Hp) (v:V) (u:Value) (Q:St->Hp->Prop),Inv X pins σ H s->cE v u->t v σ H Q ->
   wpAny (model X.prog X.w) X.A (assign a X.env u) (λ_ s'=>∃ σ' H',Inv X pins σ' H' s'/\Q σ' H') X.xe s
def PGs(X:Cx)(a:List Expr)(t:TGs):Prop:=
 ∀ (pins:List (Addr×Obj)) (s:Shared) (σ:St) (H:Hp) (vs:List V) (us:List Value) (Q:St->Hp->Prop),Inv X pins σ H s->bW vs us->t vs σ H Q ->
   wpAny (model X.prog X.w) X.A (assignInOrder ((assignEach a X.env).map (·.2)) us) (λ_ s'=>∃ σ' H',Inv X pins σ' H' s'/\Q σ' H') X.xe s
abbrev mR:=V->V->V->Hp->(Hp->Prop)->Prop
def dC6(X:Cx)(t:mR):Prop:=
 ∀ (pins:List (Addr×Obj)) (s:Shared) (σ:St) (H:Hp) (o i v:V) (ov a u:Value) (Q:Hp->Prop),Inv X pins σ H s->cE o ov->cE i a->cE v u->t o i v H Q ->
   wpAny (model X.prog X.w) X.A (setItem ov a u) (λ_ s'=>∃ H',Inv X pins σ H' s'/\Q H') X.xe s
abbrev TIp:=V->V->Hp->VK->Prop
def PIp(X:Cx)(op:Operator)(t:TIp):Prop:=
 ∀ (pins:List (Addr×Obj)) (s:Shared) (σ:St) (H:Hp) (x y:V) (v u:Value) (Q:VK),Inv X pins σ H s->cE x v->cE y u->t x y H Q ->
   wpAny (model X.prog X.w) X.A (inplaceOp op v u) (EP X pins σ Q) X.xe s
section
variable{X:Cx}{pos:Pos}
def lB(i:Nat):TG:=λv σ H Q=>Q (σ.set i (some v)) H
def aH{i:Nat}{x:Str}(a:X.N.Nodup)(hi:X.N[i]? = some x)(b:Loc X.env.scope x)(c:X.fn x=true\/X.env.scope.names.lookup x=some .local:=by first | exact .inl rfl | exact .inr rfl | assumption):PG X (.Name x pos) (lB i):=by
 intro pins s σ H v u Q I r h;exact wpAny_assign_Name (jU I a hi b r (λs' d=>⟨_,H,d,h⟩) c)
def dC7:TGs:=λvs σ H Q=>vs=[]/\Q σ H
def cB0(t:TG)(u:TGs):TGs:=λvs σ H Q=>∃ v r,vs=v::r/\t v σ H λσ' H'=>u r σ' H' Q
def eQ:PGs X [] dC7:=by
 intro pins s σ H vs us Q I r h;obtain⟨e,h⟩:=h;subst e;cases r;exact assignInOrder_nil ⟨σ,H,I,h⟩
def bD{e:Expr}{es:List Expr}{t:TG}{u:TGs}(b:PG X e t)(c:PGs X es u)
  (hs:(assignEach (e::es) X.env).map (·.2)=assign e X.env::(assignEach es X.env).map (·.2):=by rfl):PGs X (e::es) (cB0 t u):=by
 intro pins s σ H vs us Q I r h;obtain⟨v,k,d,h⟩:=h;subst d;cases r with
 | cons r f=>
   rw[hs];refine assignInOrder_cons (thn (b pins s σ H _ _ _ I r h) λ_ s1 Z0=>?_);obtain⟨a,g,i,j⟩:=Z0;exact c pins s1 a g _ _ Q i f j
def dM1(K:W.Frag)(n:Nat)(t:TGs):TG:=λv σ H Q=>∃ a xs,v=.ref a/\SqT K H a xs/\xs.length=n/\t xs σ H Q
def cO7{es:List Expr}{k:Nat}{t:TGs}{n:Nat}(g:X.calm=true)(h:PGs X es t)
  (hn:(assignEach es X.env).length=n:=by rfl) (c:(assignEach es X.env).findIdx? (·.1)=none:=by rfl):PG X (.Tuple es k pos) (dM1 X.K n t):=by
 intro pins s σ H v u Q I r d;obtain⟨a,xs,i,j,l,d⟩:=d;subst i;cases r;obtain⟨its,f,m,w⟩:=I.tuple j;refine assign_Tuple_tuple (I.ok.hd g) m (by simp[hn,← l,f.length]) c λh' p=>?_;have q:Inv X pins σ H {s with heap:=h'}:=I.kept (t':=s.toks) λb o e=>p b o (a0d (a5a e)) e;exact h pins _ σ H xs _ Q q (by simpa using f) d
def dC8(to ti:TE)(t:mR):TG:=λv σ H Q=>to σ H λo a=>ti σ a λi b=>t o i v b λc=>Q σ c
def aL5{o i:Expr}{to ti:TE}{t:mR}(b:PE X o to)(hi:PE X i ti)(hs:dC6 X t)
  (ha:∀ v,assign (.Subscript o i pos) X.env v=(do
   let ov ← holding [v] (eval o X.env)
   let a ← holding [v,ov] (eval i X.env)
   standAt pos
   holding [v,ov,a] (setItem ov a v)
   release [v,ov,a] []):=by intro _;rfl):PG X (.Subscript o i pos) (dC8 to ti t):=by
 intro pins s σ H v u Q I r h;rw[ha];refine a4x (a4C (thn (b pins s σ H _ I h) λov s1 Z0=>?_));obtain⟨x,c,d,e,f⟩:=Z0;refine a4x (a4C (thn (hi pins s1 σ c _ d f) λa s2 ⟨y,g,j,k,l⟩=>?_));refine a4x (a5r (a4x (a4C (thn (hs pins s2 σ g x y v ov a u _ j e k r l) λ_ q ⟨m,n,p⟩=>?_))));exact wpAny_release ⟨σ,m,n,p⟩
def bA7(a:TE)(g:TG):TS:=λD σ H=>a σ H λx b=>g x σ b D.nx
def vO{tg e:Expr}{a:TE}{g:TG}(b:PE X e a)(c:PG X tg g)(hs:swapsWithSole [tg] e pos.line X.env=pure false:=by rfl)(d:swappedStores [tg] e X.env=pure none:=by rfl)
  (f:(assignEach [tg] X.env).map (·.2)=[assign tg X.env]:=by rfl):PS X (.Assign [tg] e pos) (bA7 a g):=by
 intro pins s σ H D I h;refine wpAny_Assign_stores (thn (b pins s σ H _ I h) λv s1 Z0=>?_) hs d;obtain⟨x,i,j,k,l⟩:=Z0;rw[f];exact thn (c pins s1 σ i x v _ j k l) λ_ s2 q=>q
def bL7{i:Nat}{x:Str}{e:Expr}{b:TE}{a:Pos}(c:X.N.Nodup)(hi:X.N[i]? = some x)(d:Loc X.env.scope x)(f:PE X e b)(hs:swapsWith e (some (.Name x a)) pos.line X.env=pure false:=by rfl)(g:X.fn x=true\/X.env.scope.names.lookup x=some .local:=by first | exact .inl rfl | exact .inr rfl | assumption) :
  PS X (.Assign [.Name x a] e pos) (bA7 b (lB i)):=by
 intro pins s σ H D I h;refine wpAny_Assign_Name (thn (f pins s σ H _ I h) λv s1 Z0=>?_) hs;obtain⟨y,j,k,l,m⟩:=Z0;exact jU k c hi d l (λs2 n=>⟨_,j,n,m⟩) g
def dI2(i:Nat)(te:TE)(ti:TIp):TS:=λD σ H=>∃ x,σ[i]? = some (some x)/\te σ H λy a=>ti x y a λz b=>D.nx (σ.set i (some z)) b
def cO8{i:Nat}{x:Str}{e:Expr}{o:TE}{op:Operator}{ti:TIp}{d:Pos}(p:X.N.Nodup)(hi:X.N[i]? = some x)(j:Loc X.env.scope x)(q:PE X e o)(t:PIp X op ti)(B:X.fn x=true\/X.env.scope.names.lookup x=some .local:=by first | exact .inl rfl | exact .inr rfl | assumption) :
  PS X (.AugAssign (.Name x d) op e pos) (dI2 i o ti):=by
 intro pins s σ H D I h;obtain⟨v,C,h⟩:=h;obtain⟨m,hn,E⟩:=I.loc;have n:Vis X.env.scope x:=by rcases j with k | k;exact .inl k;exact .inr (.inl k)
 obtain⟨u,r,l⟩:=E i x v hi C n;refine wpAny_AugAssign_Name ?_;have go:wpAny (model X.prog X.w) X.A (eval e X.env) (λw f=>wpAny (model X.prog X.w) X.A (inplaceOp op u w) (λr g=>wpAny (model X.prog X.w) X.A (storeName X.env x r) (λ_=>SP X pins D .next) X.xe g) X.xe f) X.xe s:=by
  refine thn (q pins s σ H _ I h) λw s1 Z0=>?_;obtain⟨y,F,G,J,K⟩:=Z0;refine thn (t pins s1 σ F v y u w _ G r J K) λz s2 ⟨S,L,M,O,P⟩=>?_;exact jU M p hi j O (λT Q=>⟨_,L,Q,P⟩) B
 rcases l with⟨a,hm⟩ | ⟨a,c,R,b⟩;exact wpAny_loadName_local I.ok.kind a hn hm go;rcases a with a | a;exact wpAny_loadName_cell I.ok.kind a R b go;rcases j with k | k;have:X.env.scope.names.lookup x=some .free:=a;rw[k]at this;cases this;have:X.env.scope.names.lookup x=some .free:=a;rw[k]at this;cases this
def ipI(f:Int->Int->Int):TIp:=λx y H Q=>∃ i j,x=.int i/\y=.int j/\Q (.int (f i j)) H
def cO9:PIp X .Add (ipI λi j=>i+j):=by
 intro pins s σ H x y v u Q I a b h;obtain⟨i,j,c,d,q⟩:=h;subst c;subst d;obtain⟨t,rfl⟩:=a;obtain⟨e,rfl⟩:=b;exact iadd_int ⟨.int _,H,I.tok _,⟨_,rfl⟩,q⟩
end
section
variable{X:Cx}{pos:Pos}
def zW(c:TT)(tb:TS):TS:=λD σ H=>∃ W:Nat->St->Hp->Prop,(∃ m,W m σ H)/\∀ m σ H,W m σ H ->
 c σ H λb a=>if b=true then ∃ N:St->Hp->Prop,(∀ σ' H',N σ' H'->∃ m',m' < m/\W m' σ' H')/\tb {D with nx:=N,ct:=N,bk:=D.nx} σ a else D.nx σ a
def bA8{c:Expr}{e:List Stmt}{m:TT}{o:TS}(p:PassesOwn (model X.prog X.w) X.A X.env X.xe)(x:PT X c m)(hb:PSs X e o):PS X (.While c e [] pos) (zW m o):=by
 intro pins s σ H D I h;obtain⟨W,⟨y,z⟩,turn⟩:=h;refine wpAny_While (codeAny_whileLoop (λn s'=>∃ σ' H',Inv X pins σ' H' s'/\W n σ' H') ?_ y ⟨σ,H,I,z⟩);rintro n s1 ⟨d,q,B,C⟩;refine a4X p (thn (x pins s1 d q _ B (turn n d q C)) λb s2 Z0=>?_);obtain⟨r,t,i⟩:=Z0;cases b with
 | true=>
   obtain⟨N,u,i⟩:=i;rw[a4A rfl];refine a4X p (thn (hb pins s2 d r _ t i) λf E j=>?_);cases f with
   | next=>
     obtain⟨a,g,k,n3⟩:=j;obtain⟨m',hm,l⟩:=u a g n3;exact⟨m',hm,a,g,k,l⟩
   | cont=>
     obtain⟨a,g,k,n3⟩:=j;obtain⟨m',hm,l⟩:=u a g n3;exact⟨m',hm,a,g,k,l⟩
   | brk=>exact j
   | ret v=>exact j
 | false=>
   rw[a4z a9c];exact wpAny_execs_nil ⟨d,r,t,i⟩
end
structure It where
 go:Nat->Hp->Prop
 yld:Nat->Hp->V->Hp->Prop
 stop:Nat->Hp->Prop
def aL6(X:Cx)(pins:List (Addr×Obj))(H:Hp)(b:Addr):Prop:=
 H b=none/\b≠X.env.locals/\b∉X.fs/\(b∈X.ex\/X.s₀.heap.objs.size<=b)/\(∀ x c,X.env.cells.lookup x=some c->c≠b)/\∀ p∈X.pn++pins,p.1≠b
def Inv.fpOk{X:Cx}{pins:List (Addr×Obj)}{σ:St}{H H':Hp}{s:Shared}{b:Addr}(I:Inv X pins σ H s)(hb:s.heap.objs.size<=b)(hn:H' b=none):aL6 X pins H' b:=by
 refine⟨hn,a9h (a9b I.lt hb),I.nofs hb,.inr (a5e I.sz hb),λx c e z=>?_,λp a z=>?_⟩;obtain⟨v,q⟩:=I.cell x c e;exact absurd (a9b q.lt (by rw[z];exact hb)) (a7d _);exact absurd (a9b (a5a (I.pin p a).1) (by rw[z];exact hb)) (a7d _)
structure Turn(P:Program)(w:World)(K:W.Frag)(tg:Expr)(J:It)(fp:List Addr)(it:Addr)(tn:Nat->Heap->Prop):Prop where
 mem:it∈fp
 obj:∀ i h,tn i h->∀ b∈fp,∃ o,h.get? b=some o/\∀ v,o.data≠.cell v
 keep:∀ i h h',tn i h->(∀ b∈fp,∀ o,h.get? b=some o->h'.get? b=some o)->tn i h'
 item:∀ (X:Cx),X.prog=P->X.w=w->X.K=K->X.calm=true->∀ (i:Nat) (pins:List (Addr×Obj)) (s:Shared) (σ:St) (H:Hp) (E:Value->Shared->Prop),Inv X pins σ H s->(∀ b∈fp,aL6 X pins H b)->tn i s.heap->J.go i H ->
  wpAny (model P w) X.A (pyNext (.ref it)) (λr s1=>∃ u,r=some u /\
   wpAny (model P w) X.A (letOwnedTupleGo tg (.ref it) u) (λ_ s2=>∃ x H',Inv X pins σ H' s2/\cE x u/\J.yld i H x H'/\tn (i+1) s2.heap/\∀ b∈fp,H' b=none) E s1) E s
 done:∀ (X:Cx),X.prog=P->X.w=w->X.K=K->X.calm=true->∀ (i:Nat) (pins:List (Addr×Obj)) (s:Shared) (σ:St) (H:Hp) (E:Value->Shared->Prop),Inv X pins σ H s->(∀ b∈fp,aL6 X pins H b)->tn i s.heap->J.stop i H ->
  wpAny (model P w) X.A (pyNext (.ref it)) (λr s1=>r=none/\Inv X pins σ H s1) E s
 self:∀ (A:Around) (i:Nat) (s:Shared) (Q:Value->Shared->Prop) (E:Value->Shared->Prop),tn i s.heap->Q (.ref it) s->wpAny (model P w) A (pyIter (.ref it)) Q E s
abbrev TI:=St->Hp->(It->Hp->Prop)->Prop
def PIE(X:Cx)(pins:List (Addr×Obj))(σ:St)(tg:Expr)(R:It->Hp->Prop)(a:Value)(s2:Shared):Prop:=
 ∃ (it:Addr) (fp:List Addr) (tn:Nat->Heap->Prop) (J:It) (H':Hp),a=.ref it/\Inv X pins σ H' s2/\Turn X.prog X.w X.K tg J fp it tn/\tn 0 s2.heap/\(∀ b∈fp,aL6 X pins H' b)/\R J H'
def PI(X:Cx)(tg iter:Expr)(a:TI):Prop:=
 ∀ (pins:List (Addr×Obj)) (s:Shared) (σ:St) (H:Hp) (R:It->Hp->Prop),Inv X pins σ H s->a σ H R ->
   wpAny (model X.prog X.w) X.A (eval iter X.env) (λv s1=>wpAny (model X.prog X.w) X.A (pyIter v) (PIE X pins σ tg R) X.xe s1) X.xe s
def aL7{M:Model}{A:Around}{E:Value->Shared->Prop}{s:Shared}{tg:Expr}{it:Addr}{u:Value}{o:Obj}{n:String}{vs:Array Value}{Q:Unit->Shared->Prop}(b:s.heap.get? it=some o)(c:o.cls=.type n)(hd:o.data=.fields vs)
  (hn:["enumerate","zip","dict_itemiterator","dict_reverseitemiterator","odict_iterator","itertools.zip_longest","itertools.pairwise"].contains n=false) (a:Q () s):wpAny M A (letOwnedTupleGo tg (.ref it) u) Q E s:=by
 unfold letOwnedTupleGo;cases tg<;>first
  | exact a4y a
  | (cases u<;>first
    | exact a4y a
    | (refine a4x (wpAny_load b ?_)
       rw[c,hd];show wpAny M A (if(["enumerate","zip","dict_itemiterator","dict_reverseitemiterator","odict_iterator","itertools.zip_longest","itertools.pairwise"].contains n&&vs[0]? == some (rawInt _))=true then _ else _) Q E s;rw[a4z (by intro h;rw[hn,Bool.false_and]at h;cases h)];exact a4y a))
noncomputable def Itl(K:W.Frag)(a:Addr):It:=
 ⟨λi H=>∃ xs x,SqL K H a xs/\xs[i]? = some x,λi H x H'=>H'=H/\∀ xs,SqL K H a xs->xs[i]? = some x,λi H=>∃ xs,SqL K H a xs/\xs.length<=i⟩
noncomputable def Itt(K:W.Frag)(a:Addr):It:=
 ⟨λi H=>∃ xs x,SqT K H a xs/\xs[i]? = some x,λi H x H'=>H'=H/\∀ xs,SqT K H a xs->xs[i]? = some x,λi H=>∃ xs,SqT K H a xs/\xs.length<=i⟩
noncomputable def Itr(lo:Int)(n:Nat):It:=⟨λi _=>i < n,λi H x H'=>H'=H/\x=.int (lo+i),λi _=>n<=i⟩
def aL8{P:Program}{w:World}{K:W.Frag}{tg:Expr}(a it:Addr):Turn P w K tg (Itl K a) [it] it (λi h=>h.IsListIter it a i) where
 mem:=by simp
 obj:=λi h st b hb=>by
  have e:b=it:=by simpa using hb
  subst e;obtain⟨o,e,c,d⟩:=st;exact⟨o,e,λv z=>by rw[d]at z;cases z⟩
 keep:=λi h h' st k=>st.at λo e=>k it (by simp) o e
 item:=by
  intro X j l m D i pins s σ H E I f st n;subst j l m;obtain⟨xs,x,g,q⟩:=n;obtain⟨its,r,p,F⟩:=I.list g;obtain⟨u,G,J⟩:=r.get q;obtain⟨t,y,L,A,B,C⟩:=f it (by simp);refine wpAny_pyNext_list_item st p.isList (x:=u) (by simpa using G) λh' st' M=>?_;have N:Inv X pins σ H {s with heap:=h'}:=I.turned (t':=s.toks) (λb o hb e=>(M.2 b hb).trans e) t y A B C;obtain⟨o,e,c,d⟩:=id st';exact⟨u,rfl,aL7 (s:={s with heap:=h'}) e c d (by decide) ⟨x,H,N,J,⟨rfl,λys O=>by rw[I.list_inj O g];exact q⟩,st',λb hb=>(f b hb).1⟩⟩
 done:=by
  intro X j l m D i pins s σ H E I f st n;subst j l m;obtain⟨xs,g,q⟩:=n;obtain⟨its,r,p,F⟩:=I.list g;obtain⟨t,y,L,A,B,C⟩:=f it (by simp);have R:=r.length;exact wpAny_pyNext_list_end (I.ok.hd D) st p.isList (by simp;lia) λh' Q=>⟨rfl,I.turned (t':=s.toks) (λb o hb e=>Q b o hb e) t y A B C⟩
 self:=λ_ _ _ _ _ st h=>wpAny_pyIter_listiter st h
def aF0{P:Program}{w:World}{K:W.Frag}{tg:Expr}(a it:Addr):Turn P w K tg (Itt K a) [it] it (λi h=>h.IsTupleIter it a i) where
 mem:=by simp
 obj:=λi h st b hb=>by
  have e:b=it:=by simpa using hb
  subst e;obtain⟨o,e,c,d⟩:=st;exact⟨o,e,λv z=>by rw[d]at z;cases z⟩
 keep:=λi h h' st k=>st.at λo e=>k it (by simp) o e
 item:=by
  intro X j l m D i pins s σ H E I f st n;subst j l m;obtain⟨xs,x,g,q⟩:=n;obtain⟨its,r,p,F⟩:=I.tuple g;obtain⟨u,G,J⟩:=r.get q;obtain⟨t,y,L,A,B,C⟩:=f it (by simp);refine wpAny_pyNext_tuple_item st (show s.heap.IsTuple a its.toArray from p) (x:=u) (by simpa using G) λh' st' M=>?_;have N:Inv X pins σ H {s with heap:=h'}:=I.turned (t':=s.toks) (λb o hb e=>(M.2 b hb).trans e) t y A B C;obtain⟨o,e,c,d⟩:=id st';exact⟨u,rfl,aL7 (s:={s with heap:=h'}) e c d (by decide) ⟨x,H,N,J,⟨rfl,λys O=>by rw[I.tuple_inj O g];exact q⟩,st',λb hb=>(f b hb).1⟩⟩
 done:=by
  intro X j l m D i pins s σ H E I f st n;subst j l m;obtain⟨xs,g,q⟩:=n;obtain⟨its,r,p,F⟩:=I.tuple g;obtain⟨t,y,L,A,B,C⟩:=f it (by simp);have R:=r.length;exact wpAny_pyNext_tuple_end (I.ok.hd D) st (show s.heap.IsTuple a its.toArray from p) (by simp;lia) λh' Q=>⟨rfl,I.turned (t':=s.toks) (λb o hb e=>Q b o hb e) t y A B C⟩
 self:=λ_ _ _ _ _ st h=>wpAny_pyIter_tupleiter st h
def aF1{P:Program}{w:World}{K:W.Frag}{tg:Expr}(it:Addr)(lo:Int)(n:Nat):Turn P w K tg (Itr lo n) [it] it (λi h=>IsRangeIter h it (lo+(i:Nat)*1) ((n:Int)-(i:Nat)) 1) where
 mem:=by simp
 obj:=λi h st b hb=>by
  have e:b=it:=by simpa using hb
  subst e;exact⟨_,st,λv z=>by
   have u:Data.fields _=Data.cell v:=z;cases u⟩
 keep:=λi h h' st k=>k it (by simp) _ st
 item:=by
  intro X c d f g i pins s σ H E I a st j;subst c d f;obtain⟨l,m,x,p,q,r⟩:=a it (by simp);have W:=Walks.range (prog:=X.prog) (w:=X.w) (I.ok.hd g) it lo 1 n;refine W.item i s _ _ j st λv h' tk y st' A=>?_;obtain⟨t,rfl⟩:=y;have B:Inv X pins σ H {s with heap:=h',toks:=tk}:=I.turned (λb o hb e=>A b o (by simpa using hb) e) l m p q r;refine⟨_,rfl,aL7 (s:={s with heap:=h',toks:=tk}) (n:="range_iterator") st' rfl rfl (by decide) ⟨.int (lo+i),H,B,⟨t,?_⟩,⟨rfl,rfl⟩,st',λb hb=>(a b hb).1⟩⟩;rw[Int.mul_one]
 done:=by
  intro X c d f g i pins s σ H E I a st j;subst c d f;obtain⟨l,m,x,p,q,r⟩:=a it (by simp);exact wpAny_pyNext_range_end (I.ok.hd g) st (by have:n<=i:=j;lia) λh' C=>⟨rfl,I.turned (t':=s.toks) (λb o hb e=>C b o hb e) l m p q r⟩
 self:=λ_ _ _ _ _ st h=>wpAny_pyIter_rangeiter st h
section
variable{X:Cx}{tg:Expr}
def zX{pins:List (Addr×Obj)}{σ:St}{H:Hp}{s:Shared}{R:It->Hp->Prop}{E:Value->Shared->Prop}{lo hi:Int}{t u v:Tok}{tk:Nat}(I:Inv X pins σ H s)(c:-(2 ^ 62)<=lo)(d:lo < 2 ^ 62)(f:-(2 ^ 62)<=hi)(g:hi < 2 ^ 62)
  (q:R (Itr lo (hi-lo).toNat) H):wpAny (model X.prog X.w) X.A (pyIter (.ref s.heap.objs.size)) (PIE X pins σ tg R) E {s with heap:=s.heap.push {cls:=.type "range",data:=.fields #[.int lo t,.int hi u,.int 1 v]},toks:=tk}:=by
 refine wpAny_pyIter_range (IsRange.new ..) (small_one c d f g) ?_;have a:Inv X pins σ H {s with heap:=s.heap.push {cls:=.type "range",data:=.fields #[.int lo t,.int hi u,.int 1 v]},toks:=tk}:=I.kept λb o e=>a2a _ e;refine⟨(s.heap.push {cls:=.type "range",data:=.fields #[.int lo t,.int hi u,.int 1 v]}).objs.size,[(s.heap.push {cls:=.type "range",data:=.fields #[.int lo t,.int hi u,.int 1 v]}).objs.size],_,_,H,rfl,
  a.kept (t':=tk) λb o e=>a2a _ e,aF1 _ lo (hi-lo).toNat,?_,λb hb=>?_,q⟩
 ·have h:lo+((0:Nat):Int)*1=lo:=by simp
  have i:(((hi-lo).toNat:Nat):Int)-((0:Nat):Int)=Builtin.Range.rangeSize lo hi 1:=by rw[rangeSize_one];split<;>lia
  show IsRangeIter _ _ (lo+((0:Nat):Int)*1) ((((hi-lo).toNat:Nat):Int)-((0:Nat):Int)) 1;rw[h,i];exact a7a _ rfl
 ·have e:b=(s.heap.push {cls:=.type "range",data:=.fields #[.int lo t,.int hi u,.int 1 v]}).objs.size:=by simpa using hb
  subst e;exact a.fpOk (a8a _) (a.hok.fresh (a8a _))
def cP0(a:TA):TI:=λσ H R=>a σ H λvs b=>∃ j:Int,vs=[.int j] /\ -(2 ^ 62)<=j/\j < 2 ^ 62/\R (Itr 0 j.toNat) b
def cP1(a:TA):TI:=λσ H R=>a σ H λvs b=>∃ i j:Int,vs=[.int i,.int j]/\(-(2 ^ 62)<=i/\i < 2 ^ 62 /\ -(2 ^ 62)<=j/\j < 2 ^ 62)/\R (Itr i (j-i).toNat) b
def lC{a:Expr}{c:TA}{p pos:Pos}(d:Gl X "range")(hm:X.mg "range"=none)(ha:PA X [a] c)(hs:starEach [a] X.env=[(false,eval a X.env)]:=by rfl):PI X tg (.Call (.Name "range" p) [a] [] pos) (cP0 c):=by
 intro pins s σ H R I h;refine Call_ (gK I d hm boot_range (a2e (thn (ha pos pins s σ H _ I h) λus s1 Z0=>?_) hs rfl));obtain⟨vs,l,f,g,b⟩:=Z0;obtain⟨j,e,b,i,q⟩:=b;subst e;cases g with
 | cons r k=>
   cases k;obtain⟨t,rfl⟩:=r;exact call_range_1 (zX f (by lia) (by lia) b i (by simpa using q))
def aL9{a b:Expr}{g:TA}{p pos:Pos}(k:Gl X "range")(hm:X.mg "range"=none)(ha:PA X [a,b] g)(hs:starEach [a,b] X.env=[(false,eval a X.env),(false,eval b X.env)]:=by rfl)(c:starEach [b] X.env=[(false,eval b X.env)]:=by rfl) :
  PI X tg (.Call (.Name "range" p) [a,b] [] pos) (cP1 g):=by
 intro pins s σ H R I h;refine Call_ (gK I k hm boot_range (a2e (thn (ha pos pins s σ H _ I h) λus s1 Z0=>?_) (by rw[hs,c]) (by rw[c];rfl)));obtain⟨vs,w,l,m,d⟩:=Z0;obtain⟨i,j,e,⟨d,n,o,u⟩,q⟩:=d;subst e;cases m with
 | cons r f=>
   cases f with
   | cons v f=>
     cases f;obtain⟨t,rfl⟩:=r;obtain⟨x,rfl⟩:=v;exact call_range_2 (zX l d n o u q)
def cL4(b:TI)(g:TG)(c:TS):TS:=λD σ H=>b σ H λJ d=>∃ W:Nat->Nat->St->Hp->Prop,(∃ m,W 0 m σ d)/\∀ i m σ H,W i m σ H ->
 (J.stop i H/\D.nx σ H)\/(J.go i H/\∃ N:St->Hp->Prop,(∀ σ' H',N σ' H'->∃ m',m' < m/\W (i+1) m' σ' H')/\∀ x H',J.yld i H x H'->g x σ H' λa e=>c {D with nx:=N,ct:=N,bk:=D.nx} a e)
noncomputable def pH(fp:List Addr)(h:Heap):List (Addr×Obj):=fp.filterMap λb=>(h.get? b).map λo=>(b,o)
def jV{fp:List Addr}{h:Heap}{b:Addr}{o:Obj}(hb:b∈fp)(e:h.get? b=some o):(b,o)∈pH fp h:=a8h.mpr ⟨b,hb,by rw[e];rfl⟩
def aM0{fp:List Addr}{h:Heap}{p:Addr×Obj}(a:p∈pH fp h):p.1∈fp/\h.get? p.1=some p.2:=by
 obtain⟨b,hb,e⟩:=a8h.mp a;cases q:h.get? b with
 | none=>rw[q]at e;cases e
 | some o=>
   rw[q]at e;have c:(b,o)=p:=a4a e;subst c;exact⟨hb,q⟩
def Inv.pinned{pins:List (Addr×Obj)}{σ:St}{H:Hp}{s:Shared}{fp:List Addr}(I:Inv X pins σ H s)(c:∀ b∈fp,aL6 X pins H b)(f:∀ b∈fp,∃ o,s.heap.get? b=some o/\∀ v,o.data≠.cell v):Inv X (pins++pH fp s.heap) σ H s:=
 I.pins_of λp g=>(a7c.mp g).elim (λz=>I.pin p (a5c _ z)) λz=>by
  obtain⟨hb,e⟩:=aM0 z;obtain⟨h,i,j,_⟩:=c p.1 hb;obtain⟨o,a,d⟩:=f p.1 hb;rw[e]at a;cases a;exact⟨e,h,i,j,d⟩
def Inv.unpinned{pins pl:List (Addr×Obj)}{σ:St}{H:Hp}{s:Shared}(I:Inv X (pins++pl) σ H s):Inv X pins σ H s:=I.pins_of λp a=>I.pin p (a5c _ (a0g _ a))
def eE{iter:Expr}{p:List Stmt}{R:TI}{g:TG}{S:TS}{pos:Pos}(z:PassesOwn (model X.prog X.w) X.A X.env X.xe)(U:X.calm=true)(hi:PI X tg iter R)(hg:PG X tg g)(hb:PSs X p S)
  (hs:∀ x,foldedSetIterable iter X.env x=pure x:=by intro _;rfl):PS X (.For tg iter p [] pos) (cL4 R g S):=by
 intro pins s σ H D I h;refine wpAny_For (thn (hi pins s σ H _ I h) λv s1 h1=>thn h1 λitv s2 h2=>?_) hs;obtain⟨it,fp,tn,J,H2,e,I2,T,G,V,W,⟨m0,w0⟩,turn⟩:=h2;subst e
 -- Y stays true of K q objects through K loop
 have c:∀ {H':Hp},(∀ b∈fp,H' b=none)->∀ b∈fp,aL6 X pins H' b:=λhn b hb=>⟨hn b hb,(V b hb).2⟩;refine codeAny_forLoop_any (λn s'=>∃ i σ' H',Inv X pins σ' H' s'/\tn i s'.heap/\(∀ b∈fp,H' b=none)/\W i n σ' H') ?_ m0 ⟨0,σ,H2,I2,G,λb hb=>(V b hb).1,w0⟩;rintro n Z ⟨i,j,F,I3,B,C,w3⟩;rcases turn i n j F w3 with⟨stop,qn⟩ | ⟨go,N,hN,step⟩
 ·refine a4X z (thn (T.done X rfl rfl rfl U i pins Z j F X.xe I3 (c C) B stop) λr s4 Z0=>?_);obtain⟨L,I4⟩:=Z0;subst L;exact wpAny_execs_nil ⟨j,F,I4,qn⟩
 ·refine a4X z (thn (T.item X rfl rfl rfl U i pins Z j F X.xe I3 (c C) B go) λr s4 Z0=>?_);obtain⟨u,L,h4⟩:=Z0;subst L;refine a4X z (thn h4 λ_ s5 ⟨x,H5,I5,r5,y5,y,M⟩=>?_);have O:=I5.pinned (c M) (T.obj _ _ y);refine a4X z (thn (hg _ s5 j H5 x u _ O r5 (step x H5 y5)) λ_ s6 ⟨P,H6,I6,q6⟩=>?_);refine a4X z (thn (hb _ s6 P H6 _ I6 q6) λf Q t=>?_);have again:∀ {a:St} {k:Hp},Inv X (pins++pH fp s5.heap) a k Q->N a k->∃ m,m < n/\∃ i σ' H',Inv X pins σ' H' Q/\tn i Q.heap/\(∀ b∈fp,H' b=none)/\W i m σ' H':=λ{a k} l E=>by
   obtain⟨m',hm,w7⟩:=hN a k E;refine⟨m',hm,i+1,a,k,l.unpinned,T.keep _ _ _ y λb hb o e=>(l.pin (b,o) (a5c _ (a5c _ (jV hb e)))).1,λb hb=>?_,w7⟩;obtain⟨o,e,d⟩:=T.obj _ _ y b hb;exact(l.pin (b,o) (a5c _ (a5c _ (jV hb e)))).2.1
  cases f with
  | next=>obtain⟨a,k,l,E⟩:=t;exact again l E
  | cont=>obtain⟨a,k,l,E⟩:=t;exact again l E
  | brk=>obtain⟨a,k,l,t⟩:=t;exact⟨a,k,l.unpinned,t⟩
  | ret v=>obtain⟨x7,a,k,l,r7,t⟩:=t;exact⟨x7,a,k,l.unpinned,r7,t⟩
end
abbrev R2:=V->V->Hp->VK->Prop
def OpR(X:Cx)(f:Value->Value->Sem Value)(r:R2):Prop:=
 ∀ (pins:List (Addr×Obj)) (s:Shared) (σ:St) (H:Hp) (x y:V) (v u:Value) (Q:VK),Inv X pins σ H s->cE x v->cE y u->r x y H Q ->
   wpAny (model X.prog X.w) X.A (f v u) (EP X pins σ Q) X.xe s
def UnR(X:Cx)(f:Value->Sem Value)(r:V->Hp->VK->Prop):Prop:=
 ∀ (pins:List (Addr×Obj)) (s:Shared) (σ:St) (H:Hp) (x:V) (v:Value) (Q:VK),Inv X pins σ H s->cE x v->r x H Q ->
   wpAny (model X.prog X.w) X.A (f v) (EP X pins σ Q) X.xe s
def mS(X:Cx)(f:Value)(r:List V->Hp->VK->Prop):Prop:=
 ∀ (pins:List (Addr×Obj)) (s:Shared) (σ:St) (H:Hp) (xs:List V) (us:List Value) (Q:VK),Inv X pins σ H s->bW xs us->r xs H Q ->
   wpAny (model X.prog X.w) X.A (call f us) (EP X pins σ Q) X.xe s
def dM2(X:Cx)(r:V->Hp->(Bool->Hp->Prop)->Prop):Prop:=
 ∀ (pins:List (Addr×Obj)) (s:Shared) (σ:St) (H:Hp) (x:V) (v:Value) (Q:Bool->Hp->Prop),Inv X pins σ H s->cE x v->r x H Q ->
   wpAny (model X.prog X.w) X.A (truthy v) (TP X pins σ Q) X.xe s
def tOp(r:R2)(a b:TE):TE:=λσ H Q=>a σ H λx c=>b σ c λy d=>r x y d Q
def tUn(r:V->Hp->VK->Prop)(a:TE):TE:=λσ H Q=>a σ H λx b=>r x b Q
def rI(C:Int->Int->Prop)(g:Int->Int->V):R2:=λx y H Q=>∃ i j,x=.int i/\y=.int j/\C i j/\Q (g i j) H
def rI0(g:Int->Int->V):R2:=λx y H Q=>∃ i j,x=.int i/\y=.int j/\Q (g i j) H
def rU(g:Int->V):V->Hp->VK->Prop:=λx H Q=>∃ i,x=.int i/\Q (g i) H
section
variable{X:Cx}{a b c:Expr}{ta tb tc:TE}{pos:Pos}
def dC9(ha:PE X a ta)(hb:PE X b tb){pins:List (Addr×Obj)}{s:Shared}{σ:St}{H:Hp}{R:V->V->Hp->Prop}(I:Inv X pins σ H s)
  (h:ta σ H λx g=>tb σ g λy c=>R x y c) {Q:Value->Shared->Prop} {f:Value->Value->Sem Value}
  (i:∀ v u s2 x y c,Inv X pins σ c s2->cE x v->cE y u->R x y c->wpAny (model X.prog X.w) X.A (f v u) Q X.xe s2) :
  wpAny (model X.prog X.w) X.A (eval a X.env) (λv d=>wpAny (model X.prog X.w) X.A (eval b X.env) (λu e=>wpAny (model X.prog X.w) X.A (f v u) Q X.xe e) X.xe d) X.xe s:=by
 refine thn (ha pins s σ H _ I h) λv s1 Z0=>?_;obtain⟨x,g,j,k,l⟩:=Z0;refine thn (hb pins s1 σ g _ j l) λu s2 ⟨y,c,m,n,o⟩=>?_;exact i v u s2 x y c m k n o
def dD0{op:Operator}{r:R2}(c:OpR X (binaryOp op) r)(ha:PE X a ta)(hb:PE X b tb):PE X (.BinOp a op b pos) (tOp r ta tb):=by
 intro pins s σ H Q I h;exact wpAny_BinOp (dC9 ha hb I h λv u s2 x y d e f g q=>c pins s2 σ d x y v u Q e f g q)
def dD1{op:UnaryOp}{r:V->Hp->VK->Prop}(b:UnR X (unaryOp op) r)(ha:PE X a ta):PE X (.UnaryOp op a pos) (tUn r ta):=by
 intro pins s σ H Q I h;exact UnaryOp_ (thn (ha pins s σ H _ I h) λv s1 ⟨x,c,d,e,f⟩=>b pins s1 σ c x v Q d e f)
def opI{f:Value->Value->Sem Value}{C:Int->Int->Prop}{g:Int->Int->Int}
  (rule:∀ (i j:Int) (t u:Tok) (s:Shared) (Q:Value->Shared->Prop) (E:Value->Shared->Prop),C i j->Q (.int (g i j) s.toks) {s with toks:=s.toks+1}->wpAny (model X.prog X.w) X.A (f (.int i t) (.int j u)) Q E s) :
  OpR X f (rI C λi j=>.int (g i j)):=by
 intro pins s σ H x y v u Q I a b h;obtain⟨i,j,rfl,rfl,c,q⟩:=h;obtain⟨t,rfl⟩:=a;obtain⟨d,rfl⟩:=b;exact rule i j t d s _ _ c ⟨.int (g i j),H,I.tok _,⟨_,rfl⟩,q⟩
def dI3{f:Value->Value->Sem Value}{g:Int->Int->Int}
  (rule:∀ (i j:Int) (t u:Tok) (s:Shared) (Q:Value->Shared->Prop) (E:Value->Shared->Prop),Q (.int (g i j) s.toks) {s with toks:=s.toks+1}->wpAny (model X.prog X.w) X.A (f (.int i t) (.int j u)) Q E s) :
  OpR X f (rI0 λi j=>.int (g i j)):=by
 intro pins s σ H x y v u Q I a b h;obtain⟨i,j,rfl,rfl,q⟩:=h;obtain⟨t,rfl⟩:=a;obtain⟨c,rfl⟩:=b;exact rule i j t c s _ _ ⟨.int (g i j),H,I.tok _,⟨_,rfl⟩,q⟩
def cZ9{f:Value->Value->Sem Value}{g:Int->Int->Bool}
  (rule:∀ (i j:Int) (t u:Tok) (s:Shared) (Q:Value->Shared->Prop) (E:Value->Shared->Prop),Q (.bool (g i j)) s->wpAny (model X.prog X.w) X.A (f (.int i t) (.int j u)) Q E s) :
  OpR X f (rI0 λi j=>.bl (g i j)):=by
 intro pins s σ H x y v u Q I a b h;obtain⟨i,j,rfl,rfl,q⟩:=h;obtain⟨t,rfl⟩:=a;obtain⟨c,rfl⟩:=b;exact rule i j t c s _ _ ⟨.bl (g i j),H,I,rfl,q⟩
def cL5(i j:Int):Prop:=0<=j/\j<=1000000/\i.natAbs < 2 ^ 64
def cP2(i j:Int):Prop:=(-(2 ^ 64) < i/\i < 2 ^ 64)\/(-(2 ^ 64) < j/\j < 2 ^ 64)
theorem cP2.ok{i j:Int}(h:cP2 i j):IntMulOk i j:=by
 rcases h with⟨a,b⟩ | ⟨a,b⟩;exact .of_left (intBits_le_64 a b);exact .of_right (intBits_le_64 a b)
def cP3:OpR X (binaryOp .Add) (rI0 λi j=>.int (i+j)):=dI3 λ_ _ _ _ _ _ _ q=>add_int q
def kI:OpR X (binaryOp .Sub) (rI0 λi j=>.int (i-j)):=dI3 λ_ _ _ _ _ _ _ q=>sub_int q
def cP4:OpR X (binaryOp .Mult) (rI cP2 λi j=>.int (i*j)):=opI λ_ _ _ _ _ _ _ a q=>mul_int q a.ok
def nX:OpR X (binaryOp .Mod) (rI (λ_ j=>0 < j) λi j=>.int (i % j)):=opI λi j _ _ _ _ _ a q=>by
 have b:(0:Int) < j:=a;exact mod_int' (by lia) (by rw[Int.fmod_eq_emod_of_nonneg i (by lia)];exact q)
def cP5:OpR X (binaryOp .Pow) (rI cL5 λi j=>.int (i ^ j.toNat)):=opI λ_ _ _ _ _ _ _ a q=>pow_int_small a.1 a.2.1 a.2.2 q
def unI{f:Value->Sem Value}{g:Int->Int}
  (rule:∀ (i:Int) (t:Tok) (s:Shared) (Q:Value->Shared->Prop) (E:Value->Shared->Prop),Q (.int (g i) s.toks) {s with toks:=s.toks+1}->wpAny (model X.prog X.w) X.A (f (.int i t)) Q E s) :
  UnR X f (rU λi=>.int (g i)):=by
 intro pins s σ H x v Q I a h;obtain⟨i,rfl,q⟩:=h;obtain⟨t,rfl⟩:=a;exact rule i t s _ _ ⟨.int (g i),H,I.tok _,⟨_,rfl⟩,q⟩
def cP6:UnR X (unaryOp .USub) (rU λi=>.int (-i)):=unI λ_ _ _ _ _ q=>neg_int q
end
section
variable{X:Cx}{a b c:Expr}{ta tb tc:TE}{pos:Pos}
def zY{pins:List (Addr×Obj)}{σ:St}{H:Hp}{s:Shared}{Q:VK}{k a:Bool}(I:Inv X pins σ H s)(q:Q (.bl k) H)(e:k=a):EP X pins σ Q (.bool a) s:=by
 subst e;exact⟨.bl k,H,I,rfl,q⟩
def dD2:OpR X (compareOp .Lt) (rI0 λi j=>.bl (decide (i < j))):=cZ9 λ_ _ _ _ _ _ _ q=>lt_int q
def yF:OpR X (compareOp .LtE) (rI0 λi j=>.bl (decide (i<=j))):=cZ9 λ_ _ _ _ _ _ _ q=>le_int q
def aF2:OpR X (compareOp .Gt) (rI0 λi j=>.bl (decide (j < i))):=cZ9 λ_ _ _ _ _ _ _ q=>gt_int q
def cP7:OpR X (compareOp .GtE) (rI0 λi j=>.bl (decide (j<=i))):=cZ9 λ_ _ _ _ _ _ _ q=>ge_int q
def aM1:OpR X (compareOp .In) (λx y H Q=>∃ i j,x=.str i/\y=.str j/\Q (.bl (!(Builtin.Str.occurrences j i 0 j.length 1).isEmpty)) H):=by
 intro pins s σ H x y v u Q I a b h;obtain⟨i,j,rfl,rfl,q⟩:=h;obtain⟨t,rfl⟩:=a;obtain⟨c,rfl⟩:=b;exact in_str (zY I q rfl)
def cB1:OpR X (compareOp .IsNot) (λx y H Q=>y=.non/\Q (.bl (!decide (x=.non))) H):=by
 intro pins s σ H x y v u Q I a b h;obtain⟨rfl,q⟩:=h;cases b;refine isnot_none_gen (zY I q ?_);cases x<;>first
  | (cases a;rfl)
  | (obtain⟨t,rfl⟩:=a;rfl)
def vP:OpR X (compareOp .NotIn) (λx y H Q=>∃ i j,x=.str i/\y=.str j/\Q (.bl (!(!(Builtin.Str.occurrences j i 0 j.length 1).isEmpty))) H):=by
 intro pins s σ H x y v u Q I a b h;obtain⟨i,j,rfl,rfl,q⟩:=h;obtain⟨t,rfl⟩:=a;obtain⟨c,rfl⟩:=b;exact notIn_str (zY I q rfl)
def OpR.or{f:Value->Value->Sem Value}{r a:R2}(h:OpR X f r)(h':OpR X f a):OpR X f (λx y H Q=>r x y H Q\/a x y H Q):=by
 intro pins s σ H x y v u Q I b c q;rcases q with q | q;exact h pins s σ H x y v u Q I b c q;exact h' pins s σ H x y v u Q I b c q
def bZ(b:Expr){op:CmpOp}(h:op≠.In:=by decide)(a:op≠.NotIn:=by decide):behindInMarks op b=false:=by
 have c:(op==CmpOp.In)=false:=by cases op<;>first | rfl | exact absurd rfl h
 have d:(op==CmpOp.NotIn)=false:=by cases op<;>first | rfl | exact absurd rfl a
 cases b<;>simp[behindInMarks,c,d]
def cB2{op:CmpOp}{r:R2}(c:OpR X (compareOp op) r)(ha:PE X a ta)(hb:PE X b tb)(hm:behindInMarks op b=false):PE X (.Compare a [op] [b] pos) (tOp r ta tb):=by
 intro pins s σ H Q I h;exact wpAny_Compare1 (dC9 ha hb I h λv u s2 x y d e f g q=>c pins s2 σ d x y v u Q e f g q) hm
def dD3(t:TE):TT:=λσ H Q=>t σ H λx H'=>∃ k,x=.bl k/\Q k H'
def cB3{op:CmpOp}{r:R2}(d:OpR X (compareOp op) r)(ha:PE X a ta)(hb:PE X b tb)(hm:behindInMarks op b=false):PT X (.Compare a [op] [b] pos) (dD3 (tOp r ta tb)):=by
 intro pins s σ H Q I h;refine wpAny_isTrue_Compare1 (thn (ha pins s σ H _ I h) λv s1 ⟨x,f,g,i,j⟩=>thn (hb pins s1 σ f _ g j) λu s2 ⟨y,l,m,n,o⟩=>
  thn (d pins s2 σ l x y v u _ m i n o) λc A ⟨z,p,q,t,k,e,w⟩=>?_) hm
 subst e;cases t;exact a4T ⟨p,q,w⟩
def bL8(r b:R2)(ta tb tc:TE):TE:=λσ H Q=>ta σ H λx c=>tb σ c λy d=>r x y d λz a=>∃ k,z=.bl k /\
 (if k=true then tc σ a λe f=>b y e f Q else Q (.bl false) a)
def bA9{op f:CmpOp}{r i:R2}(o:OpR X (compareOp op) r)(g:OpR X (compareOp f) i)(ha:PE X a ta)(hb:PE X b tb)(p:PE X c tc)
  (hm:lastMarks [op,f] [b,c]=false:=by with_unfolding_all rfl):PE X (.Compare a [op,f] [b,c] pos) (bL8 r i ta tb tc):=by
 intro pins s σ H Q I h;refine Compare_chain (thn (ha pins s σ H _ I h) λv s1 ⟨x,q,t,w,A⟩=>chain_link (thn (hb pins s1 σ q _ t A) λu s2 ⟨y,B,C,j,D⟩=>
  thn (o pins s2 σ B x y v u _ C w j D) λd E ⟨z,l,m,F,k,e,n⟩=>?_)) hm
 subst e;cases F;refine a4T ?_;cases k with
 | false=>exact ite_ff ⟨.bl false,l,m,rfl,n⟩
 | true=>exact ite_tt (chain_last (thn (p pins E σ l _ m n) λG J ⟨K,L,M,N,O⟩=>g pins J σ L y K u G Q M j N O))
def dI4(K:W.Frag)(x:V)(H:Hp)(k:Bool):Prop:=
 match x with
 | .non=>k=false
 | .bl b=>k=b
 | .int i=>k=(i != 0)
 | .str y=>y.length<=sizeLine/\k=((y.length:Int) != 0)
 | .byt y=>y.size<=sizeLine/\k=((y.size:Int) != 0)
 | .ref p=>(∃ xs,SqL K H p xs/\k = !xs.isEmpty)\/(∃ xs,SqT K H p xs/\k = !xs.isEmpty)\/∃ kvs,H p=some (.dK kvs)/\k = !kvs.isEmpty
 | _=>False
def aF3{κ:Type}{kvs:List (κ×V)}{vs:List (κ×Value)}(r:KV kvs vs):(!vs.isEmpty) = !kvs.isEmpty:=by
 cases r<;>rfl
def rS{xs:List V}{its:List Value}(r:bW xs its):(!its.toArray.isEmpty) = !xs.isEmpty:=by
 cases r<;>simp
def nY:(sizeLine:Nat) < 2 ^ 63:=by rw[a4P];decide
def cP8:dM2 X (λx H Q=>∃ k,dI4 X.K x H k/\Q k H):=by
 intro pins s σ H x v Q I d h;obtain⟨k,e,q⟩:=h;have n:=nY;have hs:sizeLine=16777216:=a4P;cases x with
 | non=>
   cases d;have a:k=false:=e;subst a;exact truthy_none ⟨H,I,q⟩
 | bl b=>
   cases d;have a:k=b:=e;subst a;exact a4T ⟨H,I,q⟩
 | int i=>
   obtain⟨t,rfl⟩:=d;have a:k=(i != 0):=e;subst a;exact PySem.P.truthy_int ⟨H,I,q⟩
 | str y=>
   obtain⟨t,rfl⟩:=d;obtain⟨j,a⟩:y.length<=sizeLine/\k=((y.length:Int) != 0):=e;subst a;exact PySem.P.truthy_str (by lia) ⟨H,I.tok _,q⟩
 | byt y=>
   obtain⟨t,rfl⟩:=d;obtain⟨j,a⟩:y.size<=sizeLine/\k=((y.size:Int) != 0):=e;subst a;exact W.truthy_bytes (by lia) ⟨H,I.tok _,q⟩
 | ref p=>
   cases d;have a:(∃ xs,SqL X.K H p xs/\k = !xs.isEmpty)\/(∃ xs,SqT X.K H p xs/\k = !xs.isEmpty)\/∃ kvs,H p=some (.dK kvs)/\k = !kvs.isEmpty:=e;rcases a with⟨xs,f,a⟩ | ⟨xs,f,a⟩ | ⟨kvs,f,a⟩;subst a;obtain⟨its,r,pl,g⟩:=I.list f;have c:=r.length;exact wpAny_truthy_list pl.isList (by simp only[List.size_toArray];lia) ⟨H,I.tok _,by rw[rS r];exact q⟩;subst a;obtain⟨its,r,pl,g⟩:=I.tuple f;have c:=r.length;exact truthy_tuple pl (by simp only[List.size_toArray];lia) ⟨H,I.tok _,by rw[rS r];exact q⟩;subst a;obtain⟨g,l,vs,r,m⟩:kvs.length<=sizeLine/\(p==sysModules)=false/\∃ vs,KV kvs vs/\s.heap.DictOf (bQ X.prog X.w) p vs:=I.hok p _ f;have c:kvs.length=vs.length:=Paired.length r;exact wpAny_truthy_dict l m (by lia) ⟨H,I.tok _,by rw[aF3 r];exact q⟩
 | _=>exact(show False from e).elim
def bB0(ha:PE X a ta)(c:∀ b,isTrue a X.env b=(do let v ← b;standAt a.pos;holding [v] (truthy v))) :
  PT X a (λσ H Q=>ta σ H λx H'=>∃ k,dI4 X.K x H' k/\Q k H'):=by
 intro pins s σ H Q I h;exact isTrue_plain (thn (ha pins s σ H _ I h) λv s1 ⟨x,d,e,f,g⟩=>cP8 pins s1 σ d x v Q e f g) (c _)
def aF4:OpR X (binaryOp .Add) (λx y H Q=>∃ i j,x=.str i/\y=.str j/\i.length+j.length<=sizeLine/\Q (.str (i++j)) H):=by
 intro pins s σ H x y v u Q I a b h;obtain⟨i,j,rfl,rfl,c,q⟩:=h;obtain⟨t,rfl⟩:=a;obtain⟨d,rfl⟩:=b;exact add_str (λd tk=>⟨.str (i++j),H,I.tok _,⟨_,rfl⟩,q⟩) c
def vQ{x:V}{us:List Value}(r:bW [x] us):∃ u,us=[u]/\cE x u:=by
 cases r with
 | cons a b=>cases b;exact⟨_,rfl,a⟩
def dD4{x y:V}{us:List Value}(r:bW [x,y] us):∃ u a,us=[u,a]/\cE x u/\cE y a:=by
 cases r with
 | cons b c=>
   cases c with
   | cons d e=>cases e;exact⟨_,_,rfl,b,d⟩
def aM2:mS X (.type "int") (λxs H Q=>(∃ i,xs=[.int i]/\Q (.int i) H)\/∃ k,xs=[.bl k]/\Q (.int (if k then 1 else 0)) H):=by
 intro pins s σ H xs us Q I r h;rcases h with⟨i,rfl,q⟩ | ⟨k,rfl,q⟩;obtain⟨u,rfl,t,rfl⟩:=vQ r;exact call_int_int ⟨.int i,H,I,⟨_,rfl⟩,q⟩;obtain⟨u,rfl,a⟩:=vQ r;cases a;exact call_int_bool ⟨.int (if k then 1 else 0),H,I.tok _,⟨_,rfl⟩,q⟩
end
structure ObjM(h:Heap)(x dx C:Addr)(mA:Str->Option Value):Prop where
 obj:h.get? x=some (W.instObj C dx)
 ns:h.Ns1 dx mA
 ne:dx≠x
def aM3{h:Heap}{dx:Addr}{mA:Str->Option Value}(n:h.Ns1 dx mA):∃ od,h.get? dx=some od/\∀ name,W.lookIn name od=some (mA name):=by
 obtain⟨o,es,ep,c,hd,d,_,hm⟩:=n;refine⟨o,c,λname=>?_⟩;have e:=hm name;unfold nsFind findBy at e;rw[← Array.find?_toList]at e;unfold W.lookIn;rw[hd];dsimp only;split;rename_i y q;rw[q]at e;exact a4V some e;rename_i q;rw[q]at e;have a:es.toList.any (·.refKey)=false:=by
  rw[List.any_eq_false];intro y f;obtain⟨z,t,b⟩:=d y (Array.mem_toList_iff.mp f);simp[DictEntry.refKey,b]
 have g:¬ es.toList.any (·.refKey)=true:=by rw[a];exact a9c
 rw[a4z g];exact a4V some e
def ObjM.look{h:Heap}{x dx C:Addr}{mA:Str->Option Value}(I:ObjM h x dx C mA):∃ od,W.InstAt h x (W.instObj C dx) C (some od)/\∀ name,W.lookIn name od=some (mA name):=
 let ⟨od,a,hl⟩:=aM3 I.ns
 ⟨od,⟨I.obj,rfl,rfl,a⟩,hl⟩
section
variable{prog:Program}{w:World}{A:Around}{E:Value->Shared->Prop}{s:Shared}{K:W.Frag}{x dx C f:Addr}{mA:Str->Option Value}{name:Str}{v:Value}
end
def aK9.some_of{v:V}{o:Option Value}(r:aK9 (some v) o):∃ u,o=some u/\cE v u:=by
 cases o with
 | none=>exact(show False from r).elim
 | some u=>exact⟨u,rfl,r⟩
section
variable{P:Program}{w:World}{H H':Hp}{h h':Heap}{a C dx:Addr}{fs fs':List (Str×V)}
def gC(hok:HOk P w H h)(e:H a=some (.ins C dx fs)):∃ mA,ObjM h a dx C mA/\(∀ f,aK9 (fs.lookup f) (mA f))/\Within mA (fs.map (·.1))/\fs.length<=1000/\H dx=some (.own a):=by
 obtain⟨d,z,ne,ob,mA,n,r,q⟩:=(show cM P w H h a (.ins C dx fs)from hok a _ e);exact⟨mA,⟨ob,n,ne⟩,r,q,z,d⟩
end
structure Cls(K:W.Frag)(C:Addr):Prop where
 pg:W.plainGet K C Str.empty=true
 hd:W.hasDictIn K C=true
 po:W.plainOver K C=true
 sa:W.findIn K (.ref C) "__setattr__"=some (some (.builtin "object.__setattr__"))
def Cls.get{K:W.Frag}{C:Addr}(c:Cls K C)(f:Str):W.plainGet K C f=true:=c.pg
section
variable{X:Cx}{pins:List (Addr×Obj)}{σ:St}{H:Hp}{s:Shared}{a C dx:Addr}{fs:List (Str×V)}{f:Str}{v:V}{A:Around}{E:Value->Shared->Prop}
end
section
variable{X:Cx}{o e value:Expr}{f:Str}{pos pos' tpos:Pos}{ta tv:TE}
end
section
variable{X:Cx}{pins:List (Addr×Obj)}{σ:St}{H:Hp}{s:Shared}{A:Around}{E:Value->Shared->Prop}{Q:Value->Shared->Prop}{c:Value}{b:Bool}
inductive TyOf(K:W.Frag)(H:Hp):V->Value->Prop where
 | non:TyOf K H .non (.type "NoneType")
 | bl (x:Bool):TyOf K H (.bl x) (.type "bool")
 | int (i:Int):TyOf K H (.int i) (.type "int")
 | str (x:Str):TyOf K H (.str x) (.type "str")
 | flt (x:UInt64):TyOf K H (.flt x) (.type "float")
 | lst {a:Addr} {xs:List V} (e:H a=some (.lst xs)):TyOf K H (.ref a) (.type "list")
 | frz {a:Addr} {o:Obj} {xs:List V} (e:H a=some (.frz o (.lst xs))):TyOf K H (.ref a) (.type "list")
 | tup {a:Addr} {xs:List V} (e:H a=some (.tup xs)):TyOf K H (.ref a) (.type "tuple")
 | dK {a:Addr} {kvs:List (Key×V)} (e:H a=some (.dK kvs)):TyOf K H (.ref a) (.type "dict")
 | dT {a:Addr} {kvs:List (List Key×V)} (e:H a=some (.dT kvs)):TyOf K H (.ref a) (.type "dict")
 | ins {a C dx:Addr} {fs:List (Str×V)} (e:H a=some (.ins C dx fs)) (cl:Cls K C) (ha:W.findIn K (.ref C) "__class__"=some (some (.builtin "object.__class__")))
   (hn:W.specialIn K (.builtin "object.__class__") "__get__"=some (some (.builtin "getset_descriptor.__get__"))) (htk:W.takesIn K (.builtin "object.__class__")=some true)
   (hm:W.mroIn K C (.type "object")=some true):TyOf K H (.ref a) (.ref C)
def aM4{x:V}{u t:Value}(I:Inv X pins σ H s)(d:cE x u)(ty:TyOf X.K H x t)(e:W.kitOne X.K t c=some b)(h:∀ tk,Q (.bool b) {s with toks:=tk}) :
  wpAny (model X.prog X.w) A (call (.builtin "isinstance") [u,c]) Q E s:=by
 cases ty with
 | non=>cases (show u=Value.none from d);exact a5f W.kitx_none I.kIn True.intro e (λz=>nomatch z) h
 | bl y=>cases (show u=Value.bool y from d);exact a5f W.kitx_bool I.kIn True.intro e (λz=>nomatch z) h
 | int i=>obtain⟨t,q⟩:=(show ∃ t,u=Value.int i t from d);cases q;exact a5f W.kitx_int I.kIn True.intro e (λz=>nomatch z) h
 | str y=>obtain⟨t,q⟩:=(show ∃ t,u=Value.str y t from d);cases q;exact a5f W.kitx_str I.kIn True.intro e (λz=>nomatch z) h
 | flt y=>obtain⟨t,q⟩:=(show ∃ t,u=Value.float y t from d);cases q;exact a5f W.kitx_float I.kIn True.intro e (λz=>nomatch z) h
 | @lst a xs f=>
   cases (show u=Value.ref a from d);obtain⟨_,_,n,_,g⟩:=(show cM X.prog X.w H s.heap a (.lst xs)from I.hok a _ f);exact a5f W.kitx_list I.kIn ⟨_,g,rfl⟩ e (λz=>nomatch z) h
 | @frz a ob xs f=>
   cases (show u=Value.ref a from d);obtain⟨_,_,_,n,_,g⟩:=(show cM X.prog X.w H s.heap a (.frz ob (.lst xs))from I.hok a _ f);exact a5f W.kitx_list I.kIn ⟨_,g,rfl⟩ e (λz=>nomatch z) h
 | @tup a xs f=>
   cases (show u=Value.ref a from d);obtain⟨_,_,_,p,_⟩:=(show cM X.prog X.w H s.heap a (.tup xs)from I.hok a _ f);obtain⟨o,g,j,_⟩:=p;exact a5f W.kitx_tuple I.kIn ⟨o,g,j⟩ e (λz=>nomatch z) h
 | @dK a kvs f=>
   cases (show u=Value.ref a from d);obtain⟨_,_,vs,_,p⟩:=(show cM X.prog X.w H s.heap a (.dK kvs)from I.hok a _ f);obtain⟨o,es,ep,g,j,_⟩:=p;exact a5f W.kitx_dict I.kIn ⟨o,g,j.1⟩ e (λz=>nomatch z) h
 | @dT a kvs f=>
   cases (show u=Value.ref a from d);obtain⟨_,_,xs,_,o,es,ep,g,j,_⟩:=(show cM X.prog X.w H s.heap a (.dT kvs)from I.hok a _ f);exact a5f W.kitx_dict I.kIn ⟨o,g,j.1⟩ e (λz=>nomatch z) h
 | @ins a C dx fs f cl ha hn htk hm=>
   cases (show u=Value.ref a from d);obtain⟨mA,O,_⟩:=gC I.hok f;obtain⟨od,J,_⟩:=O.look;exact a5f (W.kitx_own (cl.get _) cl.hd ha hn htk hm) I.kIn J e (λz=>nomatch z) h
end
structure Room(k:Nat)(A:Around):Prop where
 hd:A.handled=none
 dp:A.depth+3*k+5 < recursionLimit
 un:A.units+16*k+200 < cLine
def Room.mono{j k:Nat}{A:Around}(r:Room k A)(h:j<=k):Room j A:=⟨r.hd,by have:=r.dp;lia,by have:=r.un;lia⟩
theorem Room.deeper{k:Nat}{A:Around}(r:Room (k+1) A)(env:Env):Room k (A.deeper env):=
 ⟨r.hd,by have:=r.dp;show A.depth+1+3*k+5 < _;lia,by have:=r.un;show A.units+3+16*k+200 < _;lia⟩
theorem Room.depth{k:Nat}{A:Around}(r:Room k A):A.depth < recursionLimit:=by have:=r.dp;lia
theorem Room.units{k:Nat}{A:Around}(r:Room k A):A.units+64 < cLine:=by have:=r.un;lia
def Room.units0{k:Nat}{A:Around}(r:Room k A):A.units < cLine:=by have:=r.un;lia
def cP9:TA:=λ_ H Q=>Q [] H
def cB4(a:TE)(tr:TA):TA:=λσ H Q=>a σ H λx b=>tr σ b λxs c=>Q (x::xs) c
section
variable{X:Cx}{e:Expr}{es:List Expr}{te:TE}{t:TA}{pos:Pos}
def rT:PA X [] cP9:=λ_ _ _ _ H Q I h=>Calls.spliced_nil ⟨[],H,I,.nil,h⟩
def hC(ha:PE X e te)(a:PA X es t)(hs:starEach (e::es) X.env=(false,eval e X.env)::starEach es X.env:=by rfl):PA X (e::es) (cB4 te t):=by
 intro pos pins s σ H Q I h;rw[hs];show wpAny _ _ (spliced ((false,eval e X.env)::backTo pos (starEach es X.env))) _ _ s;refine Calls.spliced_cons (thn (ha pins s σ H _ I h) λu s1 Z0=>?_);obtain⟨x,b,c,d,f⟩:=Z0;exact thn (a pos pins s1 σ b _ c f) λus s2 ⟨xs,g,i,j,k⟩=>⟨x::xs,g,i,.cons d j,k⟩
def dM3(t:TA):TE:=λσ H Q=>t σ H λxs a=>xs.length<=sizeLine/\∀ p,a p=none->Q (.ref p) (upd a p (.tup xs))
def dA0(t:TA):TE:=λσ H Q=>t σ H λxs a=>xs.length<=sizeLine/\∀ p,a p=none->Q (.ref p) (upd a p (.lst xs))
def cQ0{d}(h:PA X es t):PE X (.Tuple es d pos) (dM3 t):=by
 intro pins s σ H Q I f;refine wpAny_Tuple_spliced (thn (h pos pins s σ H _ I f) λus s1 ⟨xs,a,c,r,z,q⟩=>⟨by rw[← r.length];exact z,?_⟩);have g:a s1.heap.objs.size=none:=c.hok.fresh (a8a _);refine⟨.ref s1.heap.objs.size,upd a s1.heap.objs.size (.tup xs),c.laid (t':=s1.toks) (λb u e=>a2a _ e) (a8a _) ?_,rfl,q _ g⟩;exact⟨z,us,r,⟨_,a7a _ rfl,rfl,_,rfl⟩,⟨_,a7a _ rfl,rfl⟩⟩
def bL9(h:PA X es t):PE X (.List es pos) (dA0 t):=by
 intro pins s σ H Q I d;refine wpAny_List_spliced (thn (h pos pins s σ H _ I d) λus s1 ⟨xs,a,c,r,z,q⟩=>⟨by rw[← r.length];exact z,?_⟩);have f:a s1.heap.objs.size=none:=c.hok.fresh (a8a _);refine⟨.ref s1.heap.objs.size,upd a s1.heap.objs.size (.lst xs),c.laid (t':=s1.toks) (λb u e=>a2a _ e) (a8a _) ?_,rfl,q _ f⟩;exact⟨z,us,0,r,a7a _ rfl⟩
end
abbrev Sp:=List V->Hp->VK->XK->Prop
abbrev CXT:=List Env->Hp->Shared->XK->Value->Shared->Prop
structure Env0(P:Program)(w:World)(K:W.Frag)(mg:Str->Option Value)(base:Heap)(A:Around)(outer:List Env)(s:Shared)(H:Hp):Prop where
 frames:A.frames=some outer
 mod:Mod K mg base
 bs:∀ b o,base.get? b=some o->s.heap.get? b=some o/\H b=none
 bsz:base.objs.size<=s.heap.objs.size
 funs:s.heap.FunFrames base outer
 frf:∀ b∈frs outer,H b=none
 hok:HOk P w H s.heap
 bare:AllBare s.gens
def CE(outer:List Env)(P:Program)(w:World)(H:Hp)(s:Shared)(Q:VK)(u:Value)(s':Shared):Prop:=
 ∃ v H',s'.os=s.os/\AllBare s'.gens/\Un (frs outer) [] H H' s.heap s'.heap/\HOk P w H' s'.heap/\cE v u/\Q v H'
def CR(CX:CXT)(outer:List Env)(P:Program)(w:World)(H:Hp)(s:Shared)(Q:VK)(E:XK)(r:Result)(s':Shared):Prop:=
 match r with
 | .ok (.ret u)=>CE outer P w H s Q u s'
 | .ok _=>False
 | .error e=>CX outer H s E e s'
structure FnOk(P:Program)(w:World)(K:W.Frag)(mg:Str->Option Value)(base:Heap)(CX:CXT)(k:Nat)(f:Addr)(fd:FuncData)(ps:List Str)(sp:Sp):Prop where
 len:∀ vs H Q E,sp vs H Q E->vs.length=ps.length
 run:∀ (A:Around) (outer:List Env) (s:Shared) (H:Hp) (args:Args) (us:List Value) (vs:List V) (Q:VK) (E:XK),Room k A->Env0 P w K mg base A outer s H->BindsTo s fd args (ps.zip us)->bW vs us->sp vs H Q E ->
  codeAny (model P w) A (.call (.ref f) args) (CR CX outer P w H s Q E) s
def FnOk.imp{P:Program}{w:World}{K:W.Frag}{mg:Str->Option Value}{base:Heap}{CX:CXT}{k:Nat}{f:Addr}{fd:FuncData}{ps:List Str}{sp a:Sp}(F:FnOk P w K mg base CX k f fd ps sp)
  (h:∀ vs H Q E,a vs H Q E->sp vs H Q E):FnOk P w K mg base CX k f fd ps a:=
 ⟨λvs H Q E q=>F.len vs H Q E (h _ _ _ _ q),λA outer s H args us vs Q E b c hb d hs=>F.run A outer s H args us vs Q E b c hb d (h _ _ _ _ hs)⟩
section
variable{X:Cx}{pins:List (Addr×Obj)}{σ:St}{H:Hp}{s s':Shared}
def Inv.env0(I:Inv X pins σ H s):Env0 X.prog X.w X.K X.mg X.base X.A X.stack s H:=
 ⟨I.ok.frames,I.ok.mod,I.bs,a5e I.ok.bsz I.sz,I.stack,I.stkFree,I.hok,I.bare⟩
def Inv.after{Q:VK}{u:Value}(I:Inv X pins σ H s)(h:CE X.stack X.prog X.w H s Q u s'):EP X pins σ Q u s':=by
 obtain⟨v,H',os,bare,un,hok,r,q⟩:=h;obtain⟨c,g,d,t,a⟩:=s';obtain rfl:a=s.os:=os;exact⟨v,H',I.call (h':=c) (g':=g) (d':=d) (t':=t) (ch:=[]) un hok bare (λb z=>absurd z (by simp)),r,q⟩
end
def cB5(sp:Sp)(a:List V)(E:XK)(t:TA):TE:=λσ H Q=>t σ H λvs b=>sp (vs++a) b Q E
def cJ(K:W.Frag)(fd:FuncData)(ps:List Str)(ds:List Value):Prop:=
 ∀ (s:Shared) (us:List Value),K.In s.heap->(us++ds).length=ps.length->BindsTo s fd ⟨us,[]⟩ (ps.zip (us++ds))
def cJ.all{K:W.Frag}{fd:FuncData}{ps:List Str}(h:∀ us:List Value,us.length=ps.length->bindArgs fd ⟨us,[]⟩=pure (ps.zip us)):cJ K fd ps []:=λs us _ a=>by
 rw[a6f]at a ⊢;exact .of_eq (h us a)
def aM5(CX:CXT)(X:Cx)(E:XK):Prop:=∀ (pins:List (Addr×Obj)) (σ:St) (H:Hp) (s:Shared) (e:Value) (s':Shared),Inv X pins σ H s->CX X.stack H s E e s'->X.xe e s'
section
variable{X:Cx}{CX:CXT}{k:Nat}{f C:Addr}{fd:FuncData}{ps:List Str}{sp:Sp}{dvs:List V}{ds:List Value}{E:XK}{x m:Str}{p pos apos:Pos}{e o:Expr}{es:List Expr}{ta:TE}{t:TA}
def cQ1{pins:List (Addr×Obj)}{σ:St}{H:Hp}{s:Shared}{Q:VK}{us:List Value}{vs:List V}(F:FnOk X.prog X.w X.K X.mg X.base CX k f fd ps sp)(c:Room k X.A)(hb:cJ X.K fd ps ds)(hd:bW dvs ds)(d:aM5 CX X E)
  (I:Inv X pins σ H s) (r:bW vs us) (h:sp (vs++dvs) H Q E):wpAny (model X.prog X.w) X.A (call (.ref f) us) (EP X pins σ Q) X.xe s:=by
 have b:bW (vs++dvs) (us++ds):=r.append hd;have g:(us++ds).length=ps.length:=by rw[← b.length];exact F.len _ _ _ _ h
 refine wpAny_call (a5s (F.run X.A X.stack s H ⟨us,[]⟩ (us++ds) (vs++dvs) Q E c I.env0 (hb s us I.kIn g) b h) λr s' a=>?_);cases r with
 | error e=>exact d pins σ H s e s' I a
 | ok i=>
   cases i with
   | ret u=>exact I.after a
   | next=>exact False.elim a
   | brk=>exact False.elim a
   | cont=>exact False.elim a
def aL(F:FnOk X.prog X.w X.K X.mg X.base CX k f fd ps sp)(d:Room k X.A)(g:Gl X x)(hm:X.mg x=some (.ref f))(i:W.keepIn X.K (.ref f)=true)(hb:cJ X.K fd ps ds)(hd:bW dvs ds)(j:aM5 CX X E)
  (ha:PA X (e::es) t) (a:(x==("__debug__":Str))=false:=by decide) (l:starEach (e::es) X.env=(false,eval e X.env)::starEach es X.env:=by rfl) (b:(backTo pos (starEach es X.env)).any (·.1)=false:=by rfl) :
  PE X (.Call (.Name x p) (e::es) [] pos) (cB5 sp dvs E t):=by
 intro pins s σ H Q I h;refine a4N (aL1 I g hm ?_ a);refine W.callWith_K (h₀:=X.base) I.ok.mod.kin i (thn (ha pos pins s σ H _ I h) λus s1 ⟨vs,m,c,r,q⟩=>⟨c.kIn,?_⟩) l b;exact cQ1 F d hb hd j c r q
end
def PK(X:Cx)(a:List Keyword)(t:TA):Prop:=
 ∀ (b:Pos) (pins:List (Addr×Obj)) (s:Shared) (σ:St) (H:Hp) (Q:List V->Hp->Prop),Inv X pins σ H s->t σ H Q->wpAny (model X.prog X.w) X.A (evalAll ((backToKw b (keywordEach a X.env)).map (·.2))) (AP X pins σ Q) X.xe s
section
variable{X:Cx}{CX:CXT}{k:Nat}{f C:Addr}{fd:FuncData}{ps ks:List Str}{sp:Sp}{E:XK}{x m:Str}{p pos apos kpos:Pos}{e o:Expr}{es:List Expr}{kws:List Keyword}{te ta:TE}{t tk:TA}{nm:Option Str}
variable{g:List Value->List Value->List Value}{gV:List V->List V->List V}
end
structure FnScope(N P:List Str)(sc:Scope):Prop where
 kind:sc.kind=.function
 co:sc.isCoroutine=false
 gen:sc.isGenerator=false
 nd:N.Nodup
 pre:N.take P.length=P
 par:∀ x∈P,sc.names.lookup x=some .local\/sc.names.lookup x=some .cell
 nofree:∀ y∈sc.names,y.2≠.free
theorem vR{kindOf:Str->Option NameKind}{x:Str}:∀ {binds:List (Str×Value)} {m:Str->Option Value},(∀ v,(x,v)∉binds)->bindL kindOf binds m x=m x
 | [],_,_=>rfl
 | (n,v)::r,m,h=>by
   unfold bindL;rw[vR λw a=>h w (a0b _ a)];split
   ·have:x≠n:=by rintro rfl;exact h v a9a
    simp[this]
   ·rfl
theorem vS{kindOf:Str->Option NameKind}{x:Str}:∀ {binds:List (Str×Value)} {m:Str->Option Value},(∀ v,(x,v)∉binds)->bindC kindOf binds m x=m x
 | [],_,_=>rfl
 | (n,v)::r,m,h=>by
   unfold bindC;rw[vS λw a=>h w (a0b _ a)];split;rfl
   ·have:x≠n:=by rintro rfl;exact h v a9a
    simp[this]
theorem vT{kindOf:Str->Option NameKind}{x:Str}{v:Value}:∀ {P:List Str} {vs:List Value} {i:Nat} {m:Str->Option Value},P.Nodup->P[i]? = some x->vs[i]? = some v->kindOf x=some .local ->
  bindL kindOf (P.zip vs) m x=some v
 | [],_,_,_,_,h,_,_=>by simp at h
 | _::_,[],_,_,_,_,h,_=>by simp at h
 | p::P,w::vs,0,m,nd,a,b,c=>by
   simp at a b;subst a;subst b;show bindL kindOf ((p,w)::P.zip vs) m p=_;unfold bindL;rw[vR λv d=>(a5h.mp nd).1 (List.of_mem_zip d).1,a4A c];simp
 | p::P,w::vs,i+1,m,nd,a,b,c=>by
   show bindL kindOf ((p,w)::P.zip vs) m x=_;unfold bindL;exact vT (i:=i) (a5h.mp nd).2 (by simpa using a) (by simpa using b) c
theorem vU{kindOf:Str->Option NameKind}{x:Str}{v:Value}:∀ {P:List Str} {vs:List Value} {i:Nat} {m:Str->Option Value},P.Nodup->P[i]? = some x->vs[i]? = some v->kindOf x≠some .local ->
  bindC kindOf (P.zip vs) m x=some v
 | [],_,_,_,_,h,_,_=>by simp at h
 | _::_,[],_,_,_,_,h,_=>by simp at h
 | p::P,w::vs,0,m,nd,a,b,c=>by
   simp at a b;subst a;subst b;show bindC kindOf ((p,w)::P.zip vs) m p=_;unfold bindC;rw[vS λv d=>(a5h.mp nd).1 (List.of_mem_zip d).1,a4z c];simp
 | p::P,w::vs,i+1,m,nd,a,b,c=>by
   show bindC kindOf ((p,w)::P.zip vs) m x=_;unfold bindC;exact vU (i:=i) (a5h.mp nd).2 (by simpa using a) (by simpa using b) c
noncomputable def iT(N:List Str)(vs:List V):St:=vs.map some++List.replicate (N.length-vs.length) none
noncomputable def bM0(CX:CXT)(P:Program)(w:World)(K:W.Frag)(mg:Str->Option Value)(base:Heap)(N:List Str)(qual:Str)(scope:Scope)(f:Addr)(b:Value)(A:Around)(outer:List Env)(s:Shared)(H:Hp)(E:XK):Cx where
 prog:=P
 w:=w
 K:=K
 mg:=mg
 base:=base
 A:=A.deeper (envOfC qual scope s.heap.objs.size f b)
 N:=N
 s₀:=s
 H₀:=H
 env:=envOfC qual scope s.heap.objs.size f b
 outer:=outer
 stack:=envOfC qual scope s.heap.objs.size f b::outer
 ex:=[]
 calm:=true
 fn:=λ_=>true
 pn:=[]
 xe:=λe s'=>wpAny (model P w) (A.deeper (envOfC qual scope s.heap.objs.size f b)) (leaving (envOfC qual scope s.heap.objs.size f b) e) (λ_ a=>CX outer H s E e a) (λc a=>CX outer H s E c a) s'
def zZ{sc:Scope}{n:Nat}{x:Str}(h:sc.names.lookup x=some .cell):∃ c,(cellsFrom n sc.names []).lookup x=some c:=by
 have q:=W.cellsFrom_some sc.names n [] (.inl h);exact Option.isSome_iff_exists.mp q
def aM6{CX:CXT}{P:Program}{w:World}{K:W.Frag}{mg:Str->Option Value}{base:Heap}{N ps:List Str}{qual:Str}{scope:Scope}{f:Addr}{t:Value}{A:Around}{outer:List Env}{s s1:Shared}{H:Hp}{E:XK}{us:List Value}{vs:List V}
  (S:FnScope N ps scope) (hd:A.handled=none) (g:Env0 P w K mg base A outer s H) (I:vs.length=ps.length) (r:bW vs us)
  (x:InCallC s s.heap.objs.size (bindL (envOfC qual scope s.heap.objs.size f t).kindOf (ps.zip us) λ_=>none) (cellsFrom (s.heap.objs.size+1) scope.names []) (bindC (envOfC qual scope s.heap.objs.size f t).kindOf (ps.zip us) λ_=>none) s1) :
  Inv (bM0 CX P w K mg base N qual scope f t A outer s H E) [] (iT N vs) H s1:=by
 have F:ps.length<=N.length:=by have:=a4V List.length S.pre;rw[a1g]at this;lia
 obtain⟨B,tk,rfl,C⟩:=x.done;have j:∀ b:Addr,b∉(bM0 CX P w K mg base N qual scope f t A outer s H E).ex:=λb z=>absurd (show b∈([]:List Addr)from z) (by simp);refine⟨⟨g.mod,S.kind,rfl,rfl,a8a _,λy z c B d=>?_,λy l=>?_,λy c _ h=>?_,λ_=>hd,Around.frames_deeper g.frames,.inr ⟨rfl,rfl⟩,λb z=>absurd z (j b),g.bs,g.bsz,λb _ _=>j b,λb z=>absurd z (j b),g.funs,g.frf⟩,
  rfl,g.bare,Un.kept C,⟨_,x.toInCall.ns,λi y v B d J=>?_⟩,λy c h=>⟨_,x.cell y c h⟩,g.hok.fresh (a8a _),λy c h=>?_,λp m=>absurd (show p∈([]:List (Addr×Obj))from m) (by simp),g.hok.kept C,?_⟩
 ·exact name_of_addr x.apart (a2i B) (a2i d)
 ·have l:scope.names.lookup y=some .cell\/scope.names.lookup y=some .free:=l;rcases l with l | l;exact zZ l;exact absurd rfl (S.nofree _ (a2i l))
 ·exact a8g (x.above y c (a2i h))
 ·have hi:i < vs.length:=by
   unfold iT at d;by_cases hi:i < vs.length;exact hi;rw[a4b (by simpa using hi)]at d;rw[List.getElem?_replicate]at d;split at d<;>cases d
  have ha:vs[i]? = some v:=by
   unfold iT at d;rw[a4c (by simpa using hi),a8b]at d;cases e:vs[i]? with
   | none=>rw[e]at d;cases d
   | some a=>rw[e]at d;cases d;rfl
  obtain⟨u,D,G⟩:=r.get ha;have m:ps[i]? = some y:=by
   rw[← S.pre,List.getElem?_take_of_lt (by lia)];exact B
  have o:ps.Nodup:=by rw[← S.pre];exact S.nd.sublist (List.take_sublist _ _)
  refine⟨u,G,?_⟩;rcases S.par y (a6c m)with k | k;exact .inl ⟨k,vT o m D k⟩;obtain⟨c,e⟩:=zZ (n:=s.heap.objs.size+1) k;refine .inr ⟨.inl k,c,e,?_⟩;have q:=x.cell y c e;rw[vU o m D (by show scope.names.lookup y≠_;rw[k];decide)]at q;exact q
 ·exact g.hok.fresh (a8g (x.above y c (a2i h)))
 ·unfold iT;show _=N.length;rw[a0c,a3e,List.length_replicate];lia
def dD5{CX:CXT}{P:Program}{w:World}{K:W.Frag}{mg:Str->Option Value}{base:Heap}{k:Nat}{f:Addr}{name qual:Str}{a:Arguments}{c:List Stmt}{scope:Scope}{z kV doc pm cdv ct oc:Value}{an od:Option Addr}
  {osl:Array (Option Value)} {N ps:List Str} {sp:Sp} (lk:K.lookup f=some ⟨oc,od,.func (W.fnOf name qual a c scope z kV doc pm an cdv ct),osl⟩) (j:W.codeIn K cdv qual=true) (S:FnScope N ps scope)
  (len:∀ vs H Q E,sp vs H Q E->vs.length=ps.length)
  (d:∀ (A:Around) (outer:List Env) (s:Shared) (H:Hp) (vs:List V) (Q:VK) (E:XK),Room k (A.deeper (envOfC qual scope s.heap.objs.size f cdv))->sp vs H Q E ->
   ∃ t,PSs (bM0 CX P w K mg base N qual scope f cdv A outer s H E) c t/\t {nx:=λ_ H'=>Q .non H',rt:=Q} (iT N vs) H) :
  FnOk P w K mg base CX (k+1) f (W.fnOf name qual a c scope z kV doc pm an cdv ct) ps sp:=by
 refine⟨len,λA outer s H args us vs Q E l h hb r i=>?_⟩;have C:=len _ _ _ _ i;have B:K.In s.heap:=h.mod.kin.keeps λb o e=>(h.bs b o e).1;have m:s.heap.NoLimit:=h.mod.nolimit.keeps λb o e=>(h.bs b o e).1;have g:∀ y∈ps.zip us,scope.names.lookup y.1=some .local\/(scope.names.lookup y.1=some .cell/\((cellsFrom (s.heap.objs.size+1) scope.names []).lookup y.1).isSome=true):=λ⟨n,v⟩ D=>by
  rcases S.par n (List.of_mem_zip D).1 with q | q;exact .inl q;exact .inr ⟨q,W.cellsFrom_some _ _ _ (.inl q)⟩
 refine codeAny_call_function l.depth (B _ _ lk) rfl S.co S.gen rfl (W.codeRec_of B j) (hb _ _ _ _ ?_);refine wpAny_newFunctionEnv_cells S.kind g λenv F s1 x=>?_;subst F;refine⟨m.keeps x.toInCall.keep,codeAny_func ?_⟩;obtain⟨t,G,L⟩:=d A outer s H vs Q E (l.deeper _) i;have I:Inv (bM0 CX P w K mg base N qual scope f cdv A outer s H E) [] (iT N vs) H s1:=aM6 S l.hd h C r x;refine a4M (G [] s1 (iT N vs) H _ I L) (λM s' hs=>?_) λe s' hs=>hs;have fin:∀ {σ':St} {H':Hp} {v:V} {u:Value},Inv (bM0 CX P w K mg base N qual scope f cdv A outer s H E) [] σ' H' s'->cE v u->Q v H'->CE outer P w H s Q u s':=
  λ{σ' H' v u} J p q=>⟨v,H',J.os,J.bare,J.base,J.hok,p,q⟩
 cases M with
 | ret u=>
   obtain⟨v,σ',H',J,p,q⟩:=hs;exact fin J p q
 | next=>
   obtain⟨σ',H',J,q⟩:=hs;exact fin (v:=V.non) (u:=Value.none) J rfl q
 | brk=>
   obtain⟨_,_,_,q⟩:=hs;exact False.elim q
 | cont=>
   obtain⟨_,_,_,q⟩:=hs;exact False.elim q
section
variable{X:Cx}{x:Str}{p pos:Pos}{e:Expr}{es:List Expr}{t:TA}{id T:String}{r:List V->Hp->VK->Prop}
def tCB(r:List V->Hp->VK->Prop)(t:TA):TE:=λσ H Q=>t σ H λvs a=>r vs a Q
def aS(c:mS X (.builtin id) r)(d:Gl X x)(hm:X.mg x=none)(f:bootBuiltins x=some (.builtin id))(ha:PA X (e::es) t)(hn:x≠"__name__":=by decide)(a:(x==("__debug__":Str))=false:=by decide)
  (g:starEach (e::es) X.env=(false,eval e X.env)::starEach es X.env:=by rfl) (b:(backTo pos (starEach es X.env)).any (·.1)=false:=by rfl):PE X (.Call (.Name x p) (e::es) [] pos) (tCB r t):=by
 intro pins s σ H Q I h;refine a4N (gK I d hm f ?_ hn a);exact PyProof.Rows.callWith_builtin1 (thn (ha pos pins s σ H _ I h) λus s1 ⟨vs,i,j,k,l⟩=>c pins s1 σ i vs us Q j k l) g b
def cS(c:mS X (.type T) r)(d:Gl X x)(hm:X.mg x=none)(f:bootBuiltins x=some (.type T))(ha:PA X (e::es) t)(hn:x≠"__name__":=by decide)(a:(x==("__debug__":Str))=false:=by decide)
  (g:starEach (e::es) X.env=(false,eval e X.env)::starEach es X.env:=by rfl) (b:(backTo pos (starEach es X.env)).any (·.1)=false:=by rfl):PE X (.Call (.Name x p) (e::es) [] pos) (tCB r t):=by
 intro pins s σ H Q I h;refine a4N (gK I d hm f ?_ hn a);exact a2e (thn (ha pos pins s σ H _ I h) λus s1 ⟨vs,i,j,k,l⟩=>c pins s1 σ i vs us Q j k l) g b
end
end L2
namespace HT
open PySem PyProof.Rows
noncomputable def lexLt:List Int->List Int->Bool
 | [],[]=>false
 | [],_::_=>true
 | _::_,[]=>false
 | x::xs,y::ys=>if x=y then lexLt xs ys else decide (x < y)
def lexLt_cons(x y:Int)(xs ys:List Int):lexLt (x::xs) (y::ys)=if x=y then lexLt xs ys else decide (x < y):=rfl
def tH:lexLt [] []=false:=rfl
def rB(y:Int)(ys:List Int):lexLt [] (y::ys)=true:=rfl
def rC(x:Int)(xs:List Int):lexLt (x::xs) []=false:=rfl
def bB1(A:Around)(s:Shared)(a:Int)(t:Tok)(c:Int)(u:Tok):∃ e,SeqAt.EqAt A s (.int a t) (.int c u) e/\(e=true↔a=c):=
 ⟨(a==c),SeqAt.EqAt.int_int a t c u,by simp⟩
def bB2(A:Around)(s:Shared)(a:Int)(t:Tok)(c:Int)(u:Tok)(prog:Program)(w:World)(E:Value->Shared->Prop)(Q:Value->Shared->Prop)(h:Q (.bool (decide (a < c))) s) :
  wpAny (model prog w) A (richCompare .Lt (.int a t) (.int c u)) Q E s:=
 (PyProof.Rows.lt_int h:wpAny (model prog w) A (compareOp .Lt (.int a t) (.int c u)) Q E s)
section
open PySem.SeqAt
open PySem.AutoSeq1 (wpAny_loadPart')
open PySem.MeetsSeq PySem.MeetsSeq2 PySem.MeetsSeq3
def tJ(l b:Addr)(items f:Array Value)(n n2:Nat)(I E:Option Addr)(sl sl2:Array (Option Value))(ns C:List Int)(hi:IntsAre items.toList ns)(hj:IntsAre f.toList C) :
  Meets (Builtin.«tuple.__lt__» ⟨[.ref l,.ref b],[]⟩)
   (λ_ R s=>s.heap.get? l=some {cls:=.type "tuple",dict:=I,data:=.seq items n,slots:=sl}/\s.heap.get? b=some {cls:=.type "tuple",dict:=E,data:=.seq f n2,slots:=sl2} /\
    R (.ok (.ret (.bool (lexLt ns C)))) s):=
 .of_wp λprog w A R s h=>by
  obtain⟨D,g,d,tk,os⟩:=s;obtain⟨J,hb,h⟩:=h;have N:=AutoSeq1.sub_tuple_tuple;have O:items.size=ns.length:=by rw[← hi.length];simp
  have P:f.size=C.length:=by rw[← hj.length];simp
  wp_walk using a4S J,a4S hb,wpAny_forIn_list _ (λdD b s'=>b.1=none/\s'=⟨D,g,d,tk,os⟩/\∃ (vs ws:List Value) (ns' i:List Int),dD=vs.zip ws /\
   IntsAre vs ns'/\IntsAre ws i/\ns'.length+f.size=i.length+items.size/\R (.ok (.ret (.bool (lexLt ns' i)))) ⟨D,g,d,tk,os⟩) _
  case turn=>
   rintro⟨y,x⟩ dD b s' ⟨p,rfl,vs,ws,ns',i,j,r,k,hlen,m⟩;cases r with
   | nil=>rw[List.zip_nil_left]at j;cases j
   | cons a t z=>
     cases k with
     | nil=>rw[List.zip_nil_right]at j;cases j
     | cons c u B=>
       rw[List.zip_cons_cons]at j;injection j with F v
       injection F with K L
       subst K L;rw[lexLt_cons]at m;simp only[List.length_cons]at hlen;obtain⟨e,M,o⟩:=bB1 A.in1 ⟨D,g,d,tk,os⟩ a t c u;refine a4x (M prog w _ _ ?_);cases e with
       | true=>
         rw[a4A (o.mp rfl)]at m
         wp_walk
         exact⟨rfl,rfl,_,_,_,_,v,z,B,by lia,m⟩
       | false=>
         rw[a4z (λq=>absurd (o.mpr q) a9c)]at m;have G:=bB2 A.in1 ⟨D,g,d,tk,os⟩ a t c u prog w
         wp_walk using G
         exact⟨_,rfl,by simpa using m⟩
  case fin=>
   rintro⟨Q,S⟩ s' ⟨p,rfl,vs,ws,ns',i,j,r,k,hlen,m⟩;simp only at p;subst p;have H:lexLt ns' i=decide (items.size < f.size):=by
    cases r with
    | nil=>
      cases k with
      | nil=>
        simp only[List.length_nil]at hlen;rw[tH];exact(a4D (by lia)).symm
      | cons c u hw=>
        simp only[List.length_nil,List.length_cons]at hlen;rw[rB];exact(a4W (by lia)).symm
    | cons a t H=>
      cases k with
      | nil=>
        simp only[List.length_nil,List.length_cons]at hlen;rw[rC];exact(a4D (by lia)).symm
      | cons c u hw=>
        rw[List.zip_cons_cons]at j;cases j
   rw[H]at m
   wp_walk
   exact⟨_,rfl,by simpa[Builtin.Tuple.tupleCompareSizes]using m⟩
  case h=>
   exact⟨rfl,rfl,items.toList,f.toList,ns,C,rfl,hi,hj,by lia,h⟩
end
section
variable{prog:Program}{w:World}{A:Around}{E:Value->Shared->Prop}{s:Shared}
def lt_tupInts{l b:Addr}{items a:Array Value}{ns c:List Int}{Q:Value->Shared->Prop}(j:IsTup s.heap l items)(hb:IsTup s.heap b a)(hi:IntsAre items.toList ns)(hj:IntsAre a.toList c)
  (k:A.units < cLine) (h:Q (.bool (lexLt ns c)) s):wpAny (model prog w) A (compareOp .Lt (.ref l) (.ref b)) Q E s:=by
 obtain⟨⟨cls,m,data,sl⟩,f,g,n,hd⟩:=id j;obtain⟨⟨i,e,data2,sl2⟩,ho2,d,n2,hd2⟩:=id hb;simp only at g hd d hd2;subst g hd d hd2;exact richCompare_meets_room (op:=.Lt) ⟨_,f,rfl⟩ ⟨_,ho2,rfl⟩ F.slot_tuple_lt F.entry_tuple_lt (F.args_tuple_lt_2 _ _) (tJ l b items a n n2 m e sl sl2 ns c hi hj)
  ⟨f,ho2,show Value.bool (lexLt ns c)≠Value.notImplemented/\Q (.bool (lexLt ns c)) s from⟨(λx=>nomatch x),h⟩⟩ k
def cat_tup{t b:Addr}{vs ws:List Value}{Q:Value->Shared->Prop}(k:IsTup s.heap t vs.toArray)(hb:IsTup s.heap b ws.toArray)(g:vs≠[])
  (l:ws=[]->Q (.ref t) s) (m:ws≠[]->Q (.ref s.heap.objs.size) {s with heap:=s.heap.push {cls:=.type "tuple",data:=.seq (vs++ws).toArray}})
  (hsz:vs.length+ws.length<=sizeLine):wpAny (model prog w) A (binaryOp .Add (.ref t) (.ref b)) Q E s:=by
 obtain⟨⟨cls,h,data,sl⟩,d,i,n,hd⟩:=id k;obtain⟨⟨j,a,data2,sl2⟩,ho2,c,n2,hd2⟩:=id hb;simp only at i hd c hd2;subst i hd c hd2;have e:vs.toArray++ws.toArray=(vs++ws).toArray:=by simp
 by_cases f:ws=[]
 ·exact concat_meets ⟨_,d,rfl⟩ ⟨_,ho2,rfl⟩ noFill_tuple_add seq_tuple_add F.slot_tuple_add F.entry_tuple_add (F.args_tuple_add_2 _ _)
   (tuple_addW1 t b vs.toArray ws.toArray n n2 h a sl sl2 (by simpa using g) (by simp[f])) ⟨d,ho2,l f⟩
 ·refine concat_meets ⟨_,d,rfl⟩ ⟨_,ho2,rfl⟩ noFill_tuple_add seq_tuple_add F.slot_tuple_add F.entry_tuple_add (F.args_tuple_add_2 _ _)
   (tuple_addW2 t b vs.toArray ws.toArray n n2 h a sl sl2 (by simpa using g) (by simpa using f) (by rw[List.size_toArray,List.size_toArray];exact hsz)) ⟨d,ho2,?_⟩
  rw[e];exact m f
noncomputable def sIx(n d:Nat):Option Int->Nat
 | none=>d
 | some v=>if v < 0 then(v+(n:Int)).toNat else min v.toNat n
def cQ2(n d:Nat)(hd:d<=n)(o:Option Int):sIx n d o<=n:=by
 cases o with
 | none=>exact hd
 | some v=>
   show(if v < 0 then(v+(n:Int)).toNat else min v.toNat n)<=n;by_cases a:v < 0;rw[a4A a];lia;rw[a4z a];exact Nat.min_le_right _ _
def aM7(v:Int)(n d:Nat):(if v < 0 then max (v+(n:Int)) 0 else min v (n:Int))=((sIx n d (some v):Nat):Int):=by
 show(if v < 0 then max (v+(n:Int)) 0 else min v (n:Int))=(((if v < 0 then(v+(n:Int)).toNat else min v.toNat n):Nat):Int);by_cases a:v < 0;simp only[if_pos a];lia;simp only[if_neg a];lia
def aF5(lo hi:Option Int)(n:Nat):Builtin.Slice.sliceAdjust lo hi 1 (n:Int)=(((sIx n 0 lo:Nat):Int),((sIx n n hi:Nat):Int)):=by
 have a:¬ ((1:Int) < 0):=by lia
 unfold Builtin.Slice.sliceAdjust;simp only[a,if_false];refine Prod.ext ?_ ?_
 ·cases lo with
  | none=>rfl
  | some v=>exact aM7 v n 0
 ·cases hi with
  | none=>rfl
  | some v=>exact aM7 v n n
def aF6(i j:Nat):Builtin.Slice.slicePlaces (i:Int) (j:Int) 1=j-i:=by
 unfold Builtin.Slice.slicePlaces;have a:(1:Int) > 0:=by lia
 simp only[a,if_true,Int.ediv_one];split<;>lia
def rV{v:Value}{o:Option Int}{Q:Option Int->Shared->Prop}(p:IsPart v o)(h:Q o s):wpAny (model prog w) A (Builtin.Slice.slicePartIndex v) Q E s:=by
 cases p with
 | none=>exact slicePart_none h
 | int i t=>exact slicePart_int h
def iN{sl:Addr}{c d:Value}{lo hi:Option Int}{n:Nat}{Q:Int×Int×Nat->Shared->Prop}(hs:s.heap.IsSliceOf sl c d .none)(pl:IsPart c lo)(e:IsPart d hi)
  (h:Q (((sIx n 0 lo:Nat):Int),1,sIx n n hi-sIx n 0 lo) s):wpAny (model prog w) A (Builtin.Slice.sliceApplied (.ref sl) (pure (n:Int))) Q E s:=by
 obtain⟨os,a,f,b⟩:=id hs;unfold Builtin.Slice.sliceApplied Builtin.Slice.sliceFields;refine a4x (a4x (a4G a b (x:=c) rfl (a4x (a4G a b (x:=d) rfl (a4x (a4G a b (x:=.none) rfl (a4y ?_)))))));refine a4x (slicePart_none ?_);show wpAny _ _ (if((1:Int)==0)=true then _ else _) _ _ s;rw[a4z (by decide)];refine a4x (rV pl (a4x (rV e (a4x (a4y ?_)))));show wpAny _ _ (match Builtin.Slice.sliceAdjust lo hi 1 (n:Int)with | (lo,hi)=>pure (lo,(1:Int),Builtin.Slice.slicePlaces lo hi 1)) _ _ s;rw[aF5 lo hi n];show wpAny _ _ (pure (((sIx n 0 lo:Nat):Int),(1:Int),Builtin.Slice.slicePlaces ((sIx n 0 lo:Nat):Int) ((sIx n n hi:Nat):Int) 1)) _ _ s;rw[aF6];exact a4y h
def bB3(xs:Array Value)(i k:Nat):((List.range k).filterMap λ(m:Nat)=>xs[((i:Int)+(m:Int)*1).toNat]?).toArray=((xs.toList.drop i).take k).toArray:=by
 have e:(λ(m:Nat)=>xs[((i:Int)+(m:Int)*1).toNat]?)=λm=>xs[i+m]?:=by
  funext m;have:((i:Int)+(m:Int)*1).toNat=i+m:=by lia
  rw[this]
 rw[e];have:=pick_run xs i k;rw[List.filterMap_map]at this;have a:((λx=>xs[x]?) ∘ λx=>i+x)=λm=>xs[i+m]?:=rfl;rw[a]at this;rw[this]
def getItem_tuple_cut{t sl:Addr}{items:Array Value}{g i:Value}{lo hi:Option Int}{Q:Value->Shared->Prop}(b:IsTup s.heap t items)(hs:s.heap.IsSliceOf sl g i .none)(pl:IsPart g lo)(j:IsPart i hi)
  (k:¬ (sIx items.size 0 lo=0/\sIx items.size items.size hi=items.size))
  (h:Q (.ref s.heap.objs.size) {s with heap:=s.heap.push {cls:=.type "tuple",data:=.seq ((items.toList.drop (sIx items.size 0 lo)).take (sIx items.size items.size hi-sIx items.size 0 lo)).toArray}})
  (hsz:items.size<=sizeLine):wpAny (model prog w) A (getItem (.ref t) (.ref sl)) Q E s:=by
 have a:sizeOk (.seq ((items.toList.drop (sIx items.size 0 lo)).take (sIx items.size items.size hi-sIx items.size 0 lo)).toArray):=by
  show((items.toList.drop (sIx items.size 0 lo)).take (sIx items.size items.size hi-sIx items.size 0 lo)).toArray.size<=sizeLine;rw[a6a,a1g,a3i,a8c];lia
 have hj:sIx items.size items.size hi<=items.size:=cQ2 _ _ (a8a _) hi;obtain⟨os,c,d,l⟩:=id hs;have e:s.TypeIs (.ref sl) "slice":=⟨os,c,d⟩;unfold getItem
 try with_reducible refine a4C ?_
 first | refine a4x (a4y ?_) | skip
 refine a4x (wpAny_sequenceKey b.typeIs (by decide) ?_);refine a4x (wpAny_callSpecial?_slot (name:=Str.ofString "__getitem__") b.typeIs a8e
  (a4H a8e b.typeIs entry_tuple_getitem ?_ (args_tuple_getitem _ _)))
 show wpAny _ _ (Builtin.Tuple.tupleItemsOf (.ref t) >>= _) _ _ s;refine a4x (tupleItemsOf_ b ?_);refine a4x (a5k e ?_);rw[a4A (by decide)];refine a4x (iN hs pl j ?_);have f:¬ ((((sIx items.size 0 lo:Nat):Int)==0&&(1:Int)==1&&(sIx items.size items.size hi-sIx items.size 0 lo)==items.size)=true):=by
  intro q;rw[a3c,a3c]at q;have n:((sIx items.size 0 lo:Nat):Int)=0:=eq_of_beq q.1.1;have o:sIx items.size items.size hi-sIx items.size 0 lo=items.size:=eq_of_beq q.2;exact k ⟨by lia,by lia⟩
 show wpAny _ _ (if(((sIx items.size 0 lo:Nat):Int)==0&&(1:Int)==1&&(sIx items.size items.size hi-sIx items.size 0 lo)==items.size)=true then _ else _) _ _ s;rw[a4z f,bB3]
 first
  | exact a4x (m:=Builtin.Tuple.tupleExact _) (a4J (a4y ⟨_,rfl,a4y h⟩) a)
  | exact a4x (m:=Builtin.Tuple.tupleExact _) (a4J (a4x (a4y (a4y ⟨_,rfl,a4y h⟩))) a)
  | exact a4x (a4x (m:=Builtin.Tuple.tupleExact _) (a4J (a4y (a4y ⟨_,rfl,a4y h⟩)) a))
  | exact a4x (a4x (m:=Builtin.Tuple.tupleExact _) (a4J (a4y ⟨_,rfl,a4y h⟩) a))
end
end HT
namespace L2
open PySem PySem.Spec PyProof.Rows
abbrev TO:=St->Hp->(Option Int->Hp->Prop)->Prop
def PO(X:Cx)(e:Option Expr)(t:TO):Prop:=
 ∀ (pins:List (Addr×Obj)) (s:Shared) (σ:St) (H:Hp) (Q:Option Int->Hp->Prop),Inv X pins σ H s->t σ H Q ->
   wpAny (model X.prog X.w) X.A (evalPart e X.env) (λu s'=>∃ o H',Inv X pins σ H' s'/\IsPart u o/\Q o H') X.xe s
def cB6:TO:=λ_ H Q=>Q none H
def dD6(t:TE):TO:=λσ H Q=>t σ H λx a=>∃ i,x=.int i/\Q (some i) a
def rW{ns:List Int}:∀ {us:List Value},bW (ns.map V.int) us->IntsAre us ns:=by
 induction ns with
 | nil=>intro us r;rw[List.map_nil]at r;cases r;exact .nil
 | cons n ns a=>
   intro us r;rw[a8d]at r;cases r with
   | cons b c=>
     obtain⟨t,e⟩:=b;subst e;exact .cons n t (a c)
section
variable{X:Cx}{e:Expr}{te:TE}{lo hi:Option Expr}{tl th:TO}{pos p2:Pos}
def cB7:PO X none cB6:=by
 intro pins s σ H Q I h;rw[evalPart_none];exact a4y ⟨none,H,I,.none,h⟩
def cB8(h:PE X e te):PO X (some e) (dD6 te):=by
 intro pins s σ H Q I a;rw[evalPart_some];refine thn (h pins s σ H _ I a) λu s1 Z0=>?_;obtain⟨x,b,c,d,f⟩:=Z0;obtain⟨i,rfl,q⟩:=f;obtain⟨t,rfl⟩:=d;exact⟨some i,b,c,.int i t,q⟩
def SlR(X:Cx)(r:V->Option Int->Option Int->Hp->VK->Prop):Prop:=
 ∀ (pins:List (Addr×Obj)) (s:Shared) (σ:St) (H:Hp) (x:V) (v a b:Value) (lo hi:Option Int) (sl:Addr) (Q:VK),Inv X pins σ H s->cE x v->s.heap.IsSliceOf sl a b .none->IsPart a lo->IsPart b hi->r x lo hi H Q ->
   ∃ T id,typeLookup (.type T) "__getitem__"=pure (some (.builtin id))/\s.TypeIs v T/\wpAny (model X.prog X.w) X.A (getItem v (.ref sl)) (EP X pins σ Q) X.xe s
def tSl(r:V->Option Int->Option Int->Hp->VK->Prop)(te:TE)(tl th:TO):TE:=λσ H Q=>te σ H λx a=>tl σ a λl b=>th σ b λu c=>r x l u c Q
def bB4{r:V->Option Int->Option Int->Hp->VK->Prop}(g:SlR X r)(i:PE X e te)(j:PO X lo tl)(k:PO X hi th):PE X (.Subscript e (.Slice lo hi none p2) pos) (tSl r te tl th):=by
 intro pins s σ H Q I h;refine Subscript_ (thn (i pins s σ H _ I h) λv s1 Z0=>?_);obtain⟨x,m,n,o,p⟩:=Z0;refine wpAny_Slice (thn (j pins s1 σ m _ n p) λc s2 ⟨l,t,y,pl,z⟩=>thn (k pins s2 σ t _ y z) λd a ⟨u,f,B,C,D⟩=>?_);rw[evalPart_none];refine a4y ?_;have E:Inv X pins σ f {a with heap:=a.heap.push {cls:=.type "slice",data:=.fields #[c,d,.none]}}:=B.kept (t':=a.toks) λb ob q=>a2a _ q;obtain⟨T,id,F,G,J⟩:=g pins {a with heap:=a.heap.push {cls:=.type "slice",data:=.fields #[c,d,.none]}} σ f x v c d l u a.heap.objs.size Q E o (Heap.IsSliceOf.new ..) pl C D;show wpAny (model X.prog X.w) X.A (subscriptTail e (.Slice lo hi none p2) v (.ref a.heap.objs.size)) (EP X pins σ Q) X.xe {a with heap:=a.heap.push {cls:=.type "slice",data:=.fields #[c,d,.none]}};exact tail_any (ops:=[.ref a.heap.objs.size,v]) G F J (by with_unfolding_all rfl)
noncomputable def yG(xs:List V)(lo hi:Option Int):List V:=(xs.drop (HT.sIx xs.length 0 lo)).take (HT.sIx xs.length xs.length hi-HT.sIx xs.length 0 lo)
def pI(xs:List V)(lo hi:Option Int):(yG xs lo hi).length<=xs.length:=by
 unfold yG;rw[a1g,a3i];lia
def dM4(K:W.Frag):V->Option Int->Option Int->Hp->VK->Prop:=λx lo hi H Q=>∃ a xs,x=.ref a/\SqT K H a xs /\
 ¬ (HT.sIx xs.length 0 lo=0/\HT.sIx xs.length xs.length hi=xs.length)/\∀ p,H p=none->Q (.ref p) (upd H p (.tup (yG xs lo hi)))
def cQ3:SlR X (dM4 X.K):=by
 intro pins s σ H x v k l lo hi sl Q I f hs pl g h;obtain⟨a,xs,rfl,i,j,q⟩:=h;cases f;obtain⟨its,r,d,e⟩:=I.tuple i;have c:its.toArray.size=xs.length:=by rw[a6a];exact r.length.symm
 refine⟨"tuple",_,a8e.lookup,d.typeIs,?_⟩;refine HT.getItem_tuple_cut d hs pl g (by rw[c];exact j) ?_ (by rw[c];exact e);rw[c];refine⟨.ref s.heap.objs.size,_,I.laid (t':=s.toks) (o:=.tup (yG xs lo hi)) (λb ob q=>a2a _ q) (a8a _) ?_,rfl,q _ (I.hok.fresh (a8a _))⟩;exact⟨a5e (pI xs lo hi) e,_,(r.drop (HT.sIx xs.length 0 lo)).take (HT.sIx xs.length xs.length hi-HT.sIx xs.length 0 lo),IsTup.new _ _,⟨_,a7a _ rfl,rfl⟩⟩
def dM5(K:W.Frag):R2:=λx y H Q=>∃ a b ns c,x=.ref a/\y=.ref b/\SqT K H a (ns.map V.int)/\SqT K H b (c.map V.int)/\Q (.bl (HT.lexLt ns c)) H
def cQ4(d:X.A.units < cLine):OpR X (compareOp .Lt) (dM5 X.K):=by
 intro pins s σ H x y v u Q I e f h;obtain⟨a,b,ns,ms,rfl,rfl,ha,hb,q⟩:=h;cases e;cases f;obtain⟨its,g,i,_⟩:=I.tuple ha;obtain⟨c,j,p2,_⟩:=I.tuple hb;have i1:IntsAre its.toArray.toList ns:=rW g;have i2:IntsAre c.toArray.toList ms:=rW j;exact HT.lt_tupInts i p2 i1 i2 d ⟨.bl (HT.lexLt ns ms),H,I,rfl,q⟩
def dD7(K:W.Frag):R2:=λx y H Q=>∃ a b xs ys,x=.ref a/\y=.ref b/\SqT K H a xs/\SqT K H b ys/\xs≠[]/\xs.length+ys.length<=sizeLine /\
 (ys=[]->Q (.ref a) H)/\(ys≠[]->∀ p,H p=none->Q (.ref p) (upd H p (.tup (xs++ys))))
def bW.nil_iff{xs:List V}{us:List Value}(r:bW xs us):us=[]↔xs=[]:=by
 cases r with
 | nil=>simp
 | cons _ _=>simp
def cB9:OpR X (binaryOp .Add) (dD7 X.K):=by
 intro pins s σ H x y v u Q I g i h;obtain⟨a,b,xs,ys,rfl,rfl,ha,hb,j,e,k,l⟩:=h;cases g;cases i;obtain⟨its,d,m,_⟩:=I.tuple ha;obtain⟨f,c,p2,_⟩:=I.tuple hb;refine HT.cat_tup m p2 (λz=>j (d.nil_iff.mp z)) (λz=>⟨.ref a,H,I,rfl,k (c.nil_iff.mp z)⟩) (λz=>?_) (by rw[← d.length,← c.length];exact e);refine⟨.ref s.heap.objs.size,_,I.laid (t':=s.toks) (o:=.tup (xs++ys)) (λb ob q=>a2a _ q) (a8a _) ?_,rfl,l (λw=>z (c.nil_iff.mpr w)) _ (I.hok.fresh (a8a _))⟩;exact⟨by rw[a0c];exact e,_,d.append c,IsTup.new _ _,⟨_,a7a _ rfl,rfl⟩⟩
end
noncomputable def ixN(n:Nat)(i:Int):Option Nat:=if 0<=i then(if i < n then some i.toNat else none)else if -(n:Int)<=i then some (i+n).toNat else none
noncomputable def atI{α:Type}(xs:List α)(i:Int):Option α:=(ixN xs.length i).bind λj=>xs[j]?
def aM8{n:Nat}{i:Int}{j:Nat}(h:ixN n i=some j):seqIndex? i n=some j/\j < n /\ -(n:Int)<=i/\i < n:=by
 unfold ixN at h;by_cases h0:0<=i;rw[a4A h0]at h;by_cases a:i < n;rw[a4A a]at h;have e:i.toNat=j:=a4a h;exact⟨by rw[seqIndex_of h0 a,e],by lia,by lia,a⟩;rw[a4z a]at h;cases h;rw[a4z h0]at h;by_cases a:-(n:Int)<=i;rw[a4A a]at h;have e:(i+n).toNat=j:=a4a h;exact⟨by rw[seqIndex_neg (by lia) a,e],by lia,a,by lia⟩;rw[a4z a]at h;cases h
def yH{a:Type}{xs:List a}{i:Int}{v:a}(h:atI xs i=some v):∃ j,seqIndex? i xs.length=some j/\xs[j]? = some v/\j < xs.length /\ -(xs.length:Int)<=i/\i < xs.length:=by
 unfold atI at h;cases e:ixN xs.length i with
 | none=>rw[e]at h;cases h
 | some j=>
   rw[e]at h;obtain⟨b,c,d,f⟩:=aM8 e;exact⟨j,b,h,c,d,f⟩
def cC0{a:Type}{xs:List a}{j:Nat}{v:a}(h:xs[j]? = some v):atI xs (j:Int)=some v:=by
 have hj:j < xs.length:=(a0a.mp h).1;have e:ixN xs.length (j:Int)=some j:=by
  unfold ixN;rw[a4A (by lia),a4A (by lia)];simp
 unfold atI;rw[e];exact h
def aM9(b:Expr):Prop:=∀ o i,subscripted b false o i=operate [o,i] (getItem o i)
def IxR(X:Cx)(r:R2):Prop:=
 ∀ (b a:Expr) (pins:List (Addr×Obj)) (s:Shared) (σ:St) (H:Hp) (x y:V) (v u:Value) (Q:VK),Inv X pins σ H s->cE x v->cE y u->r x y H Q ->
   subscripted a false v u=operate [v,u] (getItem v u)->wpAny (model X.prog X.w) X.A (subscriptTail b a v u) (EP X pins σ Q) X.xe s
def MtR(X:Cx)(id:String)(r:V->List V->Hp->VK->Prop):Prop:=
 ∀ (pins:List (Addr×Obj)) (s:Shared) (σ:St) (H:Hp) (x:V) (xs:List V) (v:Value) (us:List Value) (Q:VK),Inv X pins σ H s->cE x v->bW xs us->r x xs H Q ->
   wpAny (model X.prog X.w) X.A (call (.builtin id) (v::us)) (EP X pins σ Q) X.xe s
section
variable{X:Cx}{a b:Expr}{ta tb:TE}{pos:Pos}
def dD8{r:R2}(c:IxR X r)(ha:PE X a ta)(hb:PE X b tb)(hs:aM9 b):PE X (.Subscript a b pos) (tOp r ta tb):=by
 intro pins s σ H Q I h;exact Subscript_ (dC9 ha hb I h λv u s2 x y d e f g q=>c a b pins s2 σ d x y v u Q e f g q (hs _ _))
def dM6(K:W.Frag):R2:=λx y H Q=>∃ p xs i v,x=.ref p/\y=.int i/\SqL K H p xs/\atI xs i=some v/\Q v H
def dM7(K:W.Frag):R2:=λx y H Q=>∃ p xs i v,x=.ref p/\y=.int i/\SqT K H p xs/\atI xs i=some v/\Q v H
def dM8:R2:=λx y H Q=>∃ z i c,x=.str z/\y=.int i/\z.length<=sizeLine/\atI z.cps.toList i=some c/\Q (.str ⟨#[c]⟩) H
def cC1:IxR X (dM6 X.K):=by
 intro b c pins s σ H x y v u Q I f g h hs;obtain⟨p,xs,i,z,rfl,rfl,k,l,q⟩:=h;cases f;obtain⟨t,rfl⟩:=g;obtain⟨its,r,pl,B⟩:=I.list k;obtain⟨j,a,m,C,n,o⟩:=yH l;obtain⟨w,e,d⟩:=r.get m;have A:=r.length;have hn:=nY;have fin:EP X pins σ Q w s:=⟨z,H,I,d,q⟩;by_cases h0:0<=i
 ·have hj:i.toNat=j:=by
   rw[seqIndex_of h0 o]at a;exact a4a a
  exact item_listR pl.isList h0 (by lia) (by rw[hj];simpa using e) fin hs
 ·have hj:(i+(its.toArray.size:Int)).toNat=j:=by
   rw[seqIndex_neg (by lia) n]at a;rw[a6a,← A];exact a4a a
  exact subscriptTail_builtinR (x:=w) pl.isList.typeIs slot_list_getitem.lookup
   (wpAny_getItem_list_neg (Q:=λr s'=>r=w/\EP X pins σ Q r s') pl.isList (by lia) (by rw[a6a]<;>lia) (by lia) (by rw[hj];simpa using e) ⟨rfl,fin⟩) hs
def cQ5:IxR X (dM7 X.K):=by
 intro a b pins s σ H x y v u Q I d e h hs;obtain⟨p,xs,i,z,rfl,rfl,f,g,q⟩:=h;cases d;obtain⟨t,rfl⟩:=e;obtain⟨its,r,pl,o⟩:=I.tuple f;obtain⟨j,k,l,A,B,C⟩:=yH g;obtain⟨w,m,c⟩:=r.get l;have n:=r.length;have hn:=nY;have fin:EP X pins σ Q w s:=⟨z,H,I,c,q⟩;exact subscriptTail_builtinR (x:=w) pl.typeIs slot_tuple_getitem.lookup
  (getItem_tuple (j:=j) (Q:=λr s'=>r=w/\EP X pins σ Q r s') pl (by lia) (by lia) (by rw[a6a,← n];exact k) (by simpa using m) ⟨rfl,fin⟩) hs
def cQ6:IxR X dM8:=by
 intro a b pins s σ H x y v u Q I e f h hs;obtain⟨z,i,c,rfl,rfl,r,g,q⟩:=h;obtain⟨t,rfl⟩:=e;obtain⟨w,rfl⟩:=f;obtain⟨j,d,k,A,l,m⟩:=yH g;have n:z.cps.toList.length=z.length:=by simp[Str.length]
 rw[n]at d l m;have hn:=nY;exact tail_any (typeIs_str s z t) slot_str_getitem.lookup (getItem_str (c:=c) (by
  have o:decide (i < -(2 ^ 63:Int))=false:=a4D (by lia);have p:decide (i ≥ 2 ^ 63)=false:=a4D (by lia);rw[o,p,Bool.or_false]) (by rw[d];simpa using k) ⟨.str ⟨#[c]⟩,H,I.tok _,⟨_,rfl⟩,q⟩) hs
def aF7(its:List Value)(n j:Nat)(u:Value):Obj.mapSeq (·.setIfInBounds j u) {cls:=.type "list",data:=.seq its.toArray n}={cls:=.type "list",data:=.seq (its.set j u).toArray n}:=by
 simp[Obj.mapSeq]
theorem Inv.lst{pins:List (Addr×Obj)}{σ:St}{H:Hp}{s:Shared}{p:Addr}{xs:List V}(I:Inv X pins σ H s)(h:H p=some (.lst xs)) :
  ∃ (its:List Value) (n:Nat),bW xs its/\s.heap.get? p=some {cls:=.type "list",data:=.seq its.toArray n}/\xs.length<=sizeLine:=by
 obtain⟨z,its,n,r,e⟩:=I.hok p _ h;exact⟨its,n,r,e,z⟩
def Inv.lstUpd{pins:List (Addr×Obj)}{σ:St}{H:Hp}{s:Shared}{p:Addr}{xs ys:List V}{its its':List Value}{n a:Nat}{f:Obj->Obj}(I:Inv X pins σ H s)(h:H p=some (.lst xs))
  (d:s.heap.get? p=some {cls:=.type "list",data:=.seq its.toArray n}) (c:f {cls:=.type "list",data:=.seq its.toArray n}={cls:=.type "list",data:=.seq its'.toArray a}) (r:bW ys its') (hz:ys.length<=sizeLine) (t:Nat) :
  Inv X pins σ (upd H p (.lst ys)) {s with heap:=s.heap.update p f,toks:=t}:=by
 have e:(s.heap.update p f).get? p=some {cls:=.type "list",data:=.seq its'.toArray a}:=by
  rw[a5d f d (by rw[c]<;>rfl),c]
 refine I.write (x:=p) (e:=p) (by rw[h];trivial) (.inl rfl) (λb u hb q=>(a1d _ _ (a3d hb)).trans q) ⟨_,e⟩ ?_;exact⟨hz,its',a,r,e⟩
def cQ7:V->V->V->Hp->(Hp->Prop)->Prop:=λo i v H Q=>∃ p xs k j,o=.ref p/\i=.int k/\H p=some (.lst xs)/\ixN xs.length k=some j/\Q (upd H p (.lst (xs.set j v)))
def aA0:dC6 X cQ7:=by
 intro pins s σ H o i v ov y u Q I m ri w h;obtain⟨p,xs,k,j,rfl,rfl,e,hj,q⟩:=h;cases m;obtain⟨t,rfl⟩:=ri;obtain⟨its,n,r,b,x⟩:=I.lst e;obtain⟨a,z,f,g⟩:=aM8 hj;have c:=r.length;have hn:=nY;have l:Inv X pins σ (upd H p (.lst (xs.set j v))) {s with heap:=s.heap.update p (Obj.mapSeq (·.setIfInBounds j u))}:=
  I.lstUpd e b (aF7 its n j u) (r.set w j) (by rw[a8f];exact x) s.toks
 by_cases h0:0<=k
 ·have d:k.toNat=j:=by
   rw[seqIndex_of h0 g]at a;exact a4a a
  exact W.ki_setAt b h0 (by lia) (by rw[a6a,← c];exact g) (by rw[d];exact⟨_,l,q⟩)
 ·have d:(k+(its.toArray.size:Int)).toNat=j:=by
   rw[seqIndex_neg (by lia) f]at a;rw[a6a,← c];exact a4a a
  exact W.ki_setBack b (by lia) (by rw[a6a,← c];exact f) (by lia) (by rw[d];exact⟨_,l,q⟩)
def vV(lo hi:Option Int)(n:Nat):(sliceBounds lo hi none n).1=((HT.sIx n 0 lo:Nat):Int)/\(sliceBounds lo hi none n).2.1=((HT.sIx n n hi:Nat):Int)/\(sliceBounds lo hi none n).2.2=1:=by
 refine⟨?_,?_,rfl⟩
 ·cases lo with
  | none=>simp[sliceBounds,HT.sIx]
  | some i=>
    simp only[sliceBounds,HT.sIx,Option.getD_none,show(1:Int) > 0 by decide,if_true];by_cases h:i < 0;simp only[h,if_true]<;>lia;simp only[h,if_false]<;>lia
 ·cases hi with
  | none=>simp[sliceBounds,HT.sIx]
  | some i=>
    simp only[sliceBounds,HT.sIx,Option.getD_none,show(1:Int) > 0 by decide,if_true];by_cases h:i < 0;simp only[h,if_true]<;>lia;simp only[h,if_false]<;>lia
def tK(its:List Value)(lo hi:Option Int):slicePick its.toArray lo hi none=((its.drop (HT.sIx its.length 0 lo)).take (HT.sIx its.length its.length hi-HT.sIx its.length 0 lo)).toArray:=by
 obtain⟨a,b,c⟩:=vV lo hi its.toArray.size;unfold slicePick;rw[a,b,c];simp only[sliceRange_one,pick_run,List.size_toArray]<;>rfl
def dM9(K:W.Frag):V->Option Int->Option Int->Hp->VK->Prop:=λx lo hi H Q=>∃ a xs,x=.ref a/\SqL K H a xs/\∀ p,H p=none->Q (.ref p) (upd H p (.lst (yG xs lo hi)))
def cC2:SlR X (dM9 X.K):=by
 intro pins s σ H x v j k lo hi sl Q I e hs pl f h;obtain⟨a,xs,rfl,g,q⟩:=h;cases e;obtain⟨its,r,d,i⟩:=I.list g;have c:=r.length;refine⟨"list",_,slot_list_getitem.lookup,d.isList.typeIs,?_⟩;refine wpAny_getItem_list_slice d.isList hs pl f .none (by simp) ?_ (by rw[List.size_toArray]<;>lia);rw[tK,← c];refine⟨.ref s.heap.objs.size,_,I.laid (t':=s.toks) (o:=.lst (yG xs lo hi)) (λb ob q=>a2a _ q) (a8a _) ?_,rfl,q _ (I.hok.fresh (a8a _))⟩;exact⟨a5e (pI xs lo hi) i,_,0,(r.drop (HT.sIx xs.length 0 lo)).take (HT.sIx xs.length xs.length hi-HT.sIx xs.length 0 lo),a7a _ rfl⟩
def nZ:mS X (.builtin "len") (λxs H Q=>∃ p ys,xs=[.ref p]/\(SqL X.K H p ys\/SqT X.K H p ys)/\Q (.int ys.length) H):=by
 intro pins s σ H xs us Q I r h;obtain⟨p,ys,rfl,b,q⟩:=h;obtain⟨u,rfl,d⟩:=vQ r;cases d;have hn:=nY;rcases b with b | b;obtain⟨its,c,pl,e⟩:=I.list b;have a:=c.length;exact Calls.call_len_list pl.isList (by simp only[List.size_toArray]<;>lia) ⟨.int ys.length,H,I.tok _,⟨s.toks+1,by rw[a6a,a]⟩,q⟩;obtain⟨its,c,pl,e⟩:=I.tuple b;have a:=c.length;exact len_tuple pl (by simp only[List.size_toArray]<;>lia) ⟨.int ys.length,H,I.tok _,⟨s.toks+1,by rw[a6a,a]⟩,q⟩
def vW:mS X (.builtin "len") (λxs H Q=>∃ z,xs=[.str z]/\z.length<=sizeLine/\Q (.int z.length) H):=by
 intro pins s σ H xs us Q I r h;obtain⟨z,rfl,a,q⟩:=h;obtain⟨u,rfl,t,rfl⟩:=vQ r;have hn:=nY;exact len_str (by lia) ⟨.int z.length,H,I.tok _,⟨_,rfl⟩,q⟩
def lD:mS X (.type "tuple") (λxs H Q=>∃ p ys,xs=[.ref p]/\((SqL X.K H p ys/\∀ l,H l=none->Q (.ref l) (upd H l (.tup ys)))\/(SqT X.K H p ys/\Q (.ref p) H))):=by
 intro pins s σ H xs us Q I r h;obtain⟨p,ys,rfl,h⟩:=h;obtain⟨u,rfl,i⟩:=vQ r;cases i;rcases h with⟨a,q⟩ | ⟨a,q⟩
 ·obtain⟨its,c,pl,d⟩:=I.list a;have f:=c.length;refine call_tuple_list pl.isList (λh' kp=>?_) (by simp only[List.size_toArray]<;>lia);have g:Inv X pins σ H {s with heap:=h'}:=I.kept (t':=s.toks) kp;have j:Inv X pins σ (upd H h'.objs.size (.tup ys)) {s with heap:=h'.push {cls:=.type "tuple",data:=.seq its.toArray}}:=
   g.laid (t':=s.toks) (λb o e=>a2a _ e) (a8a _) (show cM X.prog X.w _ _ _ (.tup ys)from⟨d,its,c,IsTup.new _ _,⟨_,a7a _ rfl,rfl⟩⟩)
  exact⟨.ref h'.objs.size,_,j,rfl,q _ (g.hok.fresh (a8a _))⟩
 ·obtain⟨its,c,pl,d⟩:=I.tuple a;exact call_tuple_same pl ⟨.ref p,H,I,rfl,q⟩
def tyV(K:W.Frag)(T:String)(x:V)(H:Hp):Prop:=match x with
 | .str _=>T="str"
 | .int _=>T="int"
 | .ref p=>(T="list"/\∃ xs,SqL K H p xs)\/(T="tuple"/\∃ o,K.lookup p=some o/\o.cls=.type "tuple"/\o.dict=none) \/
   (T="dict"/\((∃ kvs,H p=some (.dK kvs))\/∃ kvs,H p=some (.dT kvs)))\/(T="set"/\∃ S n,H p=some (.set S n))
 | _=>False
def bM1{pins:List (Addr×Obj)}{σ:St}{H:Hp}{s:Shared}{T:String}{x:V}{v:Value}(I:Inv X pins σ H s)(r:cE x v)(ty:tyV X.K T x H) :
  s.TypeIs v T/\∀ a,v=.ref a->∃ ob,s.heap.get? a=some ob/\ob.dict=none:=by
 cases x with
 | str z=>
   obtain⟨t,rfl⟩:=r;cases (show T="str" from ty);exact⟨typeIs_str s z t,λ_ e=>nomatch e⟩
 | int i=>
   obtain⟨t,rfl⟩:=r;cases (show T="int" from ty);exact⟨typeIs_int s i t,λ_ e=>nomatch e⟩
 | ref p=>
   cases r;rcases ty with⟨rfl,xs,f⟩ | ⟨rfl,o,b,g,hd⟩ | ⟨rfl,b⟩ | ⟨rfl,S,n,b⟩;obtain⟨its,_,pl,_⟩:=I.list f;refine⟨pl.isList.typeIs,λa e=>?_⟩;cases e;obtain⟨o,n,e,c,hd,_⟩:=pl;exact⟨o,e,hd⟩;refine⟨⟨o,I.kIn p o b,g⟩,λa e=>?_⟩;cases e;exact⟨o,I.kIn _ o b,hd⟩
   ·have z:∃ o,s.heap.get? p=some o/\o.ExactDict:=by
     rcases b with⟨kvs,b⟩ | ⟨kvs,b⟩;obtain⟨_,_,_,_,o,_,_,e,ex,_⟩:=I.hok p _ b;exact⟨o,e,ex⟩;obtain⟨_,_,_,_,o,_,_,e,ex,_⟩:=I.hok p _ b;exact⟨o,e,ex⟩
    obtain⟨o,e,ex⟩:=z;refine⟨⟨o,e,ex.1⟩,λa d=>?_⟩;cases d;exact⟨o,e,ex.2.1⟩
   ·obtain⟨o,_,_,_,e,ex,_⟩:=I.hok p _ b;refine⟨⟨o,e,ex.1⟩,λa d=>?_⟩;cases d;exact⟨o,e,ex.2.1⟩
 | _=>exact False.elim ty
def dD9(K:W.Frag)(T:String)(r:V->List V->Hp->VK->Prop)(to:TE):TE:=λσ H Q=>to σ H λx a=>tyV K T x a/\r x [] a Q
def tBM(K:W.Frag)(T:String)(r:V->List V->Hp->VK->Prop)(to:TE)(t:TA):TE:=λσ H Q=>to σ H λx a=>tyV K T x a/\t σ a λxs b=>r x xs b Q
variable{o e:Expr}{es:List Expr}{to:TE}{t:TA}{name:Str}{apos cpos:Pos}{T id:String}{r:V->List V->Hp->VK->Prop}
def cQ8(pa:PlainAttrs T)(slot:Slot T name id)(c:typeOf (.builtin id)=pure (.type "method_descriptor"))(hm:MtR X id r)(f:PE X o to)
  (a:attributeBase o name X.env (eval o X.env)=eval o X.env:=by rfl) (b:(apos.endLine==cpos.line)=true:=by rfl):PE X (.Call (.Attribute o name apos) [] [] cpos) (dD9 X.K T r to):=by
 intro pins s σ H Q I h;refine wpAny_Call_method0_late a b (thn (f pins s σ H _ I h) λv s1 Z0=>?_);obtain⟨x,g,d,e,ty,i⟩:=Z0;obtain⟨j,k⟩:=bM1 d e ty;exact⟨T,id,pa,slot,c,j,k,Calls.callWith_builtin rfl (PySem.evalArgs_none (hm pins s1 σ g x [] v [] Q d e .nil i))⟩
def dE0(pa:PlainAttrs T)(slot:Slot T name id)(f:typeOf (.builtin id)=pure (.type "method_descriptor"))(hm:MtR X id r)(k:PE X o to)(ha:PA X (e::es) t)
  (b:attributeBase o name X.env (eval o X.env)=eval o X.env:=by rfl)
  (d:((backTo cpos (starEach (e::es) X.env)).all (λx=>!x.1)&&(backToKw cpos (keywordEach [] X.env)).all (λx=>x.1.isSome)
   && decide ((e::es).length+([]:List Keyword).length+(if([]:List Keyword).isEmpty then 0 else 1) < 30))=true:=by rfl)
  (c:(apos.endLine==cpos.line)=true:=by rfl) (hs:starEach (e::es) X.env=(false,eval e X.env)::starEach es X.env:=by rfl) (a:(backTo cpos (starEach es X.env)).any (·.1)=false:=by rfl) :
  PE X (.Call (.Attribute o name apos) (e::es) [] cpos) (tBM X.K T r to t):=by
 intro pins s σ H Q I h;refine wpAny_Call_method_late b d c rfl (thn (k pins s σ H _ I h) λv s1 Z0=>?_);obtain⟨x,l,g,i,ty,m⟩:=Z0;obtain⟨n,p⟩:=bM1 g i ty;refine⟨T,id,pa,slot,f,n,p,?_⟩;have j:=ha cpos pins s1 σ l _ g m;rw[hs]at j ⊢;refine Calls.callWith_builtin (by show(false||(backTo cpos (starEach es X.env)).any (·.1))=false;rw[a]<;>rfl) (Calls.evalArgs_plain ?_);exact thn j λus s2 ⟨vs,q,u,w,y⟩=>hm pins s2 σ q x vs v us Q u i w y
end
def MtM(X:Cx)(id:String)(r:V->List V->Hp->VK->Prop):Prop:=
 ∀ (pins:List (Addr×Obj)) (s:Shared) (σ:St) (H:Hp) (x:V) (xs:List V) (v:Value) (us:List Value) (Q:VK),Inv X pins σ H s->cE x v->bW xs us->r x xs H Q ->
   wpAny (model X.prog X.w) X.A (call (.builtin id) (v::us)) (EP X pins σ Q) X.xe s
def bW.one:∀ {x:V} {us:List Value},bW [x] us->∃ u,us=[u]/\cE x u
 | _,_,.cons r .nil=>⟨_,rfl,r⟩
def bW.two:∀ {x y:V} {us:List Value},bW [x,y] us->∃ u v,us=[u,v]/\cE x u/\cE y v
 | _,_,_,.cons r (.cons q .nil)=>⟨_,_,rfl,r,q⟩
def bW.zero:∀ {us:List Value},bW [] us->us=[]
 | _,.nil=>rfl
theorem bW.dropLast{xs:List V}{us:List Value}(h:bW xs us):bW xs.dropLast us.dropLast:=by
 induction h with
 | nil=>exact .nil
 | cons r t a=>
   cases t with
   | nil=>exact .nil
   | cons q b=>exact .cons r a
theorem bW.reverse{xs:List V}{us:List Value}(h:bW xs us):bW xs.reverse us.reverse:=by
 induction h with
 | nil=>exact .nil
 | cons r t a=>rw[List.reverse_cons,List.reverse_cons];exact bW.append a (.cons r .nil)
theorem bW.rep{xs:List V}{us:List Value}(h:bW xs us):∀ k:Nat,bW (List.replicate k xs).flatten (List.replicate k us).flatten
 | 0=>.nil
 | k+1=>by
   rw[List.replicate_succ,List.replicate_succ,List.flatten_cons,List.flatten_cons];exact bW.append h (bW.rep h k)
def aF8{c:Type}(l:List c):l.eraseIdx (l.length-1)=l.dropLast:=by
 induction l with
 | nil=>rfl
 | cons a r d=>
   cases r with
   | nil=>rfl
   | cons b r=>
     have e:(a::b::r).length-1=((b::r).length-1)+1:=by
      have f:(a::b::r).length=r.length+2:=rfl;have g:(b::r).length=r.length+1:=rfl;lia
     rw[e,List.eraseIdx_cons_succ,d]
     all_goals rfl
theorem vX(its:List Value):∀ (k:Nat) (acc:List Value),
  List.foldl (λa b=>a++b) acc.toArray (List.replicate k its.toArray)=(acc++(List.replicate k its).flatten).toArray
 | 0,acc=>by simp
 | k+1,acc=>by
   have e:acc.toArray++its.toArray=(acc++its).toArray:=by simp
   have c:(acc++its)++(List.replicate k its).flatten=acc++(List.replicate (k+1) its).flatten:=by
    rw[List.replicate_succ,List.flatten_cons,List.append_assoc]
   rw[← c,← vX its k (acc++its),← e,List.replicate_succ,List.foldl_cons]
section
variable{X:Cx}{pins:List (Addr×Obj)}{σ:St}{H:Hp}{s:Shared}{l b:Addr}{xs ys zs:List V}
def Inv.lset{its its':List Value}{n:Nat}{f:Array Value->Array Value}{t':Nat}(I:Inv X pins σ H s)(a:H l=some (.lst xs))
  (e:s.heap.get? l=some {cls:=.type "list",data:=.seq its.toArray n}) (b:f its.toArray=its'.toArray) (c:bW ys its') (hz:ys.length<=sizeLine) :
  Inv X pins σ (upd H l (.lst ys)) {s with heap:=s.heap.update l (Obj.mapSeq f),toks:=t'}:=by
 have q:=PySem.IsL.update e f;rw[b]at q;refine I.write (x:=l) (e:=l) (by rw[a];exact trivial) (.inl rfl) (λg u hb d=>(a1d s.heap (Obj.mapSeq f) (a3d hb)).trans d) ⟨_,q⟩ ?_;exact⟨hz,its',_,c,q⟩
def Inv.lnew{its:List Value}{t':Nat}(I:Inv X pins σ H s)(a:bW ys its)(hz:ys.length<=sizeLine) :
  Inv X pins σ (upd H s.heap.objs.size (.lst ys)) {s with heap:=s.heap.push {cls:=.type "list",data:=.seq its.toArray},toks:=t'}:=
 I.laid (λ_ _ q=>a2a _ q) (a8a _) ⟨hz,its,0,a,a7a _ rfl⟩
theorem Inv.fresh(I:Inv X pins σ H s):H s.heap.objs.size=none:=I.hok.fresh (a8a _)
def Inv.lstM(I:Inv X pins σ H s)(a:H l=some (.lst xs)):xs.length<=sizeLine/\∃ (its:List Value) (n:Nat),bW xs its/\xs.length=its.length/\s.heap.get? l=some {cls:=.type "list",data:=.seq its.toArray n}:=by
 obtain⟨z,its,n,r,e⟩:=I.hok l _ a;exact⟨z,its,n,r,r.length,e⟩
def tL{n:Nat}(h:n<=sizeLine):Builtin.List.listTooLong n=false:=by
 unfold Builtin.List.listTooLong;exact a4D (by lia)
end
section
variable{X:Cx}
def mT:V->List V->Hp->VK->Prop:=λx vs H Q=>∃ l xs y,x=.ref l/\vs=[y]/\H l=some (.lst xs)/\xs.length < sizeLine/\Q .non (upd H l (.lst (xs++[y])))
def iY:MtM X "list.append" mT:=by
 intro pins s σ H x vs v us Q I b c h;obtain⟨l,xs,y,rfl,rfl,a,f,q⟩:=h;cases b;obtain⟨u,rfl,d⟩:=c.one;obtain⟨z,its,n,r,g,e⟩:=I.lstM a;refine a5o F.slot_list_append ⟨_,e,rfl⟩ F.entry_list_append (F.args_list_append_2 _ _) (PySem.list_append l its.toArray n u (by rw[a6a];lia)) ⟨e,?_⟩;refine⟨.non,_,I.lset (its':=its++[u]) a e (by simp) (r.append (.cons d .nil)) ?_,rfl,q⟩;rw[a0c,List.length_singleton];lia
def cC3:V->List V->Hp->VK->Prop:=λx vs H Q=>∃ l b xs zs,x=.ref l/\vs=[.ref b]/\H l=some (.lst xs)/\H b=some (.lst zs)/\xs.length+zs.length<=sizeLine/\Q .non (upd H l (.lst (xs++zs)))
def cQ9:MtM X "list.extend" cC3:=by
 intro pins s σ H x vs v us Q I g i h;obtain⟨l,b,xs,t,rfl,rfl,f,j,w,q⟩:=h;cases g;obtain⟨u,rfl,k⟩:=i.one;cases k;obtain⟨z,its,n,r,y,e⟩:=I.lstM f;obtain⟨A,a,n2,m,o,p⟩:=I.lstM j;have d:its.toArray.size+a.toArray.size<=sizeLine:=by rw[a6a,a6a];lia
 have c:¬ (!its.toArray.isEmpty&&Builtin.List.listTooLong (its.toArray.size+a.toArray.size))=true:=by
  rw[tL d,Bool.and_false];exact a9c
 refine a5o F.slot_list_extend ⟨_,e,rfl⟩ F.entry_list_extend (F.args_list_extend_2 _ _)
  (AutoSeq1.list_extend_list_list_0 l its.toArray n b a.toArray n2 c (by rw[a6a];lia) (by lia)) ⟨e,p,?_⟩
 refine⟨.non,_,I.lset (its':=its++a) f e (by simp) (r.append m) ?_,rfl,q⟩;rw[a0c];lia
def dI5:V->List V->Hp->VK->Prop:=λx vs H Q=>∃ l xs y,x=.ref l/\vs=[]/\H l=some (.lst xs)/\xs[xs.length-1]? = some y/\Q y (upd H l (.lst xs.dropLast))
def cR0:MtM X "list.pop" dI5:=by
 intro pins s σ H x vs v us Q I d f h;obtain⟨l,xs,y,rfl,rfl,c,g,q⟩:=h;cases d;have a:=f.zero;subst a;obtain⟨z,its,n,r,i,e⟩:=I.lstM c;obtain⟨u,j,k⟩:=r.get g;have b:its.toArray[its.toArray.size-1]? = some u:=by
  show its.toArray[its.length-1]? = some u;rw[← a5b,← i];exact j
 refine a5o F.slot_list_pop ⟨_,e,rfl⟩ F.entry_list_pop (F.args_list_pop_1 _) (MeetsSeq.list_pop_last l its.toArray n u b (by rw[a6a];lia)) ⟨e,?_⟩;refine⟨y,_,I.lset (its':=its.dropLast) c e ?_ r.dropLast ?_,k,q⟩;show its.toArray.eraseIdxIfInBounds (its.toArray.size-1)=its.dropLast.toArray;rw[a6a,List.eraseIdxIfInBounds_toArray,aF8];rw[List.length_dropLast];lia
def dN0:R2:=λx y H Q=>∃ l b xs zs,x=.ref l/\y=.ref b/\H l=some (.lst xs)/\H b=some (.lst zs)/\xs.length+zs.length<=sizeLine/\∀ p,H p=none->Q (.ref p) (upd H p (.lst (xs++zs)))
def cR1:OpR X (binaryOp .Add) dN0:=by
 intro pins s σ H x y v u Q I c d h;obtain⟨l,b,xs,o,rfl,rfl,f,g,p,q⟩:=h;cases c;cases d;obtain⟨z,its,n,r,t,e⟩:=I.lstM f;obtain⟨w,a,n2,i,j,k⟩:=I.lstM g;refine PySem.P.add_list e k ?_ (by rw[a6a,a6a];lia);have m:its.toArray++a.toArray=(its++a).toArray:=by simp
 rw[m];exact⟨.ref _,_,I.lnew (t':=s.toks) (r.append i) (by rw[a0c];lia),rfl,q _ I.fresh⟩
def cC4{a:Type}(xs:List a)(k:Nat):(List.replicate k xs).flatten.length=k*xs.length:=by
 induction k with
 | zero=>simp
 | succ k b=>rw[List.replicate_succ,List.flatten_cons,a0c,b,Nat.succ_mul,Nat.add_comm]
end
section
variable{prog:Program}{w:World}{A:Around}{E:Value->Shared->Prop}{s:Shared}
set_option maxRecDepth 100000 in
end
section
variable{X:Cx}
end
end L2
namespace Att
open PySem PySem.W PySem.Calls PyProof.Rows
def pJ{P:Params}{h:Heap}:∀ (ns:List Int) (vs:List Value),WellAll P h vs (ns.map WData.int)->IntsAre vs ns:=by
 intro ns
 induction ns with
 | nil=>
   intro vs w;rw[List.map_nil]at w;cases w;exact .nil
 | cons n ns c=>
   intro vs w;rw[a8d]at w;cases w with
   | cons a b=>
     cases a;exact .cons _ _ (c _ b)
def aN0{l:OpenLaw}{n:Nat}(hn:l.most=some n){P:Params}{h:Heap}{args:List WData}{vals:List Value}
  (b:l.row.toRowW.claim.pre args=true) (i:WellAll P h vals args) :
  ∃ a vs ns,vals=[Value.ref a]/\args=[WData.list (ns.map WData.int)]/\h.get? a=some {cls:=.type "list",data:=.seq vs.toArray}/\IntsAre vs ns/\ns.length<=n:=by
 have j:WShape.hasAll [] args [.list .int]=true:=(pre_splitW b).1;have k:l.pre.holds [] {args:=args}=true:=(pre_splitW b).2;obtain⟨d,r,rfl,m,o⟩:=hasAllW_cons j;obtain rfl:=hasAllW_nil o;obtain⟨xs,rfl,p⟩:=hasW_list m;obtain⟨ns,rfl⟩:=items_int p;have c:ns.length<=n:=by
  unfold OpenLaw.pre at k;have f:(WTm.not (.lt (.lit (.int (n:Int))) (.len (.arg 0)))).holds [] {args:=[.list (ns.map .int)]}=true:=by
   have f:=(holds_andW k).1;rw[hn]at f;exact f
  have g:=condW_of f (w_not (w_lt w_lit (w_len_list (w_arg rfl))));rw[a3e]at g;refine a2j λq=>?_;have s:(n:Int) < ((ns.length:Nat):Int):=by lia
  first
   | (rw[a4W s]at g;exact absurd g (by decide))
   | (simp at g;lia)
 cases i with
 | cons t u=>
   cases u;cases t with
   | list v e=>exact⟨_,_,ns,rfl,rfl,v,pJ ns _ e,c⟩
def aN1(l:OpenLaw)(args:List WData):l.row.toRowW.claim.post args (.bool true) args=true:=
 postW_of (r:=l.row.toRowW) (X:=(true==true))
  (show WShape.has [] (.bool true) .bool=true by first | rfl | decide | simp[WShape.has,WShape.arms,WShape.armsAll])
  (show(WTm.eq .res (.lit (.bool true))).value [] {args:=args,res:=some (.bool true),after:=args}=some (.bool (true==true))from w_eq_bool (w_res rfl) w_lit) rfl
def attach_call{l:OpenLaw}{n:Nat}{q:Program}{c:List Str}{u:(Str->Option Value)->Heap->Prop}{v:World->Heap->Prop}{d:DefRec}
  (hn:l.most=some n) (m:d.params.defaults=[])
  (call:∀ (w:World) (s₀ b:Shared) (mg mb:Str->Option Value) (g:Addr) (o:Obj) (pm k doc:Value) (a:Addr) (vs:List Value) (ns:List Int),
   Ground q c [] u w s₀ mg mb b.heap->v w b.heap ->
   b.heap.get? g=some o->o.data=.func (docDef d.name d.params d.body d.scope pm k doc)->b.heap.CodeRec k d.name->mg d.name=some (.ref g) ->
   b.heap.get? a=some {cls:=.type "list",data:=.seq vs.toArray}->IntsAre vs ns->ns.length<=n->b.gens=#[] ->
   codeAny (model l.prog w) callerA (.call (.ref g) ⟨[.ref a],[]⟩) (λr s'=>r=.ok (.ret (.bool true))/\OldK b.heap s'.heap/\s'.os=b.os/\AllBare s'.gens) b) :
  WalkO q c u v l.row.toRowW d [] (λf vs=>PySem.call f vs):=by
 intro w s₀ b mg mb G Y g o pm k doc y kV z hd p hD s A args vals as h x B t C;obtain rfl:y=.none:=Dflts.none hD m;obtain rfl:kV=.none:=Dflts.noKw hD;obtain⟨a,vs,ns,rfl,rfl,i,e,j⟩:=aN0 hn h t;refine enter_call (a5s (call w s₀ b mg mb g o pm k doc a vs ns G Y z (fd_plain hd) p s i e j A) λr s' D=>?_);obtain⟨rfl,E,F,H⟩:=D;exact⟨.inl ⟨.bool true,.bool true,[],rfl,λ_=>rfl,.bool true,aN1 l _,λ_=>⟨List.Pairwise.nil,λ_ hm=>(nomatch hm)⟩⟩,E,F,H⟩
section
variable{prog:Program}{w:World}{A:Around}{E:Value->Shared->Prop}{s:Shared}{K:Frag}
end
end Att
namespace L2
open PySem PySem.Spec PyProof.Rows
theorem vY:∀ {vs:List Value} {ns:List Int},IntsAre vs ns->bW (ns.map V.int) vs
 | _,_,.nil=>.nil
 | _,_,.cons n t h=>.cons ⟨t,rfl⟩ (vY h)
def cR2(H:Hp):Prop:=∀ b,H b=none\/∃ o xs,H b=some (.frz o (.lst xs))
def bB5{P:Program}{w:World}{K:W.Frag}{mg mb:Str->Option Value}{CX:CXT}{k:Nat}{G a:Addr}{fd:FuncData}{x:Str}{sp:Sp}{c:Shared}{vs:List Value}{ns:List Int}
  (R:K.In c.heap) (t:c.heap.Ns mainGlobals mg) (hb:c.heap.Ns builtinsNs mb) (I:∀ x:Str,x≠"__name__"->mb x=bootBuiltins x) (y:c.heap.NoLimit) (Z:c.gens=#[])
  (ha:c.heap.get? a=some {cls:=.type "list",data:=.seq vs.toArray}) (hi:IntsAre vs ns) (S:ns.length<=sizeLine) (hr:Room k callerA)
  (F:∀ base:Heap,K.In base->base.Ns mainGlobals mg->FnOk P w K mg base CX k G fd [x] sp) (l:∀ (s:Shared) (u:Value),BindsTo s fd ⟨[u],[]⟩ [(x,u)])
  (J:∀ H:Hp,cR2 H->SqL K H a (ns.map V.int)->sp [.ref a] H (λv _=>v=.bl true) λ_ _ _=>False)
  (L:∀ H e s',CX [] H c (λ_ _ _=>False) e s'->False) :
  codeAny (model P w) callerA (.call (.ref G) ⟨[.ref a],[]⟩) (λr s'=>r=.ok (.ret (.bool true))/\OldK c.heap s'.heap/\s'.os=c.os/\AllBare s'.gens) c:=by
 have T:=vY hi;have A:=hi.length
 -- from an abstract heap in M nothing but B g may be tracked
 have j:∀ H:Hp,cR2 H->SqL K H a (ns.map V.int)->HOk P w H c.heap->(∀ b,H b≠none->b=a)->(H a≠none->K.lookup a=none) ->
   codeAny (model P w) callerA (.call (.ref G) ⟨[.ref a],[]⟩) (λr s'=>r=.ok (.ret (.bool true))/\OldK c.heap s'.heap/\s'.os=c.os/\AllBare s'.gens) c:=by
  intro H U hS hok X hK;have f:∀ {b:Addr} {o:Obj},c.heap.get? b=some o->H b=none->(bA3 c.heap H).get? b=some o:=λe n=>bA4 e n;have N:∀ {b:Addr} {o:Obj} {es:Array DictEntry} {ep:Nat},c.heap.get? b=some o->o.data=.dict es ep->H b=none:=λ{b o es ep} e d=>by
   cases q:H b with
   | none=>rfl
   | some u=>
     have O:b=a:=X b (by rw[q];simp);subst O;rw[ha]at e;cases e;have d':Data.seq vs.toArray _=Data.dict es ep:=d;cases d'
  have i:∀ {b:Addr} {m:Str->Option Value},c.heap.Ns b m->(bA3 c.heap H).Ns b m:=λ{b m} ⟨o,es,ep,e,d,r⟩=>⟨o,es,ep,f e (N e d),d,r⟩;have C:K.In (bA3 c.heap H):=λb o e=>f (R b o e) (by
   cases q:H b with
   | none=>rfl
   | some u=>
     have O:b=a:=X b (by rw[q];simp);subst O;rw[hK (by rw[q];simp)]at e;cases e)
  have hM:Mod K mg (bA3 c.heap H):=⟨C,i t,⟨mb,i hb,I⟩,let ⟨mc,h1,h2⟩:=y;⟨mc,i h1,h2⟩⟩;have e0:Env0 P w K mg (bA3 c.heap H) callerA [] c H:=⟨rfl,hM,λb o e=>cA7 e,Nat.le_of_eq (aL0 _ _),trivial,λb hb=>absurd (show b∈([]:List Addr)from hb) (by simp),hok,.of_eq Z⟩;refine a5s ((F _ C (i t)).run callerA [] c H ⟨[.ref a],[]⟩ [.ref a] [.ref a] _ _ hr e0 (l c (.ref a)) (.cons rfl .nil) (J H U hS)) λr s' h=>?_;cases r with
  | error e=>exact(L H e s' h).elim
  | ok fl=>
    cases fl with
    | next=>exact False.elim h
    | brk=>exact False.elim h
    | cont=>exact False.elim h
    | ret u=>
      obtain⟨v,H',os,bare,un,D,r',q⟩:=h;have q':v=.bl true:=q;subst q';obtain rfl:u=Value.bool true:=r';refine⟨rfl,OldK.of_keep λb o e=>?_,os,bare⟩;cases q:H b with
      | none=>exact un.keep b o e q (by intro z;exact absurd (show b∈([]:List Addr)from z) (by simp)) (by simp)
      | some u=>
        rcases U b with z | ⟨ob,xs,z⟩;rw[q]at z;cases z;have z2:=un.frzs b ob _ z;obtain⟨Y,_⟩:=hok b _ z;obtain⟨e2,_⟩:=D b _ z2;rw[e]at Y;cases Y;exact e2
 cases Q:K.lookup a with
 | some o=>
   -- B g is one of B p own objects
   have e:=R a o Q;rw[ha]at e;cases e;refine j (λ_=>none) (λ_=>.inl rfl) (.inr ⟨_,vs.toArray,_,Q,rfl,rfl,rfl,by rw[a6a,A];exact S,by simpa using T⟩) (λb u z=>by have E:(none:Option HO)=some u:=z;cases E) (λb z=>absurd rfl z) λz=>absurd rfl z
 | none=>
   refine j (λb=>if b=a then some (.frz {cls:=.type "list",data:=.seq vs.toArray} (.lst (ns.map V.int)))else none) (λb=>?_) (.inl (.inr ⟨{cls:=.type "list",data:=.seq vs.toArray},a4A rfl⟩)) (λb u z=>?_) (λb z=>?_) λ_=>Q;by_cases hb:b=a;exact .inr ⟨_,_,a4A hb⟩;exact .inl (a4z hb);by_cases hb:b=a;have E:=(a4A hb).symm.trans z;cases E;subst hb;exact⟨ha,by rw[a3e];exact S,vs,_,T,ha⟩;have E:=(a4z hb).symm.trans z;cases E;by_cases hb:b=a;exact hb;exact absurd (a4z hb) z
def cC5{l:W.OpenLaw}{n k:Nat}{q:Program}{i:List Str}{E:(Str->Option Value)->Heap->Prop}{C:World->Heap->Prop}{d:DefRec}{K:Params->W.Frag}{CX:World->CXT}{sp:World->Sp}{x:Str}
  (hn:l.most=some n) (t:n<=sizeLine) (y:d.params.defaults=[]) (I:Room k callerA)
  (J:∀ (w:World) (h:Heap),C w h->(K w.params).In h)
  (F:∀ (w:World) (mg:Str->Option Value) (r:Addr) (h:Heap),(K w.params).In h->h.Ns mainGlobals mg->mg d.name=some (.ref r) ->
   ∃ fd:FuncData,(∀ (s:Shared) (u:Value),BindsTo s fd ⟨[u],[]⟩ [(x,u)]) /\
     ∀ base:Heap,(K w.params).In base->base.Ns mainGlobals mg->FnOk l.prog w (K w.params) mg base (CX w) k r fd [x] (sp w))
  (z:∀ (w:World) (H:Hp) (a:Addr) (ns:List Int),ns.length<=n->cR2 H->SqL (K w.params) H a (ns.map V.int)->sp w [.ref a] H (λv _=>v=.bl true) λ_ _ _=>False)
  (A:∀ (w:World) (H:Hp) (s:Shared) (e:Value) (s':Shared),CX w [] H s (λ_ _ _=>False) e s'->False) :
  W.WalkO q i E C l.row.toRowW d [] (λf vs=>PySem.call f vs):=by
 refine Att.attach_call hn y λw s₀ m mg mb r o pm Q doc a vs ns G Y R hd L B p j c M=>?_;have D:=J w _ Y;obtain⟨fd,hb,N⟩:=F w mg r _ D G.T.g B;exact bB5 D G.T.g G.T.b G.T.builtins G.T.nolimit M p j (a5e c t) I N hb (λH O P=>z w H a ns c O P) λH e s'=>A w H m e s'
noncomputable def yI(s:Stmt):Arguments:=match s with
 | .FunctionDef _ a _ _ _ _ _ _ _ _=>a
 | _=>{posonlyargs:=[],args:=[],vararg:=none,kwonlyargs:=[],kw_defaults:=[],kwarg:=none,defaults:=[]}
noncomputable def mU(s:Stmt):List Stmt:=match s with
 | .FunctionDef _ _ b _ _ _ _ _ _ _=>b
 | _=>[]
noncomputable def aJ(s:Stmt):Scope:=match s with
 | .FunctionDef _ _ _ _ _ _ sc _ _ _=>sc
 | _=>{kind:=.function,names:=[],isGenerator:=false,isCoroutine:=false}
abbrev CX0:CXT:=λ_ _ _ _ _ _=>False
abbrev E0:XK:=λ_ _ _=>False
def bK{X:Cx}:aM5 CX0 X E0:=λ_ _ _ _ _ _ _ h=>h.elim
structure Fun(K:W.Frag)(x qual:Str)(st:Stmt)(f:Addr)(fd:FuncData):Prop where
 ex:∃ (oc:Value) (od:Option Addr) (kV doc pm:Value) (an:Option Addr) (cdv ct:Value) (osl:Array (Option Value)),
  fd=W.fnOf x qual (yI st) (mU st) (aJ st) .none kV doc pm an cdv ct/\K.lookup f=some ⟨oc,od,.func fd,osl⟩/\W.codeIn K cdv qual=true
 kp:W.keepIn K (.ref f)=true
section
variable{P:Program}{w:World}{K:W.Frag}{mg:Str->Option Value}{base:Heap}
theorem Fun.ok{x qual:Str}{st:Stmt}{f:Addr}{fd:FuncData}{N ps:List Str}{k:Nat}{sp:Sp}(F:Fun K x qual st f fd)(S:FnScope N ps (aJ st))(len:∀ vs H Q E,sp vs H Q E->vs.length=ps.length)
  (a:∀ (cdv:Value) (A:Around) (outer:List Env) (s:Shared) (H:Hp) (vs:List V) (Q:VK) (E:XK),Room k (A.deeper (envOfC qual (aJ st) s.heap.objs.size f cdv))->sp vs H Q E ->
   ∃ t,PSs (bM0 CX0 P w K mg base N qual (aJ st) f cdv A outer s H E).nox (mU st) t/\t {nx:=λ_ H'=>Q .non H',rt:=Q} (iT N vs) H):FnOk P w K mg base CX0 (k+1) f fd ps sp:=by
 obtain⟨oc,od,kV,doc,pm,an,cdv,ct,osl,rfl,lk,b⟩:=F.ex;refine dD5 lk b S len λA outer s H vs Q E d c=>?_;obtain⟨t,h,q⟩:=a cdv A outer s H vs Q E d c;exact⟨t,h.nox,q⟩
def Fun.binds{x qual:Str}{st:Stmt}{f:Addr}{fd:FuncData}{ps:List Str}(F:Fun K x qual st f fd)
  (h:∀ (kV doc pm:Value) (an:Option Addr) (cdv ct:Value) (us:List Value),us.length=ps.length->bindArgs (W.fnOf x qual (yI st) (mU st) (aJ st) .none kV doc pm an cdv ct) ⟨us,[]⟩=pure (ps.zip us)):cJ K fd ps []:=by
 obtain⟨oc,od,kV,doc,pm,an,cdv,ct,osl,rfl,lk,a⟩:=F.ex;exact .all (h kV doc pm an cdv ct)
end
def cC6{A:Around}{k:Nat}(a:Room k A):A.units+1 < cLine:=Nat.lt_of_le_of_lt (Nat.add_le_add_left (by decide:1<=64) _) a.units
section
variable{X:Cx}
def pv(i:Nat){x:Str}{pos:Pos}(b:X.N[i]? = some x:=by rfl)(c:Vis X.env.scope x:=by first | exact Or.inl rfl | exact Or.inr (Or.inl rfl) | exact Or.inr (Or.inr rfl))(hd:(x==("__debug__":Str))=false:=by decide)
  (a:(x==("__classdict__":Str))=false:=by decide):PE X (.Name x pos) (zV i):=cN5 b c hd a
end
def tM(H H':Hp):Prop:=∀ b o,H b=some o->H' b=some o
def tM.refl(H:Hp):tM H H:=λ_ _ h=>h
def aF9{scope:Scope}{env:Env}(h:∀ y∈scope.names,y.2=.free->∃ c,env.cells.lookup y.1=some c) :
  ∃ cl:List (Str×Addr),closureFor scope env=pure cl/\(∀ x c,cl.lookup x=some c->env.cells.lookup x=some c)/\∀ y∈scope.names,y.2=.free->∃ c,cl.lookup y.1=some c:=by
 have p:∀ (l:List (Str×NameKind)) (acc:List (Str×Addr)),(∀ y∈l,y.2=.free->∃ c,env.cells.lookup y.1=some c)->(∀ x c,acc.lookup x=some c->env.cells.lookup x=some c) ->
   ∃ cl:List (Str×Addr),((forIn l acc λ(x:Str×NameKind) (r:List (Str×Addr))=>if(x.2==NameKind.free)=true then do let a ← cellOf env x.1;pure (ForInStep.yield ((x.1,a)::r))else pure (ForInStep.yield r)):Sem (List (Str×Addr)))=pure cl /\
     (∀ x c,cl.lookup x=some c->env.cells.lookup x=some c)/\(∀ x c,acc.lookup x=some c->∃ d,cl.lookup x=some d)/\∀ y∈l,y.2=.free->∃ c,cl.lookup y.1=some c:=by
  intro l
  induction l with
  | nil=>intro acc _ ha;exact⟨acc,rfl,ha,λx c e=>⟨c,e⟩,λ_ b=>nomatch b⟩
  | cons y r t=>
    intro acc q ha;obtain⟨n,k⟩:=y;rw[List.forIn_cons];by_cases i:(k==NameKind.free)=true
    ·have s:k=.free:=by simpa using i
     obtain⟨c,u⟩:=q (n,k) a9a s;have v:cellOf env n=pure c:=by unfold cellOf;rw[u]
     obtain⟨cl,e,f,j,g⟩:=t ((n,c)::acc) (λy b=>q y (a0b _ b)) (λx d e=>by
      rw[a4i]at e;split at e
      ·rename_i m;have:x=n:=by simpa using m
       cases e;rw[this];exact u
      ·exact ha x d e)
     have has:∃ d,cl.lookup n=some d:=j n c (by rw[a4i];simp);refine⟨cl,?_,f,λx d e=>?_,λy b o=>?_⟩;simp only[i,if_true,v];exact e
     ·by_cases m:x=n;subst m;exact has;exact j x d (by rw[a4i];have:(x==n)=false:=by simpa using m
                                                       rw[this];exact e)
     ·rcases a2b.mp b with rfl | b;exact has;exact g y b o
    ·obtain⟨cl,e,f,j,g⟩:=t acc (λy b=>q y (a0b _ b)) ha;refine⟨cl,?_,f,j,λy b o=>?_⟩;simp only[i];exact e;rcases a2b.mp b with rfl | b;exact absurd (by simpa using o) i;exact g y b o
 obtain⟨cl,e,f,_,g⟩:=p scope.names [] h (λx c e=>nomatch e);refine⟨cl,?_,f,g⟩;unfold closureFor;simp only[bind_pure];exact e
def iZ{a:Type}{x n:Str}{v:a}{r:List (Str×a)}(h:(x==n)=true):List.lookup x ((n,v)::r)=some v:=by rw[a4i,h]
def eF{a:Type}{x n:Str}{v:a}{r:List (Str×a)}(h:(x==n)=false):List.lookup x ((n,v)::r)=List.lookup x r:=by rw[a4i,h]
def bM2{scope:Scope}{env:Env}{x:Str}(h:(relabel scope env).names.lookup x=some .cell\/(relabel scope env).names.lookup x=some .free)(d:∀ y∈scope.names,y.2≠.cell) :
  (x,NameKind.free)∈scope.names:=by
 unfold relabel at h;dsimp only at h;revert h d;generalize scope.names=l;intro h d
 induction l with
 | nil=>rcases h with h | h<;>cases h
 | cons y r i=>
   obtain⟨n,k⟩:=y;rw[a8d]at h;dsimp only at h;have c:=λh=>i h λy j=>d y (a0b _ j);have f:k≠.cell:=d (n,k) a9a;by_cases e:(k==NameKind.free&&env.scope.kind==.function&&env.kindOf n==some .cell)=true
   ·have g:k=.free:=by
     simp only[Bool.and_eq_true,beq_iff_eq]at e;exact e.1.1
    rw[a4A e]at h;cases b:x==n with
    | true=>
      have a:x=n:=by simpa using b
      subst a g;exact a9a
    | false=>
      rw[eF b]at h;exact a0b _ (c h)
   ·rw[a4z e]at h;cases b:x==n with
    | true=>
      have a:x=n:=by simpa using b
      rw[iZ b]at h;subst a;rcases h with h | h;exact absurd (a4a h) f
      ·rw[a4a h];exact a9a
    | false=>
      rw[eF b]at h;exact a0b _ (c h)
def lE{scope:Scope}{env:Env}{x:Str}(h:(relabel scope env).names.lookup x=some .cell\/(relabel scope env).names.lookup x=some .free) :
  (x,NameKind.free)∈scope.names\/scope.names.lookup x=some .cell:=by
 unfold relabel at h;dsimp only at h;revert h;generalize scope.names=l;intro h
 induction l with
 | nil=>rcases h with h | h<;>cases h
 | cons y r e=>
   obtain⟨n,k⟩:=y;rw[a8d]at h;dsimp only at h;by_cases c:(k==NameKind.free&&env.scope.kind==.function&&env.kindOf n==some .cell)=true
   ·have d:k=.free:=by
     simp only[Bool.and_eq_true,beq_iff_eq]at c;exact c.1.1
    rw[a4A c]at h;cases a:x==n with
    | true=>
      have b:x=n:=by simpa using a
      subst b d;exact .inl a9a
    | false=>
      rw[eF a]at h;rcases e h with z | z;exact .inl (a0b _ z)
      ·exact .inr (by rw[eF a];exact z)
   ·rw[a4z c]at h;cases a:x==n with
    | true=>
      have b:x=n:=by simpa using a
      rw[iZ a]at h;subst b;rcases h with h | h;exact .inr (by rw[iZ a];exact h)
      ·rw[a4a h];exact .inl a9a
    | false=>
      rw[eF a]at h;rcases e h with z | z;exact .inl (a0b _ z);exact .inr (by rw[eF a];exact z)
theorem cO:∀ (names:List (Str×NameKind)) (n:Nat) (acc:List (Str×Addr)),cellsFrom n names acc=cellsFrom n names []++acc
 | [],n,acc=>rfl
 | (x,k)::r,n,acc=>by
   unfold cellsFrom;split;rw[cO r (n+1) ((x,n)::acc),cO r (n+1) [(x,n)],List.append_assoc];rfl;exact cO r n acc
theorem hU:∀ (names:List (Str×NameKind)) (n:Nat) (x:Str) (c:Addr),(x,c)∈cellsFrom n names []->(x,NameKind.cell)∈names
 | [],n,x,c,h=>nomatch h
 | (y,k)::r,n,x,c,h=>by
   unfold cellsFrom at h;split at h
   ·rename_i b;have a:k=.cell:=by simpa using b
    rw[cO]at h;rcases a7c.mp h with z | z;exact a0b _ (hU r _ x c z);have e:=a1b.mp z;cases e;rw[a];exact a9a
   ·exact a0b _ (hU r _ x c h)
theorem dF:∀ (names:List (Str×NameKind)) (n:Nat) (x:Str),(x,NameKind.cell)∈names->∃ c,(cellsFrom n names []).lookup x=some c
 | [],n,x,h=>nomatch h
 | (y,k)::r,n,x,h=>by
   have a:∀ m,(x,NameKind.cell)∈r->∃ c,(cellsFrom m r []).lookup x=some c:=λm hm=>dF r m x hm;unfold cellsFrom;split
   ·rename_i b;rw[cO,List.lookup_append];rcases a2b.mp h with z | z
    ·cases z;cases e:(cellsFrom (n+1) r []).lookup y with
     | some c=>exact⟨c,rfl⟩
     | none=>exact⟨n,by simp⟩
    ·obtain⟨c,d⟩:=a (n+1) z;exact⟨c,by rw[d];rfl⟩
   ·rename_i b;rcases a2b.mp h with z | z;cases z;exact absurd rfl b;exact a n z
def cC7{M:Model}{A:Around}{E:Value->Shared->Prop}{s:Shared}{scope:Scope}{globals:Addr}{cl:List (Str×Addr)}{qual:Str}{env:Env}{Q:Env->Shared->Prop}
  (c:Q (newEnv scope s.heap.objs.size globals (cellsFrom (s.heap.objs.size+1) scope.names cl) qual none .none (some env) builtinsNs) {s with heap:=pushCells (s.heap.push {cls:=.type "dict",data:=.dict #[]}) scope.names}) :
  wpAny M A (newFunctionEnv scope globals cl [] qual none .none (some env)) Q E s:=by
 simp only[newFunctionEnv,Option.isSome_some,if_true];refine a4x (wpAny_alloc ?_);refine a4x (wpAny_layCells _ (λb kind cells=>by cases a:kind==NameKind.cell<;>simp[a]) _ _ _ _ ?_);rw[show({s with heap:=s.heap.push {cls:=.type "dict",data:=.dict #[]}}:Shared).heap.objs.size=s.heap.objs.size+1 from a4g ..];refine a4x ?_;rw[List.forIn_nil];exact a4y (a4y c)
def tN{scope:Scope}{env:Env}{x:Str}(h:(relabel scope env).names.lookup x=some .local):scope.names.lookup x=some .local:=by
 unfold relabel at h;dsimp only at h;revert h;generalize scope.names=l;intro h
 induction l with
 | nil=>cases h
 | cons y r b=>
   obtain⟨n,k⟩:=y;rw[a8d]at h;dsimp only at h;by_cases c:(k==NameKind.free&&env.scope.kind==.function&&env.kindOf n==some .cell)=true
   ·rw[a4A c]at h;cases a:x==n with
    | true=>rw[iZ a]at h;cases h
    | false=>rw[eF a]at h ⊢;exact b h
   ·rw[a4z c]at h;cases a:x==n with
    | true=>rw[iZ a]at h ⊢;exact h
    | false=>rw[eF a]at h ⊢;exact b h
def Inv.adopt{X:Cx}{pins:List (Addr×Obj)}{σ:St}{H:Hp}{s:Shared}{a:Addr}{o:HO}(I:Inv X pins σ H s)(hn:H a=none)(g:X.s₀.heap.objs.size<=a)(h:a≠X.env.locals)
  (i:∀ x c,X.env.cells.lookup x=some c->c≠a) (j:∀ p∈X.pn++pins,p.1≠a) (d:cM X.prog X.w (upd H a o) s.heap a o):Inv X pins σ (upd H a o) s:=by
 have ne:∀ b u,H b=some u->b≠a:=λb u e=>aY e hn;refine⟨I.ok,I.os,I.bare,⟨I.base.keep,I.base.slot,λb ob q n k=>?_,I.base.there,λb xs q=>?_,λb ob u q=>?_,λb ps q=>?_⟩,I.loc,I.cell,?_,λx c e=>?_,λp f=>?_,λb u e=>?_,I.len⟩;rw[aK (a0d (a9b (a5a q) g))];exact I.base.free b ob q n k;have:=I.base.tups b xs q;rw[aK (ne b _ this)];exact this;have:=I.base.frzs b ob u q;rw[aK (ne b _ this)];exact this;obtain⟨m,this⟩:=I.base.tbls b ps q;exact⟨m,by rw[aK (ne b _ this)];exact this⟩;rw[aK (a3d h)];exact I.free;rw[aK (i x c e)];exact I.freeC x c e;obtain⟨e,n,r⟩:=I.pin p f;exact⟨e,by rw[aK (j p f)];exact n,r⟩;by_cases hb:b=a;subst hb;rw[aQ]at e;cases e;exact d;rw[aK hb]at e;exact(I.hok b u e).stay (λc v _ q=>q) (λc q=>by rw[aK (ne c _ q)];exact q) λc xs q=>by rw[aK (ne c _ q)];exact q
def yJ{prog:Program}{w:World}{A:Around}{R:Result->Shared->Prop}{s:Shared}{elt a iter:Expr}{l:List Expr}{scope:Scope}{pos:Pos}{it acc:Value}{env:Env}(I:Nat->Shared->Prop)
  (turn:∀ n s,I n s->wpAny (model prog w) A (pyNext it) (λr e=>match r with
   | none=>R (.ok .next) e
   | some v=>wpAny (model prog w) A (letOwnedTupleGo a it v) (λ_ f=>wpAny (model prog w) A (assign a env v) (λ_ i=>
     wpAny (model prog w) A (forIn l true λc r=>if r=true then do let ok ← isTrue c env (eval c env);pure (ForInStep.yield ok)else pure (ForInStep.yield r)) (λok g=>
      if ok=true then wpAny (model prog w) A (eval elt env) (λx j=>
       wpAny (model prog w) A (call (.builtin "list.append") [acc,x]) (λ_ k=>∃ m,m < n/\I m k) (λ_ _=>False) j) (λ_ _=>False) g
      else ∃ m,m < n/\I m g) (λ_ _=>False) i) (λ_ _=>False) f) (λ_ _=>False) e) (λ_ _=>False) s)
  (n:Nat) (h:I n s) :
  codeAny (model prog w) A (.compLoop (.ListComp elt [⟨a,iter,l,0⟩] scope pos) 0 it acc env) R s:=by
 refine codeAny_loop rfl I (λn s t=>?_) n h;show wpAny _ A ((compTurn (.ListComp elt [⟨a,iter,l,0⟩] scope pos) 0 it acc env).onRaise (λx=>do noteFrame x env;theTreesLotGoes x)) _ _ s;refine wpAny_noted ?_;rw[compTurn_list];refine a4x (a5r (a4x (a4M (turn n s t) (λr e d=>?_) λ_ _ h'=>h'.elim)));cases r with
 | none=>exact a4y d
 | some v=>
   refine a4x (a4M d (λ_ f d=>?_) λ_ _ h'=>h'.elim);refine a4x (a4M d (λ_ i o=>a4x (a4M o (λok g b=>?_) λ_ _ h'=>h'.elim)) λ_ _ h'=>h'.elim);cases ok with
   | true=>
     simp only[if_true]at b ⊢;refine a4x (a4x (a4M b (λx j p=>a4x (a4M p (λ_ k q=>a4y (a4y ⟨rfl,q⟩)) λ_ _ h'=>h'.elim)) λ_ _ h'=>h'.elim))
   | false=>
     simp only[Bool.false_eq_true,if_false]at b ⊢
     first
      | exact a4x (a4y (a4y ⟨rfl,b⟩))
      | exact a4y ⟨rfl,b⟩
noncomputable abbrev cxC(X:Cx)(scope:Scope)(cl:List (Str×Addr))(ex:List Addr)(s:Shared)(H:Hp):Cx:=
 {X with s₀:=s,H₀:=H,env:=compEnvC scope cl s.heap.objs.size X.env,outer:=X.stack,ex:=ex,fn:=λx=>scope.names.lookup x==some .cell,xe:=λ_ _=>False}
noncomputable def blank(own:List Nat)(σ:St):St:=own.foldl (λσ i=>σ.set i none) σ
theorem oA:∀ (own:List Nat) (σ:St),(blank own σ).length=σ.length
 | [],_=>rfl
 | i::r,σ=>(oA r (σ.set i none)).trans (by simp)
theorem mV:∀ (own:List Nat) (σ:St) (i:Nat) (v:V),(blank own σ)[i]? = some (some v)->i∉own/\σ[i]? = some (some v)
 | [],_,_,_,h=>⟨by simp,h⟩
 | j::r,σ,i,v,h=>by
   obtain⟨b,a⟩:=mV r (σ.set j none) i v h;by_cases e:i=j;subst e;rw[List.getElem?_set]at a;simp at a;rw[a3a (a3d e)]at a;exact⟨by simp[e,b],a⟩
def cC8(own:List Nat)(g:TG):Prop:=∀ x σ H Q,g x σ H Q->g x σ H λσ' H'=>Q σ' H'/\σ'.length=σ.length/\∀ i,i∉own->σ'[i]? = σ[i]?
def bB6(own:List Nat)(g:TGs):Prop:=∀ x σ H Q,g x σ H Q->g x σ H λσ' H'=>Q σ' H'/\σ'.length=σ.length/\∀ i,i∉own->σ'[i]? = σ[i]?
def aO{own:List Nat}{i:Nat}(h:i∈own):cC8 own (lB i):=λx σ H Q q=>
 ⟨q,by simp,λj hj=>List.getElem?_set_ne (λe:i=j=>hj (by rw[← e];exact h))⟩
def jA{own:List Nat}:bB6 own dC7:=λx σ H Q q=>⟨q.1,q.2,rfl,λ_ _=>rfl⟩
def cF{own:List Nat}{t:TG}{u:TGs}(k:cC8 own t)(l:bB6 own u)(mt:∀ x σ H Q h,(∀ a b,Q a b->h a b)->t x σ H Q->t x σ H h):bB6 own (cB0 t u):=by
 intro x σ H Q q;obtain⟨v,r,e,q⟩:=q;refine⟨v,r,e,mt _ _ _ _ _ (λd m g=>?_) (k _ _ _ _ q)⟩;obtain⟨g,l1,j⟩:=g;have:=l _ _ _ _ g;revert this;exact λthis=>by
  have f:u r d m (λσ' H'=>Q σ' H'/\σ'.length=d.length/\∀ i,i∉own->σ'[i]? = d[i]?):=this;rw[l1]at f;have n:(λ(σ':St) H'=>Q σ' H'/\σ'.length=σ.length/\∀ i,i∉own->σ'[i]? = d[i]?)=(λ(σ':St) H'=>Q σ' H'/\σ'.length=σ.length/\∀ i,i∉own->σ'[i]? = σ[i]?):=by
   funext σ' H';apply propext;constructor;rintro⟨a,b,c⟩;exact⟨a,b,λi hi=>(c i hi).trans (j i hi)⟩;rintro⟨a,b,c⟩;exact⟨a,b,λi hi=>(c i hi).trans (j i hi).symm⟩
  rw[← n];exact f
def cG{i:Nat}:∀ x σ H (Q c:St->Hp->Prop),(∀ a b,Q a b->c a b)->lB i x σ H Q->lB i x σ H c:=λ_ _ _ _ _ f q=>f _ _ q
def bM3(X:Cx)(a:List Expr)(t:TT):Prop:=
 ∀ (pins:List (Addr×Obj)) (s:Shared) (σ:St) (H:Hp) (Q:Bool->Hp->Prop),Inv X pins σ H s->t σ H Q ->
   wpAny (model X.prog X.w) X.A (forIn a true λc r=>if r=true then do let ok ← isTrue c X.env (eval c X.env);pure (ForInStep.yield ok)else pure (ForInStep.yield r)) (TP X pins σ Q) X.xe s
def dE1:TT:=λ_ H Q=>Q true H
def bB7{X:Cx}:bM3 X [] dE1:=λ_ _ _ H _ I h=>wpAny_tests_nil ⟨H,I,h⟩
def bB8{X:Cx}{c:Expr}{t:TT}(h:PT X c t):bM3 X [c] t:=λpins s σ H Q I q=>wpAny_tests_one (h pins s σ H Q I q)
structure CompScope(X:Cx)(scope:Scope)(own:List Nat):Prop where
 kind:scope.kind=.function
 cells:∀ y∈scope.names,y.2=.cell->scope.names.lookup y.1=some .cell
 names:∀ y∈scope.names,y.2=.local->scope.names.lookup y.1=some .local
 free:∀ y∈scope.names,y.2=.free->X.env.kindOf y.1=some .cell\/X.env.kindOf y.1=some .free
 own:∀ i x,X.N[i]? = some x->(scope.names.lookup x=some .local\/scope.names.lookup x=some .cell)->i∈own
 calm:X.calm=true
def bM4(own:List Nat)(d:TI)(g:TG)(e:TT)(f:TE)(σ:St)(H:Hp)(F:List V->Hp->Prop):Prop:=
 d σ H λJ h=>∃ W:Nat->Nat->List V->Hp->Prop,(∃ m,W 0 m [] h)/\∀ i m ys H,W i m ys H->ys.length<=sizeLine /\
  ((J.stop i H/\F ys H)\/(J.go i H/\∀ x H',J.yld i H x H'->g x (blank own σ) H' λa j=>e a j λb c=>
    if b=true then f a c λv k=>∃ m',m' < m/\W (i+1) m' (ys++[v]) k else ∃ m',m' < m/\W (i+1) m' ys c))
def aN2(own:List Nat)(a:TI)(g:TG)(b:TT)(c:TE):TE:=λσ H Q=>bM4 own a g b c σ H λys H'=>∀ p,H' p=none->Q (.ref p) (upd H' p (.lst ys))
structure Stray(X:Cx)(pins:List (Addr×Obj))(H:Hp)(b:Addr):Prop where
 un:H b=none
 loc:b≠X.env.locals
 young:X.s₀.heap.objs.size<=b
 cell:∀ x c,X.env.cells.lookup x=some c->c≠b
 pin:∀ p∈X.pn++pins,p.1≠b
def Inv.stray{X:Cx}{pins:List (Addr×Obj)}{σ:St}{H H':Hp}{s:Shared}{b:Addr}(I:Inv X pins σ H s)(hb:s.heap.objs.size<=b)(hn:H' b=none):Stray X pins H' b:=by
 obtain⟨a,c,f,g,d,e⟩:=I.fpOk hb hn;exact⟨a,c,a5e I.sz hb,d,e⟩
set_option maxHeartbeats 8000000 in
def aG0{X:Cx}{tg iter elt:Expr}{ifs:List Expr}{scope:Scope}{pos:Pos}{own:List Nat}{g:TG}{tt:TT}{te:TE}{use:Option (Value->Sem Unit)}{Qf:Value->Shared->Prop}
  (S:CompScope X scope own) (hg:∀ cl ex s H,PG (cxC X scope cl ex s H) tg g) (hG:cC8 own g)
  (ht:∀ cl ex s H,bM3 (cxC X scope cl ex s H) ifs tt) (he:∀ cl ex s H,PE (cxC X scope cl ex s H) elt te)
  {pins:List (Addr×Obj)} {a:Shared} {σ:St} {h:Hp} {F:List V->Hp->Prop} {cl:List (Str×Addr)} {J:It} {fp:List Addr} {it D:Addr} {tn:Nat->Heap->Prop} {h₁:Heap} {mC:Str->Option Value} {tk m0:Nat} {W:Nat->Nat->List V->Hp->Prop}
  (l:Inv X pins σ h a) (T:Turn X.prog X.w X.K tg J fp it tn) (M:∀ x c,cl.lookup x=some c->(X.env.cells.lookup x=some c/\scope.names.lookup x≠some .cell)\/(a.heap.objs.size < c/\scope.names.lookup x=some .cell/\h₁.IsCell c none)) (cl2:∀ y∈scope.names,y.2=.free\/y.2=.cell->∃ c,cl.lookup y.1=some c)
  (cl3:∀ x y c,cl.lookup x=some c->cl.lookup y=some c->x=y)
  (P:∀ b∈fp,aL6 X pins h b) (L:∀ b∈fp,b < D) (B:D < a.heap.objs.size) (E:∀ b,b∈frs X.stack->b < D) (hbase:∀ b o,X.base.get? b=some o->b < D) (f:Stray X pins h D)
  (hD3:a.heap.get? D=some {cls:=.type "list",data:=.seq ([]:List Value).toArray}) (st3:tn 0 a.heap) (Q:h₁.Ns a.heap.objs.size mC) (t:∀ b o,a.heap.get? b=some o->h₁.get? b=some o)
  (w0:W 0 m0 [] h) (turn:∀ i m ys H,W i m ys H->ys.length<=sizeLine /\
  ((J.stop i H/\F ys H)\/(J.go i H/\∀ x H',J.yld i H x H'->g x (blank own σ) H' λσ2 h=>tt σ2 h λb H3=>
    if b=true then te σ2 H3 λv O=>∃ m',m' < m/\W (i+1) m' (ys++[v]) O else ∃ m',m' < m/\W (i+1) m' ys H3)))
  (fin:∀ D C ys H' s' m,Inv X pins σ (upd H' D (.lst ys)) s'->H' D=none->s'.heap.Ns C m->Stray X pins (upd H' D (.lst ys)) C->F ys H' ->
   compPost (model X.prog X.w) X.A X.xe use Qf (.ref D) C (.ok .next) s') :
  codeAny (model X.prog X.w) X.A (.compLoop (.ListComp elt [⟨tg,iter,ifs,0⟩] scope pos) 0 (.ref it) (.ref D) (compEnvC scope cl a.heap.objs.size X.env))
   (compPost (model X.prog X.w) X.A X.xe use Qf (.ref D) a.heap.objs.size) {a with heap:=h₁,toks:=tk}:=by
 have cneD:∀ x c,cl.lookup x=some c->c≠D:=λx c q=>by
  rcases M x c q with z | z;exact f.cell x c z.1;exact(a0d (a9g B z.1)).symm
 have cneF:∀ b∈fp,∀ x c,cl.lookup x=some c->c≠b:=λb hb x c q=>by
  rcases M x c q with z | z;exact(P b hb).2.2.2.2.1 x c z.1;exact(a0d (a9g (a9g (L b hb) B) z.1)).symm
 have okY:(cxC X scope cl (D::fp) a h).Ok:=by
  refine⟨l.ok.mod,S.kind,l.ok.glob,l.ok.blt,a8a _,cl3,λx hk=>?_,λx c hf q=>?_,l.ok.hd,l.ok.frames,.inl rfl,λb hb=>?_,λb o q=>?_,?_,λb o q hb=>?_,λb hb R=>?_,l.stack,l.stkFree⟩;rcases lE hk with z | z;exact cl2 _ z (.inl rfl);exact cl2 _ (mem_of_lookup z) (.inr rfl)
  ·rcases M x c q with z | z
   ·have hf':scope.names.lookup x=some .cell:=by simpa using hf
    exact absurd hf' z.2
   ·exact a8g z.1
  ·constructor;show b≠a.heap.objs.size;rcases a2b.mp hb with z | z;rw[z];exact a0d B;exact a0d (a9g (L b z) B);intro x c q;rcases a2b.mp hb with z | z;rw[z];exact cneD x c q;exact cneF b z x c q
  ·exact l.bs b o q
  ·exact a5e l.ok.bsz l.sz
  ·rcases a2b.mp hb with z | z;have:=hbase b o q;rw[z]at this;exact a7d _ this;rcases(P b z).2.2.2.1 with y | y;exact l.ok.noex b o q y;exact a7d _ (a9b (a5a q) (a5e l.ok.bsz y))
  ·rcases a2b.mp hb with z | z;have:=E b R;rw[z]at this;exact a7d _ this;rcases a2b.mp (l.stkSub b R)with y | y;exact(P b z).2.1 y;exact(P b z).2.2.1 y
 have IY:Inv (cxC X scope cl (D::fp) a h) pins (blank own σ) h {a with heap:=h₁,toks:=tk}:=by
  refine⟨okY,rfl,l.bare,Un.kept t,⟨_,Q,λi x v e1 e2 e3=>?_⟩,λx c q=>?_,l.hok.fresh (a8a _),λx c q=>by
   rcases M x c q with z | z;exact l.freeC x c z.1;exact l.hok.fresh (a8g z.1),λp hp=>?_,l.hok.kept t,(oA own σ).trans l.len⟩
  ·obtain⟨hno,e2'⟩:=mV own σ i v e2;have hnl:¬ (relabel scope X.env).names.lookup x=some .local:=λz=>hno (S.own i x e1 (.inl (tN z)));have hnc:¬ scope.names.lookup x=some .cell:=λz=>hno (S.own i x e1 (.inr z));have hcf:(relabel scope X.env).names.lookup x=some .cell\/(relabel scope X.env).names.lookup x=some .free:=by
    rcases e3 with z | z | z;exact absurd z hnl;exact .inl z;exact .inr z
   have hmem:=(lE hcf).resolve_right hnc;have U:=S.free _ hmem rfl;obtain⟨m,hm,hl⟩:=l.loc;obtain⟨u,r,lk⟩:=hl i x v e1 e2' (by rcases U with z | z;exact .inr (.inl z);exact .inr (.inr z));obtain⟨c,hc⟩:=cl2 _ hmem (.inl rfl);refine⟨u,r,.inr ⟨hcf,c,hc,?_⟩⟩;rcases lk with⟨z,_⟩ | ⟨_,c',hc',ic⟩;dsimp only at U;rw[z]at U;rcases U with y | y<;>cases y;have:=((M _ c hc).resolve_right λz=>hnc z.2.1).1;dsimp only at this;rw[hc']at this;cases this;obtain⟨o,ho,hd⟩:=ic;exact⟨o,t _ _ ho,hd⟩
  ·rcases M x c q with z | z;obtain⟨v,o,ho,hd⟩:=l.cell x c z.1;exact⟨v,o,t _ _ ho,hd⟩;exact⟨_,z.2.2⟩
  ·obtain⟨q,n,ne,nf,d⟩:=l.pin p hp;refine⟨t _ _ q,n,a0d (a5a q),λhb=>?_,d⟩;rcases a2b.mp (l.stkSub _ hb)with y | y;exact ne y;exact nf y
 have DY:D≠a.heap.objs.size:=a0d B;have statY:∀ {H':Hp},(∀ b∈fp,H' b=none)->∀ b∈fp,aL6 (cxC X scope cl (D::fp) a h) pins H' b:=λhn b hb=>by
  refine⟨hn b hb,?_,?_,.inl (a0b _ hb),cneF b hb,(P b hb).2.2.2.2.2⟩;show b≠a.heap.objs.size;exact a0d (a9g (L b hb) B);intro R;rcases a2b.mp (l.stkSub b R)with y | y;exact(P b hb).2.1 y;exact(P b hb).2.2.1 y
 have hDfp:D∉fp:=λz=>a7d _ (L D z);have hDstk:D∉frs X.stack:=λz=>a7d _ (E D z);have G:∀ {H':Hp} {o:Obj},(∀ b∈fp,H' b=none)->∀ b∈fp,aL6 (cxC X scope cl (D::fp) a h) (pins++[(D,o)]) H' b:=λ{H' o} fr b hb=>by
  obtain⟨a1,a2,a3,a4,a5,a6⟩:=statY fr b hb;refine⟨a1,a2,a3,a4,a5,λp hp z=>?_⟩;rcases a7c.mp hp with y | y;exact a6 p (a0g _ y) z;rcases a7c.mp y with y | y;exact a6 p (a5c _ y) z;have e:p=(D,o):=a1b.mp y;rw[e]at z;have z':D=b:=z;exact hDfp (by rw[z'];exact hb)
 have pin2:∀ {H':Hp} {s':Shared} {its:Array Value} {k:Nat},Inv (cxC X scope cl (D::fp) a h) pins (blank own σ) H' s'->H' D=none->s'.heap.get? D=some {cls:=.type "list",data:=.seq its k} ->
   Inv (cxC X scope cl (D::fp) a h) (pins++[(D,{cls:=.type "list",data:=.seq its k})]) (blank own σ) H' s':=λ{H' s' its k} I4 D4 o4=>I4.pins_of λp hp=>by
  rcases a7c.mp hp with z | z;exact I4.pin p (a5c _ z);have e:p=(D,{cls:=.type "list",data:=.seq its k}):=a1b.mp z;subst e;exact⟨o4,D4,DY,hDstk,λv z=>by cases z⟩
 refine yJ (λn s'=>∃ i ys H' its k,Inv (cxC X scope cl (D::fp) a h) pins (blank own σ) H' s'/\tn i s'.heap/\(∀ b∈fp,H' b=none)/\H' D=none /\
  s'.heap.get? D=some {cls:=.type "list",data:=.seq its k}/\bW ys its.toList/\W i n ys H') ?_ m0
  ⟨0,[],h,#[],_,IY,T.keep _ _ _ st3 λb hb o q=>t b o q,λb hb=>(P b hb).1,f.un,t _ _ hD3,.nil,w0⟩
 rintro n s4 ⟨i,ys,O,its,k,I4,st4,fr4,D4,o4,v4,w4⟩;obtain⟨hz,step⟩:=turn i n ys O w4;rcases step with⟨stop,qn⟩ | ⟨go,step⟩
 ·refine thn (T.done (cxC X scope cl (D::fp) a h) rfl rfl rfl S.calm i _ s4 (blank own σ) O (λ_ _=>False) (pin2 I4 D4 o4) (G fr4) st4 stop) λr s5 Z0=>?_;obtain⟨hr,I5⟩:=Z0;subst hr;have oD:s5.heap.get? D=some {cls:=.type "list",data:=.seq its k}:=(I5.pin (D,_) (a5c _ (a5c _ a9a))).1;have N:Inv (cxC X scope cl (D::fp) a h) pins (blank own σ) O s5:=I5.unpinned;have IX:Inv X pins σ O s5:=by
   refine l.call' (ch:=D::fp) N.os N.base N.hok N.bare λb hb=>?_;rcases a2b.mp hb with z | z;rw[z];exact⟨.inr f.young,f.loc,f.cell,f.pin⟩;obtain⟨a1,a2,a3,a4,a5,a6⟩:=P b z;exact⟨a4,a2,a5,a6⟩
  obtain⟨m5,hm5,_⟩:=N.loc;have nC:O a.heap.objs.size=none:=N.free;have IX':Inv X pins σ (upd O D (.lst ys)) s5:=by
   refine IX.adopt D4 f.young f.loc f.cell f.pin ⟨hz,its.toList,k,v4,?_⟩;rw[oD]
  have strC:Stray X pins (upd O D (.lst ys)) a.heap.objs.size:=l.stray (a8a _) (by rw[aK (a3d DY)];exact nC);exact fin D _ ys O s5 m5 IX' D4 hm5 strC qn
 ·refine thn (T.item (cxC X scope cl (D::fp) a h) rfl rfl rfl S.calm i _ s4 (blank own σ) O (λ_ _=>False) (pin2 I4 D4 o4) (G fr4) st4 go) λr s5 Z0=>?_;obtain⟨u,hr,h5⟩:=Z0;subst hr;refine thn h5 λ_ s6 ⟨x,H6,I6,r6,y6,st6,fr6⟩=>?_;have I6':=I6.pinned (G fr6) (T.obj _ _ st6);refine thn (hg cl (D::fp) a h _ s6 (blank own σ) H6 x u _ I6' r6 (hG _ _ _ _ (step x H6 y6))) λ_ s7 ⟨σ7,H7,I7,⟨q7,l7,p7⟩⟩=>?_;refine thn (ht cl (D::fp) a h _ s7 σ7 H7 _ I7 q7) λb s8 ⟨H8,I8,q8⟩=>?_;have weak:∀ {Y:Hp} {Z:Shared},Inv (cxC X scope cl (D::fp) a h) ((pins++[(D,{cls:=.type "list",data:=.seq its k})])++pH fp s6.heap) σ7 Y Z ->
    Inv (cxC X scope cl (D::fp) a h) ((pins++[(D,{cls:=.type "list",data:=.seq its k})])++pH fp s6.heap) (blank own σ) Y Z:=λI9=>
   I9.weak l7.symm λj v e=>by rw[p7 j (mV own σ j v e).1];exact e
  have tn9:∀ {Y:Hp} {Z:Shared},Inv (cxC X scope cl (D::fp) a h) ((pins++[(D,{cls:=.type "list",data:=.seq its k})])++pH fp s6.heap) (blank own σ) Y Z->tn (i+1) Z.heap/\∀ b∈fp,Y b=none:=λI9=>
   ⟨T.keep _ _ _ st6 λb hb o q=>(I9.pin (b,o) (a5c _ (a5c _ (jV hb q)))).1,λb hb=>by
    obtain⟨o,q,d⟩:=T.obj _ _ st6 b hb;exact(I9.pin (b,o) (a5c _ (a5c _ (jV hb q)))).2.1⟩
  cases b with
  | true=>
    rw[a4A rfl]at q8 ⊢;refine thn (he cl (D::fp) a h _ s8 σ7 H8 _ I8 q8) λy Z Z0=>?_;obtain⟨v9,Y,I9,r9,m',hm',w9⟩:=Z0;have I:=weak I9;obtain⟨t9,f9⟩:=tn9 I;have p9:=I.pin (D,_) (a5c _ (a0g _ (a5c _ a9a)));have hlen:=v4.length;have hz':its.size<=sizeLine:=by rw[← a8c];lia
    refine append_at (hsz:=hz') p9.1 λh' hs' hD'=>?_;have I9u:Inv (cxC X scope cl (D::fp) a h) pins (blank own σ) Y Z:=I.unpinned.unpinned;have I10:Inv (cxC X scope cl (D::fp) a h) pins (blank own σ) Y {Z with heap:=h'}:=
     I9u.turned (it:=D) (t':=Z.toks) (λb o hb q=>(hs'.2 b hb).trans q) p9.2.1 DY (.inl a9a) cneD f.pin
    refine⟨m',hm',i+1,ys++[v9],Y,its.push y,k+1,I10,T.keep _ _ _ t9 λb hb o q=>(hs'.2 b λz=>hDfp (by rw[← z];exact hb)).trans q,f9,p9.2.1,hD',?_,w9⟩;rw[a2h];exact v4.append (.cons r9 .nil)
  | false=>
    rw[a4z a9c]at q8 ⊢;obtain⟨m',hm',w9⟩:=q8;have I:=weak I8;obtain⟨t9,f9⟩:=tn9 I;have p9:=I.pin (D,_) (a5c _ (a0g _ (a5c _ a9a)));exact⟨m',hm',i+1,ys,H8,its,k,I.unpinned.unpinned,t9,f9,p9.2.1,p9.1,v4,w9⟩
set_option maxHeartbeats 8000000 in
def vZ{X:Cx}{tg iter elt:Expr}{B:List Expr}{scope:Scope}{pos E:Pos}{own:List Nat}{wi:TI}{g:TG}{tt:TT}{te:TE}{use:Option (Value->Sem Unit)}{Qf:Value->Shared->Prop}
  (S:CompScope X scope own) (hi:PI X tg iter wi) (hg:∀ cl ex s H,PG (cxC X scope cl ex s H) tg g) (hG:cC8 own g)
  (ht:∀ cl ex s H,bM3 (cxC X scope cl ex s H) B tt) (he:∀ cl ex s H,PE (cxC X scope cl ex s H) elt te)
  {pins:List (Addr×Obj)} {s:Shared} {σ:St} {H:Hp} {F:List V->Hp->Prop} (I:Inv X pins σ H s) (hw:bM4 own wi g tt te σ H F)
  (hs:∀ x,foldedSetIterable iter X.env x=pure x)
  (fin:∀ D C ys H' s' m,Inv X pins σ (upd H' D (.lst ys)) s'->H' D=none->s'.heap.Ns C m->Stray X pins (upd H' D (.lst ys)) C->F ys H' ->
   compPost (model X.prog X.w) X.A X.xe use Qf (.ref D) C (.ok .next) s') :
  wpAny (model X.prog X.w) X.A (comprehension (.ListComp elt [⟨tg,iter,B,0⟩] scope pos) scope X.env E (newList []) false (eval iter X.env) use) Qf X.xe s:=by
 obtain⟨cl,Q,R,U⟩:=aF9 (scope:=scope) (env:=X.env) λy O hf=>I.ok.has y.1 (S.free y O hf);refine wpAny_comprehension_free (use:=use) rfl hs Q S.kind S.names (thn (hi pins s σ H _ I hw) λv s₁ h₁=>thn h₁ λitv a G=>?_);obtain⟨it,fp,tn,J,H2,e,r,T,t,f2,W,⟨m0,w0⟩,turn⟩:=G;subst e;refine a4J (cC7 ?_);dsimp only;have Y:(a.heap.push {cls:=.type "list",dict:=none,data:=.seq ([]:List Value).toArray}).objs.size=a.heap.objs.size+1:=a4g ..;have h:∀ b o,a.heap.get? b=some o->(a.heap.push {cls:=.type "list",dict:=none,data:=.seq ([]:List Value).toArray}).get? b=some o:=λb o q=>a2a _ q;have K:(a.heap.push {cls:=.type "list",dict:=none,data:=.seq ([]:List Value).toArray}).get? a.heap.objs.size=some {cls:=.type "list",dict:=none,data:=.seq ([]:List Value).toArray}:=a7a _ rfl;generalize hG3:a.heap.push {cls:=.type "list",dict:=none,data:=.seq ([]:List Value).toArray}=d at Y h K ⊢;have n:(d.push {cls:=.type "dict",data:=.dict #[]}).objs.size=d.objs.size+1:=a4g ..;have i:(pushCells (d.push {cls:=.type "dict",data:=.dict #[]}) scope.names).Ns d.objs.size (λ_=>none):=(Heap.Ns.new d (.type "dict")).keeps (pushCells_keeps _ _);have k:∀ b o,d.get? b=some o->(pushCells (d.push {cls:=.type "dict",data:=.dict #[]}) scope.names).get? b=some o:=λb o q=>pushCells_keeps _ _ b o (a2a _ q);have ok:=cellsFrom_ok scope.names (d.push {cls:=.type "dict",data:=.dict #[]}) (d.objs.size+1) [] ⟨λ_ _ hm=>(nomatch hm),List.Pairwise.nil⟩ (by rw[n];exact a8a _);rw[n]at ok;generalize pushCells (d.push {cls:=.type "dict",data:=.dict #[]}) scope.names=h₁ at i k ok ⊢;have Z:Inv X pins σ H2 {a with heap:=d}:=r.kept (t':=a.toks) h;have look:∀ x,(cellsFrom (d.objs.size+1) scope.names cl).lookup x=((cellsFrom (d.objs.size+1) scope.names []).lookup x).or (cl.lookup x):=λx=>by rw[cO,List.lookup_append]
 have L:∀ x c,(cellsFrom (d.objs.size+1) scope.names []).lookup x=some c->d.objs.size < c/\scope.names.lookup x=some .cell/\h₁.IsCell c none:=λx c q=>
  ⟨(ok.empty x c (mem_of_lookup q)).2,S.cells _ (hU _ _ x c (mem_of_lookup q)) rfl,(ok.empty x c (mem_of_lookup q)).1⟩
 have j:∀ x c,(cellsFrom (d.objs.size+1) scope.names cl).lookup x=some c->(X.env.cells.lookup x=some c/\scope.names.lookup x≠some .cell)\/(d.objs.size < c/\scope.names.lookup x=some .cell/\h₁.IsCell c none):=λx c q=>by
  rw[look]at q;cases e:(cellsFrom (d.objs.size+1) scope.names []).lookup x with
  | some M=>rw[e]at q;cases q;exact .inr (L x _ e)
  | none=>
    rw[e]at q;refine .inl ⟨R x c q,λz=>?_⟩;obtain⟨M,f⟩:=dF scope.names (d.objs.size+1) x (mem_of_lookup z);rw[e]at f;cases f
 have l:∀ x c,X.env.cells.lookup x=some c->c < d.objs.size:=λx c q=>by
  obtain⟨v,o,ho,hd⟩:=Z.cell x c q;exact a5a ho
 have p:=aG0 (iter:=iter) (elt:=elt) (pos:=pos) (use:=use) (Qf:=Qf) (tk:=a.toks) (h₁:=h₁) S hg hG ht he Z T j (λy O hk=>by
   rw[look];rcases hk with z | z
   ·obtain⟨c,hc⟩:=U y O z;cases e:(cellsFrom (d.objs.size+1) scope.names []).lookup y.1 with
    | some M=>exact⟨M,rfl⟩
    | none=>exact⟨c,hc⟩
   ·obtain⟨c,hc⟩:=dF scope.names (d.objs.size+1) y.1 (by rw[← z];exact O);exact⟨c,by rw[hc];rfl⟩) (λx y c q1 P=>by
   rcases j x c q1 with N | N;rcases j y c P with u | u;exact Z.ok.inj x y c N.1 u.1;exact absurd u.1 (a5j.mpr (a8g (l x c N.1)));rcases j y c P with u | u;exact absurd N.1 (a5j.mpr (a8g (l y c u.1)));have m1:(cellsFrom (d.objs.size+1) scope.names []).lookup x=some c:=by
    obtain⟨M,f⟩:=dF scope.names (d.objs.size+1) x (mem_of_lookup N.2.1);rw[look,f]at q1;cases q1;exact f
   have m2:(cellsFrom (d.objs.size+1) scope.names []).lookup y=some c:=by
    obtain⟨M,f⟩:=dF scope.names (d.objs.size+1) y (mem_of_lookup u.2.1);rw[look,f]at P;cases P;exact f
   exact name_of_addr ok.apart (mem_of_lookup m1) (mem_of_lookup m2)) f2 (λb hb=>by obtain⟨o,q,_⟩:=T.obj _ _ t b hb;exact a5a q)
  (by show a.heap.objs.size < d.objs.size;lia) (λb hb=>by
   rcases a2b.mp (r.stkSub b hb)with z | z;rw[z];exact r.lt;exact a3j λhle=>r.nofs hle z)
  (λb o q=>a5a (r.bs b o q).1) (r.stray (a8a _) (r.hok.fresh (a8a _))) K (T.keep _ _ _ t λb hb o q=>h b o q) i k w0 turn fin
 exact codeAny_compStart_list p (T.self _ 0 _ _ _ (T.keep _ _ _ t λb hb o q=>k b o (h b o q)) p)
def bR{X:Cx}{tg iter elt:Expr}{a:List Expr}{scope:Scope}{pos:Pos}{own:List Nat}{d:TI}{g:TG}{f:TT}{h:TE}
  (S:CompScope X scope own) (hi:PI X tg iter d) (i:∀ cl ex s H,PG (cxC X scope cl ex s H) tg g) (j:cC8 own g)
  (k:∀ cl ex s H,bM3 (cxC X scope cl ex s H) a f) (l:∀ cl ex s H,PE (cxC X scope cl ex s H) elt h)
  (hs:∀ x,foldedSetIterable iter X.env x=pure x:=by intro _;rfl):PE X (.ListComp elt [⟨tg,iter,a,0⟩] scope pos) (aN2 own d g f h):=by
 intro pins s σ H Q I n;rw[eval_ListComp];refine vZ (use:=none) S hi i j k l I n hs λD C ys H' s' m p hD hm str q=>?_;refine⟨m,hm,λh' c=>⟨.ref D,upd H' D (.lst ys),?_,rfl,q D hD⟩⟩;exact p.turned (it:=C) (t':=s'.toks) (λb o hb e=>(c.2 b hb).trans e) str.un str.loc (.inr str.young) str.cell str.pin
def mW{X:Cx}{i:Nat}{x:Str}{tg iter elt:Expr}{d:List Expr}{scope:Scope}{pos c f:Pos}{own:List Nat}{u:TI}{g:TG}{w:TT}{y:TE}
  (B:X.N.Nodup) (j:X.N[i]? = some x) (A:X.env.scope.names.lookup x=some .local)
  (S:CompScope X scope own) (hi:PI X tg iter u) (E:∀ cl ex s H,PG (cxC X scope cl ex s H) tg g) (F:cC8 own g)
  (G:∀ cl ex s H,bM3 (cxC X scope cl ex s H) d w) (J:∀ cl ex s H,PE (cxC X scope cl ex s H) elt y)
  (k:swapsWith (.ListComp elt [⟨tg,iter,d,0⟩] scope pos) (some (.Name x c)) f.line X.env=pure true)
  (hs:∀ x,foldedSetIterable iter X.env x=pure x:=by intro _;rfl) :
  PS X (.Assign [.Name x c] (.ListComp elt [⟨tg,iter,d,0⟩] scope pos) f) (λD σ H=>aN2 own u g w y σ H λv K=>D.nx (σ.set i (some v)) K):=by
 intro pins s σ H L I M;rw[exec_Assign_Name_used _ _ _ _ k];refine a4x (a5r (a4x ?_));show wpAny _ _ (do let _ ← comprehension (.ListComp elt [⟨tg,iter,d,0⟩] scope pos) scope X.env _ (newList []) false (eval iter X.env) (some (assign (.Name x c) X.env))) _ _ s;refine a4x (thn (vZ (use:=some (assign (.Name x c) X.env)) (Qf:=λ_ s'=>SP X pins L .next s') S hi E F G J I M hs λD C ys H' s' m O hD hm str q=>?_) λ_ s' P=>a4y (a4y P));show wpAny _ _ (assign (.Name x c) X.env (.ref D)) _ _ s';refine wpAny_assign_Name (vN (v:=.ref D) O B j (.inl A) (show cE (.ref D) (Value.ref D)from rfl) (λl n p=>?_) (.inr A));obtain⟨a,h,ha⟩:=p;have r:C≠a:=by
  rcases ha with z | z;rw[z];exact str.loc;exact a3d (str.cell x a z)
 refine⟨m,hm.sameBut h r,λh' t=>⟨_,_,?_,q D hD⟩⟩;exact n.turned (it:=C) (t':=l.toks) (λb o hb e=>(t.2 b hb).trans e) str.un str.loc (.inr str.young) str.cell str.pin
section
variable{X:Cx}
def bB9(n:X.calm=true):mS X (.builtin "all") (λxs H Q=>∃ (a:Addr) (bs:List Bool),xs=[.ref a]/\SqL X.K H a (bs.map V.bl)/\Q (.bl (bs.all id)) H):=by
 intro pins s σ H xs us Q I r h;obtain⟨a,bs,rfl,ha,q⟩:=h;obtain⟨u,rfl,t⟩:=vQ r;cases t;obtain⟨its,f,p,D⟩:=I.list ha;have g:a < s.heap.objs.size:=by obtain⟨_,e,_⟩:=p.isList;exact a5a e
 have w:X.A.in1.handled=none:=I.ok.hd n;refine call_all_walk (wpAny_pyIter_list p.isList ?_);refine⟨s.heap.objs.size,[s.heap.objs.size,a],[s.heap.objs.size],its.toArray.size,_,_,λi=>(bs[i]?).getD true,rfl,Walks.list (A:=X.A.in1) w _ a (a0d g) its.toArray,
  ⟨⟨_,a7a _ rfl,rfl,rfl⟩,p.isList.push _⟩,λi v s' E F y k=>?_,λh' tk B=>?_⟩
 ·have hi:its[i]? = some v:=by simpa using y
  have c:=f.length;have l:i < its.length:=(a0a.mp hi).1;have hb:i < bs.length:=by rw[a3e]at c;lia
  obtain⟨u,m,C⟩:=f.get (i:=i) (x:=V.bl bs[i]) (by rw[a8b,a1a hb];rfl);rw[hi]at m;cases m;have e:v=Value.bool bs[i]:=C;subst e;simp only[List.getElem?_eq_getElem hb,Option.getD_some]at k;exact a4T k
 ·have e:((List.range its.toArray.size).all λi=>(bs[i]?).getD true)=bs.all id:=by
   have c:=f.length;rw[a3e]at c;rw[a6a,← c];rw[Bool.eq_iff_iff,a5i,a5i];constructor;intro j b hb;obtain⟨i,hi,rfl⟩:=a2f hb;have:=j i (a7f.mpr hi);simp only[List.getElem?_eq_getElem hi,Option.getD_some]at this;exact this;intro j i hi;have d:=a7f.mp hi;simp only[List.getElem?_eq_getElem d,Option.getD_some];exact j _ (a6i d)
  rw[e];exact⟨.bl _,H,I.kept (t':=tk) λb o q=>B b o (λhm=>by
   have z:b=s.heap.objs.size:=by simpa using hm
   rw[z]at q;exact a7d _ (a5a q)) (a2a _ q),rfl,q⟩
noncomputable def Its(x:Str):It:=⟨λi _=>∃ c,x.cps[i]? = some c,λi H v H'=>H'=H/\∃ c,x.cps[i]? = some c/\v=.str ⟨#[c]⟩,λi _=>x.cps[i]? = none⟩
def aA1{P:Program}{w:World}{K:W.Frag}{tg:Expr}(x:Str)(t:Tok)(it:Addr)(ty:String)(a:ty="str_ascii_iterator"\/ty="str_iterator"):Turn P w K tg (Its x) [it] it (λi h=>h.IsStrIter it ty x t i) where
 mem:=by simp
 obj:=λi h st b hb=>by
  have e:b=it:=by simpa using hb
  subst e;obtain⟨o,e,c,d⟩:=st;exact⟨o,e,λv z=>by rw[d]at z;cases z⟩
 keep:=λi h h' st k=>by
  obtain⟨o,e,c,d⟩:=st;exact⟨o,k it (by simp) o e,c,d⟩
 item:=by
  intro X q r u y i pins s σ H E I g st A;subst q r u;obtain⟨c,f⟩:=A;obtain⟨j,l,G,m,n,p⟩:=g it (by simp);rcases a with rfl | rfl;refine wpAny_pyNext_ascii_item st f λh' st' B=>?_;have C:Inv X pins σ H {s with heap:=h',toks:=s.toks+1}:=I.turned (t':=s.toks+1) (λb o hb e=>(B.2 b hb).trans e) j l m n p;obtain⟨o,e,D,d⟩:=id st';exact⟨_,rfl,aL7 (s:={s with heap:=h',toks:=s.toks+1}) e D d (by decide) ⟨.str ⟨#[c]⟩,H,C,⟨_,rfl⟩,⟨rfl,c,f,rfl⟩,st',λb hb=>(g b hb).1⟩⟩;refine wpAny_pyNext_wide_item st f λh' st' B=>?_;have C:Inv X pins σ H {s with heap:=h',toks:=s.toks+1}:=I.turned (t':=s.toks+1) (λb o hb e=>(B.2 b hb).trans e) j l m n p;obtain⟨o,e,D,d⟩:=id st';exact⟨_,rfl,aL7 (s:={s with heap:=h',toks:=s.toks+1}) e D d (by decide) ⟨.str ⟨#[c]⟩,H,C,⟨_,rfl⟩,⟨rfl,c,f,rfl⟩,st',λb hb=>(g b hb).1⟩⟩
 done:=by
  intro X q r u y i pins s σ H E I g st A;subst q r u;have f:x.cps[i]? = none:=A;obtain⟨j,l,G,m,n,p⟩:=g it (by simp);rcases a with rfl | rfl;exact wpAny_pyNext_ascii_end (I.ok.hd y) st f λh' F=>⟨rfl,I.turned (t':=s.toks) (λb o hb e=>F b o hb e) j l m n p⟩;exact wpAny_pyNext_wide_end (I.ok.hd y) st f λh' F=>⟨rfl,I.turned (t':=s.toks) (λb o hb e=>F b o hb e) j l m n p⟩
 self:=λ_ _ _ _ _ st h=>by
  rcases a with rfl | rfl;exact wpAny_pyIter_striter_ascii st h;exact wpAny_pyIter_striter_wide st h
def dN1:V->Option Int->Option Int->Hp->VK->Prop:=λx lo hi H Q=>∃ z,x=.str z/\z.length<=sizeLine/\Q (.str (Txt.slice z lo hi)) H
def cR3:SlR X dN1:=by
 intro pins s σ H x v g m lo hi sl Q I e hs pl d h;obtain⟨z,rfl,f,q⟩:=h;obtain⟨t,rfl⟩:=e;refine⟨"str",_,F.slot_str_getitem.lookup,typeIs_str _ _ _,?_⟩;have fin:∀ b k,EP X pins σ Q (.str (Txt.slice z lo hi) b) {s with toks:=k}:=λb k=>⟨.str _,H,I.tok k,⟨b,rfl⟩,q⟩;have a:(Txt.slice z lo hi).length<=sizeLine:=a5e (Txt.slice_le z lo hi) f;cases pl with
 | none=>
   cases d with
   | none=>exact a5l (l:=none) (u:=none) (st:=none) hs rfl (post_val_or_str ⟨a,fin⟩)
   | int j c=>exact a5l (l:=none) (u:=some (j,c)) (st:=none) hs rfl (post_val_or_str ⟨a,fin⟩)
 | int i t1=>
   cases d with
   | none=>exact a5l (l:=some (i,t1)) (u:=none) (st:=none) hs rfl (post_val_or_str ⟨a,fin⟩)
   | int j c=>exact a5l (l:=some (i,t1)) (u:=some (j,c)) (st:=none) hs rfl (post_val_or_str ⟨a,fin⟩)
def yK:mS X (.builtin "isinstance") (λxs H Q=>∃ x c t b,xs=[x,.ty c]/\TyOf X.K H x t/\W.kitOne X.K t (.type c)=some b/\Q (.bl b) H):=by
 intro pins s σ H xs us Q I r h;obtain⟨x,c,t,b,rfl,ty,e,q⟩:=h;obtain⟨u,d,rfl,f,a⟩:=dD4 r;cases (show d=Value.type c from a);exact aM4 I f ty e λtk=>⟨.bl b,H,I.tok tk,rfl,q⟩
end
section
variable{σ:St}{H:Hp}{Q:VK}{v x y:V}{n:Nat}{i j:Int}{a b:Bool}{D:Ends}
end
noncomputable def eR(H:Hp)(p:Addr):Option (Bool×List V):=match H p with
 | some (.lst xs)=>some (true,xs)
 | some (.tup xs)=>some (false,xs)
 | some (.frz _ (.lst xs))=>some (true,xs)
 | _=>none
def bC0{H:Hp}{p:Addr}{xs:List V}(h:H p=some (.lst xs)):eR H p=some (true,xs):=by unfold eR;rw[h]
def cL{H:Hp}{p:Addr}{xs:List V}(h:H p=some (.tup xs)):eR H p=some (false,xs):=by unfold eR;rw[h]
def bC1{H:Hp}{p:Addr}{o:Obj}{xs:List V}(h:H p=some (.frz o (.lst xs))):eR H p=some (true,xs):=by unfold eR;rw[h]
def fT{K:W.Frag}{H:Hp}{p:Addr}{xs:List V}(h:eR H p=some (true,xs)):SqL K H p xs:=by
 unfold eR at h;split at h;rename_i e;cases h;exact .inl (.inl e);cases h;rename_i o ys e;cases h;exact .inl (.inr ⟨o,e⟩);cases h
def eG{K:W.Frag}{H:Hp}{p:Addr}{xs:List V}(h:eR H p=some (false,xs)):SqT K H p xs:=by
 unfold eR at h;split at h;cases h;rename_i e;cases h;exact .inl (.inl e);cases h;cases h
noncomputable def ixF(H:Hp)(x y:V):Option V:=match x,y with
 | .ref p,.int i=>(eR H p).bind λq=>atI q.2 i
 | .str z,.int i=>if z.length<=sizeLine then(atI z.cps.toList i).map λc=>.str ⟨#[c]⟩else none
 | _,_=>none
noncomputable def dA1(H:Hp)(x:V):Option Nat:=match x with
 | .ref p=>(eR H p).map (·.2.length)
 | .str z=>if z.length<=sizeLine then some z.length else none
 | _=>none
def dI6:R2:=λx y H Q=>∃ v,ixF H x y=some v/\Q v H
section
variable{X:Cx}
def dN2:IxR X dI6:=by
 intro a d pins s σ H x y v u Q I g j h hs;obtain⟨z,e,q⟩:=h;unfold ixF at e;split at e
 ·rename_i p i;cases f:eR H p with
  | none=>rw[f]at e;cases e
  | some w=>
    obtain⟨b,xs⟩:=w;rw[f]at e;cases b with
    | true=>exact cC1 a d pins s σ H _ _ v u Q I g j ⟨p,xs,i,z,rfl,rfl,fT f,e,q⟩ hs
    | false=>exact cQ5 a d pins s σ H _ _ v u Q I g j ⟨p,xs,i,z,rfl,rfl,eG f,e,q⟩ hs
 ·rename_i t i;split at e
  ·rename_i l;cases k:atI t.cps.toList i with
   | none=>rw[k]at e;cases e
   | some c=>
     rw[k]at e;cases e;exact cQ6 a d pins s σ H _ _ v u Q I g j ⟨t,i,c,rfl,rfl,l,k,q⟩ hs
  ·cases e
 ·cases e
def cR4:List V->Hp->VK->Prop:=λxs H Q=>∃ x n,xs=[x]/\dA1 H x=some n/\Q (.int n) H
def aX:mS X (.builtin "len") cR4:=by
 intro pins s σ H xs us Q I r h;obtain⟨x,n,rfl,e,q⟩:=h;unfold dA1 at e;split at e
 ·rename_i p;cases a:eR H p with
  | none=>rw[a]at e;cases e
  | some w=>
    obtain⟨b,xs⟩:=w;rw[a]at e;cases e;cases b with
    | true=>exact nZ pins s σ H _ us Q I r ⟨p,xs,rfl,.inl (fT a),q⟩
    | false=>exact nZ pins s σ H _ us Q I r ⟨p,xs,rfl,.inr (eG a),q⟩
 ·rename_i z;split at e;rename_i c;cases e;exact vW pins s σ H _ us Q I r ⟨z,rfl,c,q⟩;cases e
 ·cases e
def dI7:V->Option Int->Option Int->Hp->VK->Prop:=λx lo hi H Q=>match x with
 | .str z=>z.length<=sizeLine/\Q (.str (Txt.slice z lo hi)) H
 | .ref p=>(∃ xs,eR H p=some (true,xs)/\∀ r,H r=none->Q (.ref r) (upd H r (.lst (yG xs lo hi)))) \/
   ∃ xs,eR H p=some (false,xs)/\¬ (HT.sIx xs.length 0 lo=0/\HT.sIx xs.length xs.length hi=xs.length)/\∀ r,H r=none->Q (.ref r) (upd H r (.tup (yG xs lo hi)))
 | _=>False
def dE2:SlR X dI7:=by
 intro pins s σ H x v a b lo hi sl Q I c hs pl d h;unfold dI7 at h;split at h;rename_i z;exact cR3 pins s σ H _ v a b lo hi sl Q I c hs pl d ⟨z,rfl,h.1,h.2⟩;rename_i p;rcases h with⟨xs,e,q⟩ | ⟨xs,e,hw,q⟩;exact cC2 pins s σ H _ v a b lo hi sl Q I c hs pl d ⟨p,xs,rfl,fT e,q⟩;exact cQ3 pins s σ H _ v a b lo hi sl Q I c hs pl d ⟨p,xs,rfl,eG e,hw,q⟩;exact h.elim
def dI8(K:W.Frag)(b:TE):TI:=λσ H R=>b σ H λx a=>match x with
 | .str z=>R (Its z) a
 | .ref p=>(∃ xs,eR a p=some (true,xs)/\R (Itl K p) a)\/∃ xs,eR a p=some (false,xs)/\R (Itt K p) a
 | _=>False
def cR5{tg l:Expr}{i:TE}(k:PE X l i):PI X tg l (dI8 X.K i):=by
 intro pins s σ H R I h;refine thn (k pins s σ H _ I h) λv s1 Z0=>?_;obtain⟨x,f,c,j,d⟩:=Z0;split at d
 ·rename_i x;obtain⟨t,rfl⟩:=j;cases ha:x.cps.all (· < 128)with
  | true=>
    refine wpAny_pyIter_ascii ha ?_;refine⟨s1.heap.objs.size,[s1.heap.objs.size],_,_,f,rfl,c.kept (t':=s1.toks) λb o e=>a2a _ e,aA1 x t _ _ (.inl rfl),⟨_,a7a _ rfl,rfl,rfl⟩,λb hb=>?_,d⟩;have e:b=s1.heap.objs.size:=by simpa using hb
    subst e;exact c.fpOk (a8a _) (c.hok.fresh (a8a _))
  | false=>
    refine wpAny_pyIter_wide ha ?_;refine⟨s1.heap.objs.size,[s1.heap.objs.size],_,_,f,rfl,c.kept (t':=s1.toks) λb o e=>a2a _ e,aA1 x t _ _ (.inr rfl),⟨_,a7a _ rfl,rfl,rfl⟩,λb hb=>?_,d⟩;have e:b=s1.heap.objs.size:=by simpa using hb
    subst e;exact c.fpOk (a8a _) (c.hok.fresh (a8a _))
 ·rename_i a;cases j;rcases d with⟨xs,g,q⟩ | ⟨xs,g,q⟩
  ·obtain⟨its,m,p,n⟩:=c.list (fT g);refine wpAny_pyIter_list p.isList ?_;refine⟨s1.heap.objs.size,[s1.heap.objs.size],_,_,f,rfl,c.kept (t':=s1.toks) λb o e=>a2a _ e,aL8 a _,⟨_,a7a _ rfl,rfl,rfl⟩,λb hb=>?_,q⟩;have e:b=s1.heap.objs.size:=by simpa using hb
   subst e;exact c.fpOk (a8a _) (c.hok.fresh (a8a _))
  ·obtain⟨its,m,p,n⟩:=c.tuple (eG g);refine a4Q (show s1.heap.IsTuple a its.toArray from p) ?_;refine⟨s1.heap.objs.size,[s1.heap.objs.size],_,_,f,rfl,c.kept (t':=s1.toks) λb o e=>a2a _ e,aF0 a _,⟨_,a7a _ rfl,rfl,rfl⟩,λb hb=>?_,q⟩;have e:b=s1.heap.objs.size:=by simpa using hb
   subst e;exact c.fpOk (a8a _) (c.hok.fresh (a8a _))
 ·exact d.elim
noncomputable def bM5(N:List Str)(sc scope:Scope)(own:List Nat):Bool:=
 (match scope.kind with | .function=>true | _=>false) &&
 scope.names.all (λy=>match y.2 with
  | .cell=>(match scope.names.lookup y.1 with | some .cell=>true | _=>false)
  | .local=>(match scope.names.lookup y.1 with | some .local=>true | _=>false)
  | .free=>(match sc.names.lookup y.1 with | some .cell=>true | some .free=>true | _=>false)
  | _=>true) &&
 (List.range N.length).all λi=>match N[i]? with
  | some x=>(match scope.names.lookup x with | some .local=>own.contains i | some .cell=>own.contains i | _=>true)
  | none=>true
def csc{scope:Scope}(own:List Nat)(h:bM5 X.N X.env.scope scope own=true)(g:X.calm=true:=by rfl):CompScope X scope own:=by
 unfold bM5 at h;rw[a3c,a3c]at h;obtain⟨⟨j,b⟩,d⟩:=h;rw[a5i]at b d;refine⟨?_,λy a e=>?_,λy a e=>?_,λy a e=>?_,λi x f c=>?_,g⟩;revert j;cases scope.kind<;>simp;have:=b y a;rw[e]at this;dsimp only at this;split at this;assumption;cases this;have:=b y a;rw[e]at this;dsimp only at this;split at this;assumption;cases this;have:=b y a;rw[e]at this;dsimp only at this;show X.env.scope.names.lookup y.1=some .cell\/X.env.scope.names.lookup y.1=some .free;split at this;rename_i q;exact .inl q;rename_i q;exact .inr q;cases this;have hi:i < X.N.length:=(a0a.mp f).1;have:=d i (a7f.mpr hi);rw[f]at this;dsimp only at this;rcases c with c | c<;>rw[c]at this<;>simpa using this
end
structure ItIs(J:It)(xs:List V)(P:Hp->Prop):Prop where
 go:∀ H i x,P H->xs[i]? = some x->J.go i H
 yld:∀ H i x y H',P H->xs[i]? = some x->J.yld i H y H'->H'=H/\y=x
 stop:∀ H i,P H->xs[i]? = none->J.stop i H
def aN3{K:W.Frag}{a:Addr}{xs:List V}:ItIs (Itl K a) xs (λH=>SqL K H a xs) where
 go:=λH i x h e=>⟨xs,x,h,e⟩
 yld:=λH i x y H' h e ⟨b,c⟩=>⟨b,by have:=c xs h;rw[e]at this;exact(a4a this).symm⟩
 stop:=λH i h e=>⟨xs,h,a6d.mp e⟩
def bC2{K:W.Frag}{a:Addr}{xs:List V}:ItIs (Itt K a) xs (λH=>SqT K H a xs) where
 go:=λH i x h e=>⟨xs,x,h,e⟩
 yld:=λH i x y H' h e ⟨b,c⟩=>⟨b,by have:=c xs h;rw[e]at this;exact(a4a this).symm⟩
 stop:=λH i h e=>⟨xs,h,a6d.mp e⟩
noncomputable def cC9(lo:Int)(n:Nat):List V:=(List.range n).map λ(i:Nat)=>V.int (lo+(i:Int))
def aA2{lo:Int}{n i:Nat}{x:V}(h:(cC9 lo n)[i]? = some x):i < n/\x=.int (lo+i):=by
 unfold cC9 at h;rw[a8b]at h;cases e:(List.range n)[i]? with
 | none=>rw[e]at h;cases h
 | some k=>
   rw[e]at h;obtain⟨hi,a⟩:=a0a.mp e;rw[List.length_range]at hi;rw[List.getElem_range]at a;subst a;exact⟨hi,(a4a h).symm⟩
def yL(lo:Int)(n:Nat):(cC9 lo n).length=n:=by simp[cC9]
def aA3{lo:Int}{n:Nat}{P:Hp->Prop}:ItIs (Itr lo n) (cC9 lo n) P where
 go:=λH i x _ e=>(aA2 e).1
 yld:=λH i x y H' _ e ⟨a,b⟩=>⟨a,by rw[(aA2 e).2];exact b⟩
 stop:=λH i _ e=>by
  have:=a6d.mp e;rw[yL]at this;exact this
noncomputable def eI(x:Str):List V:=x.cps.toList.map λc=>.str ⟨#[c]⟩
def eX(x:Str):(eI x).length=x.length:=by simp[eI,Str.length]
def bC3{x:Str}{P:Hp->Prop}:ItIs (Its x) (eI x) P where
 go:=λH i v _ e=>by
  unfold eI at e;rw[a8b]at e;cases q:x.cps.toList[i]? with
  | none=>rw[q]at e;cases e
  | some c=>exact⟨c,by simpa using q⟩
 yld:=λH i v y H' _ e ⟨b,c,d,f⟩=>⟨b,by
  unfold eI at e;rw[a8b]at e;have q:x.cps.toList[i]? = some c:=by simpa using d
  rw[q]at e;cases e;exact f⟩
 stop:=λH i _ e=>by
  have a:=a6d.mp e;rw[eX]at a;show x.cps[i]? = none;rw[Array.getElem?_eq_none_iff];exact a
section
variable{σ:St}{H:Hp}{Q:VK}{z:Str}{p q:Addr}{xs ys:List V}{i j:Int}{b:Bool}{v x y:V}
def bC4(h:z.length<=sizeLine):dA1 H (.str z)=some z.length:=by show(if z.length<=sizeLine then some z.length else none)=_;rw[a4A h]
def aA4(h:eR H p=some (b,xs)):dA1 H (.ref p)=some xs.length:=by show(eR H p).map (·.2.length)=_;rw[h];rfl
def aN4(h:eR H p=some (b,xs))(e:atI xs i=some v):ixF H (.ref p) (.int i)=some v:=by show(eR H p).bind (λq=>atI q.2 i)=_;rw[h];exact e
def cD0{c:Nat}(h:z.length<=sizeLine)(e:atI z.cps.toList i=some c):ixF H (.str z) (.int i)=some (.str ⟨#[c]⟩):=by
 show(if z.length<=sizeLine then(atI z.cps.toList i).map λc=>V.str ⟨#[c]⟩else none)=_;rw[a4A h,e];rfl
end
def bC5{X:Cx}{x z:Str}{pos:Pos}(a:Gl X x)(h:∃ t,X.mg x=some (.str z t))(hd:(x==("__debug__":Str))=false:=by decide):PE X (.Name x pos) (tC (.str z)):=
 let ⟨_,e⟩:=h;aL2 a e ⟨_,rfl⟩ hd
def bC6{X:Cx}{x:Str}{i:Int}{pos:Pos}(a:Gl X x)(h:∃ t,X.mg x=some (.int i t))(hd:(x==("__debug__":Str))=false:=by decide):PE X (.Name x pos) (tC (.int i)):=
 let ⟨_,e⟩:=h;aL2 a e ⟨_,rfl⟩ hd
section
variable{σ:St}{H:Hp}{Q:VK}{p:Addr}{xs:List V}{k:Int}{j:Nat}{v:V}
def cR6{a:Type}{ys:List a}{i:Int}(h0:0<=i)(b:i < ys.length):∃ c,atI ys i=some c:=by
 obtain⟨n,rfl⟩:=Int.eq_ofNat_of_zero_le h0;have hn:n < ys.length:=by lia
 exact⟨ys[n],cC0 (a1a hn)⟩
end
end L2
namespace L2
open PySem
def cD1{a b:Type}{f:a->b}{ys:List a}{i:Int}:atI (ys.map f) i=(atI ys i).map f:=by
 unfold atI;rw[a3e];cases ixN ys.length i with
 | none=>rfl
 | some j=>simp
def bE{H:Hp}{p:Addr}{o:HO}(h:H p=none):tM H (upd H p o):=λb u e=>by rw[aK (aY e h)];exact e
end L2
namespace L2
def bC7{K:PySem.W.Frag}{t:String}:PySem.W.kitOne K (.type t) (.type t)=some true:=by
 unfold PySem.W.kitOne;rw[a4A (by simp)]
open PySem PySem.Spec PyProof.Rows
section
variable{prog:Program}{w:World}{A:Around}{E:Value->Shared->Prop}
theorem pK{it:Addr}{x:Str}{t:Tok}{ty:String}(f:ty="str_ascii_iterator"\/ty="str_iterator"):∀ (n i:Nat) (s:Shared) (Q:List Value->Shared->Prop),s.heap.IsStrIter it ty x t i->i+n<=x.length ->
  (∀ h' tk us,h'.IsStrIter it ty x t (i+n)->Heap.SameBut it s.heap h'->bW (((eI x).drop i).take n) us->Q us {s with heap:=h',toks:=tk})->wpAny (model prog w) A (draw (.ref it) n) Q E s
 | 0,i,s,Q,hit,_,j=>by
   show wpAny _ _ (pure []) Q E s;exact a4y (by simpa using j s.heap s.toks [] hit (Heap.SameBut.refl ..) (by simpa using(.nil:bW [] [])))
 | n+1,i,s,Q,hit,hle,j=>by
   have g:i < x.cps.size:=by have:x.length=x.cps.size:=rfl;lia
   have k:x.cps[i]? = some x.cps[i]:=by simp[g]
   have hd:(eI x).drop i=V.str ⟨#[x.cps[i]]⟩::(eI x).drop (i+1):=by
    rw[List.drop_eq_getElem_cons (by rw[eX];exact g)];congr 1;simp[eI]
   show wpAny _ _ (pyNext (.ref it) >>= _) Q E s;have go:∀ b,b.IsStrIter it ty x t (i+1)->Heap.SameBut it s.heap b ->
     wpAny (model prog w) A (match (some (Value.str ⟨#[x.cps[i]]⟩ s.toks))with | none=>pure [] | some v=>do return v::(← holding [v] (draw (.ref it) n))) Q E {s with heap:=b,toks:=s.toks+1}:=λb a c=>by
    refine a4x (a4C (pK f n (i+1) _ _ a (by lia) λh tk us d e l=>a4y ?_));refine j h tk _ (by rw[show i+(n+1)=i+1+n by lia];exact d) (c.trans e) ?_;rw[hd,List.take_succ_cons];exact .cons ⟨_,rfl⟩ l
   rcases f with rfl | rfl;exact a4x (wpAny_pyNext_ascii_item hit k λb a c=>go b a c);exact a4x (wpAny_pyNext_wide_item hit k λb a c=>go b a c)
def tO{s:Shared}{x:Str}{t:Tok}{targets:List (Bool×(Value->Sem Unit))}{Q:Unit->Shared->Prop}(hh:A.handled=none)
  (hn:targets.length=x.length) (hstar:targets.findIdx? (·.1)=none)
  (h:∀ h' tk us,Heap.ExtBut s.heap.objs.size s.heap h'->bW (eI x) us->wpAny (model prog w) A (assignInOrder (targets.map (·.2)) us) Q E {s with heap:=h',toks:=tk}) :
  wpAny (model prog w) A (unpack (.str x t) targets) Q E s:=by
 unfold unpack;rw[hn,hstar];refine a4x (a4C ?_);unfold unpackItems;refine a4x ?_;unfold notIterableAtAll;refine a4x (a4Y (typeIs_str _ _ _) F.slot_str_iter.lookup ?_);refine a4y ?_;simp only[Bool.false_eq_true,if_false];have go:∀ ty,(ty="str_ascii_iterator"\/ty="str_iterator")->wpAny (model prog w) A (do
   let items ← holding [Value.ref s.heap.objs.size] (draw (.ref s.heap.objs.size) x.length)
   if items.length < x.length then
    rule "unpack.too-few";raiseError "ValueError" s!"not enough values to unpack (expected {x.length}, got {items.length})"
   if(← holding items (pyNext (.ref s.heap.objs.size))).isSome then
    rule "unpack.too-many";raiseError "ValueError" s!"too many values to unpack (expected {x.length})"
   return items:Sem (List Value)) (λus s'=>wpAny (model prog w) A (assignInOrder (targets.map (·.2)) us) Q E s') E {s with heap:=s.heap.push {cls:=.type ty,data:=.fields #[.str x t,.int 0 0]}}:=by
  intro ty hty;refine a4x (a4C (pK (it:=s.heap.objs.size) (x:=x) (t:=t) hty x.length 0 _ _ ⟨_,a7a _ rfl,rfl,rfl⟩ (by lia) λh₁ tk us hit₁ hs₁ hv=>?_));have hv':bW (eI x) us:=by
   have e:((eI x).drop 0).take x.length=eI x:=by
    rw[List.drop_zero];exact a2d (by rw[eX];exact a8a _)
   rw[e]at hv;exact hv
  have hl:us.length=x.length:=by rw[← hv'.length,eX]
  rw[a4z (by lia)];have hend:x.cps[x.length]? = none:=by simp[Str.length]
  rw[a9e]at hit₁;have fin:∀ h₂,Heap.ExtBut s.heap.objs.size h₁ h₂->wpAny (model prog w) A (do
    if(none:Option Value).isSome then
     rule "unpack.too-many";raiseError "ValueError" s!"too many values to unpack (expected {x.length})"
    return us:Sem (List Value)) (λus s'=>wpAny (model prog w) A (assignInOrder (targets.map (·.2)) us) Q E s') E {s with heap:=h₂,toks:=tk}:=by
   intro h₂ he₂;simp only[Option.isSome_none,Bool.false_eq_true,if_false];exact a4y (h h₂ tk us (λb o hb e=>he₂ b o hb (hs₁.extBut b o hb (a2a _ e))) hv')
  rcases hty with rfl | rfl;exact a4x (a4C (wpAny_pyNext_ascii_end hh hit₁ hend λh₂ he₂=>fin h₂ he₂));exact a4x (a4C (wpAny_pyNext_wide_end hh hit₁ hend λh₂ he₂=>fin h₂ he₂))
 cases ha:x.cps.all (· < 128)with
 | true=>exact a4x (a4C (wpAny_pyIter_ascii ha (go _ (.inl rfl))))
 | false=>exact a4x (a4C (wpAny_pyIter_wide ha (go _ (.inr rfl))))
end
section
variable{X:Cx}{pos:Pos}
def aG1(K:W.Frag)(n:Nat)(t:TGs):TG:=λv σ H Q=>match v with
 | .str z=>z.length=n/\t (eI z) σ H Q
 | .ref a=>∃ xs,eR H a=some (false,xs)/\xs.length=n/\t xs σ H Q
 | _=>False
def cD2{es:List Expr}{k:Nat}{t:TGs}{n:Nat}(g:X.calm=true)(h:PGs X es t)
  (hn:(assignEach es X.env).length=n:=by rfl) (d:(assignEach es X.env).findIdx? (·.1)=none:=by rfl):PG X (.Tuple es k pos) (aG1 X.K n t):=by
 intro pins s σ H v u Q I r c;unfold aG1 at c;split at c;rename_i z;obtain⟨f,c⟩:=c;obtain⟨tk,rfl⟩:=r;rw[assign_Tuple];refine a4x (a5r (tO (I.ok.hd g) (hn.trans f.symm) d λh' tk us i j=>?_));have l:Inv X pins σ H {s with heap:=h',toks:=tk}:=I.kept λb o e=>i b o (a0d (a5a e)) e;exact h pins _ σ H _ _ Q l j c;rename_i a;obtain⟨xs,m,f,c⟩:=c;exact cO7 (k:=k) (pos:=pos) g h hn d pins s σ H _ u Q I r ⟨a,xs,rfl,eG m,f,c⟩;exact c.elim
end
section
variable{X:Cx}
def cR7:List V->Hp->VK->Prop:=λxs H Q=>∃ p b ys,xs=[.ref p]/\eR H p=some (b,ys)/\if b=true then ∀ l,H l=none->Q (.ref l) (upd H l (.tup ys))else Q (.ref p) H
def dG:mS X (.type "tuple") cR7:=by
 intro pins s σ H xs us Q I r h;obtain⟨p,b,ys,rfl,a,q⟩:=h;cases b with
 | true=>exact lD pins s σ H _ us Q I r ⟨p,ys,rfl,.inl ⟨fT a,by simpa using q⟩⟩
 | false=>exact lD pins s σ H _ us Q I r ⟨p,ys,rfl,.inr ⟨eG a,by simpa using q⟩⟩
def cD3:R2:=λx y H Q=>match x,y with
 | .int i,.int j=>cP2 i j/\Q (.int (i*j)) H
 | .str z,.int i=>z.length<=1000/\0<=i/\i<=1000/\∀ y:Str,y.length<=z.length*i.toNat->y=Txt.mul z i->Q (.str y) H
 | _,_=>False
def cD4(z:Str)(i:Int)(h0:0<=i):(Txt.mul z i).length<=z.length*i.toNat:=by
 unfold Txt.mul;by_cases b:i < 1;rw[a4A b];exact a4e _;rw[a4z b];by_cases c:(i==1||z.length==0)=true
 ·rw[a4A c];have:1<=i.toNat:=by lia
  calc z.length=z.length*1:=by rw[Nat.mul_one]
   _<=z.length*i.toNat:=Nat.mul_le_mul_left _ this
 ·rw[a4z c];have a:∀ (k:Nat) (acc:Array Nat),((List.replicate k z.cps).foldl (· ++ ·) acc).size=acc.size+k*z.cps.size:=by
   intro k
   induction k with
   | zero=>intro acc;simp
   | succ k d=>
     intro acc;rw[List.replicate_succ,List.foldl_cons,d,Array.size_append,Nat.succ_mul];lia
  show((List.replicate i.toNat z.cps).foldl (· ++ ·) #[]).size<=_;rw[a];show 0+_<=_;rw[a9e,a0i];exact a8a _
def cR8:OpR X (binaryOp .Mult) cD3:=by
 intro pins s σ H x y v u Q I a b h;unfold cD3 at h;split at h;exact cP4 pins s σ H _ _ v u Q I a b ⟨_,_,rfl,rfl,h.1,h.2⟩
 ·rename_i z i;obtain⟨d,e,g,q⟩:=h;obtain⟨t,rfl⟩:=a;obtain⟨c,rfl⟩:=b;have f:z.length*i.toNat<=1000*1000:=Nat.mul_le_mul d (by lia);refine SB.mul ⟨?_,λha hb=>?_,λha hb=>?_⟩ λc k=>⟨.str _,H,I.tok k,⟨c,rfl⟩,q _ (cD4 z i e) rfl⟩;rw[a4D (by lia),a4D (by lia)];rfl
  ·have j:(1000:Int)<=(2 ^ 63-1) / i:=by
    rw[Int.le_ediv_iff_mul_le (by lia)];lia
   lia
  ·unfold Builtin.Str.tooLong;exact a4D (by rw[a4P];lia)
 ·exact h.elim
end
section
variable{H:Hp}{Q:VK}{i j:Int}{p:Addr}{b:Bool}{xs:List V}
end
end L2
namespace L2
open PySem
open PySem.Spec PyProof.Rows
noncomputable instance:DecidableEq Dt:=λ_ _=>Classical.propDecidable _
section
variable{X:Cx}{pins:List (Addr×Obj)}{σ:St}{H:Hp}{s:Shared}
end
section
variable{X:Cx}{pins:List (Addr×Obj)}{σ:St}{H:Hp}{s:Shared}
end
section
variable{X:Cx}
def cD5{prog:Program}{w:World}{A:Around}{E:Value->Shared->Prop}{s:Shared}{t b:Addr}{ws:List Value}{Q:Value->Shared->Prop}(g:IsTup s.heap t ([]:List Value).toArray)(hb:IsTup s.heap b ws.toArray)
  (h:Q (.ref b) s):wpAny (model prog w) A (binaryOp .Add (.ref t) (.ref b)) Q E s:=by
 obtain⟨⟨cls,i,data,sl⟩,d,e,n,hd⟩:=id g;obtain⟨⟨f,c,data2,sl2⟩,ho2,a,n2,hd2⟩:=id hb;simp only at e hd a hd2;subst e hd a hd2;exact concat_meets ⟨_,d,rfl⟩ ⟨_,ho2,rfl⟩ noFill_tuple_add seq_tuple_add F.slot_tuple_add F.entry_tuple_add (F.args_tuple_add_2 _ _)
   (tuple_addW0 t b ([]:List Value).toArray ws.toArray n n2 i c sl sl2 (by simp)) ⟨d,ho2,h⟩
def cD6:R2:=λx y H Q=>match x,y with
 | .int i,.int j=>Q (.int (i+j)) H
 | .str a,.str b=>a.length+b.length<=sizeLine/\Q (.str (a++b)) H
 | .ref p,.ref q=>(∃ xs ys,H p=some (.lst xs)/\H q=some (.lst ys)/\xs.length+ys.length<=sizeLine/\∀ r,H r=none->Q (.ref r) (upd H r (.lst (xs++ys)))) \/
   ∃ xs ys,eR H p=some (false,xs)/\eR H q=some (false,ys)/\xs.length+ys.length<=sizeLine/\(xs=[]->Q (.ref q) H)/\(xs≠[]->ys=[]->Q (.ref p) H)/\(xs≠[]->ys≠[]->∀ r,H r=none->Q (.ref r) (upd H r (.tup (xs++ys))))
 | _,_=>False
def cR9:OpR X (binaryOp .Add) cD6:=by
 intro pins s σ H x y v u Q I a b h;unfold cD6 at h;split at h;exact cP3 pins s σ H _ _ v u Q I a b ⟨_,_,rfl,rfl,h⟩;exact aF4 pins s σ H _ _ v u Q I a b ⟨_,_,rfl,rfl,h.1,h.2⟩;rename_i p q;rcases h with⟨xs,ys,d,f,g,q⟩ | ⟨xs,ys,d,f,g,j,k,l⟩;exact cR1 pins s σ H _ _ v u Q I a b ⟨_,_,xs,ys,rfl,rfl,d,f,g,q⟩;by_cases c:xs=[];cases a;cases b;obtain⟨its,m,n,_⟩:=I.tuple (eG d);obtain⟨i,r,o,_⟩:=I.tuple (eG f);have e:its=[]:=m.nil_iff.mpr c;subst e;exact cD5 n o ⟨.ref q,H,I,rfl,j c⟩;exact cB9 pins s σ H _ _ v u Q I a b ⟨p,q,xs,ys,rfl,rfl,eG d,eG f,c,g,k c,l c⟩;exact h.elim
def dA2(neg:Bool):R2:=λx y H Q=>match y with
 | .non=>Q (.bl (if neg then !decide (x=.non)else decide (x=.non))) H
 | .bl b=>(match x with | .bl a=>Q (.bl (if neg then !decide (a=b)else decide (a=b))) H | _=>False)
 | _=>False
end
section
variable{X:Cx}
def yM:OpR X (compareOp .IsNot) (dA2 true):=by
 intro pins s σ H x y v u Q I c d h;unfold dA2 at h;split at h;exact cB1 pins s σ H _ _ v u Q I c d ⟨rfl,by simpa using h⟩;split at h;rename_i b a;cases c;cases d;exact isnot_bool (zY I h (by cases a<;>cases b<;>rfl));exact h.elim;exact h.elim
theorem aN5:∀ {b:List Str} {us:List Value},bW (b.map V.str) us->∀ u∈us,∃ z t,u=.str z t
 | [],_,.nil=>λu a=>nomatch a
 | z::r,_,.cons c d=>λu a=>by
   rcases a2b.mp a with e | e;obtain⟨t,q⟩:=c;exact⟨z,t,e.trans q⟩;exact aN5 d u e
noncomputable def isZ(z:Str):Value->Bool
 | .str y _=>y==z
 | _=>false
end
section
variable{prog:Program}{w:World}{A:Around}{E:Value->Shared->Prop}{s:Shared}
def bC8{a:Addr}{o:Obj}{Q:Option Obj->Shared->Prop}(b:s.heap.get? a=some o)(h:Q (some o) s):wpAny (model prog w) A (loadIfAlive a) Q E s:=λΓ p _=>by
 unfold loadIfAlive;rw[Sem.wp_loadIfAlive,b];simpa using h
def aG2(h:Heap)(z TI TO T:Addr)(b:Bool):Prop:=h.get? z=some {cls:=.type "zip",dict:=none,data:=.fields #[rawInt T,.bool b,.bool false,.ref TI,.ref TO],slots:=#[]}
def aG2.heap{h:Heap}{z TI TO T:Addr}{b:Bool}(hz:aG2 h z TI TO T b):h.get? z=some {cls:=.type "zip",dict:=none,data:=.fields #[rawInt T,.bool b,.bool false,.ref TI,.ref TO],slots:=#[]}:=hz
def wA{z TI TO T:Addr}{b:Bool}{o:Obj}{Q:Bool->Shared->Prop}(hz:aG2 s.heap z TI TO T b)(e:s.heap.get? T=some o)
  (h:∀ h',aG2 h' z TI TO T true->Heap.SameBut z s.heap h'->Q false {s with heap:=h'}):wpAny (model prog w) A (Builtin.SmallTypes.ownedTupleIsFree (.ref z)) Q E s:=by
 unfold Builtin.SmallTypes.ownedTupleIsFree;refine a4x (a4G hz.heap rfl (x:=rawInt T) rfl ?_);show wpAny _ _ (loadIfAlive (T:Int).toNat >>= _) _ _ _;refine a4x (bC8 (a:=(T:Int).toNat) (by rw[Int.toNat_natCast];exact e) ?_);show wpAny _ _ (if(some o).isNone=true then _ else _) _ _ _;rw[a4z (by simp)]
 try (refine a4x (a4y ?_))
 show wpAny _ _ (field (.ref z) 1 >>= _) _ _ _;refine a4x (a4G hz.heap rfl (x:=.bool b) rfl ?_);cases b with
 | true=>
   rw[a4z (by decide)]
   try (refine a4x (a4y ?_))
   exact a4y (h s.heap hz (Heap.SameBut.refl _ _))
 | false=>
   rw[a4A (by decide)];refine a4x (wpAny_setField_rec hz.heap (by simp) λh' c d=>?_);exact a4y (h h' c d)
def aN6{z TI TO i1 i2 l1 l2 T:Addr}{u:Bool}{o:Obj}{k l:Nat}{xs ys:Array Value}{x y:Value}{Q:Value->Shared->Prop}(D:ZipApart z TI TO i1 i2 l1 l2)
  (hz:aG2 s.heap z TI TO T u) (B:s.heap.get? T=some o) (m:IsPair s.heap TI (.ref i1) (.ref i2))
  (C:s.heap.IsListIter i1 l1 k) (F:s.heap.IsListIter i2 l2 l) (n:s.heap.IsList l1 xs) (p:s.heap.IsList l2 ys) (G:xs[k]? = some x) (H:ys[l]? = some y)
  (I:∀ h',aG2 h' z TI TO T true->h'.IsListIter i1 l1 (k+1)->h'.IsListIter i2 l2 (l+1)->IsPair h' s.heap.objs.size x y->h'.objs.size=s.heap.objs.size+1 ->
   (∀ c o,c≠z->c≠i1->c≠i2->s.heap.get? c=some o->h'.get? c=some o)->Q (.ref s.heap.objs.size) {s with heap:=h'}) :
  wpAny (model prog w) A (Builtin.«zip.__next__» ⟨[.ref z],[]⟩) (λfin s'=>∃ v,fin=.done (.ret v)/\Q v s') E s:=by
 (show wpAny _ _ (field (.ref z) 2 >>= _) _ _ _;refine a4x (a4G hz.heap rfl (x:=.bool false) rfl ?_))
 (show wpAny _ _ (field (.ref z) 3 >>= _) _ _ _;refine a4x (a4G hz.heap rfl (x:=.ref TI) rfl ?_))
 refine a4x (a4K m rfl ?_)
 (show wpAny _ _ (Builtin.SmallTypes.ownedTupleIsFree (.ref z) >>= _) _ _ _;refine a4x (wA hz B λq g a=>?_))
 rw[a4z (by decide)]
 try (refine a4x (a4y ?_))
 refine a4x ?_;simp only[List.forIn_toArray,List.forIn_cons,List.forIn_nil];refine a4x (a4x (a4C ?_))
 (show wpAny _ _ (Builtin.SmallTypes.nextOf (.ref i1) >>= _) _ _ _;refine a4x (wpAny_nextOf_list_item (C.extBut a.extBut D.i1z) (n.extBut a.extBut D.l1z) G λr h b=>a4y (a4y ?_)))
 refine a4x (a4x (a4C ?_))
 (show wpAny _ _ (Builtin.SmallTypes.nextOf (.ref i2) >>= _) _ _ _;refine a4x (wpAny_nextOf_list_item ((F.extBut a.extBut D.i2z).extBut b.extBut D.i12.symm) ((p.extBut a.extBut D.l2z).extBut b.extBut D.l2i1) H λd i f=>a4y (a4y (a4y ?_))))
 refine a4x (wpAny_newTuple (hsz:=by show 2<=sizeLine;decide) ?_);have hsz:d.objs.size=s.heap.objs.size:=by rw[f.1,b.1,a.1]
 have j:aG2 d z TI TO T true:=f.extBut _ _ D.i2z.symm (b.extBut _ _ D.i1z.symm g);have up:∀ c o,d.get? c=some o->(d.push {cls:=.type "tuple",data:=.seq #[x,y]}).get? c=some o:=λc o e=>a2a _ e;refine a4y ⟨_,rfl,?_⟩;show Q (.ref d.objs.size) _;have t:IsPair (d.push {cls:=.type "tuple",data:=.seq #[x,y]}) d.objs.size x y:=a7a _ rfl;rw[hsz]at t ⊢;exact I _ (up _ _ j) ((h.extBut f.extBut D.i12).at λo e=>up _ o e) (i.at λo e=>up _ o e) t (by rw[a4g,hsz]) λc o J K L e=>up c o (f.extBut _ _ L (b.extBut _ _ K (a.extBut _ _ J e)))
def bC9{z TI TO i1 i2 l1 l2 T:Addr}{H:Bool}{o:Obj}{k l:Nat}{xs ys:Array Value}{Q:Fin->Shared->Prop}(B:A.handled=none)(D:ZipApart z TI TO i1 i2 l1 l2)
  (hz:aG2 s.heap z TI TO T H) (I:s.heap.get? T=some o) (m:IsPair s.heap TI (.ref i1) (.ref i2))
  (C:s.heap.IsListIter i1 l1 k) (J:s.heap.IsListIter i2 l2 l) (g:s.heap.IsList l1 xs) (n:s.heap.IsList l2 ys) (i:xs[k]? = none\/ys[l]? = none)
  (F:∀ h' e,(∀ c o,c≠z->c≠i1->c≠i2->s.heap.get? c=some o->h'.get? c=some o)->(∃ o,h'.get? e=some o/\o.cls=.type "StopIteration")->E (.ref e) {s with heap:=h'}) :
  wpAny (model prog w) A (Builtin.«zip.__next__» ⟨[.ref z],[]⟩) Q E s:=by
 (show wpAny _ _ (field (.ref z) 2 >>= _) _ _ _;refine a4x (a4G hz.heap rfl (x:=.bool false) rfl ?_))
 (show wpAny _ _ (field (.ref z) 3 >>= _) _ _ _;refine a4x (a4G hz.heap rfl (x:=.ref TI) rfl ?_))
 refine a4x (a4K m rfl ?_)
 (show wpAny _ _ (Builtin.SmallTypes.ownedTupleIsFree (.ref z) >>= _) _ _ _;refine a4x (wA hz I λG p a=>?_))
 rw[a4z (by decide)]
 try (refine a4x (a4y ?_))
 refine a4x ?_;simp only[List.forIn_toArray,List.forIn_cons,List.forIn_nil];refine a4x (a4x (a4C ?_))
 (show wpAny _ _ (Builtin.SmallTypes.nextOf (.ref i1) >>= _) _ _ _)
 cases r:xs[k]? with
 | none=>
   refine a4x (wpAny_nextOf_list_end B (C.extBut a.extBut D.i1z) (g.extBut a.extBut D.l1z) r λd e b t=>F d e (λc o u v _ q=>b _ _ v (a.extBut _ _ u q)) t)
 | some x=>
   have K:ys[l]? = none:=by
    rcases i with h | h;rw[r]at h;exact(nomatch h);exact h
   refine a4x (wpAny_nextOf_list_item (C.extBut a.extBut D.i1z) (g.extBut a.extBut D.l1z) r λd y b=>a4y (a4y ?_));refine a4x (a4x (a4C ?_))
   (show wpAny _ _ (Builtin.SmallTypes.nextOf (.ref i2) >>= _) _ _ _)
   refine a4x (wpAny_nextOf_list_end B ((J.extBut a.extBut D.i2z).extBut b.extBut D.i12.symm) ((n.extBut a.extBut D.l2z).extBut b.extBut D.l2i1) K λj e f t=>?_);exact F j e (λc o u v L q=>f _ _ L (b.extBut _ _ v (a.extBut _ _ u q))) t
def aG3{z TI TO i1 i2 l1 l2 T:Addr}{h:Bool}{o:Obj}{b d:Nat}{xs ys:Array Value}{x y:Value}{Q:Option Value->Shared->Prop}(D:ZipApart z TI TO i1 i2 l1 l2)
  (hz:aG2 s.heap z TI TO T h) (i:s.heap.get? T=some o) (e:IsPair s.heap TI (.ref i1) (.ref i2))
  (j:s.heap.IsListIter i1 l1 b) (k:s.heap.IsListIter i2 l2 d) (f:s.heap.IsList l1 xs) (g:s.heap.IsList l2 ys) (l:xs[b]? = some x) (m:ys[d]? = some y)
  (n:∀ h',aG2 h' z TI TO T true->h'.IsListIter i1 l1 (b+1)->h'.IsListIter i2 l2 (d+1)->IsPair h' s.heap.objs.size x y->h'.objs.size=s.heap.objs.size+1 ->
   (∀ c o,c≠z->c≠i1->c≠i2->s.heap.get? c=some o->h'.get? c=some o)->Q (some (.ref s.heap.objs.size)) {s with heap:=h'}) :
  wpAny (model prog w) A (pyNext (.ref z)) Q E s:=by
 have a:s.TypeIs (.ref z) "zip":=⟨_,hz,rfl⟩
 (unfold pyNext;refine a4x (a5m (wpAny_callSpecial?_slot (name:=Str.ofString "__next__") a F.slot_zip_next ?_)))
 exact a4H F.slot_zip_next a F.entry_zip_next (aN6 D hz i e j k f g l m λh' a1 a3 a4 a5 a6 a7=>a4y (n h' a1 a3 a4 a5 a6 a7)) (F.args_zip_next_1 _)
def aN7{z TI TO i1 i2 l1 l2 T:Addr}{k:Bool}{o:Obj}{i j:Nat}{xs ys:Array Value}{Q:Option Value->Shared->Prop}(l:A.handled=none)(D:ZipApart z TI TO i1 i2 l1 l2)
  (hz:aG2 s.heap z TI TO T k) (m:s.heap.get? T=some o) (f:IsPair s.heap TI (.ref i1) (.ref i2))
  (n:s.heap.IsListIter i1 l1 i) (p:s.heap.IsListIter i2 l2 j) (g:s.heap.IsList l1 xs) (h:s.heap.IsList l2 ys) (a:xs[i]? = none\/ys[j]? = none)
  (q:∀ h',(∀ c o,c≠z->c≠i1->c≠i2->s.heap.get? c=some o->h'.get? c=some o)->Q none {s with heap:=h'}):wpAny (model prog w) A (pyNext (.ref z)) Q E s:=by
 have d:s.TypeIs (.ref z) "zip":=⟨_,hz,rfl⟩
 (unfold pyNext;refine a4x (a5m (wpAny_callSpecial?_slot (name:=Str.ofString "__next__") d F.slot_zip_next ?_)))
 refine a4H F.slot_zip_next d F.entry_zip_next (bC9 l D hz m f n p g h a λh' e r t=>?_) (F.args_zip_next_1 _);obtain⟨o,u,v⟩:=t;exact a4x (wpAny_isInstance (T:="StopIteration") (b:=true) ⟨o,u,v⟩ isSubtype_stop (a4y (q _ r)))
end
noncomputable abbrev gZ(acc:Array Value)(c:Nat):Obj:={cls:=.type "list",dict:=none,data:=.seq acc c,slots:=#[]}
structure LoopJ(prog:Program)(w:World)(A:Around)(I S:Addr)(n:Nat)(J:Nat->Array Value->Heap->Prop)(K:Array Value->Heap->Prop):Prop where
 item:∀ i acc (s:Shared) (c:Nat) (Q:Option Value->Shared->Prop) (E:Value->Shared->Prop),i < n->J i acc s.heap->s.heap.get? S=some (gZ acc c) ->
  (∀ v h' tk,J (i+1) (acc.push v) h'->h'.get? S=some (gZ acc c)->Q (some v) {s with heap:=h',toks:=tk})->wpAny (model prog w) A (pyNext (.ref I)) Q E s
 done:∀ acc (s:Shared) (c:Nat) (Q:Option Value->Shared->Prop) (E:Value->Shared->Prop),J n acc s.heap->s.heap.get? S=some (gZ acc c) ->
  (∀ h' tk,K acc h'->h'.get? S=some (gZ acc c)->Q none {s with heap:=h',toks:=tk})->wpAny (model prog w) A (pyNext (.ref I)) Q E s
 frame:∀ i acc h h',J i acc h->h'.objs.size=h.objs.size->(∀ b o,b≠S->h.get? b=some o->h'.get? b=some o)->J i acc h'
section
variable{prog:Program}{w:World}{A:Around}{E:Value->Shared->Prop}{I S:Addr}{n:Nat}{J:Nat->Array Value->Heap->Prop}{K:Array Value->Heap->Prop}{R:Result->Shared->Prop}
def bD0(L:LoopJ prog w A.in1 I S n J K)(hn:n<=sizeLine)(res:Value):∀ (k i:Nat) (s:Shared) (acc:Array Value) (c:Nat),n-i=k->i<=n->J i acc s.heap->acc.size=i->s.heap.get? S=some (gZ acc c) ->
  (∀ h' tk a j,K a h'->a.size=n->h'.get? S=some (gZ a j)->R (.ok (.ret res)) {s with heap:=h',toks:=tk})->codeAny (model prog w) A (.builtin "list.extend.loop" ⟨[.ref S,.ref I,res],[]⟩) R s:=by
 intro k
 induction k with
 | zero=>
   intro i s acc c x hi l ha m p;obtain rfl:i=n:=by lia
   (refine a4O F.entry_extend_loop ?_;rw[a4f a3g _])
   (show wpAny _ A.in1 (pyNext (.ref I) >>= _) _ _ s;refine a4x (L.done acc s c _ _ l m λh' tk q d=>?_))
   exact a4y (p h' tk acc c q ha d)
 | succ k y=>
   intro i s acc c x hi l ha m p;have f:i < n:=by lia
   (refine a4O F.entry_extend_loop ?_;rw[a4f a3g _])
   (show wpAny _ A.in1 (pyNext (.ref I) >>= _) _ _ s;refine a4x (L.item i acc s c _ _ f l m λv h' tk r d=>?_))
   (show wpAny _ A.in1 (updateSeq S (·.push v) >>= _) _ _ _;refine a4x ?_)
   refine a5n d rfl (a4y ⟨a4U a3g _,y (i+1) _ (acc.push v) (c+1) (by lia) f ?_ (by rw[Array.size_push,ha]) ?_ ?_⟩) (by rw[ha];lia) (by show(acc.push v).size<=sizeLine+1;rw[Array.size_push,ha];lia);exact L.frame _ _ _ _ r (Heap.size_update ..) λb o hb e=>(a1d _ _ (a3d hb)).trans e;rw[a5d _ d rfl];simp[Obj.mapSeq];intro t g a j q u h;exact p t g a j q u h
def cD7(L:LoopJ prog w A.in1 I S n J K)(hn:n<=sizeLine)(res:Value){s:Shared}{c:Nat}{T:String}(m:s.TypeIs (.ref I) T)(i:S≠I)(p:(Value.type T==Value.type "list")=false)(q:(Value.type T==Value.type "tuple")=false)
  (self:∀ Q:Value->Shared->Prop,Q (.ref I) s->wpAny (model prog w) A.in1 (pyIter (.ref I)) Q (λe s'=>R (.error e) s') s)
  (hint:∀ Q:Bool->Shared->Prop,(∀ b,Q b s)->wpAny (model prog w) A.in1 (Builtin.List.listLengthHint (.ref I)) Q (λe s'=>R (.error e) s') s)
  (k:J 0 #[] s.heap) (j:s.heap.get? S=some (gZ #[] c)) (l:∀ h' tk a h,K a h'->a.size=n->h'.get? S=some (gZ a h)->R (.ok (.ret res)) {s with heap:=h',toks:=tk}) :
  wpAny (model prog w) A.in1 (Builtin.List.listExtendWith (.ref S) (.ref I) res) (λfin s'=>match fin with | .done f=>R (.ok f) s' | .again h=>h.quiet=true/\codeAny (model prog w) A h R s') (λe s'=>R (.error e) s') s:=by
 unfold Builtin.List.listExtendWith;refine a4x (a5k m ?_);have r:Builtin.List.listSameRef (.ref S) (.ref I)=false:=by simp[Builtin.List.listSameRef,i]
 rw[a4z (by rw[r,p,q];decide)];refine a4x (self _ (a4x (a4C (hint _ λb=>?_))));refine a5t (λ_=>?_) (λ_=>a4y ⟨a4U a3g _,bD0 L hn res n 0 s #[] c rfl (a4e _) k rfl j l⟩)
 (refine a4x (a4I ?_);refine a4x ?_)
 (show wpAny _ _ (updateSeq S (·.push .none) >>= λ_=>updateSeq S (·.pop)) _ _ _;refine a4x (a5n j rfl ?_))
 have d:(s.heap.update S (Obj.mapSeq (·.push Value.none))).get? S=some (gZ #[.none] (c+1)):=by
  rw[a5d _ j rfl];simp[Obj.mapSeq]
 refine a5n (hz:=by seq_fits) d rfl ?_;have g:((s.heap.update S (Obj.mapSeq (·.push Value.none))).update S (Obj.mapSeq (·.pop))).get? S=some (gZ #[] (c+2)):=by
  rw[a5d _ d rfl];simp[Obj.mapSeq]
 refine a4y ⟨a4U a3g _,bD0 L hn res n 0 _ #[] (c+2) rfl (a4e _) (L.frame _ _ _ _ k ?_ λb o hb e=>?_) rfl g l⟩;exact(Heap.size_update ..).trans (Heap.size_update ..);exact(a1d _ _ (a3d hb)).trans ((a1d _ _ (a3d hb)).trans e)
end
def aN8:typeLookup (.type "list_reverseiterator") "__len__"=pure none:=by(rw[typeLookup_type,a4R];kernel_rfl)
def bD1:typeLookup (.type "list_reverseiterator") "__length_hint__"=pure (some (.builtin "list_reverseiterator.__length_hint__")):=by(rw[typeLookup_type,a4R];kernel_rfl)
section
variable{prog:Program}{w:World}{A:Around}{E:Value->Shared->Prop}{s:Shared}{I:Addr}{Q:Bool->Shared->Prop}
def bD2(c:s.TypeIs (.ref I) "list_reverseiterator")(h:∀ b,Q b s):wpAny (model prog w) A (Builtin.List.listLengthHint (.ref I)) Q E s:=by
 unfold Builtin.List.listLengthHint;refine a4x (a4Y c aN8 ?_)
 (show wpAny _ A (specialOf (Value.ref I) (Str.ofString "__length_hint__") >>= _) _ _ _;refine a4x (a4Y c bD1 ?_))
 (generalize hid:("list_reverseiterator.__length_hint__":String)=a;(fail_if_success (clear hid a));wp_delta;rw[show splitId a=some ("list_reverseiterator","__length_hint__")from by subst hid;decide +kernel];subst hid)
 refine a4x (wpAny_isInstance (b:=true) c (by rw[a5v];kernel_rfl) ?_);exact a4y (h _)
end
def aN9{X:Cx}{T U:String}{x y:Str}{p c pos a:Pos}{e:Expr}{es:List Expr}{t:TA}{r:List V->Hp->VK->Prop}
  (l:∀ pins s σ H vs us Q,Inv X pins σ H s->bW vs us->r vs H Q->wpAny (model X.prog X.w) X.A (call (.type U) us) (λu s1=>wpAny (model X.prog X.w) X.A (call (.type T) [u]) (EP X pins σ Q) X.xe s1) X.xe s)
  (m:Gl X x) (hm:X.mg x=none) (n:bootBuiltins x=some (.type T)) (d:Gl X y) (f:X.mg y=none) (g:bootBuiltins y=some (.type U)) (ha:PA X (e::es) t)
  (hn:x≠"__name__":=by decide) (i:(x==("__debug__":Str))=false:=by decide) (j:y≠"__name__":=by decide) (b:(y==("__debug__":Str))=false:=by decide)
  (o:starEach (e::es) X.env=(false,eval e X.env)::starEach es X.env:=by rfl) (k:(backTo a (starEach es X.env)).any (·.1)=false:=by rfl)
  (hs:starEach [.Call (.Name y c) (e::es) [] a] X.env=(false,eval (.Call (.Name y c) (e::es) [] a) X.env)::starEach [] X.env:=by rfl) :
  PE X (.Call (.Name x p) [.Call (.Name y c) (e::es) [] a] [] pos) (tCB r t):=by
 intro pins s σ H Q I h;refine a4N (gK I m hm n ?_ hn i);refine a2e ?_ hs (by rfl);rw[hs]
 (show wpAny _ _ (spliced ((false,eval (.Call (.Name y c) (e::es) [] a) X.env)::backTo pos (starEach [] X.env))) _ _ s;refine Calls.spliced_cons ?_)
 refine a4N (gK I d f g ?_ j b);refine a2e ?_ o k;exact thn (ha a pins s σ H _ I h) λus s1 ⟨vs,q,v,z,B⟩=>thn (l pins s1 σ q vs us Q v z B) λu s2 C=>Calls.spliced_nil C
section
variable{prog:Program}{w:World}{A:Around}{E:Value->Shared->Prop}{s:Shared}
def wB{I l:Addr}{items:Array Value}{Q:Value->Shared->Prop}(U:A.handled=none)(t:s.heap.IsRevIter I l ((items.size:Int)-1))(P:s.heap.IsList l items)(G:l≠I)(hsz:items.size<=sizeLine)
  (V:∀ h' tk acc c,(∀ b o,b≠I->s.heap.get? b=some o->h'.get? b=some o)->h'.get? s.heap.objs.size=some (gZ acc c)->acc.size=items.size->(∀ j v,acc[j]? = some v->items[items.size-1-j]? = some v)->Q (.ref s.heap.objs.size) {s with heap:=h',toks:=tk}) :
  wpAny (model prog w) A (call (.type "list") [.ref I]) Q E s:=by
 have W:=Walks.listRev (prog:=prog) (w:=w) (A:=A.in1.in1) U I l G items;have q:I < s.heap.objs.size:=by obtain⟨_,e,_⟩:=t;exact a5a e
 have H:l < s.heap.objs.size:=by obtain⟨_,e,_⟩:=P;exact a5a e
 have J:s.heap.objs.size∉[I,l]:=λhm=>by
  simp at hm;rcases hm with z | z;exact a7d _ (z ▸ q);exact a7d _ (z ▸ H)
 refine callType_codes (Q₁:=λobj s₁=>obj=.ref s.heap.objs.size/\s₁={s with heap:=s.heap.push (gZ #[] 0)}) F.called_list (F.typeCall_list_1 _) F.entry_list_init (code_list_new _ ⟨rfl,rfl⟩) λobj s₁ x=>?_;obtain⟨rfl,rfl⟩:=x;have D:(s.heap.push (gZ #[] 0)).get? s.heap.objs.size=some (gZ #[] 0):=a7a _ rfl;refine⟨⟨_,D,rfl⟩,F.args_list_init_2 _ _,?_⟩
 (show wpAny _ _ (do let m ← Builtin.List.listItems (.ref s.heap.objs.size);Builtin.List.listUpdate (.ref s.heap.objs.size) (λ_=>#[]);letGo m.toList.reverse;Builtin.List.listExtendWith (.ref s.heap.objs.size) (.ref I) .none) _ _ _;refine a4x ?_)
 (unfold Builtin.List.listItems;refine a4x (a4K D rfl (a4y ?_)))
 (show wpAny _ _ (updateSeq s.heap.objs.size (λ_=>#[]) >>= λ_=>letGo (#[]:Array Value).toList.reverse >>= λ_=>Builtin.List.listExtendWith (.ref s.heap.objs.size) (.ref I) .none) _ _ _;refine a4x (a5n D rfl ?_))
 refine a4x (wpAny_letGo ?_);have d:∃ c,((s.heap.push (gZ #[] 0)).update s.heap.objs.size (Obj.mapSeq (λ_=>(#[]:Array Value)))).get? s.heap.objs.size=some (gZ #[] c):=⟨_,by
  rw[a5d _ D rfl];rfl⟩
 obtain⟨c,d⟩:=d;have m:∀ b o,s.heap.get? b=some o->((s.heap.push (gZ #[] 0)).update s.heap.objs.size (Obj.mapSeq (λ_=>(#[]:Array Value)))).get? b=some o:=λb o e=>
  (a1d _ _ (a9h (a5a e))).trans (a2a _ e)
 generalize (s.heap.push (gZ #[] 0)).update s.heap.objs.size (Obj.mapSeq (λ_=>(#[]:Array Value)))=K at d m ⊢;have L:LoopJ prog w A.in1.in1 I s.heap.objs.size items.size (λi acc h=>(i<=items.size/\h.IsRevIter I l ((items.size:Int)-1-(i:Int))/\h.IsList l items)/\(acc.size=i/\∀ j v,acc[j]? = some v->items[items.size-1-j]? = some v)/\∀ b o,b≠I->s.heap.get? b=some o->h.get? b=some o)
   (λacc h=>(∀ j v,acc[j]? = some v->items[items.size-1-j]? = some v)/\∀ b o,b≠I->s.heap.get? b=some o->h.get? b=some o):=by
  refine⟨λi acc s' M y N hi B n r=>?_,λacc s' M y N B n r=>?_,λi acc h h' B _ R=>?_⟩;obtain⟨st,⟨f,g⟩,a⟩:=B;refine W.item i s' y N hi st λv h' tk X st' p=>r v h' tk ⟨st',⟨by rw[Array.size_push,f],λj u hj=>?_⟩,λb o hb e=>p b o (by simpa using hb) (a b o hb e)⟩ (p _ _ (by simpa using a9h q) n);rw[Array.getElem?_push]at hj;split at hj;rename_i z;cases hj;rw[z,f];exact X;exact g j u hj;obtain⟨st,⟨f,g⟩,a⟩:=B;exact W.done s' y N st λh' tk p=>r h' tk ⟨g,λb o hb e=>p b o (by simpa using hb) (a b o hb e)⟩ (p _ _ (by simpa using a9h q) n);obtain⟨st,g,a⟩:=B;refine⟨W.frame _ _ _ st λb hb o e=>R b o (λz=>J (z ▸ hb)) e,g,λb o hb e=>R b o (λz=>?_) (a b o hb e)⟩;exact a7d _ (z ▸ a5a e)
 have k:K.IsRevIter I l ((items.size:Int)-1):=t.at λo e=>m _ o e;refine cD7 (A:=A.in1) L hsz .none (T:="list_reverseiterator") ⟨_,(Classical.choose_spec k).1,(Classical.choose_spec k).2.1⟩ (a9h q) (by decide) (by decide) (λy O=>wpAny_pyIter_revIter (s:={s with heap:=K}) k O)
  (λy O=>bD2 (k.typeIs (s:={s with heap:=K})) O) ⟨⟨a4e _,by simpa using k,P.at λo e=>m _ o e⟩,⟨rfl,λj v hj=>by simp at hj⟩,λb o _ e=>m b o e⟩ d λh' tk C M S f n=>?_
 exact⟨rfl,V h' tk C M S.2 n f S.1⟩
end
section
variable{X:Cx}
def aA5:List V->Hp->VK->Prop:=λvs H Q=>∃ l xs,vs=[.ref l]/\H l=some (.lst xs)/\∀ r,H r=none->Q (.ref r) (upd H r (.lst xs.reverse))
def bD3(y:X.calm=true):∀ pins s σ H vs us Q,Inv X pins σ H s->bW vs us->aA5 vs H Q ->
  wpAny (model X.prog X.w) X.A (call (.type "reversed") us) (λu s1=>wpAny (model X.prog X.w) X.A (call (.type "list") [u]) (EP X pins σ Q) X.xe s1) X.xe s:=by
 intro pins s σ H vs us Q I z h;obtain⟨l,xs,rfl,B,q⟩:=h;obtain⟨u,rfl,C⟩:=z.one;cases C;obtain⟨D,its,n,r,p,e⟩:=I.lstM B;have t:s.heap.IsList l its.toArray:=⟨_,e,rfl,_,rfl⟩;have i:l < s.heap.objs.size:=a5a e;refine call_reversed_list t ?_;have k:its.toArray.size<=sizeLine:=by rw[a6a];lia
 refine wB (s:={s with heap:=s.heap.push (revObj l ((its.toArray.size:Int)-1))}) (I.ok.hd y) (I:=s.heap.objs.size) (l:=l) (items:=its.toArray) ⟨_,a7a _ rfl,rfl,rfl⟩ (t.at λo g=>a2a _ g) (a0d i) k λh' tk acc c E m a d=>?_;have f:(s.heap.push (revObj l ((its.toArray.size:Int)-1))).objs.size=s.heap.objs.size+1:=a4g ..;have F:acc.toList=its.reverse:=by
  apply a3h;intro j;have G:acc.size=its.length:=by simpa using a
  by_cases hj:j < its.length;have v:acc[j]? = some acc[j]:=a6b (by lia);have x:=d j _ v;rw[a5b,v,List.getElem?_reverse hj];rw[a1c,a6a]at x;exact x.symm;rw[a6d.mpr (by rw[a8c];lia),a6d.mpr (by rw[List.length_reverse];lia)]
 refine⟨.ref (s.heap.objs.size+1),upd H (s.heap.objs.size+1) (.lst xs.reverse),?_,by show Value.ref _=_;rw[f],q _ (I.hok.fresh (Nat.le_succ _))⟩;refine I.laid (t':=tk) (λb o g=>E b o (a0d (a5a g)) (a2a _ g)) (Nat.le_succ _) ⟨by rw[List.length_reverse];exact D,its.reverse,c,r.reverse,?_⟩;have J:h'.get? (s.heap.objs.size+1)=some (gZ acc c):=by rw[← f];exact m
 rw[J,← F,Array.toArray_toList]
end
structure ZK(h0:Heap)(xs ys:Array Value)(acc:Array Value)(h:Heap):Prop where
 keep:∀ b o,h0.get? b=some o->h.get? b=some o
 got:∀ j,j < min xs.size ys.size->∃ T x y,acc[j]? = some (.ref T)/\xs[j]? = some x/\ys[j]? = some y/\IsPair h T x y/\h0.objs.size+6<=T
 nd:acc.toList.Nodup
section
variable{prog:Program}{w:World}{A:Around}{E:Value->Shared->Prop}{s:Shared}
def aO0{N l1 l2:Addr}(a:l1 < N)(b:l2 < N):ZipApart (N+4) (N+2) (N+3) N (N+1) l1 l2:=by
 constructor<;>(unfold Addr at *;lia)
end
section
variable{prog:Program}{w:World}{A:Around}{E:Value->Shared->Prop}{s:Shared}
end
section
variable{X:Cx}
end
def jB{own:List Nat}{K:W.Frag}{n:Nat}{t:TGs}(a:bB6 own t):cC8 own (aG1 K n t):=λx σ H Q q=>by
 unfold aG1 at q ⊢;split at q;exact⟨q.1,a _ _ _ _ q.2⟩;obtain⟨xs,b,c,d⟩:=q;exact⟨xs,b,c,a _ _ _ _ d⟩;exact q.elim
noncomputable def pM(t c:String):Bool:=t==c||(t=="bool"&&c=="int")
def bD4{K:W.Frag}{t c:String}(a:t="NoneType"\/t="int"\/t="bool"\/t="str"\/t="list"\/t="tuple")(b:c="int"\/c="bool"\/c="str"\/c="list"\/c="tuple"):W.kitOne K (.type t) (.type c)=some (pM t c):=by
 rcases a with rfl | rfl | rfl | rfl | rfl | rfl<;>rcases b with rfl | rfl | rfl | rfl | rfl<;>first | exact bC7 | rfl | (unfold W.kitOne;decide +kernel) | (unfold W.kitOne;rfl)
end L2
namespace Mr
open PySem L2 PyProof.Rows
inductive Tr where
 | leaf (z:Str) | node (l r:Tr)
end Mr
namespace L2
open PySem PyProof.Rows
end L2
namespace L2
open PySem
end L2
namespace L2
end L2
namespace Mr
open PySem L2
end Mr
namespace L2
open PySem
def cD8{X:Cx}(K:W.Frag)(b:X.K=K){tg l:Expr}{a:TE}(c:PE X l a):PI X tg l (dI8 K a):=by rw[← b];exact cR5 c
def cU{X:Cx}{pos:Pos}(K:W.Frag)(b:X.K=K){es:List Expr}{k:Nat}{t:TGs}{n:Nat}(c:X.calm=true)(h:PGs X es t)
  (hn:(assignEach es X.env).length=n:=by rfl) (a:(assignEach es X.env).findIdx? (·.1)=none:=by rfl):PG X (.Tuple es k pos) (aG1 K n t):=by rw[← b];exact cD2 c h hn a
section
variable{X:Cx}{o e:Expr}{es:List Expr}{to:TE}{t:TA}{name:Str}{apos cpos:Pos}{T id:String}{r:V->List V->Hp->VK->Prop}
def cD9(K:W.Frag)(d:X.K=K)(pa:PlainAttrs T)(slot:Slot T name id)(c:typeOf (.builtin id)=pure (.type "method_descriptor"))(hm:MtR X id r)(e:PE X o to)
  (a:attributeBase o name X.env (eval o X.env)=eval o X.env:=by rfl) (b:(apos.endLine==cpos.line)=true:=by rfl):PE X (.Call (.Attribute o name apos) [] [] cpos) (dD9 K T r to):=by rw[← d];exact cQ8 pa slot c hm e a b
def lF(K:W.Frag)(g:X.K=K)(pa:PlainAttrs T)(slot:Slot T name id)(f:typeOf (.builtin id)=pure (.type "method_descriptor"))(hm:MtR X id r)(h:PE X o to)(ha:PA X (e::es) t)
  (b:attributeBase o name X.env (eval o X.env)=eval o X.env:=by rfl)
  (d:((backTo cpos (starEach (e::es) X.env)).all (λx=>!x.1)&&(backToKw cpos (keywordEach [] X.env)).all (λx=>x.1.isSome)&&decide ((e::es).length+([]:List Keyword).length+(if([]:List Keyword).isEmpty then 0 else 1) < 30))=true:=by rfl)
  (c:(apos.endLine==cpos.line)=true:=by rfl) (hs:starEach (e::es) X.env=(false,eval e X.env)::starEach es X.env:=by rfl) (a:(backTo cpos (starEach es X.env)).any (·.1)=false:=by rfl) :
  PE X (.Call (.Attribute o name apos) (e::es) [] cpos) (tBM K T r to t):=by rw[← g];exact dE0 pa slot f hm h ha b d c hs a
end
end L2
namespace Mr
open PySem L2
end Mr
namespace L2
open PySem
section
variable{H:Hp}{Q:VK}{p q:Addr}{xs:List V}
end
end L2
namespace L2
end L2
namespace Mr
open PySem L2
open PyProof.Rows
section
variable{p q f l sp:Addr}{t:Tr}{v:V}{es ls:List V}{zs:List Str}{H0 H H':Hp}{fs:List V}
end
end Mr
namespace L2
open PySem
section
variable{M:Model}{A:Around}{E:Value->Shared->Prop}{s:Shared}
end
open PySem.Spec PyProof.Rows
section
variable{P:Program}{w:World}{H:Hp}{h:Heap}{e:Addr}{C:Value}{d:Option Addr}{tb:Value}
end
section
variable{X:Cx}{pins:List (Addr×Obj)}{σ:St}{H:Hp}{s:Shared}
end
section
variable{P:Program}{w:World}{K:W.Frag}{mg:Str->Option Value}{base:Heap}{N:List Str}{qual:Str}{scope:Scope}{f:Addr}{cd:Value}{A:Around}{outer:List Env}{s:Shared}{H:Hp}{E:XK}
end
end L2
namespace PySem
section
variable{prog:Program}{w:World}{E:Value->Shared->Prop}{A:Around}{os:OsState}{h:Heap}{t:Nat}{g:Array GenState}{d:Drawn}{dD:List Value}{fI:Addr}{oI:Obj}{mN:Str->Option Value}
 {nm q:Str} {B newId initId:String} {C N:Addr} {bs bm bmB sub:List Value} {hdct ab:Bool} {sn:List Str} {col:Option Bool} {dd:Option Addr} {k0 k1 k2 k3 k5:Option Value}
end
end PySem
namespace L2
open PySem PySem.Spec PyProof.Rows
section
variable{P:Program}{w:World}{H:Hp}{h:Heap}{a:Addr}{o:HO}
end
section
variable{X:Cx}{pins:List (Addr×Obj)}{σ:St}{H:Hp}{s:Shared}
end
section
variable{X:Cx}{CX:CXT}{k:Nat}{f C:Addr}{fd:FuncData}{ps:List Str}{sp:Sp}{E:XK}{x:Str}{p pos:Pos}{e:Expr}{es:List Expr}{t:TA}{B newId initId:String}{bmB:List Value}
end
end L2
namespace L2
open PySem
section
variable{M:Model}{A:Around}{E:Value->Shared->Prop}{env:Env}
variable{nm q:Str}{C N:Addr}{bs bm:List Value}{hdct:Bool}{sn:List Str}{sub:List Value}{ab:Bool}{col:Option Bool}{dd:Option Addr}{k0 k1 k2 k3 k5:Option Value}{newId:String}
end
open PyProof.Rows
section
variable{prog:Program}{w:World}{A:Around}{E:Value->Shared->Prop}{h:Heap}{g:Array GenState}{d:Drawn}{t:Nat}{os:OsState}
variable{nm q:Str}{C N:Addr}{bs bm bmB:List Value}{hdct:Bool}{sn:List Str}{sub:List Value}{ab:Bool}{col:Option Bool}{dd:Option Addr}{k0 k1 k2 k3 k5:Option Value}{B newId initId:String}
end
open PySem.W PySem.Spec PySem.Builtin PySem.Builtin.ObjectAttr
section
variable{prog:Program}{w:World}{A:Around}{E:Value->Shared->Prop}{s:Shared}{K:Frag}{x C:Addr}{ox:Obj}{name:Str}{v:Value}{cd:ClassData}{bmB:List Value}{B:String}{Q:Unit->Shared->Prop}{R:Result->Shared->Prop}
end
end L2
namespace L2
open PySem PySem.W PySem.Spec PyProof.Rows
section
variable{prog:Program}{w:World}{A:Around}{E:Value->Shared->Prop}{s:Shared}{K:Frag}{x C:Addr}{ox:Obj}{od:Option Obj}{name:Str}{expr:Bool}{v:Value}{Q:Value->Shared->Prop}{B:String}
end
section
variable{M:Model}{A:Around}{E:Value->Shared->Prop}{s:Shared}
variable{K:Frag}{e C D:Addr}{oe:Obj}{Q:Bool->Shared->Prop}
end
section
variable{prog:Program}{w:World}{A:Around}{E:Value->Shared->Prop}{s:Shared}{K:Frag}{x C:Addr}{ox:Obj}{od:Option Obj}{B:String}
end
end L2
namespace L2
open PySem PySem.Spec PyProof.Rows
section
variable{X:Cx}{o e value:Expr}{to te tv:TE}{f:Str}{pos pos' apos:Pos}
end
section
variable{P:Program}{w:World}{K:W.Frag}{mg:Str->Option Value}{base:Heap}{N:List Str}{qual:Str}{scope:Scope}{f:Addr}{cd:Value}{A:Around}{outer:List Env}{s:Shared}{H:Hp}{E:XK}{x:Expr}{te:TE}{pos:Pos}
end
section
variable{X:Cx}{C:Addr}{x:Str}{p pos:Pos}{e:Expr}{es:List Expr}{t:TA}
end
section
variable{X:Cx}{R:Str}{CR:Addr}{rp apos pos:Pos}{a:Expr}{as:List Expr}{t:TA}
end
section
variable{X:Cx}{e:Expr}{te:TE}{z1:Str}{j:Nat}{p p' pos:Pos}
end
section
variable{X:Cx}{pins pins':List (Addr×Obj)}{σ:St}{H:Hp}{s:Shared}{E:Value->Shared->Prop}{e:Value}
end
section
variable{X:Cx}{CX:CXT}{k:Nat}{f:Addr}{fd:FuncData}{ps:List Str}{sp:Sp}{E:St->XK}{x:Str}{p pos:Pos}{e:Expr}{es:List Expr}{t:TA}{pins0:List (Addr×Obj)}
end
section
variable{X:Cx}{pins:List (Addr×Obj)}{σ:St}{H:Hp}{s:Shared}{T:Addr}{oT:Obj}
end
abbrev TH:=Addr->Addr->Option Addr->Addr->TS
section
variable{X:Cx}{t:Expr}{tt:TE}{n:Str}{i:Nat}{b0:Stmt}{body:List Stmt}{ts:TS}{pos:Pos}{dD:List ExceptHandler}{th:TH}
end
section
variable{κ:Type}[DecidableEq κ]
noncomputable def mX(kvs:List (κ×V))(k:κ):Option V:=(kvs.find? λa=>decide (a.1=k)).map (·.2)
noncomputable def cE0(kvs:List (κ×V))(k:κ)(v:V):List (κ×V):=
 if(kvs.any λa=>decide (a.1=k))=true then kvs.map (λa=>if a.1=k then(a.1,v)else a)else kvs++[(k,v)]
def hV{p:κ×V}{r:List (κ×V)}{k:κ}(e:p.1=k):mX (p::r) k=some p.2:=by simp[mX,List.find?_cons,e]
def hW{p:κ×V}{r:List (κ×V)}{k:κ}(e:¬ p.1=k):mX (p::r) k=mX r k:=by simp[mX,List.find?_cons,e]
theorem aK9.getD{o:Option V}{u:Option Value}{d:V}{d':Value}(r:aK9 o u)(rd:cE d d'):cE (o.getD d) (u.getD d'):=by
 cases o with
 | none=>cases u with
   | none=>exact rd
   | some _=>exact(show False from r).elim
 | some _=>cases u with
   | none=>exact(show False from r).elim
   | some _=>exact r
def KV.val{kvs:List (κ×V)}{vs:List (κ×Value)}(r:KV kvs vs)(k:κ):aK9 (mX kvs k) (valueAt vs k):=by
 unfold KV at r
 induction r with
 | nil=>exact True.intro
 | @cons p q ps a h t f=>
   obtain⟨d,g⟩:=h;by_cases e:p.1=k
   ·have c:q.1=k:=d.symm.trans e;have b:valueAt (q::a) k=some q.2:=by simp[valueAt,List.find?_cons,c]
    rw[hV e,b];exact g
   ·have c:¬ q.1=k:=λz=>e (d.trans z);have b:valueAt (q::a) k=valueAt a k:=by simp[valueAt,List.find?_cons,c]
    rw[hW e,b];exact f
theorem KV.any{kvs:List (κ×V)}{vs:List (κ×Value)}(r:KV kvs vs)(k:κ):(kvs.any λa=>decide (a.1=k))=vs.any λa=>decide (a.1=k):=by
 unfold KV at r
 induction r with
 | nil=>rfl
 | cons h t b=>rw[List.any_cons,List.any_cons,b,h.1]
def KV.repl{kvs:List (κ×V)}{vs:List (κ×Value)}(r:KV kvs vs)(k:κ){y:V}{u:Value}(c:cE y u) :
  KV (kvs.map λa=>if a.1=k then(a.1,y)else a) (vs.map λa=>if a.1=k then(a.1,u)else a):=by
 unfold KV at r ⊢
 induction r with
 | nil=>exact .nil
 | @cons p q ps g h t d=>
   rw[a8d,a8d];refine .cons ?_ d;obtain⟨b,f⟩:=h;by_cases e:p.1=k;rw[a4A e,a4A (b.symm.trans e)];exact⟨b,c⟩;rw[a4z e,a4z (λz=>e (b.trans z))];exact⟨b,f⟩
def KV.put{kvs:List (κ×V)}{vs:List (κ×Value)}(r:KV kvs vs)(k:κ){y:V}{u:Value}(a:cE y u):KV (cE0 kvs k y) (stored vs k u):=by
 unfold cE0 stored;rw[r.any k];by_cases e:(vs.any λb=>decide (b.1=k))=true;rw[a4A e,a4A e];exact r.repl k a;rw[a4z e,a4z e];exact Paired.snoc r ⟨rfl,a⟩
end
def cE1{P:Program}{w:World}{k:Key}{u:Value}(r:cE (kV k) u):(bQ P w).is k u=true:=by
 cases k with
 | inl i=>obtain⟨t,e⟩:=(show ∃ t,u=Value.int i t from r);subst e;exact yB P w i t
 | inr x=>obtain⟨t,e⟩:=(show ∃ t,u=Value.str x t from r);subst e;exact yC P w x t
theorem wC{P:Program}{w:World}:∀ {ks:List Key} {us:List Value},bW (ks.map kV) us->ItemsAre (bQ P w) ks us
 | [],_,r=>by rw[List.map_nil]at r;cases r;exact .nil
 | k::ks,_,r=>by
   rw[a8d]at r;cases r with
   | cons h t=>exact .cons (cE1 h) (wC t)
abbrev KT(H:Hp):List (List Key×V)->List (List Key×Addr×Value)->Prop:=Paired λp q=>p.1=q.1/\H q.2.1=some (.tup (p.1.map kV))/\cE p.2 q.2.2
def KT.val{H:Hp}{kvs:List (List Key×V)}{xs:List (List Key×Addr×Value)}(r:KT H kvs xs)(k:List Key):aK9 (mX kvs k) ((atKey xs k).map (·.2)):=by
 induction r with
 | nil=>exact True.intro
 | @cons p q ps a h t f=>
   obtain⟨d,_,g⟩:=h;by_cases e:p.1=k
   ·have c:q.1=k:=d.symm.trans e;have b:atKey (q::a) k=some q.2:=by simp[atKey,List.find?_cons,c]
    rw[hV e,b];exact g
   ·have c:¬ q.1=k:=λz=>e (d.trans z);have b:atKey (q::a) k=atKey a k:=by simp[atKey,List.find?_cons,c]
    rw[hW e,b];exact f
def KT.keeps{H H':Hp}{kvs:List (List Key×V)}{xs:List (List Key×Addr×Value)}(r:KT H kvs xs)(a:∀ b ys,H b=some (.tup ys)->H' b=some (.tup ys)):KT H' kvs xs:=
 Paired.mapP r λ_ _ z=>⟨z.1,a _ _ z.2.1,z.2.2⟩
section
variable{P:Program}{w:World}{H:Hp}{h:Heap}{a:Addr}
def aO1{u:HO}(ok:HOk P w H h)(e:Rd H a u):cM P w H h a u:=e.ok ok
def aO2{kvs:List (Key×V)}(ok:HOk P w H h)(e:Rd H a (.dK kvs)):kvs.length<=sizeLine/\(a==sysModules)=false/\∃ vs,KV kvs vs/\h.DictOf (bQ P w) a vs:=
 show cM P w H h a (.dK kvs)from aO1 ok e
def dE3{kvs:List (Key×V)}(ok:HOk P w H h)(e:H a=some (.dK kvs)):kvs.length<=sizeLine/\(a==sysModules)=false/\∃ vs,KV kvs vs/\h.DictOf (bQ P w) a vs:=aO2 ok (.inl e)
def aA6{ks:List Key}(ok:HOk P w H h)(e:H a=some (.tup (ks.map kV))):(tupleKind (bQ P w)).is h ks a:=by
 obtain⟨_,its,r,⟨o,b,c,n,d⟩,_⟩:=(show cM P w H h a (.tup (ks.map kV))from ok a _ e);exact⟨o,its.toArray,n,b,c,d,by simpa using wC r⟩
def aO3{kvs:List (List Key×V)}(ok:HOk P w H h)(e:Rd H a (.dT kvs)):kvs.length<=sizeLine/\(a==sysModules)=false /\
  ∃ xs,KT H kvs xs/\h.DictOfH (tupleKind (bQ P w)) a xs:=by
 obtain⟨z,y,xs,r,o,es,ep,d,f,g,i,j⟩:=(show cM P w H h a (.dT kvs)from aO1 ok e);refine⟨z,y,xs,r,o,es,ep,d,f,g,i,λx b=>?_,j⟩;have all:∀ {l:List (List Key×V)} {m:List (List Key×Addr×Value)},KT H l m->∀ x∈m,(tupleKind (bQ P w)).is h x.1 x.2.1:=by
  intro l m q
  induction q with
  | nil=>intro x b;exact nomatch b
  | @cons p q ps n c t k=>
    intro x b;rcases a2b.mp b with e | b;subst e;exact aA6 ok (by rw[← c.1];exact c.2.1);exact k x b
 exact all r x b
def dE4{kvs:List (List Key×V)}(ok:HOk P w H h)(e:H a=some (.dT kvs)):kvs.length<=sizeLine/\(a==sysModules)=false /\
  ∃ xs,KT H kvs xs/\h.DictOfH (tupleKind (bQ P w)) a xs:=aO3 ok (.inl e)
end
def dA3(H:Hp)(a:Addr)(y:V)(r:Option V):Prop:=
 (∃ kvs k,Rd H a (.dK kvs)/\y=kV k/\r=mX kvs k)\/∃ kvs k b,Rd H a (.dT kvs)/\y=.ref b/\H b=some (.tup (k.map kV))/\r=mX kvs k
section
variable{X:Cx}{pins:List (Addr×Obj)}{σ:St}{H:Hp}{s:Shared}{a:Addr}{y v:V}{u r:Value}{o:Option V}{A:Around}{E:Value->Shared->Prop}
def Inv.big(I:Inv X pins σ H s):sysModules < s.heap.objs.size:=by
 have h:mainGlobals < s.heap.objs.size:=(I.mod.glob.keeps I.bk).lt;exact a9g (by decide) h
def aO4{Q:Value->Shared->Prop}(q:A.units+1 < cLine)(I:Inv X pins σ H s)(g:dA3 H a y (some v))(n:cE y u)(h:∀ d s',Inv X pins σ H s'->cE v d->Q d s') :
  wpAny (model X.prog X.w) A (getItem (.ref a) u) Q E s:=by
 rcases g with⟨kvs,k,e,f,l⟩ | ⟨kvs,k,b,e,f,r,l⟩;subst f;obtain⟨z,hd,vs,rel,i⟩:=aO2 I.hok e;obtain⟨d,j,c⟩:=aK9.some_of (v:=v) (o:=valueAt vs k) (by rw[l];exact rel.val k);exact wpAny_getItem_of (cE1 n) i.mapOf j (h d _ (I.tok _) c);subst f;cases (show u=Value.ref b from n);obtain⟨z,hd,xs,rel,i⟩:=aO3 I.hok e;obtain⟨d,j,c⟩:=aK9.some_of (v:=v) (o:=(atKey xs k).map (·.2)) (by rw[l];exact rel.val k);obtain⟨p,t,m⟩:=a2c.mp j;refine wpAny_getItem_heap (tupleKind_room_in1 q) (aA6 I.hok r) i t ?_;rw[m];exact h d _ (I.tok _) c
def aO5{h':Heap}{t':Nat}{ob:HO}(I:Inv X pins σ H s)(mu:Mut (H a))(hs:Heap.SameBut a s.heap h')(d:∃ q,h'.get? a=some q)(c:cM X.prog X.w (upd H a ob) h' a ob) :
  Inv X pins σ (upd H a ob) {s with heap:=h',toks:=t'}:=
 I.write (x:=a) (e:=a) mu (.inl rfl) (λb q hb z=>(hs.2 b hb).trans z) d c
def cS0{P:Program}{w:World}{H':Hp}{h':Heap}{kvs:List (Key×V)}{vs:List (Key×Value)}(z:kvs.length<=sizeLine)(hd:(a==sysModules)=false)(rel:KV kvs vs)(b:h'.DictOf (bQ P w) a vs) :
  cM P w H' h' a (.dK kvs):=⟨z,hd,vs,rel,b⟩
end
section
variable{X:Cx}{pins:List (Addr×Obj)}{σ:St}{H:Hp}{s:Shared}{a:Addr}{kvs:List (Key×V)}{k:Key}{u:Value}{A:Around}{E:Value->Shared->Prop}
end
def cL6(i:Expr):Prop:=∀ ov a,subscripted i false ov a=operate [ov,a] (getItem ov a)
def aO6{prog:Program}{w:World}{A:Around}{E:Value->Shared->Prop}{s:Shared}{env:Env}{b a:Expr}{pos:Pos}{T id:String}{Q:Value->Shared->Prop}
  (l:typeLookup (.type T) "__getitem__"=pure (some (.builtin id))) (hs:cL6 a)
  (h:wpAny (model prog w) A (eval b env) (λo e=>wpAny (model prog w) A (eval a env) (λi c=>c.TypeIs o T/\wpAny (model prog w) A (getItem o i) Q E c) E e) E s) :
  wpAny (model prog w) A (eval (.Subscript b a pos) env) Q E s:=by
 refine Subscript_ (a4M h (λo e g=>a4M g (λi c d=>?_) λ_ _ x=>x) λ_ _ x=>x);obtain⟨k,d⟩:=d;unfold subscriptTail;refine a4x ?_;rw[getitemInPython_of_ne k.not_modules];refine a4x (a4Y k l ?_);have fin:wpAny (model prog w) A (subscripted a false o i) (λr f=>wpAny (model prog w) A (letTemporaryGo b o r >>= λ_=>pure r) Q E f) E c:=by
  rw[hs o i];exact wpAny_operating (a4M d (λr f j=>a4x (wpAny_letTemporaryGo (a4y j))) λ_ _ x=>x)
 first
  | exact a4y (a4x fin)
  | exact a4x (a4y (a4x fin))
  | exact a4x fin
def yN{X:Cx}{pins:List (Addr×Obj)}{σ:St}{H:Hp}{s:Shared}{a:Addr}{y:V}{o:Option V}(I:Inv X pins σ H s)(g:dA3 H a y o):s.TypeIs (.ref a) "dict":=by
 rcases g with⟨kvs,k,e,_,_⟩ | ⟨kvs,k,b,e,_,_,_⟩;obtain⟨_,_,vs,_,c⟩:=aO2 I.hok e;exact c.typeIs;obtain⟨_,_,xs,_,c⟩:=aO3 I.hok e;exact c.typeIs
def dE5(c ty:TE):TE:=λσ H Q=>c σ H λx d=>ty σ d λy b=>∃ a v,x=.ref a/\dA3 b a y (some v)/\Q v b
section
variable{X:Cx}{o i e value:Expr}{pos pos' tpos:Pos}{td ty tv:TE}
def cE2(d:X.A.units+1 < cLine)(e:PE X o td)(hi:PE X i ty)(hs:cL6 i):PE X (.Subscript o i pos) (dE5 td ty):=by
 intro pins s σ H Q I h;refine aO6 F.slot_dict_getitem.lookup hs (thn (e pins s σ H _ I h) λu s1 ⟨x,f,j,k,l⟩=>thn (hi pins s1 σ f _ j l) λr s2 Z0=>?_);obtain⟨y,m,c,n,a,v,ex,g,p⟩:=Z0;subst ex;obtain rfl:u=Value.ref a:=k;exact⟨yN c g,aO4 d c g n λt w q b=>⟨v,m,q,b,p⟩⟩
end
def bD5{P:Program}{w:World}{H:Hp}(h:Heap)(hb:sysModules < h.objs.size):cM P w H (h.push {cls:=.type "dict",data:=.dict #[]}) h.objs.size (.dT []):=
 ⟨a4e _,beq_eq_false_iff_ne.mpr (a3d (a0d hb)),[],.nil,_,#[],0,a7a _ rfl,⟨rfl,rfl,rfl⟩,rfl,rfl,List.nodup_nil⟩
def aA7:TE:=λ_ H Q=>∀ p,H p=none->Q (.ref p) (upd H p (.dT []))
section
variable{X:Cx}{pos:Pos}
def bD6:PE X (.Dict [] [] pos) aA7:=λpins s σ H Q I h=>
 wpAny_Dict_empty ⟨.ref s.heap.objs.size,_,I.laid (a:=s.heap.objs.size) (o:=.dT []) (t':=s.toks) (λ_ _ q=>a2a _ q) (a8a _) (bD5 s.heap I.big),rfl,h _ (I.hok.fresh (a8a _))⟩
end
noncomputable def rX(kvs more:List (Key×V)):List (Key×V):=more.foldl (λacc a=>cE0 acc a.1 a.2) kvs
def KV.merge:∀ {more:List (Key×V)} {rs:List (Key×Value)} {kvs:List (Key×V)} {vs:List (Key×Value)},KV more rs->KV kvs vs->KV (rX kvs more) (merged vs rs):=by
 intro more rs kvs vs r;unfold KV at r
 induction r generalizing kvs vs with
 | nil=>intro q;exact q
 | @cons p q ps c h t a=>
   intro b;have e:KV (cE0 kvs p.1 p.2) (stored vs q.1 q.2):=by
    have:=b.put p.1 h.2;rw[← h.1];exact this
   exact a e
structure M2(X:Cx)(o:Expr)(m:Str)(apos:Pos)(e f:Expr)(cpos:Pos):Prop where
 base:attributeBase o m X.env (eval o X.env)=eval o X.env
 few:((backTo cpos (starEach [e,f] X.env)).all (λx=>!x.1)&&(backToKw cpos (keywordEach [] X.env)).all (λx=>x.1.isSome)
  && decide (([e,f]:List Expr).length+([]:List Keyword).length+(if([]:List Keyword).isEmpty then 0 else 1) < 30))=true
 line:(apos.endLine==cpos.line)=true
 trees:backTo cpos (starEach [e,f] X.env)=[(false,eval e X.env),(false,eval f X.env)]
def IsD(H:Hp)(a:Addr):Prop:=(∃ kvs,Rd H a (.dK kvs))\/(∃ kvs,Rd H a (.dT kvs))\/∃ kvs,Rd H a (.dM kvs)
def bM6{X:Cx}{pins:List (Addr×Obj)}{σ:St}{H:Hp}{s:Shared}{a:Addr}(I:Inv X pins σ H s)(d:IsD H a) :
  s.TypeIs (.ref a) "dict"/\(∀ b,Value.ref a=.ref b->∃ ob,s.heap.get? b=some ob/\ob.dict=none)/\(a==sysModules)=false:=by
 rcases d with⟨kvs,e⟩ | ⟨kvs,e⟩ | ⟨kvs,e⟩;obtain⟨_,hd,vs,_,g⟩:=aO2 I.hok e;refine⟨g.typeIs,λb q=>?_,hd⟩;cases q;obtain⟨ob,_,_,c,f,_⟩:=g;exact⟨ob,c,f.2.1⟩;obtain⟨_,hd,xs,_,g⟩:=aO3 I.hok e;refine⟨g.typeIs,λb q=>?_,hd⟩;cases q;obtain⟨ob,_,_,c,f,_⟩:=g;exact⟨ob,c,f.2.1⟩;obtain⟨_,hd,_,_,ob,_,_,c,f,_⟩:=aO1 I.hok e;exact⟨⟨ob,c,f.1⟩,λb q=>by cases q;exact⟨ob,c,f.2.1⟩,hd⟩
section
variable{X:Cx}{pins:List (Addr×Obj)}{σ:St}{H:Hp}{s:Shared}{a:Addr}{y d:V}{u r:Value}{o:Option V}{A:Around}{E:Value->Shared->Prop}
end
section
variable{X:Cx}{o e f:Expr}{apos cpos:Pos}{td ty tx:TE}
end
section
variable{X:Cx}{pins:List (Addr×Obj)}{σ:St}{H:Hp}{s:Shared}{a:Addr}{kvs:List (Key×V)}{A:Around}{E:Value->Shared->Prop}
end
section
variable{X:Cx}{pins:List (Addr×Obj)}{σ:St}{H:Hp}{s:Shared}{a:Addr}{y:V}{u:Value}{A:Around}{E:Value->Shared->Prop}
end
section
variable{X:Cx}
end
section
variable{K:W.Frag}{t:TA}{te to tv:TE}{f:Str}{σ:St}{H:Hp}{Q:VK}{D:Ends}{sp:Sp}{C:Addr}{E:XK}{Ex:St->XK}{tb:(St->XK)->TS}{th:TH}{i:Nat}{ts:TS}
end
end L2
namespace Mr
open PySem L2 PyProof.Rows
end Mr
namespace Mr
open PySem L2
section
variable{K:W.Frag}{H:Hp}{C t D0 D1 D2 D3:Addr}{b0 b1 b2 b3:Bool}
end
end Mr
namespace L2
open PySem PySem.Spec PyProof.Rows
section
variable{X:Cx}
end
section
variable{t tk tv td ty tx:TE}{r:List (TE×TE)}{σ:St}{H:Hp}{Q:VK}{R:List (V×V)->Hp->Prop}
end
end L2
namespace Mr
open PySem L2 PyProof.Rows
end Mr
namespace Dv
open PySem L2
inductive D where
 | non | bl (b:Bool) | int (i:Int) | str (x:Str) | tup (l:List D) | lst (l:List D) | dic (ks vs:List D)
noncomputable instance:DecidableEq D:=λ_ _=>Classical.propDecidable _
noncomputable instance:Inhabited D:=⟨.non⟩
noncomputable def xV:Key->D
 | .inl i=>.int i
 | .inr x=>.str x
noncomputable def tkD:Tk->D
 | .s x=>.str x
 | .p a b=>.tup [tkD a,tkD b]
def bD7:HO->List D->List V->Prop
 | .dK kvs,ks,ws=>ks=kvs.map (λa=>xV a.1)/\ws=kvs.map (·.2)
 | .dT kvs,ks,ws=>ks=kvs.map (λa=>D.tup (a.1.map xV))/\ws=kvs.map (·.2)
 | .dM kvs,ks,ws=>ks=.non::kvs.map (λa=>tkD a.1)/\ws=kvs.map (·.2)
 | _,_,_=>False
mutual
inductive Rp(H:Hp):D->V->Prop
 | non:Rp H .non .non
 | bl (b:Bool):Rp H (.bl b) (.bl b)
 | int (i:Int):Rp H (.int i) (.int i)
 | str (x:Str):Rp H (.str x) (.str x)
 | tup {l:List D} {p:Addr} {xs:List V}:H p=some (.tup xs)->Rps H l xs->Rp H (.tup l) (.ref p)
 | lst {l:List D} {p:Addr} {xs:List V} {o:Obj}:H p=some (.frz o (.lst xs))->Rps H l xs->Rp H (.lst l) (.ref p)
 | dic {ks vs:List D} {p:Addr} {o:Obj} {u:HO} {ws:List V}:H p=some (.frz o u)->bD7 u ks ws->Rps H vs ws->Rp H (.dic ks vs) (.ref p)
inductive Rps(H:Hp):List D->List V->Prop
 | nil:Rps H [] []
 | cons {d:D} {r:List D} {x:V} {xs:List V}:Rp H d x->Rps H r xs->Rps H (d::r) (x::xs)
end
structure Ext(H H':Hp):Prop where
 tup:∀ p xs,H p=some (.tup xs)->H' p=some (.tup xs)
 frz:∀ p o u,H p=some (.frz o u)->H' p=some (.frz o u)
def Ext.same{H H':Hp}(h:tM H H'):Ext H H':=⟨λp xs e=>h p _ e,λp o u e=>h p _ e⟩
mutual
theorem Rp.mono{H H':Hp}(a:Ext H H'):∀ {d:D} {x:V},Rp H d x->Rp H' d x
 | _,_,.non=>.non
 | _,_,.bl b=>.bl b
 | _,_,.int i=>.int i
 | _,_,.str x=>.str x
 | _,_,.tup h r=>.tup (a.tup _ _ h) (Rps.mono a r)
 | _,_,.lst h r=>.lst (a.frz _ _ _ h) (Rps.mono a r)
 | _,_,.dic h k r=>.dic (a.frz _ _ _ h) k (Rps.mono a r)
theorem Rps.mono{H H':Hp}(b:Ext H H'):∀ {l:List D} {xs:List V},Rps H l xs->Rps H' l xs
 | _,_,.nil=>.nil
 | _,_,.cons a r=>.cons (Rp.mono b a) (Rps.mono b r)
end
section
variable{H:Hp}
theorem Rps.length:∀ {l:List D} {xs:List V},Rps H l xs->l.length=xs.length
 | _,_,.nil=>rfl
 | _,_,.cons _ r=>by simp[Rps.length r]
theorem Rps.get:∀ {l:List D} {xs:List V} {i:Nat} {d:D},Rps H l xs->l[i]? = some d->∃ x,xs[i]? = some x/\Rp H d x
 | _,_,_,_,.nil,h=>by simp at h
 | _,_,0,_,.cons a r,h=>by simp at h;subst h;exact⟨_,rfl,a⟩
 | _,_,i+1,_,.cons a r,h=>by
   obtain⟨x,e,q⟩:=Rps.get (i:=i) r (by simpa using h);exact⟨x,by simpa using e,q⟩
theorem Rps.append:∀ {l m:List D} {xs ys:List V},Rps H l xs->Rps H m ys->Rps H (l++m) (xs++ys)
 | _,_,_,_,.nil,h=>h
 | _,_,_,_,.cons a r,h=>.cons a (Rps.append r h)
theorem Rps.take:∀ {l:List D} {xs:List V} (n:Nat),Rps H l xs->Rps H (l.take n) (xs.take n)
 | _,_,0,_=>.nil
 | _,_,_+1,.nil=>.nil
 | _,_,n+1,.cons a r=>.cons a (Rps.take n r)
theorem Rps.drop:∀ {l:List D} {xs:List V} (n:Nat),Rps H l xs->Rps H (l.drop n) (xs.drop n)
 | _,_,0,r=>r
 | _,_,_+1,.nil=>.nil
 | _,_,n+1,.cons _ r=>Rps.drop n r
theorem Rps.set:∀ {l:List D} {xs:List V} {d:D} {x:V} (i:Nat),Rps H l xs->Rp H d x->Rps H (l.set i d) (xs.set i x)
 | _,_,_,_,_,.nil,_=>.nil
 | _,_,_,_,0,.cons _ r,q=>.cons q r
 | _,_,_,_,i+1,.cons a r,q=>.cons a (Rps.set i r q)
theorem Rps.reverse:∀ {l:List D} {xs:List V},Rps H l xs->Rps H l.reverse xs.reverse
 | _,_,.nil=>.nil
 | _,_,.cons a r=>by
   rw[List.reverse_cons,List.reverse_cons];exact Rps.append (Rps.reverse r) (.cons a .nil)
theorem tP:∀ ns:List Int,Rps H (ns.map D.int) (ns.map V.int)
 | []=>.nil
 | n::r=>.cons (.int n) (tP r)
theorem Rps.ints_inv:∀ {ns:List Int} {xs:List V},Rps H (ns.map D.int) xs->xs=ns.map V.int
 | [],_,h=>by cases h;rfl
 | n::r,_,h=>by
   rw[a8d]at h;cases h with
   | cons a t=>cases a;rw[Rps.ints_inv t];rfl
theorem Rps.strs_inv:∀ {ns:List Str} {xs:List V},Rps H (ns.map D.str) xs->xs=ns.map V.str
 | [],_,h=>by cases h;rfl
 | n::r,_,h=>by
   rw[a8d]at h;cases h with
   | cons a t=>cases a;rw[Rps.strs_inv t];rfl
theorem Rps.bls_inv:∀ {ns:List Bool} {xs:List V},Rps H (ns.map D.bl) xs->xs=ns.map V.bl
 | [],_,h=>by cases h;rfl
 | n::r,_,h=>by
   rw[a8d]at h;cases h with
   | cons a t=>cases a;rw[Rps.bls_inv t];rfl
end
inductive Md where
 | val | own | par | lent
 deriving DecidableEq
noncomputable def Md.mt:Md->Bool
 | .own=>true
 | .par=>true
 | _=>false
structure Sl where
 m:Md
 d:D
abbrev Sg:=List (Option Sl)
def cP(H:Hp)(d:D)(p:Addr):Prop:=match d with
 | .lst l=>∃ xs,H p=some (.lst xs)/\Rps H l xs
 | .dic ks vs=>∃ u ws,H p=some u/\bD7 u ks ws/\Rps H vs ws
 | _=>False
theorem cP.mono{H H':Hp}{d:D}{p:Addr}(h:cP H d p)(e:Ext H H')(c:∀ o,H p=some o->H' p=some o):cP H' d p:=by
 unfold cP at h ⊢;split at h;obtain⟨xs,a,b⟩:=h;exact⟨xs,c _ a,b.mono e⟩;obtain⟨u,ws,a,b,f⟩:=h;exact⟨u,ws,c _ a,b,f.mono e⟩;exact h.elim
def cP.obj{H:Hp}{d:D}{p:Addr}(h:cP H d p):∃ o,H p=some o/\(∀ xs,o≠.tup xs)/\∀ ob u,o≠.frz ob u:=by
 unfold cP at h;split at h;obtain⟨xs,a,b⟩:=h;exact⟨_,a,⟨λ_ z=>(by cases z),λ_ _ z=>(by cases z)⟩⟩;obtain⟨u,ws,a,b,c⟩:=h;refine⟨_,a,λ_ z=>?_,λ_ _ z=>?_⟩<;>(subst z;exact b);exact h.elim
def bD8(H:Hp)(s:Sl)(v:V):Prop:=match s.m with
 | .val=>Rp H s.d v
 | _=>∃ p,v=.ref p/\cP H s.d p
def cV{H:Hp}{s:Sl}{v:V}(h:s.m≠.val):bD8 H s v↔∃ p,v=.ref p/\cP H s.d p:=by
 obtain⟨m,d⟩:=s;cases m with
 | val=>exact absurd rfl h
 | own=>exact Iff.rfl
 | par=>exact Iff.rfl
 | lent=>exact Iff.rfl
def Vw(H:Hp)(d:D)(v:V):Prop:=Rp H d v\/∃ p,v=.ref p/\cP H d p
def bD8.vw{H:Hp}{s:Sl}{v:V}(h:bD8 H s v):Vw H s.d v:=by
 by_cases e:s.m=.val;obtain⟨m,d⟩:=s;cases e;exact .inl h;exact .inr ((cV e).mp h)
inductive Vws(H:Hp):List D->List V->Prop
 | nil:Vws H [] []
 | cons {d:D} {r:List D} {x:V} {xs:List V}:Vw H d x->Vws H r xs->Vws H (d::r) (x::xs)
def iU(σ:Sg)(σV:St)(a:Addr):Prop:=∃ (i:Nat) (s:Sl),σ[i]? = some (some s)/\s.m.mt=true/\σV[i]? = some (some (.ref a))
def aA8(σ:Sg)(σV:St)(a:Addr):Prop:=∃ (i:Nat) (s:Sl),σ[i]? = some (some s)/\s.m≠.val/\σV[i]? = some (some (.ref a))
def iU.nv{σ:Sg}{σV:St}{a:Addr}(h:iU σ σV a):aA8 σ σV a:=by
 obtain⟨i,s,c,b,d⟩:=h;exact⟨i,s,c,λz=>(by rw[z]at b;cases b),d⟩
structure Gm where
 H₀:Hp
 pr:Addr->Prop
structure StOk(Γ:Gm)(H:Hp)(σ:Sg)(σV:St):Prop where
 rel:∀ (i:Nat) s,σ[i]? = some (some s)->∃ v,σV[i]? = some (some v)/\bD8 H s v
 dis:∀ (i j:Nat) s t p,i≠j->σ[i]? = some (some s)->σ[j]? = some (some t)->s.m.mt=true->t.m≠.val->σV[i]? = some (some (.ref p))->σV[j]? = some (some (.ref p))->False
 own:∀ (i:Nat) s p,σ[i]? = some (some s)->s.m=.own->σV[i]? = some (some (.ref p))->Γ.H₀ p=none
 par:∀ (i:Nat) s p,σ[i]? = some (some s)->s.m=.par->σV[i]? = some (some (.ref p))->Γ.pr p
 keep:∀ a o,Γ.H₀ a=some o->¬ Γ.pr a->H a=some o
 dom:∀ a,H a=none->Γ.H₀ a=none
 len:σ.length=σV.length
structure Step(σ:Sg)(σV:St)(H:Hp)(σ':Sg)(σV':St)(H':Hp):Prop where
 fr:∀ a o,H a=some o->¬ iU σ σV a->H' a=some o
 dom:∀ a,H' a=none->H a=none
 mu:∀ a,iU σ' σV' a->iU σ σV a\/H a=none
 nv:∀ a,aA8 σ' σV' a->aA8 σ σV a\/H a=none
 kp:∀ (i:Nat) s,σ[i]? = some (some s)->∃ s',σ'[i]? = some (some s')
 fix:∀ (i:Nat) s,σ[i]? = some (some s)->(s.m=.par\/s.m=.lent)->∃ s',σ'[i]? = some (some s')/\s'.m=s.m/\(s.m=.lent->s'.d=s.d)/\σV'[i]? = σV[i]?
 lt:∀ (i:Nat) s',σ'[i]? = some (some s')->s'.m=.lent->∃ s,σ[i]? = some (some s)/\s.m=.lent
section
variable{σ σ1 σ2:Sg}{σV σV1 σV2:St}{H H1 H2:Hp}{Γ:Gm}
def Step.refl:Step σ σV H σ σV H:=⟨λ_ _ h _=>h,λ_ h=>h,λ_ h=>.inl h,λ_ h=>.inl h,λi s h=>⟨s,h⟩,λi s h _=>⟨s,h,rfl,λ_=>rfl,rfl⟩,λi s h m=>⟨s,h,m⟩⟩
theorem Step.trans(a:Step σ σV H σ1 σV1 H1)(b:Step σ1 σV1 H1 σ2 σV2 H2):Step σ σV H σ2 σV2 H2 where
 fr:=λc o h n=>b.fr c o (a.fr c o h n) λz=>by
  rcases a.mu c z with q | q;exact n q;rw[h]at q;cases q
 dom:=λc h=>a.dom c (b.dom c h)
 mu:=λc h=>by
  rcases b.mu c h with q | q;exact a.mu c q;exact .inr (a.dom c q)
 nv:=λc h=>by
  rcases b.nv c h with q | q;exact a.nv c q;exact .inr (a.dom c q)
 kp:=λi s h=>by
  obtain⟨s1,d⟩:=a.kp i s h;exact b.kp i s1 d
 fix:=λi s h hm=>by
  obtain⟨s1,d,e,f,g⟩:=a.fix i s h hm;obtain⟨s2,j,k,l,p⟩:=b.fix i s1 d (by rw[e];exact hm);exact⟨s2,j,k.trans e,λz=>(l (e.trans z)).trans (f z),p.trans g⟩
 lt:=λi s h m=>by
  obtain⟨s1,d,e⟩:=b.lt i s h m;exact a.lt i s1 d e
def StOk.mutObj(ok:StOk Γ H σ σV){a:Addr}(h:aA8 σ σV a):∃ o,H a=some o/\(∀ xs,o≠.tup xs)/\∀ ob u,o≠.frz ob u:=by
 obtain⟨i,s,b,c,d⟩:=h;obtain⟨v,e,r⟩:=ok.rel i s b;rw[d]at e;cases e;obtain⟨p,e,q⟩:=(cV c).mp r;cases e;exact q.obj
def Step.ext(st:Step σ σV H σ1 σV1 H1)(ok:StOk Γ H σ σV):Ext H H1:=by
 refine⟨λp xs h=>st.fr p _ h λz=>?_,λp o u h=>st.fr p _ h λz=>?_⟩;obtain⟨o,e,n,_⟩:=ok.mutObj z.nv;rw[h]at e;cases e;exact n _ rfl;obtain⟨o,e,_,n⟩:=ok.mutObj z.nv;rw[h]at e;cases e;exact n _ _ rfl
theorem bD8.mono{s:Sl}{v:V}(r:bD8 H s v)(e:Ext H H1)(b:∀ p o,v=.ref p->s.m≠.val->H p=some o->H1 p=some o):bD8 H1 s v:=by
 by_cases q:s.m=.val;obtain⟨m,d⟩:=s;cases q;exact Rp.mono e r;obtain⟨p,a,c⟩:=(cV q).mp r;exact(cV q).mpr ⟨p,a,c.mono e λo=>b p o a q⟩
theorem StOk.same(ok:StOk Γ H σ σV)(h:tM H H1):StOk Γ H1 σ σV:=
 ⟨λi s e=>by
  obtain⟨v,b,r⟩:=ok.rel i s e;exact⟨v,b,r.mono (.same h) λp o _ _ q=>h p o q⟩,ok.dis,ok.own,ok.par,λa o e n=>h a o (ok.keep a o e n),λa e=>ok.dom a (by
  cases q:H a with
  | none=>rfl
  | some o=>rw[h a o q]at e;cases e),ok.len⟩
def aO7(h:tM H H1){a:Addr}(e:H1 a=none):H a=none:=by
 cases q:H a with
 | none=>rfl
 | some o=>rw[h a o q]at e;cases e
def Step.same(h:tM H H1):Step σ σV H σ σV H1:=⟨λa o e _=>h a o e,λa e=>aO7 h e,λ_ h=>.inl h,λ_ h=>.inl h,λi s h=>⟨s,h⟩,λi s h _=>⟨s,h,rfl,λ_=>rfl,rfl⟩,λi s h m=>⟨s,h,m⟩⟩
end
inductive Res where
 | val (d:D) | own (d:D) | slot (i:Nat)
def jC(Γ:Gm)(H:Hp)(σ:Sg)(σV:St)(r:Res)(v:V):Prop:=match r with
 | .val d=>Rp H d v
 | .own d=>∃ p,v=.ref p/\cP H d p/\¬ aA8 σ σV p/\Γ.H₀ p=none
 | .slot i=>σV[i]? = some (some v)/\∃ s,σ[i]? = some (some s)
noncomputable def rd(σ:Sg):Res->Option D
 | .val d=>some d
 | .own d=>some d
 | .slot i=>match σ[i]? with
   | some (some s)=>some s.d
   | _=>none
section
variable{σ σ1:Sg}{σV σV1:St}{H H1:Hp}{Γ:Gm}{r:Res}{v:V}{d:D}
theorem jC.vw(ok:StOk Γ H σ σV)(h:jC Γ H σ σV r v)(e:rd σ r=some d):Vw H d v:=by
 cases r with
 | val d'=>cases e;exact .inl h
 | own d'=>cases e;obtain⟨p,a,b,_⟩:=h;exact .inr ⟨p,a,b⟩
 | slot i=>
   obtain⟨f,s,c⟩:=h;have g:some s.d=some d:=by
    have:rd σ (.slot i)=some s.d:=by show(match σ[i]? with | some (some s)=>some s.d | _=>none)=_;rw[c]
    rw[← this];exact e
   cases g;obtain⟨w,a,b⟩:=ok.rel i s c;rw[f]at a;cases a;exact b.vw
def jC.step(ok:StOk Γ H σ σV)(h:jC Γ H σ σV r v)(st:Step σ σV H σ1 σV H1):jC Γ H1 σ1 σV r v:=by
 cases r with
 | val d=>exact Rp.mono (st.ext ok) h
 | own d=>
   obtain⟨p,c,a,b,e⟩:=h;obtain⟨o,f,_⟩:=a.obj;refine⟨p,c,a.mono (st.ext ok) λo h=>st.fr p o h λz=>b z.nv,λz=>?_,e⟩;rcases st.nv p z with q | q;exact b q;rw[f]at q;cases q
 | slot i=>
   obtain⟨g,s,j⟩:=h;exact⟨g,st.kp i s j⟩
end
abbrev DE:=Sg->Option (Res×Sg)
abbrev DT:=Sg->Option (Bool×Sg)
abbrev DA:=Sg->Option (List Res×Sg)
inductive ResOks(Γ:Gm)(H:Hp)(σ:Sg)(σV:St):List Res->List V->Prop
 | nil:ResOks Γ H σ σV [] []
 | cons {r:Res} {rs:List Res} {v:V} {vs:List V}:jC Γ H σ σV r v->ResOks Γ H σ σV rs vs->(∀ d p,r=.own d->v=.ref p->∀ (j:Nat) d',rs[j]? = some (.own d')->vs[j]? ≠ some (.ref p))->ResOks Γ H σ σV (r::rs) (v::vs)
def Frh(H:Hp)(r:Res)(v:V):Prop:=∀ d p,r=.own d->v=.ref p->H p=none
def dH{H:Hp}{d:D}{v:V}:Frh H (.val d) v:=λ_ _ e=>nomatch e
def Frh.back{H c:Hp}{r:Res}{v:V}{σ b:Sg}{σV a:St}(f:Frh c r v)(st:Step σ σV H b a c):Frh H r v:=λd p e g=>st.dom p (f d p e g)
def dTE(Γ:Gm)(r:DE):TE:=λσV H Q=>∃ σ,StOk Γ H σ σV/\∃ res σ',r σ=some (res,σ') /\
 ∀ v H',StOk Γ H' σ' σV->jC Γ H' σ' σV res v->Step σ σV H σ' σV H'->Frh H res v->Q v H'
def peW{X:Cx}{e:Expr}{t t':TE}(h:PE X e t)(w:∀ σ H Q,t' σ H Q->t σ H Q):PE X e t':=λpins s σ H Q I q=>h pins s σ H Q I (w σ H Q q)
def ptW{X:Cx}{e:Expr}{t t':TT}(h:PT X e t)(w:∀ σ H Q,t' σ H Q->t σ H Q):PT X e t':=λpins s σ H Q I q=>h pins s σ H Q I (w σ H Q q)
def pwW{X:Cx}{e:Expr}{t t':TT}(h:PW X e t)(w:∀ σ H Q,t' σ H Q->t σ H Q):PW X e t':=λa pins s σ H Q I q=>h a pins s σ H Q I (w σ H Q q)
def paW{X:Cx}{e:List Expr}{t t':TA}(h:PA X e t)(w:∀ σ H Q,t' σ H Q->t σ H Q):PA X e t':=λa pins s σ H Q I q=>h a pins s σ H Q I (w σ H Q q)
def psW{X:Cx}{e:Stmt}{t t':TS}(h:PS X e t)(w:∀ D σ H,t' D σ H->t D σ H):PS X e t':=λpins s σ H D I q=>h pins s σ H D I (w D σ H q)
def cS1{X:Cx}{e:List Stmt}{t t':TS}(h:PSs X e t)(w:∀ D σ H,t' D σ H->t D σ H):PSs X e t':=λpins s σ H D I q=>h pins s σ H D I (w D σ H q)
structure GE(X:Cx)(e:Expr)(r:DE):Prop where
 to:∀ Γ,PE X e (dTE Γ r)
def dTT(Γ:Gm)(r:DT):TT:=λσV H Q=>∃ σ,StOk Γ H σ σV/\∃ b σ',r σ=some (b,σ')/\∀ H',StOk Γ H' σ' σV->Step σ σV H σ' σV H'->Q b H'
structure GT(X:Cx)(e:Expr)(r:DT):Prop where
 to:∀ Γ,PT X e (dTT Γ r)
structure GW(X:Cx)(e:Expr)(r:DT):Prop where
 to:∀ Γ,PW X e (dTT Γ r)
def GW.gt{X:Cx}{e:Expr}{r:DT}(h:GW X e r):GT X e r:=.mk λΓ=>(h.to Γ).pt
def dN3(H:Hp)(rs:List Res)(vs:List V):Prop:=∀ (j:Nat) d p,rs[j]? = some (.own d)->vs[j]? = some (.ref p)->H p=none
def dTA(Γ:Gm)(r:DA):TA:=λσV H Q=>∃ σ,StOk Γ H σ σV/\∃ rs σ',r σ=some (rs,σ')/\∀ vs H',StOk Γ H' σ' σV->ResOks Γ H' σ' σV rs vs->Step σ σV H σ' σV H'->dN3 H rs vs->Q vs H'
structure GA(X:Cx)(es:List Expr)(r:DA):Prop where
 to:∀ Γ,PA X es (dTA Γ r)
noncomputable def aF(i:Nat):DE:=λσ=>match σ[i]? with
 | some (some s)=>some (if s.m=.val then .val s.d else .slot i,σ)
 | _=>none
def aB{X:Cx}{e:Expr}{i:Nat}(h:PE X e (zV i)):GE X e (aF i):=.mk λΓ=>peW h λσV H Q ⟨σ,ok,res,σ',e,k⟩=>by
 unfold aF at e;split at e;rename_i s hs;cases e;obtain⟨v,a,r⟩:=ok.rel i s hs;refine⟨v,a,k v H ok ?_ .refl (by split<;>exact λ_ _ e=>nomatch e)⟩;by_cases hm:s.m=.val;rw[a4A hm];obtain⟨m,d⟩:=s;cases hm;exact r;rw[a4z hm];exact⟨a,s,hs⟩;cases e
noncomputable def dC(d:D):DE:=λσ=>some (.val d,σ)
def cL7{X:Cx}{e:Expr}{v:V}{d:D}(h:PE X e (tC v))(a:∀ H,Rp H d v):GE X e (dC d):=.mk λΓ=>peW h λσV H Q ⟨σ,ok,res,σ',e,k⟩=>by
 cases e;exact k v H ok (a H) .refl dH
def ge_int{X:Cx}{i:Int}{j pos}:GE X (.Constant (.int i) j pos) (dC (.int i)):=cL7 cN6 λ_=>.int i
def mY{X:Cx}{i:Bool}{j pos}:GE X (.Constant (.bool i) j pos) (dC (.bl i)):=cL7 dC0 λ_=>.bl i
def lG{X:Cx}{i:Str}{j pos}:GE X (.Constant (.str i) j pos) (dC (.str i)):=cL7 cN8 λ_=>.str i
def bM7{X:Cx}{j pos}:GE X (.Constant .none j pos) (dC .non):=cL7 cN7 λ_=>.non
def bD9{X:Cx}{x z:Str}{pos:Pos}(a:Gl X x)(h:∃ t,X.mg x=some (.str z t))(hd:(x==("__debug__":Str))=false:=by decide):GE X (.Name x pos) (dC (.str z)):=cL7 (bC5 a h hd) λ_=>.str z
def lH{X:Cx}{x:Str}{i:Int}{pos:Pos}(a:Gl X x)(h:∃ t,X.mg x=some (.int i t))(hd:(x==("__debug__":Str))=false:=by decide):GE X (.Name x pos) (dC (.int i)):=cL7 (bC6 a h hd) λ_=>.int i
def xW(H H':Hp)(r:Res)(v:V):Prop:=match r with
 | .val d=>Rp H' d v
 | .own d=>∃ p,v=.ref p/\H p=none/\cP H' d p
 | .slot _=>False
def xW.frh{H H':Hp}{r:Res}{v:V}(h:xW H H' r v):Frh H r v:=λd p a b=>by
 subst a b;obtain⟨q,e,c,_⟩:=h;cases e;exact c
def xW.res{Γ:Gm}{H H':Hp}{σ:Sg}{σV:St}{r:Res}{v:V}(h:xW H H' r v)(ok:StOk Γ H σ σV):jC Γ H' σ σV r v:=by
 cases r with
 | val d=>exact h
 | own d=>
   obtain⟨p,b,a,c⟩:=h;refine⟨p,b,c,λz=>?_,ok.dom p a⟩;obtain⟨o,e,_⟩:=ok.mutObj z;rw[a]at e;cases e
 | slot i=>exact h.elim
abbrev F1:=D->Option Res
abbrev F2:=D->D->Option Res
abbrev FN:=List D->Option Res
def cS2(a:V->Hp->VK->Prop)(f:F1):Prop:=∀ H d x Q res,Vw H d x->f d=some res->(∀ v H',tM H H'->xW H H' res v->Q v H')->a x H Q
def kB(c:R2)(f:F2):Prop:=∀ H a b x y Q res,Vw H a x->Vw H b y->f a b=some res->(∀ v H',tM H H'->xW H H' res v->Q v H')->c x y H Q
def aG4(a:List V->Hp->VK->Prop)(f:FN):Prop:=∀ H ds vs Q res,Vws H ds vs->f ds=some res->(∀ v H',tM H H'->xW H H' res v->Q v H')->a vs H Q
noncomputable def bM8(f:F1)(a:DE):DE:=λσ=>(a σ).bind λx=>(rd x.2 x.1).bind λd=>(f d).bind λr=>some (r,x.2)
noncomputable def aU(f:F2)(a b:DE):DE:=λσ=>(a σ).bind λx=>(b x.2).bind λy=>(rd y.2 x.1).bind λd=>(rd y.2 y.1).bind λe=>(f d e).bind λr=>some (r,y.2)
def bind_some{c d:Type}{o:Option c}{f:c->Option d}{b:d}(h:o.bind f=some b):∃ a,o=some a/\f a=some b:=by
 cases o with
 | none=>cases h
 | some a=>exact⟨a,rfl,h⟩
def hX{Γ:Gm}{l:R2}{f:F2}(q:kB l f){m n:DE}{σV:St}{H:Hp}{Q:VK}(h:dTE Γ (aU f m n) σV H Q):tOp l (dTE Γ m) (dTE Γ n) σV H Q:=by
 obtain⟨σ,ok,res,σ',e,k⟩:=h;obtain⟨⟨x,c⟩,s,e⟩:=bind_some e;obtain⟨⟨y,i⟩,t,e⟩:=bind_some e;obtain⟨u,w,e⟩:=bind_some e;obtain⟨z,A,e⟩:=bind_some e;obtain⟨r,B,e⟩:=bind_some e;cases e;refine⟨σ,ok,x,c,s,λC I d D g _=>⟨c,d,y,i,t,λE F a G b _=>?_⟩⟩;have j:=D.step d b;refine q F u z C E Q _ (j.vw a w) (G.vw a A) B λv H' o p=>?_;exact k v H' (a.same o) (p.res a) ((g.trans b).trans (.same o)) (p.frh.back (g.trans b))
def aA9{Γ:Gm}{d:V->Hp->VK->Prop}{f:F1}(l:cS2 d f){g:DE}{σV:St}{H:Hp}{Q:VK}(h:dTE Γ (bM8 f g) σV H Q):tUn d (dTE Γ g) σV H Q:=by
 obtain⟨σ,ok,res,σ',e,k⟩:=h;obtain⟨⟨x,c⟩,m,e⟩:=bind_some e;obtain⟨n,o,e⟩:=bind_some e;obtain⟨r,p,e⟩:=bind_some e;cases e;refine⟨σ,ok,x,c,m,λq s a t b _=>?_⟩;refine l s n q Q _ (t.vw a o) p λv H' i j=>?_;exact k v H' (a.same i) (j.res a) (b.trans (.same i)) (j.frh.back b)
section
variable{X:Cx}{a b:Expr}{ra rb:DE}{pos:Pos}
def aT{op:Operator}{c:R2}{f:F2}(d:OpR X (binaryOp op) c)(e:kB c f)(ha:GE X a ra)(hb:GE X b rb):GE X (.BinOp a op b pos) (aU f ra rb):=
 .mk λΓ=>peW (dD0 d (ha.to Γ) (hb.to Γ)) λ_ _ _=>hX e
def dE6{op:UnaryOp}{b:V->Hp->VK->Prop}{f:F1}(c:UnR X (unaryOp op) b)(d:cS2 b f)(ha:GE X a ra):GE X (.UnaryOp op a pos) (bM8 f ra):=
 .mk λΓ=>peW (dD1 c (ha.to Γ)) λ_ _ _=>aA9 d
def kJ{op:CmpOp}{c:R2}{f:F2}(d:OpR X (compareOp op) c)(e:kB c f)(ha:GE X a ra)(hb:GE X b rb)(hm:behindInMarks op b=false):GE X (.Compare a [op] [b] pos) (aU f ra rb):=
 .mk λΓ=>peW (cB2 d (ha.to Γ) (hb.to Γ) hm) λ_ _ _=>hX e
noncomputable def fO(r:DE):DT:=λσ=>(r σ).bind λx=>(rd x.2 x.1).bind λd=>match d with
 | .bl b=>some (b,x.2)
 | _=>none
def tQ{r:DE}{σ σ':Sg}{b:Bool}(h:fO r σ=some (b,σ')):∃ x,r σ=some (x,σ')/\rd σ' x=some (.bl b):=by
 obtain⟨⟨x,c⟩,f,e⟩:=bind_some h;obtain⟨d,a,e⟩:=bind_some e;dsimp only at e a;split at e;cases e;exact⟨x,f,a⟩;cases e
def wD{H:Hp}{b:Bool}{v:V}(h:Vw H (.bl b) v):v=.bl b:=by
 rcases h with h | ⟨p,_,h⟩;cases h;rfl;exact h.elim
def aB0{Γ:Gm}{r:DE}{σV:St}{H:Hp}{Q:Bool->Hp->Prop}(h:dTT Γ (fO r) σV H Q):dTE Γ r σV H (λx H'=>∃ k,x=.bl k/\Q k H'):=by
 obtain⟨σ,ok,b,σ',e,k⟩:=h;obtain⟨x,c,d⟩:=tQ e;refine⟨σ,ok,x,σ',c,λv H' a f st _=>⟨b,wD (f.vw a d),k H' a st⟩⟩
def cA{op:CmpOp}{c:R2}{f:F2}(d:OpR X (compareOp op) c)(e:kB c f)(ha:GE X a ra)(hb:GE X b rb)(hm:behindInMarks op b=false):GT X (.Compare a [op] [b] pos) (fO (aU f ra rb)):=
 .mk λΓ=>ptW (cB3 d (ha.to Γ) (hb.to Γ) hm) λσ H Q h=>hX e (aB0 h)
def kK{e:Expr}{r:DE}(h:GE X e r)(b:∀ a,isTrue e X.env a=(do let v ← a;standAt e.pos;holding [v] (truthy v)):=by intro _;rfl):GT X e (fO r):=
 .mk λΓ=>ptW (cN9 (h.to Γ) b) λ_ _ _ h=>aB0 h
noncomputable def dN4:D->Option Bool
 | .non=>some false
 | .bl b=>some b
 | .int i=>some (i != 0)
 | .str x=>if x.length<=sizeLine then some ((x.length:Int) != 0)else none
 | .lst l=>some (!l.isEmpty)
 | .tup l=>some (!l.isEmpty)
 | _=>none
noncomputable def dI9(r:DE):DT:=λσ=>(r σ).bind λx=>(rd x.2 x.1).bind λd=>(dN4 d).bind λb=>some (b,x.2)
end
def dE{H:Hp}{l:List D}{v:V}(h:Vw H (.tup l) v):∃ p xs,v=.ref p/\H p=some (.tup xs)/\Rps H l xs:=by
 rcases h with h | ⟨p,_,h⟩
 ·cases h with
  | tup h r=>exact⟨_,_,rfl,h,r⟩
 ·exact h.elim
def fD{H:Hp}{l:List D}{v:V}(h:Vw H (.lst l) v):∃ p xs,v=.ref p/\eR H p=some (true,xs)/\Rps H l xs:=by
 rcases h with h | ⟨p,e,xs,h,r⟩
 ·cases h with
  | lst h r=>exact⟨_,_,rfl,bC1 h,r⟩
 ·exact⟨p,xs,e,bC0 h,r⟩
def cC{H:Hp}{i:Int}{v:V}(h:Vw H (.int i) v):v=.int i:=by
 rcases h with h | ⟨p,_,h⟩;cases h;rfl;exact h.elim
def iO{H:Hp}{i:Str}{v:V}(h:Vw H (.str i) v):v=.str i:=by
 rcases h with h | ⟨p,_,h⟩;cases h;rfl;exact h.elim
def aO8{H:Hp}{v:V}(h:Vw H .non v):v=.non:=by
 rcases h with h | ⟨p,_,h⟩;cases h;rfl;exact h.elim
noncomputable def bM9:D->Option (Bool×List D)
 | .lst l=>some (true,l)
 | .tup l=>some (false,l)
 | _=>none
def bN0{H:Hp}{d:D}{v:V}{b:Bool}{l:List D}(h:Vw H d v)(e:bM9 d=some (b,l)):∃ p xs,v=.ref p/\eR H p=some (b,xs)/\Rps H l xs:=by
 cases d with
 | lst a=>cases e;exact fD h
 | tup a=>cases e;obtain⟨p,xs,c,f,g⟩:=dE h;exact⟨p,xs,c,cL f,g⟩
 | _=>cases e
section
variable{X:Cx}{a b:Expr}{ra rb:DE}{pos:Pos}
def bE0(ha:GE X a ra)(o:∀ f,isTrue a X.env f=(do let v ← f;standAt a.pos;holding [v] (truthy v))):GT X a (dI9 ra):=.mk λΓ=>ptW (bB0 (ha.to Γ) o) λσV H Q ⟨σ,ok,b,σ',e,k⟩=>by
 obtain⟨⟨x,q⟩,r,e⟩:=bind_some e;obtain⟨d,s,e⟩:=bind_some e;obtain⟨t,g,e⟩:=bind_some e;cases e;refine⟨σ,ok,x,_,r,λv H' j u st _=>⟨b,?_,k H' j st⟩⟩;have vw:=u.vw j s;cases d with
 | non=>cases g;rw[aO8 vw];rfl
 | bl c=>cases g;rw[wD vw];rfl
 | int i=>cases g;rw[cC vw];rfl
 | str z=>
   rw[iO vw];have h:(if z.length<=sizeLine then some ((z.length:Int) != 0)else none)=some b:=g;split at h;rename_i w;cases h;exact⟨w,rfl⟩;cases h
 | lst l=>
   cases g;obtain⟨p,xs,rfl,m,n⟩:=fD vw;refine .inl ⟨xs,fT m,?_⟩;have:=n.length;cases l<;>cases xs<;>simp_all
 | tup l=>
   cases g;obtain⟨p,xs,rfl,m,n⟩:=dE vw;refine .inr (.inl ⟨xs,eG (cL m),?_⟩);have:=n.length;cases l<;>cases xs<;>simp_all
 | dic ks vs=>cases g
variable{tA tB:DT}{dD:List Expr}
noncomputable def dJ0(t u:DT):DT:=λσ=>(t σ).bind λx=>if x.1=true then u x.2 else some (false,x.2)
noncomputable def dOr(t u:DT):DT:=λσ=>(t σ).bind λx=>if x.1=true then some (true,x.2)else u x.2
noncomputable def aK2(t:DT):DT:=λσ=>(t σ).bind λx=>some (!x.1,x.2)
def cE3(ha:GT X a tA):GW X (.BoolOp .And [a] pos) tA:=.mk λΓ=>cA8 (ha.to Γ)
def oB(ha:GT X a tA):GW X (.BoolOp .Or [a] pos) tA:=.mk λΓ=>cO0 (ha.to Γ)
def cS3(ha:GT X a tA)(hb:GW X (.BoolOp .And (b::dD) pos) tB):GW X (.BoolOp .And (a::b::dD) pos) (dJ0 tA tB):=.mk λΓ=>pwW (cO1 (ha.to Γ) (hb.to Γ)) λσV H Q ⟨σ,ok,c,σ',e,k⟩=>by
 obtain⟨⟨x,d⟩,l,e⟩:=bind_some e;refine⟨σ,ok,x,d,l,λm f g=>?_⟩;dsimp only at e;split at e;rename_i h;rw[a4A h];exact⟨d,f,c,σ',e,λn i j=>k n i (g.trans j)⟩;rename_i h;rw[a4z h];cases e;exact k m f g
def rE(ha:GT X a tA)(hb:GW X (.BoolOp .Or (b::dD) pos) tB):GW X (.BoolOp .Or (a::b::dD) pos) (dOr tA tB):=.mk λΓ=>pwW (dC1 (ha.to Γ) (hb.to Γ)) λσV H Q ⟨σ,ok,c,σ',e,k⟩=>by
 obtain⟨⟨x,d⟩,l,e⟩:=bind_some e;refine⟨σ,ok,x,d,l,λm f g=>?_⟩;dsimp only at e;split at e;rename_i h;rw[a4A h];cases e;exact k m f g;rename_i h;rw[a4z h];exact⟨d,f,c,σ',e,λn i j=>k n i (g.trans j)⟩
def lI(ha:GT X a tA):GT X (.UnaryOp .Not a pos) (aK2 tA):=.mk λΓ=>ptW (cO2 (ha.to Γ)) λσV H Q ⟨σ,ok,c,σ',e,k⟩=>by
 obtain⟨⟨x,f⟩,g,e⟩:=bind_some e;cases e;exact⟨σ,ok,x,_,g,λh b d=>k h b d⟩
noncomputable def tR(t u:DE):DE:=λσ=>(fO t σ).bind λx=>if x.1=true then u x.2 else some (.val (.bl false),x.2)
noncomputable def cS4(t:DE):DE:=λσ=>(fO t σ).bind λx=>some (.val (.bl (!x.1)),x.2)
def rY{op}{r:DE}(h:GE X a r):GE X (.BoolOp op [a] pos) r:=.mk λΓ=>cO3 (h.to Γ)
def oC(ha:GE X a ra)(hb:GE X (.BoolOp .And (b::dD) pos) rb):GE X (.BoolOp .And (a::b::dD) pos) (tR ra rb):=.mk λΓ=>peW (cO4 (ha.to Γ) (hb.to Γ)) λσV H Q ⟨σ,ok,c,σ',e,k⟩=>by
 obtain⟨⟨x,g⟩,l,e⟩:=bind_some e;obtain⟨y,m,n⟩:=tQ l;refine⟨σ,ok,y,g,m,λv o d p f _=>⟨x,wD (p.vw d n),?_⟩⟩;dsimp only at e;split at e;rename_i h;rw[a4A h];exact⟨g,d,c,σ',e,λq r i s j t=>k q r i s (f.trans j) (t.back f)⟩;rename_i h;rw[a4z h];cases e;exact k _ o d (.bl false) f dH
def cS5(ha:GE X a ra):GE X (.UnaryOp .Not a pos) (cS4 ra):=.mk λΓ=>peW (cO5 (ha.to Γ)) λσV H Q ⟨σ,ok,c,σ',e,k⟩=>by
 obtain⟨⟨x,f⟩,g,e⟩:=bind_some e;obtain⟨y,h,i⟩:=tQ g;cases e;exact⟨σ,ok,y,_,h,λv j b l d _=>⟨x,wD (l.vw b i),k _ j b (.bl _) d dH⟩⟩
noncomputable def dIf(t:DT)(ra rb:DE):DE:=λσ=>(t σ).bind λx=>if x.1=true then ra x.2 else rb x.2
def dE7{c:Expr}(p:GT X c tA)(ha:GE X a ra)(hb:GE X b rb):GE X (.IfExp c a b pos) (dIf tA ra rb):=.mk λΓ=>peW (bA6 (p.to Γ) (ha.to Γ) (hb.to Γ)) λσV H Q ⟨σ,ok,r,σ',e,k⟩=>by
 obtain⟨⟨x,f⟩,q,e⟩:=bind_some e;refine⟨σ,ok,x,f,q,λs i d=>?_⟩;dsimp only at e;split at e;rename_i j;rw[a4A j];exact⟨f,i,r,σ',e,λl m g n h o=>k l m g n (d.trans h) (o.back d)⟩;rename_i j;rw[a4z j];exact⟨f,i,r,σ',e,λl m g n h o=>k l m g n (d.trans h) (o.back d)⟩
noncomputable def wE(f g:F2)(ra rb a:DE):DE:=λσ=>(ra σ).bind λx=>(rb x.2).bind λy=>(rd y.2 x.1).bind λd=>(rd y.2 y.1).bind λe=>match f d e with
 | some (.val (.bl true))=>(a y.2).bind λz=>(rd z.2 y.1).bind λe=>(rd z.2 z.1).bind λh=>(g e h).bind λr=>some (r,z.2)
 | some (.val (.bl false))=>some (.val (.bl false),y.2)
 | _=>none
def aG5{Γ:Gm}{F l:R2}{f g:F2}(G:kB F f)(u:kB l g){ra rb I:DE}{σV:St}{H:Hp}{Q:VK}(h:dTE Γ (wE f g ra rb I) σV H Q):bL8 F l (dTE Γ ra) (dTE Γ rb) (dTE Γ I) σV H Q:=by
 obtain⟨σ,ok,res,σ',e,k⟩:=h;obtain⟨⟨x,m⟩,P,e⟩:=bind_some e;obtain⟨⟨y,n⟩,R,e⟩:=bind_some e;obtain⟨J,K,e⟩:=bind_some e;obtain⟨L,M,e⟩:=bind_some e;refine⟨σ,ok,x,m,P,λN H1 o S d _=>⟨m,o,y,n,R,λw O a A b _=>?_⟩⟩;have p:=S.step o b;dsimp only at e;split at e;rename_i B;obtain⟨⟨z,T⟩,U,e⟩:=bind_some e;obtain⟨C,V,e⟩:=bind_some e;obtain⟨W,X,e⟩:=bind_some e;obtain⟨r,Y,e⟩:=bind_some e;cases e;refine G O J L N w _ _ (p.vw a K) (A.vw a M) B λv H' i D=>?_;have q:=a.same i;cases D;refine⟨true,rfl,?_⟩;rw[a4A rfl];refine⟨n,q,z,_,U,λZ H4 c r4 j _=>?_⟩;have E:=(A.step a (.same i)).step q j;refine u H4 C W w Z Q _ (E.vw c V) (r4.vw c X) Y λv H' s t=>?_;exact k v H' (c.same s) (t.res c) ((((d.trans b).trans (.same i)).trans j).trans (.same s)) (t.frh.back (((d.trans b).trans (.same i)).trans j));rename_i B;cases e;refine G O J L N w _ _ (p.vw a K) (A.vw a M) B λv H' i D=>?_;cases D;refine⟨false,rfl,?_⟩;rw[a4z a9c];exact k _ H' (a.same i) (.bl false) ((d.trans b).trans (.same i)) dH;cases e
def tS{c:Expr}{j:DE}{op d:CmpOp}{k e:R2}{f g:F2}(l:OpR X (compareOp op) k)(m:kB k f)(h:OpR X (compareOp d) e)(i:kB e g)(ha:GE X a ra)(hb:GE X b rb)(n:GE X c j)
  (hm:lastMarks [op,d] [b,c]=false:=by with_unfolding_all rfl):GE X (.Compare a [op,d] [b,c] pos) (wE f g ra rb j):=.mk λΓ=>peW (bA9 l h (ha.to Γ) (hb.to Γ) (n.to Γ) hm) λ_ _ _=>aG5 m i
end
def Fz:HO->Prop
 | .lst _=>True
 | .dK _=>True
 | .dT _=>True
 | .dM _=>True
 | _=>False
def aO9{X:Cx}{pins:List (Addr×Obj)}{σ:St}{H:Hp}{s:Shared}{p:Addr}{u:HO}(I:Inv X pins σ H s)(h:H p=some u)(d:Fz u):∃ o,Inv X pins σ (upd H p (.frz o u)) s:=by
 have nt:∀ b xs,H b=some (.tup xs)->b≠p:=λb xs e z=>by subst z;rw[h]at e;cases e;exact d
 have j:∀ b o x,H b=some (.frz o x)->b≠p:=λb o x e z=>by subst z;rw[h]at e;cases e;exact d
 have no:∀ b x,H b=some (.own x)->b≠p:=λb x e z=>by subst z;rw[h]at e;cases e;exact d
 have nb:∀ b x,H b=some (.tbl x)->b≠p:=λb x e z=>by subst z;rw[h]at e;cases e;exact d
 have f:∀ b,H b=none->b≠p:=λb e z=>by subst z;rw[h]at e;cases e
 obtain⟨o,r⟩:∃ o,s.heap.get? p=some o:=by
  have:=I.hok p u h;have l:=this.lt;cases q:s.heap.get? p with
  | some o=>exact⟨o,rfl⟩
  | none=>
    cases u with
    | lst xs=>obtain⟨_,_,_,_,e⟩:=this;rw[q]at e;cases e
    | dK kvs=>obtain⟨_,_,_,_,ob,_,_,e,_⟩:=this;rw[q]at e;cases e
    | dT kvs=>obtain⟨_,_,_,_,ob,_,_,e,_⟩:=this;rw[q]at e;cases e
    | dM kvs=>obtain⟨_,_,_,_,ob,_,_,e,_⟩:=this;rw[q]at e;cases e
    | _=>exact d.elim
 have st:∀ a x,cM X.prog X.w H s.heap a x->cM X.prog X.w (upd H p (.frz o u)) s.heap a x:=λa x k=>
  k.stay (λ_ _ _ e=>e) (λb e=>by rw[aK (no b _ e)];exact e) λb xs e=>by rw[aK (nt b _ e)];exact e
 refine⟨o,{I with base:=?_,free:=?_,freeC:=?_,pin:=?_,hok:=?_}⟩
 ·exact⟨I.base.keep,I.base.slot,λb ob q n t=>by
    have:=I.base.free b ob q n t;rw[aK (f b this)];exact this,I.base.there,λb xs e=>by
    have:=I.base.tups b xs e;rw[aK (nt b _ this)];exact this,λb ob x e=>by
    have:=I.base.frzs b ob x e;rw[aK (j b _ _ this)];exact this,λb ps e=>by
    obtain⟨m,g⟩:=I.base.tbls b ps e;exact⟨m,by rw[aK (nb b _ g)];exact g⟩⟩
 ·rw[aK (f _ I.free)];exact I.free
 ·intro x c e;rw[aK (f _ (I.freeC x c e))];exact I.freeC x c e
 ·intro q v;obtain⟨y,i,A⟩:=I.pin q v;exact⟨y,by rw[aK (f _ i)];exact i,A⟩
 ·intro a x e;by_cases ha:a=p;subst ha;rw[aQ]at e;cases e;exact⟨r,st a u (I.hok a u h)⟩;rw[aK ha]at e;exact st a x (I.hok a x e)
def tFz(t:TE):TE:=λσ H Q=>t σ H λv H1=>Q v H1\/∃ p u,v=.ref p/\H1 p=some u/\Fz u/\∀ o,Q v (upd H1 p (.frz o u))
def dE8{X:Cx}{e:Expr}{t:TE}(h:PE X e t):PE X e (tFz t):=λpins s σ H Q I q=>
 thn (h pins s σ H _ I q) λu s1 ⟨v,d,b,c,a⟩=>by
  rcases a with a | ⟨p,x,j,f,g,a⟩;exact⟨v,d,b,c,a⟩;obtain⟨o,i⟩:=aO9 b f g;exact⟨v,_,i,c,a o⟩
def aP0{H:Hp}{d:D}{p:Addr}(h:cP H d p):∃ u,H p=some u/\Fz u/\∀ o H',Ext H H'->H' p=some (.frz o u)->Rp H' d (.ref p):=by
 unfold cP at h;split at h;obtain⟨xs,b,a⟩:=h;exact⟨_,b,True.intro,λo H' x e=>.lst e (a.mono x)⟩
 ·obtain⟨u,ws,b,a,c⟩:=h;refine⟨u,b,?_,λo H' x e=>.dic e a (c.mono x)⟩;cases u with
  | dK _=>exact True.intro
  | dT _=>exact True.intro
  | dM _=>exact True.intro
  | _=>exact a.elim
 ·exact h.elim
def aP1{H:Hp}{p:Addr}{u:HO}{o:Obj}(h:H p=some u)(a:Fz u):Ext H (upd H p (.frz o u)):=
 ⟨λb xs e=>by rw[aK (λz=>by subst z;rw[h]at e;cases e;exact a)];exact e,λb ob x e=>by rw[aK (λz=>by subst z;rw[h]at e;cases e;exact a)];exact e⟩
noncomputable def dJ1(σ:Sg):Res->Option (D×Sg)
 | .val d=>some (d,σ)
 | .own d=>some (d,σ)
 | .slot i=>match σ[i]? with
   | some (some s)=>if s.m=.own then some (s.d,σ.set i (some ⟨.val,s.d⟩))else if s.m=.val then some (s.d,σ)else none
   | _=>none
noncomputable def dFz(r:DE):DE:=λσ=>(r σ).bind λx=>(dJ1 x.2 x.1).bind λy=>some (.val y.1,y.2)
def bH{a:Type}{l:List a}{i j:Nat}{x y:a}(h:(l.set i x)[j]? = some y):(j=i/\y=x/\i < l.length)\/(j≠i/\l[j]? = some y):=by
 rw[List.getElem?_set]at h;split at h;rename_i e;split at h;cases h;exact .inl ⟨e.symm,rfl,by assumption⟩;cases h;rename_i e;exact .inr ⟨λz=>e z.symm,h⟩
def bJ{X:Cx}{e:Expr}{r:DE}(h:GE X e r):GE X e (dFz r):=.mk λΓ=>peW (dE8 (h.to Γ)) λσV H Q ⟨σ,ok,res,σ',e,k⟩=>by
 obtain⟨⟨x,σ1⟩,U,e⟩:=bind_some e;obtain⟨⟨d,L⟩,C,e⟩:=bind_some e;cases e;refine⟨σ,ok,x,σ1,U,λv S b A c V=>?_⟩;dsimp only at C;cases x with
 | val d'=>cases C;exact .inl (k v S b A c dH)
 | own d'=>
   cases C;obtain⟨p,rfl,M,W,Y⟩:=A;obtain⟨u,F,G,N⟩:=aP0 M;have hn:H p=none:=V _ p rfl rfl;refine .inr ⟨p,u,rfl,F,G,λo=>?_⟩;have x:=aP1 (o:=o) F G;refine k _ _ ⟨λi s e=>?_,b.dis,b.own,b.par,λa ob e n=>?_,λa e=>?_,b.len⟩ (N o _ x aQ) ⟨λa ob e n=>?_,λa e=>?_,c.mu,c.nv,c.kp,c.fix,c.lt⟩ dH;obtain⟨w,D,B⟩:=b.rel i s e;refine⟨w,D,B.mono x λq ob O m C=>?_⟩;rw[aK (λz=>W ⟨i,s,e,m,by rw[D,O,z]⟩)];exact C;rw[aK (λz=>by subst z;rw[Y]at e;cases e)];exact b.keep a ob e n;by_cases z:a=p;subst z;rw[aQ]at e;cases e;rw[aK z]at e;exact b.dom a e;rw[aK (λz=>by subst z;rw[hn]at e;cases e)];exact c.fr a ob e n;by_cases z:a=p;subst z;rw[aQ]at e;cases e;rw[aK z]at e;exact c.dom a e
 | slot i=>
   obtain⟨A,s,hs⟩:=A;have g:(match σ1[i]? with | some (some s)=>if s.m=.own then some (s.d,σ1.set i (some ⟨.val,s.d⟩))else if s.m=.val then some (s.d,σ1)else none | _=>none)=some (d,L):=C;rw[hs]at g;dsimp only at g;obtain⟨w,D,B⟩:=b.rel i s hs;rw[A]at D;cases D;split at g
   ·rename_i hm;cases g;obtain⟨m,d⟩:=s;cases hm;obtain⟨p,rfl,M⟩:=(cV (s:=⟨.own,d⟩) (λz=>nomatch z)).mp B;obtain⟨u,F,G,N⟩:=aP0 M;refine .inr ⟨p,u,rfl,F,G,λo=>?_⟩;have x:=aP1 (o:=o) F G;have T:=N o _ x aQ;have Z:i < σ1.length:=(a0a.mp hs).1;have pm:iU σ1 σV p:=⟨i,_,hs,rfl,A⟩;have sub:∀ (j:Nat) t,(σ1.set i (some ⟨.val,d⟩))[j]? = some (some t)->t.m≠.val->j≠i/\σ1[j]? = some (some t):=λj t f hm=>by
     rcases bH f with⟨_,z,_⟩ | z;cases z;exact absurd rfl hm;exact z
    have I:∀ t:Sl,t.m.mt=true->t.m≠.val:=λt h z=>by rw[z]at h;cases h
    refine k _ _ ⟨λj t f=>?_,λj l t E q n f el m m'=>?_,λj t q f m=>?_,λj t q f m=>?_,λa ob e n=>?_,λa e=>?_,?_⟩ T
     ⟨λa ob e n=>?_,λa e=>?_,λa ⟨j,t,f,m,P⟩=>?_,λa ⟨j,t,f,m,P⟩=>?_,λj t f=>?_,λj t f m=>?_,λj t f m=>c.lt j t (sub j t f (by rw[m];exact λz=>nomatch z)).2 m⟩ dH
    ·rcases bH f with⟨z,K,_⟩ | ⟨z,K⟩;cases K;rw[z];exact⟨_,A,T⟩;obtain⟨w,D,R⟩:=b.rel j t K;refine⟨w,D,R.mono x λq ob O m C=>?_⟩;rw[aK (λy=>b.dis i j _ t p (a3d z) hs K rfl m A (by rw[D,O,y]))];exact C
    ·exact b.dis j l t E q n (sub j t f (I t m)).2 (sub l E el m').2 m m'
    ·exact b.own j t q (sub j t f (by rw[m];exact λz=>nomatch z)).2 m
    ·exact b.par j t q (sub j t f (by rw[m];exact λz=>nomatch z)).2 m
    ·have hp:=b.own i _ p hs rfl A;rw[aK (λz=>by subst z;rw[hp]at e;cases e)];exact b.keep a ob e n
    ·by_cases z:a=p;subst z;rw[aQ]at e;cases e;rw[aK z]at e;exact b.dom a e
    ·rw[a8f];exact b.len
    ·by_cases z:a=p;subst z;rcases c.mu a pm with y | y;exact absurd y n;rw[e]at y;cases y;rw[aK z];exact c.fr a ob e n
    ·by_cases z:a=p;subst z;rw[aQ]at e;cases e;rw[aK z]at e;exact c.dom a e
    ·exact c.mu a ⟨j,t,(sub j t f (I t m)).2,m,P⟩
    ·exact c.nv a ⟨j,t,(sub j t f m).2,m,P⟩
    ·obtain⟨E,J⟩:=c.kp j t f;by_cases z:j=i;subst z;exact⟨_,by rw[a3b Z]⟩;exact⟨E,by rw[a3a (a3d z)];exact J⟩
    ·obtain⟨E,J,h⟩:=c.fix j t f m;refine⟨E,?_,h⟩;rw[a3a (λz=>?_)];exact J;subst z;rw[hs]at J;cases J;rcases m with m | m;have:=h.1;rw[m]at this;cases this;have:=h.1;rw[m]at this;cases this
   ·split at g;rename_i hm;cases g;obtain⟨m,d⟩:=s;cases hm;exact .inl (k v S b B c dH);cases g
noncomputable def aR:DA:=λσ=>some ([],σ)
noncomputable def aC(r:DE)(rs:DA):DA:=λσ=>(r σ).bind λx=>(rs x.2).bind λy=>some (x.1::y.1,y.2)
noncomputable def rds(σ:Sg):List Res->Option (List D)
 | []=>some []
 | r::rs=>(rd σ r).bind λd=>(rds σ rs).bind λds=>some (d::ds)
noncomputable def vals:List Res->Option (List D)
 | []=>some []
 | .val d::rs=>(vals rs).bind λds=>some (d::ds)
 | _=>none
theorem pN{Γ:Gm}{H:Hp}{σ:Sg}{σV:St}(ok:StOk Γ H σ σV):∀ {rs:List Res} {vs:List V} {ds:List D},ResOks Γ H σ σV rs vs->rds σ rs=some ds->Vws H ds vs
 | _,_,_,.nil,e=>by cases e;exact .nil
 | _,_,_,.cons h t _,e=>by
   obtain⟨d,a,e⟩:=bind_some e;obtain⟨ds,b,e⟩:=bind_some e;cases e;exact .cons (h.vw ok a) (pN ok t b)
theorem jW{Γ:Gm}{H:Hp}{σ:Sg}{σV:St}:∀ {rs:List Res} {vs:List V} {ds:List D},ResOks Γ H σ σV rs vs->vals rs=some ds->Rps H ds vs
 | _,_,_,.nil,e=>by cases e;exact .nil
 | .val d::_,_,_,.cons h t _,e=>by
   obtain⟨ds,a,e⟩:=bind_some e;cases e;exact .cons h (jW t a)
 | .own d::_,_,_,.cons h t _,e=>by cases e
 | .slot d::_,_,_,.cons h t _,e=>by cases e
section
variable{X:Cx}{e:Expr}{es:List Expr}{r:DE}{rs:DA}{pos:Pos}
def aD:GA X [] aR:=.mk λΓ=>paW rT λσV H Q ⟨σ,ok,res,σ',e,k⟩=>by
 cases e;exact k [] H ok .nil .refl (λj d p e=>by simp at e)
def aA(ha:GE X e r)(n:GA X es rs)(hs:starEach (e::es) X.env=(false,eval e X.env)::starEach es X.env:=by kernel_rfl):GA X (e::es) (aC r rs):=.mk λΓ=>paW (hC (ha.to Γ) (n.to Γ) hs) λσV H Q ⟨σ,ok,res,σ',e,k⟩=>by
 obtain⟨⟨x,a⟩,s,e⟩:=bind_some e;obtain⟨⟨ys,t⟩,u,e⟩:=bind_some e;cases e;refine⟨σ,ok,x,a,s,λv E b l c w=>⟨a,b,ys,_,u,λvs y i z f m=>?_⟩⟩;refine k (v::vs) y i (.cons (l.step b f) z λd p g h j d' A B=>?_) (c.trans f) λj d p g h=>?_;subst g h;obtain⟨q,C,ow,_⟩:=l;cases C;obtain⟨o,D,_⟩:=ow.obj;have:=m j d' p A B;rw[D]at this;cases this;cases j with
 | zero=>simp at g h;subst g h;exact w d p rfl rfl
 | succ j=>exact c.dom p (m j d p (by simpa using g) (by simpa using h))
noncomputable def dCB(f:FN)(a:DA):DE:=λσ=>(a σ).bind λx=>(rds x.2 x.1).bind λds=>(f ds).bind λr=>some (r,x.2)
def bY{c:List V->Hp->VK->Prop}{f:FN}{d:DA}(j:aG4 c f)(h:∀ Γ,PE X e (tCB c (dTA Γ d))):GE X e (dCB f d):=.mk λΓ=>peW (h Γ) λσV H Q ⟨σ,ok,res,σ',e,k⟩=>by
 obtain⟨⟨x,l⟩,m,e⟩:=bind_some e;obtain⟨ds,n,e⟩:=bind_some e;obtain⟨r,o,e⟩:=bind_some e;cases e;refine⟨σ,ok,x,_,m,λvs p a q b s=>?_⟩;refine j p ds vs Q _ (pN a q n) o λv H' g i=>?_;exact k v H' (a.same g) (i.res a) (b.trans (.same g)) (i.frh.back b)
noncomputable def iV(a:DA):DE:=λσ=>(a σ).bind λx=>(vals x.1).bind λds=>if ds.length<=sizeLine then some (.val (.tup ds),x.2)else none
noncomputable def qW(a:DA):DE:=λσ=>(a σ).bind λx=>(vals x.1).bind λds=>if ds.length<=sizeLine then some (.own (.lst ds),x.2)else none
def bN{g}(h:GA X es rs):GE X (.Tuple es g pos) (iV rs):=.mk λΓ=>peW (cQ0 (h.to Γ)) λσV H Q ⟨σ,ok,res,σ',e,k⟩=>by
 obtain⟨⟨x,i⟩,j,e⟩:=bind_some e;obtain⟨ds,l,e⟩:=bind_some e;dsimp only at e;split at e;rename_i m;cases e;refine⟨σ,ok,x,_,j,λvs d a n b q=>?_⟩;have f:=jW n l;refine⟨by rw[← f.length];exact m,λp o=>?_⟩;have c:tM d (upd d p (.tup vs)):=bE o;exact k _ _ (a.same c) (.tup aQ (f.mono (.same c))) (b.trans (.same c)) dH;cases e
def dI(h:GA X es rs):GE X (.List es pos) (qW rs):=.mk λΓ=>peW (bL9 (h.to Γ)) λσV H Q ⟨σ,ok,res,σ',e,k⟩=>by
 obtain⟨⟨x,j⟩,l,e⟩:=bind_some e;obtain⟨ds,m,e⟩:=bind_some e;dsimp only at e;split at e;rename_i n;cases e;refine⟨σ,ok,x,_,l,λvs c a o b q=>?_⟩;have f:=jW o m;refine⟨by rw[← f.length];exact n,λp g=>?_⟩;have d:tM c (upd c p (.lst vs)):=bE g;have i:xW c (upd c p (.lst vs)) (.own (.lst ds)) (.ref p):=⟨p,rfl,g,vs,aQ,f.mono (.same d)⟩;exact k _ _ (a.same d) (i.res a) (b.trans (.same d)) (i.frh.back b);cases e
end
section
variable{Γ:Gm}{H:Hp}{σ:Sg}{σV:St}{i:Nat}{s:Sl}{p:Addr}{o':HO}{d':D}
def StOk.ownAt(ok:StOk Γ H σ σV)(hs:σ[i]? = some (some s))(hm:s.m≠.val):∃ p,σV[i]? = some (some (.ref p))/\cP H s.d p:=by
 obtain⟨v,e,r⟩:=ok.rel i s hs;obtain⟨p,rfl,a⟩:=(cV hm).mp r;exact⟨p,e,a⟩
def fP{m:Md}(h:m.mt=true):m≠.val:=λz=>by rw[z]at h;cases h
def cP.ext{d:D}(h:cP H d p):Ext H (upd H p o'):=by
 obtain⟨o,e,n1,n2⟩:=h.obj;exact⟨λb xs q=>by rw[aK (λz=>by subst z;rw[e]at q;cases q;exact n1 _ rfl)];exact q,λb ob x q=>by rw[aK (λz=>by subst z;rw[e]at q;cases q;exact n2 _ _ rfl)];exact q⟩
def StOk.write(ok:StOk Γ H σ σV)(hs:σ[i]? = some (some s))(hm:s.m.mt=true)(h:σV[i]? = some (some (.ref p)))(ow:cP (upd H p o') d' p) :
  StOk Γ (upd H p o') (σ.set i (some ⟨s.m,d'⟩)) σV/\Step σ σV H (σ.set i (some ⟨s.m,d'⟩)) σV (upd H p o'):=by
 obtain⟨J,v,o⟩:=ok.ownAt hs (fP hm);rw[h]at v;cases v;have x:Ext H (upd H p o'):=o.ext;have A:i < σ.length:=(a0a.mp hs).1;have back:∀ (j:Nat) t,(σ.set i (some ⟨s.m,d'⟩))[j]? = some (some t)->∃ t',σ[j]? = some (some t')/\t'.m=t.m:=λj t b=>by
  rcases bH b with⟨z,g,_⟩ | ⟨z,g⟩;cases g;subst z;exact⟨s,hs,rfl⟩;exact⟨t,g,rfl⟩
 refine⟨⟨λj t b=>?_,λj l t t' q n b C m m'=>?_,λj t q b m=>?_,λj t q b m=>?_,λa ob e n=>?_,λa e=>?_,by rw[a8f];exact ok.len⟩,
  ⟨λa ob e n=>?_,λa e=>?_,λa ⟨j,t,b,m,r⟩=>?_,λa ⟨j,t,b,m,r⟩=>?_,λj t b=>?_,λj t b m=>?_,λj t b m=>?_⟩⟩
 ·rcases bH b with⟨z,g,_⟩ | ⟨z,g⟩;cases g;subst z;exact⟨_,h,(cV (s:=⟨s.m,d'⟩) (fP hm)).mpr ⟨p,rfl,ow⟩⟩;obtain⟨w,B,u⟩:=ok.rel j t g;refine⟨w,B,u.mono x λq ob D m E=>?_⟩;rw[aK (λy=>ok.dis i j _ t p (a3d z) hs g hm m h (by rw[B,D,y]))];exact E
 ·obtain⟨c,d,f⟩:=back j t b;obtain⟨F,G,I⟩:=back l t' C;exact ok.dis j l c F q n d G (by rw[f];exact m) (by rw[I];exact m')
 ·obtain⟨c,d,f⟩:=back j t b;exact ok.own j c q d (f.trans m)
 ·obtain⟨c,d,f⟩:=back j t b;exact ok.par j c q d (f.trans m)
 ·have:a≠p:=λz=>by
   subst z;cases k:s.m with
   | own=>rw[ok.own i s a hs k h]at e;cases e
   | par=>exact n (ok.par i s a hs k h)
   | val=>rw[k]at hm;cases hm
   | lent=>rw[k]at hm;cases hm
  rw[aK this];exact ok.keep a ob e n
 ·by_cases z:a=p;subst z;rw[aQ]at e;cases e;rw[aK z]at e;exact ok.dom a e
 ·rw[aK (λz=>n ⟨i,s,hs,hm,by rw[z];exact h⟩)];exact e
 ·by_cases z:a=p;subst z;rw[aQ]at e;cases e;rw[aK z]at e;exact e
 ·obtain⟨c,d,f⟩:=back j t b;exact .inl ⟨j,c,d,by rw[f];exact m,r⟩
 ·obtain⟨c,d,f⟩:=back j t b;exact .inl ⟨j,c,d,by rw[f];exact m,r⟩
 ·by_cases z:j=i;subst z;exact⟨_,by rw[a3b A]⟩;exact⟨t,by rw[a3a (a3d z)];exact b⟩
 ·by_cases z:j=i;subst z;rw[hs]at b;cases b;exact⟨⟨s.m,d'⟩,by rw[a3b A],rfl,λq=>(by rw[q]at hm;cases hm),rfl⟩;exact⟨t,by rw[a3a (a3d z)];exact b,rfl,λ_=>rfl,rfl⟩
 ·obtain⟨c,d,f⟩:=back j t b;exact⟨c,d,f.trans m⟩
end
abbrev FM:=D->List D->Option (D×D)
def dA4(r:V->List V->Hp->VK->Prop)(f:FM):Prop:=∀ H d p ds vs Q d' e,cP H d p->Rps H ds vs->f d ds=some (d',e)->(∀ o' v,cP (upd H p o') d' p->Rp (upd H p o') e v->Q v (upd H p o'))->r (.ref p) vs H Q
def dJ2(r:V->List V->Hp->VK->Prop)(f:FM):Prop:=∀ H d p ds vs Q d' e,cP H d p->Vws H ds vs->f d ds=some (d',e)->(∀ o' v,cP (upd H p o') d' p->Rp (upd H p o') e v->Q v (upd H p o'))->r (.ref p) vs H Q
noncomputable def aK3(f:FM)(i:Nat)(ds:List D)(σ:Sg):Option (Res×Sg):=match σ[i]? with
 | some (some s)=>if s.m.mt=true then(f s.d ds).bind λy=>some (.val y.2,σ.set i (some ⟨s.m,y.1⟩))else none
 | _=>none
noncomputable def tyD(T:String):D->Bool
 | .lst _=>T=="list"
 | _=>false
noncomputable def xY(T:String)(i:Nat)(σ:Sg):Bool:=match σ[i]? with
 | some (some s)=>decide (s.m≠.val)&&tyD T s.d
 | _=>false
noncomputable def aG6(T:String)(i:Nat)(f:FM)(a:DA):DE:=λσ=>if xY T i σ=true then(a σ).bind λx=>(vals x.1).bind λds=>aK3 f i ds x.2 else none
noncomputable def aG7(T:String)(i:Nat)(f:FM)(a:DA):DE:=λσ=>if xY T i σ=true then(a σ).bind λx=>(rds x.2 x.1).bind λds=>aK3 f i ds x.2 else none
noncomputable def cE4(T:String)(i:Nat)(f:FM):DE:=λσ=>if xY T i σ=true then aK3 f i [] σ else none
def cE5{K:W.Frag}{T:String}{H:Hp}{d:D}{p:Addr}(h:cP H d p)(e:tyD T d=true):tyV K T (.ref p) H:=by
 unfold cP at h;split at h;obtain⟨xs,a,_⟩:=h;exact .inl ⟨by simpa[tyD]using e,xs,SqL.of a⟩;cases e;exact h.elim
def hZ{f:FM}{i:Nat}{ds:List D}{σ σ':Sg}{res:Res}(h:aK3 f i ds σ=some (res,σ')):∃ s d' e,σ[i]? = some (some s)/\s.m.mt=true/\f s.d ds=some (d',e)/\res=.val e/\σ'=σ.set i (some ⟨s.m,d'⟩):=by
 unfold aK3 at h;split at h;rename_i s hs;split at h;rename_i hm;obtain⟨⟨d',e⟩,a,b⟩:=bind_some h;cases b;exact⟨s,d',e,hs,hm,a,rfl,rfl⟩;cases h;cases h
def oX{T:String}{i:Nat}{σ:Sg}(h:xY T i σ=true):∃ s,σ[i]? = some (some s)/\s.m≠.val/\tyD T s.d=true:=by
 unfold xY at h;split at h;rename_i s hs;rw[a3c,a4E]at h;exact⟨s,hs,h.1,h.2⟩;cases h
section
variable{X:Cx}{e:Expr}{ra:DA}{K:W.Frag}{T:String}{r:V->List V->Hp->VK->Prop}{f:FM}{i:Nat}
def tT(u:dA4 r f)(h:∀ Γ,PE X e (tBM K T r (zV i) (dTA Γ ra))):GE X e (aG6 T i f ra):=.mk λΓ=>peW (h Γ) λσV H Q ⟨σ,ok,res,σ',e,k⟩=>by
 unfold aG6 at e;split at e;rename_i hn;obtain⟨⟨x,c⟩,w,e⟩:=bind_some e;obtain⟨ds,z,e⟩:=bind_some e;obtain⟨s,d',y,hs,hm,A,rfl,rfl⟩:=hZ e;obtain⟨E,g,j,l⟩:=oX hn;obtain⟨p,ep,ow⟩:=ok.ownAt g j;refine⟨_,ep,cE5 ow l,σ,ok,x,c,w,λvs B a C m F=>?_⟩;obtain⟨G,b,n⟩:=a.ownAt hs (fP hm);rw[ep]at b;cases b;refine u B s.d p ds vs Q d' y n (jW C z) A λo' v o D=>?_;obtain⟨q,t⟩:=a.write hs hm ep o;exact k v _ q D (m.trans t) dH;cases e
def tU(u:dJ2 r f)(h:∀ Γ,PE X e (tBM K T r (zV i) (dTA Γ ra))):GE X e (aG7 T i f ra):=.mk λΓ=>peW (h Γ) λσV H Q ⟨σ,ok,res,σ',e,k⟩=>by
 unfold aG7 at e;split at e;rename_i hn;obtain⟨⟨x,c⟩,w,e⟩:=bind_some e;obtain⟨ds,z,e⟩:=bind_some e;obtain⟨s,d',y,hs,hm,A,rfl,rfl⟩:=hZ e;obtain⟨E,g,j,l⟩:=oX hn;obtain⟨p,ep,ow⟩:=ok.ownAt g j;refine⟨_,ep,cE5 ow l,σ,ok,x,c,w,λvs B a C m F=>?_⟩;obtain⟨G,b,n⟩:=a.ownAt hs (fP hm);rw[ep]at b;cases b;refine u B s.d p ds vs Q d' y n (pN a C z) A λo' v o D=>?_;obtain⟨q,t⟩:=a.write hs hm ep o;exact k v _ q D (m.trans t) dH;cases e
def cE6(o:dA4 r f)(h:PE X e (dD9 K T r (zV i))):GE X e (cE4 T i f):=.mk λΓ=>peW h λσV H Q ⟨σ,ok,res,σ',e,k⟩=>by
 unfold cE4 at e;split at e;rename_i hn;obtain⟨s,d',y,hs,hm,q,rfl,rfl⟩:=hZ e;obtain⟨u,b,c,g⟩:=oX hn;obtain⟨p,ep,ow⟩:=ok.ownAt b c;refine⟨_,ep,cE5 ow g,?_⟩;obtain⟨w,a,j⟩:=ok.ownAt hs (fP hm);rw[ep]at a;cases a;refine o H s.d p [] [] Q d' y j .nil q λo' v l t=>?_;obtain⟨m,n⟩:=ok.write hs hm ep l;exact k v _ m t n dH;cases e
end
inductive Out where
 | nx (σ:Sg) | rt (r:Res) (σ:Sg) | bk (σ:Sg) | ct (σ:Sg) | ex (c:Str) (f:Option (Str×D)) (σ:Sg)
abbrev DS:=Sg->Option Out
structure Ex where
 ok:Hp->Str->Option (Str×D)->Value->Option Addr->Prop
 to:St->XK
noncomputable def Ex.no:Ex:=⟨λ_ _ _ _ _=>False,λ_ _ _ _=>False⟩
def aP2(Γ:Gm)(E:Ex)(σ:Sg)(σV:St)(H:Hp)(o:Out)(D:Ends):Prop:=match o with
 | .nx σ'=>∀ σV' H',StOk Γ H' σ' σV'->Step σ σV H σ' σV' H'->D.nx σV' H'
 | .rt r σ'=>∀ v σV' H',StOk Γ H' σ' σV'->jC Γ H' σ' σV' r v->Step σ σV H σ' σV' H'->D.rt v H'
 | .bk σ'=>∀ σV' H',StOk Γ H' σ' σV'->Step σ σV H σ' σV' H'->D.bk σV' H'
 | .ct σ'=>∀ σV' H',StOk Γ H' σ' σV'->Step σ σV H σ' σV' H'->D.ct σV' H'
 | .ex c f σ'=>∀ x d σV' H',StOk Γ H' σ' σV'->E.ok H' c f x d->Step σ σV H σ' σV' H'->E.to σV' x d H'
def dTS(Γ:Gm)(E:Ex)(r:DS):TS:=λD σV H=>∃ σ,StOk Γ H σ σV/\∃ o,r σ=some o/\aP2 Γ E σ σV H o D
structure GS(E:Ex)(X:Cx)(s:Stmt)(r:DS):Prop where
 to:∀ Γ,PS X s (dTS Γ E r)
structure GSs(E:Ex)(X:Cx)(s:List Stmt)(r:DS):Prop where
 to:∀ Γ,PSs X s (dTS Γ E r)
def aP2.after{Γ:Gm}{E:Ex}{σ b:Sg}{σV a:St}{H e:Hp}{o:Out}{D:Ends}(h:aP2 Γ E σ σV H o D)(st:Step σ σV H b a e):aP2 Γ E b a e o D:=by
 cases o with
 | nx σ'=>exact λσV' H' ok s=>h σV' H' ok (st.trans s)
 | rt r σ'=>exact λv σV' H' ok q s=>h v σV' H' ok q (st.trans s)
 | bk σ'=>exact λσV' H' ok s=>h σV' H' ok (st.trans s)
 | ct σ'=>exact λσV' H' ok s=>h σV' H' ok (st.trans s)
 | ex c f σ'=>exact λx d σV' H' ok q s=>h x d σV' H' ok q (st.trans s)
noncomputable def gM:DS:=λσ=>some (.nx σ)
noncomputable def cN(a b:DS):DS:=λσ=>(a σ).bind λo=>match o with
 | .nx c=>b c
 | o=>some o
noncomputable def tV(r:DE):DS:=λσ=>(r σ).bind λx=>some (.nx x.2)
noncomputable def fQ(r:DE):DS:=λσ=>(r σ).bind λx=>some (.rt x.1 x.2)
noncomputable def dE9:DS:=λσ=>some (.rt (.val .non) σ)
noncomputable def qX(c:DT)(a b:DS):DS:=λσ=>(c σ).bind λx=>if x.1=true then a x.2 else b x.2
section
variable{X:Cx}{E:Ex}{st:Stmt}{dD:List Stmt}{a b:DS}{pos:Pos}{e:Expr}{r:DE}
def cK:GSs E X [] gM:=.mk λΓ=>cS1 cA9 λD σV H ⟨σ,ok,o,e,k⟩=>by
 cases e;exact k σV H ok .refl
def aG(h:GS E X st a):GSs E X [st] a:=.mk λΓ=>yE (h.to Γ)
def bE1{Γ:Gm}{E:Ex}{D:Ends}{σV:St}{H:Hp}(h:dTS Γ E (cN a b) D σV H):cO6 (dTS Γ E a) (dTS Γ E b) D σV H:=by
 obtain⟨σ,ok,o,e,k⟩:=h;obtain⟨j,m,e⟩:=bind_some e;refine⟨σ,ok,j,m,?_⟩;cases j with
 | nx d=>exact λl n g i=>⟨d,g,o,e,k.after i⟩
 | rt r σ'=>cases e;exact k
 | bk σ'=>cases e;exact k
 | ct σ'=>cases e;exact k
 | ex c f σ'=>cases e;exact k
def aE(c:GS E X st a)(d:GSs E X dD b):GSs E X (st::dD) (cN a b):=.mk λΓ=>cS1 (tG (c.to Γ) (d.to Γ)) λ_ _ _=>bE1
def jD(d:GE X e r)(hs:swapsWith e none pos.line X.env=pure false:=by rfl):GS E X (.Expr e pos) (tV r):=.mk λΓ=>psW (aL4 (d.to Γ) hs) λD σV H ⟨σ,ok,o,e,k⟩=>by
 obtain⟨⟨x,a⟩,f,e⟩:=bind_some e;cases e;exact⟨σ,ok,x,a,f,λv g b h c _=>k σV g b c⟩
def bG(d:GE X e r):GS E X (.Return (some e) pos) (fQ r):=.mk λΓ=>psW (bL6 (d.to Γ)) λD σV H ⟨σ,ok,o,e,k⟩=>by
 obtain⟨⟨x,a⟩,f,e⟩:=bind_some e;cases e;exact⟨σ,ok,x,a,f,λv g b h c _=>k v σV g b h c⟩
def iA{c:Expr}{l m:List Stmt}{t:DT}(i:GT X c t)(ha:GSs E X l a)(hb:GSs E X m b):GS E X (.If c l m pos) (qX t a b):=.mk λΓ=>psW (dC5 (i.to Γ) (ha.to Γ) (hb.to Γ)) λD σV H ⟨σ,ok,o,e,k⟩=>by
 obtain⟨⟨x,d⟩,j,e⟩:=bind_some e;refine⟨σ,ok,x,d,j,λn f g=>?_⟩;dsimp only at e;split at e;rename_i h;rw[a4A h];exact⟨d,f,o,e,k.after g⟩;rename_i h;rw[a4z h];exact⟨d,f,o,e,k.after g⟩
end
noncomputable def eY(σ:Sg)(i:Nat):Bool:=match σ[i]? with
 | some none=>true
 | some (some s)=>decide (s.m=.val)||decide (s.m=.own)
 | none=>false
def lJ{σ:Sg}{i:Nat}(h:eY σ i=true):i < σ.length:=by
 unfold eY at h;split at h;rename_i e;exact(a0a.mp e).1;rename_i e;exact(a0a.mp e).1;cases h
def bE2{σ:Sg}{i:Nat}{s:Sl}(h:eY σ i=true)(hs:σ[i]? = some (some s)):s.m=.val\/s.m=.own:=by
 unfold eY at h;rw[hs]at h;simpa using h
section
variable{Γ:Gm}{H H0:Hp}{σ σ0:Sg}{σV σV0:St}{i:Nat}{d:D}{v:V}
def StOk.put(ok:StOk Γ H σ σV)(h:eY σ i=true)(r:Rp H d v):StOk Γ H (σ.set i (some ⟨.val,d⟩)) (σV.set i (some v)) where
 rel:=λj t c=>by
  rcases bH c with⟨z,a,_⟩ | ⟨z,a⟩;cases a;subst z;exact⟨v,by rw[a3b (by rw[← ok.len];exact lJ h)],r⟩;obtain⟨w,k,f⟩:=ok.rel j t a;exact⟨w,by rw[a3a (a3d z)];exact k,f⟩
 dis:=λj l t o q n c p m m' b e=>by
  rcases bH c with⟨z,a,_⟩ | ⟨z,a⟩;cases a;cases m;rcases bH p with⟨y,g,_⟩ | ⟨y,g⟩;cases g;exact m' rfl;rw[a3a (a3d z)]at b;rw[a3a (a3d y)]at e;exact ok.dis j l t o q n a g m m' b e
 own:=λj t q c m b=>by
  rcases bH c with⟨z,a,_⟩ | ⟨z,a⟩;cases a;cases m;rw[a3a (a3d z)]at b;exact ok.own j t q a m b
 par:=λj t q c m b=>by
  rcases bH c with⟨z,a,_⟩ | ⟨z,a⟩;cases a;cases m;rw[a3a (a3d z)]at b;exact ok.par j t q a m b
 keep:=ok.keep
 dom:=ok.dom
 len:=by rw[a8f,a8f];exact ok.len
def Step.put(st:Step σ0 σV0 H0 σ σV H)(u:eY σ i=true)(m:Md)(hm:m=.val\/m=.own/\∀ p,v=.ref p->H0 p=none):Step σ0 σV0 H0 (σ.set i (some ⟨m,d⟩)) (σV.set i (some v)) H:=by
 have b:m≠.lent:=by rcases hm with rfl | ⟨rfl,_⟩<;>exact λz=>nomatch z
 have w:=lJ u;have h:∀ t,σ[i]? = some (some t)->t.m≠.par/\t.m≠.lent:=λt e=>by
  rcases bE2 u e with z | z<;>(rw[z];exact⟨(λy=>by cases y),(λy=>by cases y)⟩)
 refine⟨st.fr,st.dom,λa ⟨j,t,f,mt,g⟩=>?_,λa ⟨j,t,f,nv,g⟩=>?_,λj t f=>?_,λj t f k=>?_,λj t f k=>?_⟩
 ·rcases bH f with⟨z,c,_⟩ | ⟨z,c⟩;cases c;subst z;rcases hm with rfl | ⟨_,q⟩;cases mt;have:=a0a.mp g;obtain⟨x,l⟩:=this;rw[List.getElem_set_self]at l;exact .inr (q a (a4a l));rw[a3a (a3d z)]at g;exact st.mu a ⟨j,t,c,mt,g⟩
 ·rcases bH f with⟨z,c,_⟩ | ⟨z,c⟩;cases c;subst z;rcases hm with rfl | ⟨_,q⟩;exact absurd rfl nv;have:=a0a.mp g;obtain⟨x,l⟩:=this;rw[List.getElem_set_self]at l;exact .inr (q a (a4a l));rw[a3a (a3d z)]at g;exact st.nv a ⟨j,t,c,nv,g⟩
 ·obtain⟨n,o⟩:=st.kp j t f;by_cases z:j=i;subst z;exact⟨_,by rw[a3b w]⟩;exact⟨n,by rw[a3a (a3d z)];exact o⟩
 ·obtain⟨n,o,r,A,B⟩:=st.fix j t f k;have z:j≠i:=λz=>by
   subst z;obtain⟨n1,n2⟩:=h n o;rcases k with s | s;exact n1 (r.trans s);exact n2 (r.trans s)
  exact⟨n,by rw[a3a (a3d z)];exact o,r,A,by rw[a3a (a3d z)];exact B⟩
 ·rcases bH f with⟨z,c,_⟩ | ⟨z,c⟩;cases c;exact absurd k b;exact st.lt j t c k
def StOk.putOwn{p:Addr}(ok:StOk Γ H σ σV)(g:eY σ i=true)(ow:cP H d p)(hn:¬ aA8 σ σV p)(h0:Γ.H₀ p=none):StOk Γ H (σ.set i (some ⟨.own,d⟩)) (σV.set i (some (.ref p))) where
 rel:=λj t e=>by
  rcases bH e with⟨z,c,_⟩ | ⟨z,c⟩;cases c;subst z;exact⟨.ref p,by rw[a3b (by rw[← ok.len];exact lJ g)],p,rfl,ow⟩;obtain⟨w,s,h⟩:=ok.rel j t c;exact⟨w,by rw[a3a (a3d z)];exact s,h⟩
 dis:=λj l t k q n e o m m' a b=>by
  have r:i < σV.length:=by rw[← ok.len];exact lJ g
  rcases bH e with⟨z,c,_⟩ | ⟨z,c⟩;subst z;rw[a3b r]at a;have a:=a4a (a4a a);cases a;rcases bH o with⟨y,f,_⟩ | ⟨y,f⟩;exact n y.symm;rw[a3a (a3d y)]at b;exact hn ⟨l,k,f,m',b⟩;rw[a3a (a3d z)]at a;rcases bH o with⟨y,f,_⟩ | ⟨y,f⟩;subst y;rw[a3b r]at b;have b:=a4a (a4a b);cases b;exact hn ⟨j,t,c,fP m,a⟩;rw[a3a (a3d y)]at b;exact ok.dis j l t k q n c f m m' a b
 own:=λj t q e m a=>by
  rcases bH e with⟨z,c,_⟩ | ⟨z,c⟩;subst z;rw[a3b (by rw[← ok.len];exact lJ g)]at a;have a:=a4a (a4a a);cases a;exact h0;rw[a3a (a3d z)]at a;exact ok.own j t q c m a
 par:=λj t q e m a=>by
  rcases bH e with⟨z,c,_⟩ | ⟨z,c⟩;cases c;cases m;rw[a3a (a3d z)]at a;exact ok.par j t q c m a
 keep:=ok.keep
 dom:=ok.dom
 len:=by rw[a8f,a8f];exact ok.len
end
noncomputable def dJ3(i:Nat)(r:Res)(σ:Sg):Option Sg:=match r with
 | .val d=>if eY σ i=true then some (σ.set i (some ⟨.val,d⟩))else none
 | .own d=>if eY σ i=true then some (σ.set i (some ⟨.own,d⟩))else none
 | .slot _=>none
noncomputable def fA(i:Nat)(r:DE):DS:=λσ=>(r σ).bind λx=>(dJ3 i x.1 x.2).bind λa=>some (.nx a)
def tW{Γ:Gm}{E:Ex}{i:Nat}{r:DE}{D:Ends}{σV:St}{H:Hp}(h:dTS Γ E (fA i r) D σV H):dTE Γ r σV H (λx n=>D.nx (σV.set i (some x)) n):=by
 obtain⟨σ,ok,o,e,k⟩:=h;obtain⟨⟨x,b⟩,s,e⟩:=bind_some e;obtain⟨c,m,e⟩:=bind_some e;cases e;refine⟨σ,ok,x,b,s,λv n f q g t=>?_⟩;cases x with
 | val d=>
   have a:(if eY b i=true then some (b.set i (some ⟨.val,d⟩))else none)=some c:=m;split at a;rename_i l;cases a;exact k _ _ (f.put l q) (g.put l .val (.inl rfl));cases a
 | own d=>
   have a:(if eY b i=true then some (b.set i (some ⟨.own,d⟩))else none)=some c:=m;split at a;rename_i l;cases a;obtain⟨p,rfl,u,w,y⟩:=q;exact k _ _ (f.putOwn l u w y) (g.put l .own (.inr ⟨rfl,λp e=>t _ p rfl e⟩));cases a
 | slot j=>cases m
def cS6{X:Cx}{E:Ex}{i:Nat}{st:Stmt}{r:DE}(h:∀ Γ,PS X st (bA7 (dTE Γ r) (lB i))):GS E X st (fA i r):=.mk λΓ=>psW (h Γ) λ_ _ _ h=>tW h
noncomputable def rZ(x:Str):List D:=x.cps.toList.map λc=>.str ⟨#[c]⟩
def wF{H:Hp}(x:Str):Rps H (rZ x) (eI x):=by
 unfold rZ eI
 induction x.cps.toList with
 | nil=>exact .nil
 | cons a r b=>exact .cons (.str _) b
abbrev DG:=D->Sg->Option Sg
abbrev DGs:=List D->Sg->Option Sg
def bE3(own:List Nat)(g:TG)(e:DG):Prop:=∀ Γ H b a c σ σV d v σ' Q,StOk Γ H σ σV->Step b a c σ σV H->Rp H d v->e d σ=some σ' ->
 (∀ σV',StOk Γ H σ' σV'->Step b a c σ' σV' H->σV'.length=σV.length->(∀ i,i∉own->σV'[i]? = σV[i]? /\ σ'[i]? = σ[i]?)->Q σV' H)->g v σV H Q
def bE4(own:List Nat)(g:TGs)(d:DGs):Prop:=∀ Γ H b a c σ σV ds vs σ' Q,StOk Γ H σ σV->Step b a c σ σV H->Rps H ds vs->d ds σ=some σ' ->
 (∀ σV',StOk Γ H σ' σV'->Step b a c σ' σV' H->σV'.length=σV.length->(∀ i,i∉own->σV'[i]? = σV[i]? /\ σ'[i]? = σ[i]?)->Q σV' H)->g vs σV H Q
noncomputable def dgN(i:Nat):DG:=λd σ=>if eY σ i=true then some (σ.set i (some ⟨.val,d⟩))else none
noncomputable def kP:DGs:=λds σ=>if ds.isEmpty then some σ else none
noncomputable def cB(g:DG)(b:DGs):DGs:=λds σ=>match ds with
 | d::r=>(g d σ).bind λa=>b r a
 | []=>none
noncomputable def lK(n:Nat)(a:DGs):DG:=λd σ=>match d with
 | .tup l=>if l.length=n then a l σ else none
 | .str z=>if z.length=n then a (rZ z) σ else none
 | _=>none
def aI{own:List Nat}{i:Nat}(h:i∈own):bE3 own (lB i) (dgN i):=by
 intro Γ H c a f σ σV d v σ' Q ok st r e k;unfold dgN at e;split at e;rename_i b;cases e;refine k _ (ok.put b r) (st.put b .val (.inl rfl)) (by simp) λj hj=>?_;have:i≠j:=λz=>hj (by rw[← z];exact h);exact⟨a3a this,a3a this⟩;cases e
def eS{own:List Nat}:bE4 own dC7 kP:=by
 intro Γ H b a c σ σV ds vs σ' Q ok st r e k;unfold kP at e;cases r with
 | nil=>cases e;exact⟨rfl,k _ ok st rfl λ_ _=>⟨rfl,rfl⟩⟩
 | cons _ _=>cases e
def bF{own:List Nat}{g:TG}{p:DG}{q:TGs}{c:DGs}(w:bE3 own g p)(x:bE4 own q c):bE4 own (cB0 g q) (cB p c):=by
 intro Γ H d b s σ σV ds vs σ' Q ok st r e k;cases r with
 | nil=>cases e
 | cons a t=>
   obtain⟨f,y,e⟩:=bind_some e;refine⟨_,_,rfl,w Γ H d b s σ σV _ _ f _ ok st a y λh l m l1 u=>?_⟩;refine x Γ H d b s f h _ _ σ' _ l m t e λj n o l2 v=>?_;exact k j n o (l2.trans l1) λi hi=>⟨(v i hi).1.trans (u i hi).1,(v i hi).2.trans (u i hi).2⟩
def iP{own:List Nat}{K:W.Frag}{n:Nat}{i:TGs}{a:DGs}(h:bE4 own i a):bE3 own (aG1 K n i) (lK n a):=by
 intro Γ H f b j σ σV d v σ' Q ok st r e k;cases d with
 | tup l=>
   have c:(if l.length=n then a l σ else none)=some σ':=e;split at c;rename_i g;obtain⟨p,xs,rfl,o,m⟩:=dE (.inl r);exact⟨xs,cL o,by rw[← m.length];exact g,h Γ H f b j σ σV l xs σ' Q ok st m c k⟩;cases c
 | str z=>
   have c:(if z.length=n then a (rZ z) σ else none)=some σ':=e;split at c;rename_i g;cases r;exact⟨g,h Γ H f b j σ σV _ _ σ' Q ok st (wF z) c k⟩;cases c
 | _=>cases e
noncomputable def cS7(g:DG)(r:DE):DS:=λσ=>(r σ).bind λx=>match x.1 with
 | .val d=>(g d x.2).bind λa=>some (.nx a)
 | _=>none
def bN1{X:Cx}{E:Ex}{own:List Nat}{st:Stmt}{r:DE}{g:TG}{m:DG}(p:bE3 own g m)(h:∀ Γ,PS X st (bA7 (dTE Γ r) g)):GS E X st (cS7 m r):=.mk λΓ=>psW (h Γ) λD σV H ⟨σ,ok,o,e,k⟩=>by
 obtain⟨⟨x,a⟩,q,e⟩:=bind_some e;refine⟨σ,ok,x,a,q,λv n c s f u=>?_⟩;cases x with
 | val d=>
   obtain⟨i,t,e⟩:=bind_some e;cases e;exact p Γ n σ σV H a σV d v i _ c f s t λb j l _ _=>k b n j l
 | own d=>cases e
 | slot d=>cases e
noncomputable def lend(i:Nat)(σ:Sg):Sg:=match σ[i]? with
 | some (some s)=>if s.m.mt=true then σ.set i (some ⟨.lent,s.d⟩)else σ
 | _=>σ
noncomputable def unl(i:Nat)(a σ:Sg):Sg:=match a[i]?,σ[i]? with
 | some (some s0),some (some s)=>if s0.m.mt=true then σ.set i (some ⟨s0.m,s.d⟩)else σ
 | _,_=>σ
noncomputable def lendO(l:Option Nat)(σ:Sg):Sg:=match l with
 | some i=>lend i σ
 | none=>σ
noncomputable def aZ8(l:Option Nat)(a σ:Sg):Sg:=match l with
 | some i=>unl i a σ
 | none=>σ
section
variable{Γ:Gm}{H H1 H2:Hp}{σ σ1 σ2:Sg}{σV σV2:St}{i:Nat}{s:Sl}
def tX(hs:σ[i]? = some (some s))(hm:s.m.mt=true):lend i σ=σ.set i (some ⟨.lent,s.d⟩):=by
 unfold lend;rw[hs];simp only[hm,if_true]
def yO(h:∀ s,σ[i]? = some (some s)->s.m.mt=false):lend i σ=σ:=by
 unfold lend;split;rename_i s hs;rw[a4z (by rw[h s hs];exact a9c)];rfl
theorem StOk.lend(ok:StOk Γ H σ σV):StOk Γ H (lend i σ) σV:=by
 by_cases f:∃ s,σ[i]? = some (some s)/\s.m.mt=true
 ·obtain⟨s,hs,hm⟩:=f;rw[tX hs hm];obtain⟨p,ep,ow⟩:=ok.ownAt hs (fP hm);have back:∀ (j:Nat) t,(σ.set i (some ⟨.lent,s.d⟩))[j]? = some (some t)->(j=i/\t=⟨.lent,s.d⟩)\/(j≠i/\σ[j]? = some (some t)):=λj t a=>by
   rcases bH a with⟨z,h,_⟩ | z;cases h;exact .inl ⟨z,rfl⟩;exact .inr z
  refine⟨λj t a=>?_,λj l t g q n a k m m' b c=>?_,λj t q a m b=>?_,λj t q a m b=>?_,ok.keep,ok.dom,by rw[a8f];exact ok.len⟩;rcases back j t a with⟨rfl,rfl⟩ | ⟨_,z⟩;exact⟨_,ep,p,rfl,ow⟩;exact ok.rel j t z;rcases back j t a with⟨rfl,rfl⟩ | ⟨_,z⟩;cases m;rcases back l g k with⟨rfl,rfl⟩ | ⟨_,y⟩;exact ok.dis j l t s q n z hs m (fP hm) b c;exact ok.dis j l t g q n z y m m' b c;rcases back j t a with⟨rfl,rfl⟩ | ⟨_,z⟩;cases m;exact ok.own j t q z m b;rcases back j t a with⟨rfl,rfl⟩ | ⟨_,z⟩;cases m;exact ok.par j t q z m b
 ·rw[yO λs hs=>by
   cases e:s.m.mt with
   | false=>rfl
   | true=>exact absurd ⟨s,hs,e⟩ f]
  exact ok
def cS8(ok:StOk Γ H1 σ1 σV)(c:StOk Γ H2 σ2 σV2)(st:Step (lend i σ1) σV H1 σ2 σV2 H2):StOk Γ H2 (unl i σ1 σ2) σV2/\Step σ1 σV H1 (unl i σ1 σ2) σV2 H2:=by
 by_cases O:∃ s,σ1[i]? = some (some s)/\s.m.mt=true
 ·obtain⟨s,hs,hm⟩:=O;have U:i < σ1.length:=(a0a.mp hs).1;rw[tX hs hm]at st;have I:(σ1.set i (some ⟨.lent,s.d⟩))[i]? = some (some ⟨.lent,s.d⟩):=by rw[a3b U]
  obtain⟨s2,H,V,d2,P⟩:=st.fix i _ I (.inr rfl);have A:s2.m=.lent:=V;have B:i < σ2.length:=(a0a.mp H).1;have J:unl i σ1 σ2=σ2.set i (some ⟨s.m,s2.d⟩):=by unfold unl;rw[hs,H];simp only[hm,if_true]
  rw[J];obtain⟨p,ep,ow⟩:=ok.ownAt hs (fP hm);have f:σV2[i]? = some (some (.ref p)):=P.trans ep;obtain⟨p',Q,K⟩:=c.ownAt H (by rw[A];exact λz=>nomatch z);rw[f]at Q;cases Q;have C:∀ (j:Nat) t,j≠i->σ2[j]? = some (some t)->t.m=.lent->σV2[j]? ≠ some (some (.ref p)):=λj t hj b L e=>by
   obtain⟨D,x,E⟩:=st.lt j t b L;rw[a3a (a3d hj)]at x;have W:(σ1.set i (some ⟨.lent,s.d⟩))[j]? = some (some D):=by rw[a3a (a3d hj)];exact x
   obtain⟨_,_,_,_,X⟩:=st.fix j D W (.inr E);rw[X]at e;exact ok.dis i j s D p (a3d hj) hs x hm (by rw[E];exact λz=>nomatch z) ep e
  have r:∀ (j:Nat) t,j≠i->σ2[j]? = some (some t)->t.m≠.val->σV2[j]? ≠ some (some (.ref p)):=λj t hj b L e=>by
   by_cases R:t.m=.lent;exact C j t hj b R e;have M:t.m.mt=true:=by
    cases q:t.m with
    | val=>exact absurd q L
    | own=>rfl
    | par=>rfl
    | lent=>exact absurd q R
   exact c.dis j i t s2 p hj b H M (by rw[A];exact λz=>nomatch z) e f
  have back:∀ (j:Nat) t,(σ2.set i (some ⟨s.m,s2.d⟩))[j]? = some (some t)->(j=i/\t=⟨s.m,s2.d⟩)\/(j≠i/\σ2[j]? = some (some t)):=λj t b=>by
   rcases bH b with⟨z,v,_⟩ | z;cases v;exact .inl ⟨z,rfl⟩;exact .inr z
  have sub:∀ a,iU (σ1.set i (some ⟨.lent,s.d⟩)) σV a->iU σ1 σV a:=λa ⟨j,t,b,m,k⟩=>by
   rcases bH b with⟨z,v,_⟩ | ⟨z,v⟩;cases v;cases m;exact⟨j,t,v,m,k⟩
  have F:∀ a,aA8 (σ1.set i (some ⟨.lent,s.d⟩)) σV a->aA8 σ1 σV a:=λa ⟨j,t,b,m,k⟩=>by
   rcases bH b with⟨z,v,_⟩ | ⟨z,v⟩;subst z;exact⟨j,s,hs,fP hm,k⟩;exact⟨j,t,v,m,k⟩
  constructor
  ·refine⟨λj t b=>?_,λj l t w q n b S m m' g u=>?_,λj t q b m g=>?_,λj t q b m g=>?_,c.keep,c.dom,by rw[a8f];exact c.len⟩;rcases back j t b with⟨rfl,rfl⟩ | ⟨_,z⟩;exact⟨_,f,(cV (s:=⟨s.m,s2.d⟩) (fP hm)).mpr ⟨p,rfl,K⟩⟩;exact c.rel j t z
   ·rcases back j t b with⟨rfl,rfl⟩ | ⟨zn,z⟩;rw[f]at g;have g:=a4a (a4a g);cases g;rcases back l w S with⟨rfl,rfl⟩ | ⟨T,y⟩;exact n rfl;exact r l w T y m' u;rcases back l w S with⟨rfl,rfl⟩ | ⟨T,y⟩;rw[f]at u;have u:=a4a (a4a u);cases u;exact r j t zn z (fP m) g;exact c.dis j l t w q n z y m m' g u
   ·rcases back j t b with⟨rfl,rfl⟩ | ⟨_,z⟩;rw[f]at g;have g:=a4a (a4a g);cases g;exact ok.own j s p hs m ep;exact c.own j t q z m g
   ·rcases back j t b with⟨rfl,rfl⟩ | ⟨_,z⟩;rw[f]at g;have g:=a4a (a4a g);cases g;exact ok.par j s p hs m ep;exact c.par j t q z m g
  ·refine⟨λa o e n=>st.fr a o e λz=>n (sub a z),st.dom,λa ⟨j,t,b,m,k⟩=>?_,λa ⟨j,t,b,m,k⟩=>?_,λj t b=>?_,λj t b m=>?_,λj t b m=>?_⟩;rcases back j t b with⟨rfl,rfl⟩ | ⟨_,z⟩;rw[f]at k;have k:=a4a (a4a k);cases k;exact .inl ⟨j,s,hs,hm,ep⟩;rcases st.mu a ⟨j,t,z,m,k⟩with y | y;exact .inl (sub a y);exact .inr y;rcases back j t b with⟨rfl,rfl⟩ | ⟨_,z⟩;rw[f]at k;have k:=a4a (a4a k);cases k;exact .inl ⟨j,s,hs,fP hm,ep⟩;rcases st.nv a ⟨j,t,z,m,k⟩with y | y;exact .inl (F a y);exact .inr y;by_cases z:j=i;subst z;exact⟨_,by rw[a3b B]⟩;obtain⟨w,N⟩:=st.kp j t (by rw[a3a (a3d z)];exact b);exact⟨w,by rw[a3a (a3d z)];exact N⟩;by_cases z:j=i;subst z;rw[hs]at b;cases b;refine⟨⟨s.m,s2.d⟩,by rw[a3b B],rfl,λq=>?_,P⟩;rw[q]at hm;cases hm;obtain⟨w,N,h⟩:=st.fix j t (by rw[a3a (a3d z)];exact b) m;exact⟨w,by rw[a3a (a3d z)];exact N,h⟩;rcases back j t b with⟨rfl,rfl⟩ | ⟨zn,z⟩;have m':s.m=.lent:=m;rw[m']at hm;cases hm;obtain⟨D,x,Y⟩:=st.lt j t z m;rw[a3a (a3d zn)]at x;exact⟨D,x,Y⟩
 ·have G:∀ s,σ1[i]? = some (some s)->s.m.mt=false:=λs hs=>by
   cases e:s.m.mt with
   | false=>rfl
   | true=>exact absurd ⟨s,hs,e⟩ O
  rw[yO G]at st;have J:unl i σ1 σ2=σ2:=by
   unfold unl;split;rename_i Z s' h0 h';rw[a4z (by rw[G Z h0];exact a9c)];rfl
  rw[J];exact⟨c,st⟩
theorem StOk.lendO{l:Option Nat}(ok:StOk Γ H σ σV):StOk Γ H (lendO l σ) σV:=by
 cases l with
 | none=>exact ok
 | some i=>exact ok.lend
def tY{l:Option Nat}(ok:StOk Γ H1 σ1 σV)(a:StOk Γ H2 σ2 σV2)(st:Step (lendO l σ1) σV H1 σ2 σV2 H2):StOk Γ H2 (aZ8 l σ1 σ2) σV2/\Step σ1 σV H1 (aZ8 l σ1 σ2) σV2 H2:=by
 cases l with
 | none=>exact⟨a,st⟩
 | some i=>exact cS8 ok a st
def cE7{l:Option Nat}{r:Res}{v:V}(st:Step (lendO l σ1) σV H1 σ2 σV2 H2)(h:jC Γ H2 σ2 σV2 r v):jC Γ H2 (aZ8 l σ1 σ2) σV2 r v:=by
 cases l with
 | none=>exact h
 | some i=>
   show jC Γ H2 (unl i σ1 σ2) σV2 r v;have st':Step (lend i σ1) σV H1 σ2 σV2 H2:=st;unfold unl;split
   ·rename_i f s' h0 h';split
    ·rename_i hm;cases r with
     | val d=>exact h
     | own d=>
       obtain⟨p,a,b,g,k⟩:=h;refine⟨p,a,b,λ⟨j,t,n,m,c⟩=>g ?_,k⟩;rcases bH n with⟨z,e,_⟩ | ⟨z,e⟩;subst z;rw[tX h0 hm]at st';obtain⟨o,q,s,_⟩:=st'.fix j ⟨.lent,f.d⟩ (by rw[a3b (a0a.mp h0).1]) (.inr rfl);exact⟨j,o,q,by rw[s];exact λz=>(by cases z),c⟩
       ·exact⟨j,t,e,m,c⟩
     | slot j=>
       obtain⟨a,t,b⟩:=h;refine⟨a,?_⟩;by_cases z:j=i;subst z;exact⟨_,by rw[a3b (a0a.mp h').1]⟩
       ·exact⟨t,by rw[a3a (a3d z)];exact b⟩
    ·exact h
   ·exact h
end
structure ItD(J:It)(items:List D)(P:Hp->Prop):Prop where
 go:∀ H i d,P H->items[i]? = some d->J.go i H
 yld:∀ H i d y H',P H->items[i]? = some d->J.yld i H y H'->tM H H'/\Rp H' d y
 stop:∀ H,P H->J.stop items.length H
def wG{J:It}{xs:List V}{P:Hp->Prop}{items:List D}(w:ItIs J xs P):ItD J items (λH=>P H/\Rps H items xs) where
 go:=λH i d ⟨h,r⟩ e=>by
  obtain⟨x,ex,_⟩:=r.get e;exact w.go H i x h ex
 yld:=λH i d y H' ⟨h,r⟩ e q=>by
  obtain⟨x,ex,a⟩:=r.get e;obtain⟨rfl,rfl⟩:=w.yld H i x y H' h ex q;exact⟨.refl _,a⟩
 stop:=λH ⟨h,r⟩=>by
  refine w.stop H _ h ?_;have:=r.length;rw[a6d];lia
abbrev DI:=Sg->Option (List D×Option Nat×Sg)
def dTI(Γ:Gm)(ri:DI):TI:=λσV H R=>∃ σ,StOk Γ H σ σV/\∃ items l a,ri σ=some (items,l,a)/\∀ J c P,StOk Γ c a σV->Step σ σV H a σV c->ItD J items P ->
 (∀ d b e,Step (lendO l a) σV c d b e->P e)->R J c
structure GI(X:Cx)(tg iter:Expr)(ri:DI):Prop where
 to:∀ Γ,PI X tg iter (dTI Γ ri)
def piW{X:Cx}{tg e:Expr}{t t':TI}(h:PI X tg e t)(w:∀ σ H Q,t' σ H Q->t σ H Q):PI X tg e t':=λpins s σ H Q I q=>h pins s σ H Q I (w σ H Q q)
noncomputable def bN2:D->Option (List D)
 | .lst l=>some l
 | .tup l=>some l
 | .str x=>some (rZ x)
 | _=>none
noncomputable def dIt(r:DE):DI:=λσ=>(r σ).bind λx=>(rd x.2 x.1).bind λd=>(bN2 d).bind λl=>some (l,(match x.1 with | .slot i=>some i | _=>none),x.2)
def fB{H a:Hp}{p:Addr}{o:HO}(h:H p=some o)(b:a p=some o):eR a p=eR H p:=by unfold eR;rw[h,b]
def pO{Γ:Gm}{g:Hp}{a:Sg}{σV:St}{x:Res}{v:V}{d:D}{items:List D}(A:StOk Γ g a σV)(h:jC Γ g a σV x v)(N:rd a x=some d)(H:bN2 d=some items)(vw:Vw g d v) :
  ∀ p b xs,v=.ref p->eR g p=some (b,xs)->Rps g items xs->∀ B k C,Step (lendO (match x with | .slot i=>some i | _=>none) a) σV g B k C->eR C p=some (b,xs)/\Rps C items xs:=by
 intro p b xs r u S B k C l;have ext:Ext g C:=l.ext (Γ:=Γ) A.lendO;refine⟨?_,S.mono ext⟩;cases x with
 | val d'=>
   cases N;subst r;cases d with
   | tup I=>obtain⟨_,_,e,f,_⟩:=dE vw;cases e;rw[fB f (ext.tup _ _ f)];exact u
   | lst I=>
     cases h with
     | lst f _=>rw[fB f (ext.frz _ _ _ f)];exact u
   | dic ks vs=>cases H
   | str z=>cases h
   | _=>cases H
 | own d'=>
   obtain⟨q,O,ow,T,_⟩:=h;rw[r]at O;cases O;obtain⟨o,E,_⟩:=ow.obj;rw[fB E (l.fr p o E (λz=>T z.nv))];exact u
 | slot i=>
   obtain⟨h,s,hs⟩:=h;have c:StOk Γ g a σV:=A;by_cases hm:s.m=.val
   ·obtain⟨w,P,J⟩:=c.rel i s hs;rw[h]at P;cases P;subst r;obtain⟨m,Q⟩:=s;cases hm;have K:some Q=some d:=by
     have:rd a (.slot i)=some Q:=by show(match a[i]? with | some (some s)=>some s.d | _=>none)=_;rw[hs]
     rw[← this];exact N
    cases K;have L:Rp g d (.ref p):=J;cases d with
    | tup I=>obtain⟨_,_,e,f,_⟩:=dE (.inl L);cases e;rw[fB f (ext.tup _ _ f)];exact u
    | lst I=>
      cases L with
      | lst f _=>rw[fB f (ext.frz _ _ _ f)];exact u
    | dic ks vs=>cases H
    | str z=>cases L
    | _=>cases H
   ·obtain⟨q,F,ow⟩:=c.ownAt hs hm;rw[h]at F;have F:=a4a (a4a F);rw[r]at F;cases F;obtain⟨o,E,_⟩:=ow.obj;have U:¬ iU (lend i a) σV p:=by
     rintro⟨j,t,y,m,R⟩;by_cases n:s.m.mt=true;rw[tX hs n]at y;rcases bH y with⟨_,M,_⟩ | ⟨z,M⟩;cases M;cases m;exact c.dis j i t s p z M hs m hm R (by rw[h,r]);rw[yO (λs' G=>by rw[hs]at G;cases G;exact Bool.eq_false_iff.mpr n)]at y;by_cases z:j=i;subst z;rw[hs]at y;cases y;exact n m;exact c.dis j i t s p z y hs m hm R (by rw[h,r])
    rw[fB E (l.fr p o E U)];exact u
def bP{X:Cx}{tg e:Expr}{r:DE}(K:W.Frag)(w:X.K=K)(h:GE X e r):GI X tg e (dIt r):=.mk λΓ=>piW (cD8 K w (h.to Γ)) λσV H R ⟨σ,ok,items,l,y,e,k⟩=>by
 obtain⟨⟨x,A⟩,B,e⟩:=bind_some e;obtain⟨d,t,e⟩:=bind_some e;obtain⟨its,i,e⟩:=bind_some e;cases e;refine⟨σ,ok,x,_,B,λv n b u g D=>?_⟩;have vw:=u.vw b t;have stay:=pO b u t i vw;cases d with
 | lst C=>
   cases i;obtain⟨p,xs,rfl,j,o⟩:=fD vw;refine .inl ⟨xs,j,k _ n _ b g (wG (aN3 (xs:=xs))) λc a m f=>?_⟩;obtain⟨q,s⟩:=stay p true xs rfl j o c a m f;exact⟨fT q,s⟩
 | tup C=>
   cases i;obtain⟨p,xs,rfl,j,o⟩:=dE vw;refine .inr ⟨xs,cL j,k _ n _ b g (wG (bC2 (xs:=xs))) λc a m f=>?_⟩;obtain⟨q,s⟩:=stay p false xs rfl (cL j) o c a m f;exact⟨eG q,s⟩
 | str z=>
   cases i;obtain rfl:=iO vw;exact k _ n (λH=>True/\Rps H (rZ z) (eI z)) b g (wG bC3) λc a m f=>⟨True.intro,wF z⟩
 | _=>cases i
noncomputable def aZ9(lo:Int)(n:Nat):List D:=(List.range n).map λ(i:Nat)=>D.int (lo+(i:Int))
def aP3{H:Hp}(lo:Int)(n:Nat):Rps H (aZ9 lo n) (cC9 lo n):=by
 unfold aZ9 cC9
 induction List.range n with
 | nil=>exact .nil
 | cons a r b=>exact .cons (.int _) b
noncomputable def bE5(a:DA):DI:=λσ=>(a σ).bind λx=>(rds x.2 x.1).bind λds=>match ds with
 | [.int j]=>if -(2 ^ 62)<=j/\j < 2 ^ 62 then some (aZ9 0 j.toNat,none,x.2)else none
 | [.int i,.int j]=>if(-(2 ^ 62)<=i/\i < 2 ^ 62) /\ -(2 ^ 62)<=j/\j < 2 ^ 62 then some (aZ9 i (j-i).toNat,none,x.2)else none
 | _=>none
def tZ{X:Cx}{tg e:Expr}{d:DA}(h:∀ Γ,PI X tg e (cP0 (dTA Γ d)))(m:∀ σ rs σ',d σ=some (rs,σ')->rs.length=1):GI X tg e (bE5 d):=.mk λΓ=>piW (h Γ) λσV H R ⟨σ,ok,items,l,n,e,k⟩=>by
 obtain⟨⟨x,o⟩,g,e⟩:=bind_some e;obtain⟨ds,p,e⟩:=bind_some e;refine⟨σ,ok,x,_,g,λvs r c i f w=>?_⟩;have vw:=pN c i p;have s:=m _ _ _ g;dsimp only at e;split at e
 ·split at e
  ·rename_i hj;cases e;cases vw with
   | cons a t=>
     cases t;obtain rfl:=cC a;exact⟨_,rfl,hj.1,hj.2,k _ r (λH=>True/\Rps H _ _) c f (wG aA3) λu j y v=>⟨True.intro,aP3 _ _⟩⟩
  ·cases e
 ·exfalso;cases vw with
  | cons a t=>cases t with
    | cons b t=>
      cases i with
      | cons _ q _=>cases q with
        | cons _ q _=>simp at s
 ·cases e
def cE8{X:Cx}{tg e:Expr}{d:DA}(h:∀ Γ,PI X tg e (cP1 (dTA Γ d)))(m:∀ σ rs σ',d σ=some (rs,σ')->rs.length=2):GI X tg e (bE5 d):=.mk λΓ=>piW (h Γ) λσV H R ⟨σ,ok,items,l,n,e,k⟩=>by
 obtain⟨⟨x,o⟩,g,e⟩:=bind_some e;obtain⟨ds,p,e⟩:=bind_some e;refine⟨σ,ok,x,_,g,λvs r c i f w=>?_⟩;have vw:=pN c i p;have s:=m _ _ _ g;dsimp only at e;split at e
 ·exfalso;cases vw with
  | cons a t=>
    cases t;cases i with
    | cons _ q _=>cases q;simp at s
 ·split at e
  ·rename_i hj;cases e;cases vw with
   | cons a t=>cases t with
     | cons b t=>
       cases t;obtain rfl:=cC a;obtain rfl:=cC b;exact⟨_,_,rfl,⟨hj.1.1,hj.1.2,hj.2.1,hj.2.2⟩,k _ r (λH=>True/\Rps H _ _) c f (wG aA3) λu j y v=>⟨True.intro,aP3 _ _⟩⟩
  ·cases e
 ·cases e
def cL8{r:DE}:∀ σ rs σ',aC r aR σ=some (rs,σ')->rs.length=1:=λσ rs σ' e=>by
 obtain⟨x,_,e⟩:=bind_some e;cases e;rfl
def dJ4{r a:DE}:∀ σ rs σ',aC r (aC a aR) σ=some (rs,σ')->rs.length=2:=λσ rs σ' e=>by
 obtain⟨x,_,e⟩:=bind_some e;obtain⟨y,h,e⟩:=bind_some e;cases e;have:=cL8 _ _ _ h;simp[this]
noncomputable def bE6(g:DG)(b:DS):List D->Sg->Option Out
 | [],σ=>some (.nx σ)
 | d::r,σ=>(g d σ).bind λe=>(b e).bind λo=>match o with
   | .nx a=>bE6 g b r a
   | .ct a=>bE6 g b r a
   | .bk a=>some (.nx a)
   | .rt x a=>some (.rt x a)
   | .ex c f a=>some (.ex c f a)
noncomputable def aB1(l:Option Nat)(a:Sg):Out->Out
 | .nx σ=>.nx (aZ8 l a σ)
 | .rt r σ=>.rt r (aZ8 l a σ)
 | .bk σ=>.bk (aZ8 l a σ)
 | .ct σ=>.ct (aZ8 l a σ)
 | .ex c f σ=>.ex c f (aZ8 l a σ)
noncomputable def rF(ri:DI)(g:DG)(b:DS):DS:=λσ=>(ri σ).bind λx=>(bE6 g b x.1 (lendO x.2.1 x.2.2)).bind λo=>some (aB1 x.2.1 x.2.2 o)
def bE7{Γ:Gm}{E:Ex}{own:List Nat}{ri:DI}{g:TG}{S:DG}{b:DS}(hg:bE3 own g S){D:Ends}{σV:St}{H:Hp}(h:dTS Γ E (rF ri S b) D σV H):cL4 (dTI Γ ri) g (dTS Γ E b) D σV H:=by
 obtain⟨σ,ok,o,e,k⟩:=h;obtain⟨⟨items,l,u⟩,e1,e⟩:=bind_some e;obtain⟨U,e2,e⟩:=bind_some e;cases e;refine⟨σ,ok,items,l,u,e1,λJ T P F M N stay=>?_⟩;dsimp only at e2
 -- V end that is wanted of V walk
 have K:∀ n a w,StOk Γ w n a->Step (lendO l u) σV T n a w->∀ W,W=U->(∀ σ',W=.nx σ'->∀ σV' H',StOk Γ H' σ' σV'->Step (lendO l u) σV T σ' σV' H'->D.nx σV' H'):=by
  intro n a w G B W ho σ' X σV' H' Y st';subst ho X;obtain⟨O,Q⟩:=tY F Y st';exact k σV' H' O (M.trans Q)
 refine⟨λi m a w=>m=items.length-i/\i<=items.length/\∃ n,bE6 S b (items.drop i) n=some U/\StOk Γ w n a/\Step (lendO l u) σV T n a w,⟨items.length,by simp,a4e _,lendO l u,by simpa using e2,F.lendO,.refl⟩,?_⟩;rintro i m a w ⟨rfl,hi,n,A,G,B⟩;have Z:=stay n a w B;by_cases I:i < items.length
 ·have ei:items[i]? = some items[i]:=a1a I;refine .inr ⟨N.go w i _ Z ei,λC R=>∃ m',m' < items.length-i/\m'=items.length-(i+1)/\i+1<=items.length/\∃ z,bE6 S b (items.drop (i+1)) z=some U/\StOk Γ R z C/\Step (lendO l u) σV T z C R,λσ' H' q=>q,λy R hy=>?_⟩;obtain⟨sm,ry⟩:=N.yld w i _ y R Z ei hy;rw[List.drop_eq_getElem_cons I]at A;obtain⟨z,eg,A⟩:=bind_some A;obtain⟨ob,eb,A⟩:=bind_some A;refine hg Γ R _ _ _ n a _ y z _ (G.same sm) (B.trans (.same sm)) ry eg λC ok3 t _ _=>?_;refine⟨z,ok3,ob,eb,?_⟩;cases ob with
  | nx s=>exact λj L r p=>⟨_,by lia,rfl,I,s,A,r,t.trans p⟩
  | ct s=>exact λj L r p=>⟨_,by lia,rfl,I,s,A,r,t.trans p⟩
  | bk s=>
    cases A;exact λj L r p=>K s j L r (t.trans p) _ rfl s rfl j L r (t.trans p)
  | rt x s=>
    cases A;intro v j L r r4 p;obtain⟨O,Q⟩:=tY F r (t.trans p);exact k v j L O (cE7 (t.trans p) r4) (M.trans Q)
  | ex c f s=>
    cases A;intro v d j L r r4 p;obtain⟨O,Q⟩:=tY F r (t.trans p);exact k v d j L O r4 (M.trans Q)
 ·have e0:i=items.length:=by lia
  subst e0;rw[List.drop_length]at A;cases A;exact .inl ⟨N.stop w Z,K n a w G B _ rfl n rfl a w G B⟩
def eV{X:Cx}{E:Ex}{own:List Nat}{st:Stmt}{ri:DI}{g:TG}{a:DG}{b:DS}(c:bE3 own g a)(h:∀ Γ,PS X st (cL4 (dTI Γ ri) g (dTS Γ E b))):GS E X st (rF ri a b):=.mk λΓ=>psW (h Γ) λ_ _ _=>bE7 c
def aP4:∃ n:Nat,1000000<=n:=⟨_,a8a _⟩
noncomputable def dF0:Nat:=Classical.choose aP4
def cE9:1000000<=dF0:=Classical.choose_spec aP4
noncomputable def lL(c:DT)(b:DS):Nat->Sg->Option Out
 | 0,_=>none
 | n+1,σ=>(c σ).bind λx=>if x.1=true then(b x.2).bind λo=>match o with
   | .nx a=>lL c b n a
   | .ct a=>lL c b n a
   | .bk a=>some (.nx a)
   | .rt r a=>some (.rt r a)
   | .ex c f a=>some (.ex c f a)else some (.nx x.2)
noncomputable def bN3(c:DT)(b:DS):DS:=λσ=>lL c b dF0 σ
def aG8{Γ:Gm}{E:Ex}{c:DT}{b:DS}{D:Ends}{σV:St}{H:Hp}(h:dTS Γ E (bN3 c b) D σV H):zW (dTT Γ c) (dTS Γ E b) D σV H:=by
 obtain⟨σ,ok,o,e,k⟩:=h;refine⟨λm l A=>∃ u,lL c b m u=some o/\StOk Γ A u l/\Step σ σV H u l A,⟨dF0,σ,e,ok,.refl⟩,?_⟩;rintro m l A ⟨u,p,B,r⟩;cases m with
 | zero=>cases p
 | succ n=>
   obtain⟨⟨t,y⟩,G,p⟩:=bind_some p;refine⟨u,B,t,y,G,λI z s=>?_⟩;dsimp only at p;split at p
   ·rename_i C;rw[a4A C];obtain⟨ob,J,p⟩:=bind_some p;refine⟨λa w=>∃ m',m' < n+1/\∃ g,lL c b m' g=some o/\StOk Γ w g a/\Step σ σV H g a w,λ_ _ q=>q,y,z,ob,J,?_⟩;cases ob with
    | nx g=>exact λa w i j=>⟨n,a2g n,g,p,i,(r.trans s).trans j⟩
    | ct g=>exact λa w i j=>⟨n,a2g n,g,p,i,(r.trans s).trans j⟩
    | bk g=>cases p;exact λa w i j=>k a w i ((r.trans s).trans j)
    | rt x g=>cases p;exact λv a w i F j=>k v a w i F ((r.trans s).trans j)
    | ex c f g=>cases p;exact λv d a w i F j=>k v d a w i F ((r.trans s).trans j)
   ·rename_i C;rw[a4z C];cases p;exact k l I z (r.trans s)
def bE8{X:Cx}{E:Ex}{st:Stmt}{c:DT}{b:DS}(h:∀ Γ,PS X st (zW (dTT Γ c) (dTS Γ E b))):GS E X st (bN3 c b):=.mk λΓ=>psW (h Γ) λ_ _ _=>aG8
noncomputable def cT(ow:List Nat)(σ:Sg):Sg:=ow.foldl (λσ i=>σ.set i none) σ
noncomputable def pP(ow:List Nat)(σ a:Sg):Sg:=ow.foldl (λa i=>a.set i (σ[i]?.getD none)) a
theorem fE{a:Type}:∀ (ow:List Nat) (σ:List (Option a)),(ow.foldl (λσ i=>σ.set i none) σ).length=σ.length
 | [],_=>rfl
 | i::r,σ=>(fE r (σ.set i none)).trans (by simp)
theorem eJ{a:Type}:∀ (ow:List Nat) (σ:List (Option a)) (j:Nat),j∉ow->(ow.foldl (λσ i=>σ.set i none) σ)[j]? = σ[j]?
 | [],_,_,_=>rfl
 | i::r,σ,j,h=>by
   have b:i≠j:=λz=>h (by rw[z];exact a9a);have c:j∉r:=λz=>h (a0b _ z);show(r.foldl _ (σ.set i none))[j]? = _;rw[eJ r _ j c,a3a b]
theorem bS{a:Type}:∀ (ow:List Nat) (σ:List (Option a)) (j:Nat) (x:a),(ow.foldl (λσ i=>σ.set i none) σ)[j]? = some (some x)->j∉ow/\σ[j]? = some (some x)
 | [],_,_,_,h=>⟨by simp,h⟩
 | i::r,σ,j,x,h=>by
   obtain⟨b,c⟩:=bS r (σ.set i none) j x h;rcases bH c with⟨_,z,_⟩ | ⟨z,d⟩;cases z;exact⟨by simp[z,b],d⟩
theorem oE:∀ (ow:List Nat) (σ a:Sg),(pP ow σ a).length=a.length
 | [],_,_=>rfl
 | i::r,σ,a=>(oE r σ (a.set i (σ[i]?.getD none))).trans (by simp)
theorem jE:∀ (ow:List Nat) (σ a:Sg) (j:Nat),j∉ow->(pP ow σ a)[j]? = a[j]?
 | [],_,_,_,_=>rfl
 | i::r,σ,a,j,h=>by
   have b:i≠j:=λz=>h (by rw[z];exact a9a);have c:j∉r:=λz=>h (a0b _ z);show(pP r σ (a.set i (σ[i]?.getD none)))[j]? = _;rw[jE r σ _ j c,a3a b]
theorem oY:∀ (ow:List Nat) (σ a:Sg) (j:Nat),j∈ow->σ.length=a.length->(pP ow σ a)[j]? = σ[j]?
 | [],_,_,_,h,_=>by simp at h
 | i::r,σ,a,j,h,hl=>by
   show(pP r σ (a.set i (σ[i]?.getD none)))[j]? = _;by_cases b:j∈r;exact oY r σ _ j b (by simp[hl])
   ·rw[jE r σ _ j b];have:j=i:=by rcases a2b.mp h with z | z;exact z;exact absurd z b
    subst this;by_cases hj:j < a.length;rw[a3b hj,a1a (by lia:j < σ.length)];rfl;rw[a6d.mpr (by simp;lia),a6d.mpr (by lia)]
section
variable{Γ:Gm}{H H1 H2:Hp}{σ σ1 τ:Sg}{σV σV2 σV3:St}{ow:List Nat}
def StOk.blank(ok:StOk Γ H τ σV2)(h:σV3.length=σV2.length)(e:∀ j,j∉ow->σV3[j]? = σV2[j]?):StOk Γ H (cT ow τ) σV3 where
 rel:=λj t b=>by
  obtain⟨c,d⟩:=bS ow τ j t b;rw[e j c];exact ok.rel j t d
 dis:=λj l t g q n b i m m' a f=>by
  obtain⟨c,d⟩:=bS ow τ j t b;obtain⟨k,o⟩:=bS ow τ l g i;rw[e j c]at a;rw[e l k]at f;exact ok.dis j l t g q n d o m m' a f
 own:=λj t q b m a=>by
  obtain⟨c,d⟩:=bS ow τ j t b;rw[e j c]at a;exact ok.own j t q d m a
 par:=λj t q b m a=>by
  obtain⟨c,d⟩:=bS ow τ j t b;rw[e j c]at a;exact ok.par j t q d m a
 keep:=ok.keep
 dom:=ok.dom
 len:=by rw[cT,fE,h];exact ok.len
def Step.blank{c:Sg}(hb:∀ (j:Nat) t,c[j]? = some (some t)->j∉ow)(st:Step c σV H1 τ σV2 H2)(g:∀ j,j∉ow->σV3[j]? = σV2[j]?):Step c σV H1 (cT ow τ) σV3 H2 where
 fr:=st.fr
 dom:=st.dom
 mu:=λa ⟨j,t,b,m,f⟩=>by
  obtain⟨e,d⟩:=bS ow τ j t b;rw[g j e]at f;exact st.mu a ⟨j,t,d,m,f⟩
 nv:=λa ⟨j,t,b,m,f⟩=>by
  obtain⟨e,d⟩:=bS ow τ j t b;rw[g j e]at f;exact st.nv a ⟨j,t,d,m,f⟩
 kp:=λj t b=>by
  obtain⟨h,i⟩:=st.kp j t b;exact⟨h,by rw[cT,eJ ow τ j (hb j t b)];exact i⟩
 fix:=λj t b m=>by
  obtain⟨h,i,e,d,k⟩:=st.fix j t b m;exact⟨h,by rw[cT,eJ ow τ j (hb j t b)];exact i,e,d,by rw[g j (hb j t b)];exact k⟩
 lt:=λj t b m=>by
  obtain⟨e,d⟩:=bS ow τ j t b;exact st.lt j t d m
def cF0(c:StOk Γ H1 σ1 σV)(ok:StOk Γ H τ σV2)(x:∀ j,j∉ow->σV2[j]? = σV[j]?)(N:σV2.length=σV.length)(st:Step (cT ow σ1) σV2 H1 τ σV2 H) :
  StOk Γ H (pP ow σ1 τ) σV/\Step σ1 σV H1 (pP ow σ1 τ) σV H:=by
 have A:σ1.length=τ.length:=by rw[c.len,ok.len,N]
 have O:StOk Γ H1 (cT ow σ1) σV2:=c.blank N x;have ext:Ext H1 H:=st.ext O;have get:∀ (j:Nat) t,(pP ow σ1 τ)[j]? = some (some t)->(j∈ow/\σ1[j]? = some (some t))\/(j∉ow/\τ[j]? = some (some t)):=λj t e=>by
  by_cases h:j∈ow;rw[oY ow σ1 τ j h A]at e;exact .inl ⟨h,e⟩;rw[jE ow σ1 τ j h]at e;exact .inr ⟨h,e⟩
 have B:∀ (j:Nat) t,(cT ow σ1)[j]? = some (some t)->j∉ow/\σ1[j]? = some (some t):=λj t e=>bS ow σ1 j t e;have G:∀ (j:Nat),j∉ow->(cT ow σ1)[j]? = σ1[j]?:=λj h=>eJ ow σ1 j h;have s:∀ a,iU (cT ow σ1) σV2 a->∃ (j:Nat) (t:Sl),j∉ow/\σ1[j]? = some (some t)/\t.m.mt=true/\σV[j]? = some (some (.ref a)):=λa ⟨j,t,b,m,u⟩=>by
  obtain⟨k,f⟩:=B j t b;rw[x j k]at u;exact⟨j,t,k,f,m,u⟩
 have I:∀ a,aA8 (cT ow σ1) σV2 a->∃ (j:Nat) (t:Sl),j∉ow/\σ1[j]? = some (some t)/\t.m≠.val/\σV[j]? = some (some (.ref a)):=λa ⟨j,t,b,m,u⟩=>by
  obtain⟨k,f⟩:=B j t b;rw[x j k]at u;exact⟨j,t,k,f,m,u⟩
 have C:∀ (j l:Nat) t g q,j∈ow->σ1[j]? = some (some t)->l∉ow->τ[l]? = some (some g)->t.m≠.val->g.m≠.val->(t.m.mt=true\/g.m.mt=true)->σV[j]? = some (some (.ref q))->σV[l]? = some (some (.ref q))->False:=by
  intro j l t g q hj b P K m m' L i d;rw[← x l P]at d;obtain⟨p,ep,Q⟩:=c.ownAt b m;rw[i]at ep;have ep:=a4a (a4a ep);cases ep;obtain⟨o,S,_⟩:=Q.obj;rcases L with L | L;rcases st.nv q ⟨l,g,K,m',d⟩with z | z;obtain⟨D,E,k,f,v,F⟩:=I q z;exact c.dis j D t E q (λy=>k (by rw[← y];exact hj)) b f L v i F;rw[S]at z;cases z;rcases st.mu q ⟨l,g,K,L,d⟩with z | z;obtain⟨D,E,k,f,v,F⟩:=s q z;exact c.dis D j E t q (λy=>k (by rw[y];exact hj)) f b v m F i;rw[S]at z;cases z
 constructor
 ·refine⟨λj t b=>?_,λj l t g q n b K m m' i d=>?_,λj t q b m i=>?_,λj t q b m i=>?_,ok.keep,ok.dom,by rw[oE,ok.len,N]⟩;rcases get j t b with⟨h,e⟩ | ⟨h,e⟩;obtain⟨w,M,r⟩:=c.rel j t e;refine⟨w,M,r.mono ext λp o ep m U=>st.fr p o U λz=>?_⟩;obtain⟨D,E,k,f,v,F⟩:=s p z;exact c.dis D j E t p (λy=>k (by rw[y];exact h)) f e v m F (by rw[M,ep]);obtain⟨w,M,r⟩:=ok.rel j t e;exact⟨w,by rw[← x j h];exact M,r⟩
  ·rcases get j t b with⟨h,e⟩ | ⟨h,e⟩;rcases get l g K with⟨h',J⟩ | ⟨h',J⟩;exact c.dis j l t g q n e J m m' i d;exact C j l t g q h e h' J (fP m) m' (.inl m) i d;rcases get l g K with⟨h',J⟩ | ⟨h',J⟩;exact C l j g t q h' J h e m' (fP m) (.inr m) d i;rw[← x j h]at i;rw[← x l h']at d;exact ok.dis j l t g q n e J m m' i d
  ·rcases get j t b with⟨h,e⟩ | ⟨h,e⟩;exact c.own j t q e m i;rw[← x j h]at i;exact ok.own j t q e m i
  ·rcases get j t b with⟨h,e⟩ | ⟨h,e⟩;exact c.par j t q e m i;rw[← x j h]at i;exact ok.par j t q e m i
 ·refine⟨λa o e n=>st.fr a o e λz=>?_,st.dom,λa ⟨j,t,b,m,u⟩=>?_,λa ⟨j,t,b,m,u⟩=>?_,λj t b=>?_,λj t b m=>?_,λj t b m=>?_⟩;obtain⟨D,E,k,f,v,F⟩:=s a z;exact n ⟨D,E,f,v,F⟩;rcases get j t b with⟨h,e⟩ | ⟨h,e⟩;exact .inl ⟨j,t,e,m,u⟩;rw[← x j h]at u;rcases st.mu a ⟨j,t,e,m,u⟩with z | z;obtain⟨D,E,k,f,v,F⟩:=s a z;exact .inl ⟨D,E,f,v,F⟩;exact .inr z;rcases get j t b with⟨h,e⟩ | ⟨h,e⟩;exact .inl ⟨j,t,e,m,u⟩;rw[← x j h]at u;rcases st.nv a ⟨j,t,e,m,u⟩with z | z;obtain⟨D,E,k,f,v,F⟩:=I a z;exact .inl ⟨D,E,f,v,F⟩;exact .inr z;by_cases h:j∈ow;exact⟨t,by rw[oY ow σ1 τ j h A];exact b⟩;obtain⟨g,R⟩:=st.kp j t (by rw[G j h];exact b);exact⟨g,by rw[jE ow σ1 τ j h];exact R⟩;by_cases h:j∈ow;exact⟨t,by rw[oY ow σ1 τ j h A];exact b,rfl,λ_=>rfl,rfl⟩;obtain⟨g,R,k,f,v⟩:=st.fix j t (by rw[G j h];exact b) m;exact⟨g,by rw[jE ow σ1 τ j h];exact R,k,f,rfl⟩;rcases get j t b with⟨h,e⟩ | ⟨h,e⟩;exact⟨t,e,m⟩;obtain⟨T,V,W⟩:=st.lt j t e m;exact⟨T,(B j T V).2,W⟩
end
noncomputable def bE9(ow:List Nat)(g:DG)(t:DT)(e:DE):List D->Sg->Option (List D×Sg)
 | [],a=>some ([],a)
 | d :: r,a=>(g d a).bind λb=>(t b).bind λx=>if x.1=true then(e x.2).bind λy=>match y.1 with
     | .val d'=>(bE9 ow g t e r (cT ow y.2)).bind λz=>some (d'::z.1,z.2)
     | _=>none else bE9 ow g t e r (cT ow x.2)
noncomputable def fR:DT:=λσ=>some (true,σ)
noncomputable def dJ(ow:List Nat)(ri:DI)(g:DG)(t:DT)(e:DE):DE:=λσ=>(ri σ).bind λx=>if x.1.length<=sizeLine then(bE9 ow g t e x.1 (cT ow (lendO x.2.1 x.2.2))).bind λy=>
 some (.own (.lst y.1),aZ8 x.2.1 x.2.2 (pP ow (lendO x.2.1 x.2.2) y.2))else none
def wH{Γ:Gm}{ow:List Nat}{ri:DI}{g:TG}{Z:DG}{t:DT}{e:DE}(hg:bE3 ow g Z){σV:St}{H:Hp}{Q:VK}(h:dTE Γ (dJ ow ri Z t e) σV H Q) :
  aN2 ow (dTI Γ ri) g (dTT Γ t) (dTE Γ e) σV H Q:=by
 obtain⟨σ,ok,res,σ',w,k⟩:=h;obtain⟨⟨items,l,c⟩,e1,w⟩:=bind_some w;dsimp only at w;split at w
 case isFalse=>cases w
 case isTrue hlen=>
 obtain⟨⟨all,τe⟩,e2,w⟩:=bind_some w;cases w;refine⟨σ,ok,items,l,c,e1,λJ G P I K A stay=>?_⟩;have bl:(blank ow σV).length=σV.length:=fE ow σV;have bo:∀ j,j∉ow->(blank ow σV)[j]? = σV[j]?:=λj hj=>eJ ow σV j hj;have L:StOk Γ G (lendO l c) σV:=I.lendO;have okB:StOk Γ G (cT ow (lendO l c)) (blank ow σV):=L.blank bl bo;have hb:∀ (j:Nat) t,(cT ow (lendO l c))[j]? = some (some t)->j∉ow:=λj t ej=>(bS ow _ j t ej).1
 -- a step within,as a step of the q
 have q:∀ o d,StOk Γ d o (blank ow σV)->Step (cT ow (lendO l c)) (blank ow σV) G o (blank ow σV) d->StOk Γ d (pP ow (lendO l c) o) σV/\Step (lendO l c) σV G (pP ow (lendO l c) o) σV d:=
  λo d r s=>cF0 L r bo bl s
 refine⟨λi m ys d=>m=items.length-i/\i<=items.length/\∃ o don dD,bE9 ow Z t e (items.drop i) o=some (dD,τe)/\don++dD=all/\don.length<=i/\Rps d don ys/\StOk Γ d o (blank ow σV)/\Step (cT ow (lendO l c)) (blank ow σV) G o (blank ow σV) d,
  ⟨items.length,by simp,Nat.zero_le _,cT ow (lendO l c),[],all,by simpa using e2,rfl,a4e _,.nil,okB,.refl⟩,?_⟩
 rintro i m ys d ⟨rfl,hi,o,don,dD,f,n,hdl,W,r,s⟩;have hyl:=W.length;obtain⟨okw,M⟩:=q o d r s;have hP:=stay _ σV d M;refine⟨by lia,?_⟩;by_cases u:i < items.length
 ·have ei:items[i]? = some items[i]:=a1a u;refine .inr ⟨A.go d i _ hP ei,λy X hy=>?_⟩;obtain⟨B,ry⟩:=A.yld d i _ y X hP ei hy;rw[List.drop_eq_getElem_cons u]at f;obtain⟨N,eg,f⟩:=bind_some f;obtain⟨⟨b,C⟩,et,f⟩:=bind_some f;refine hg Γ X _ _ _ o (blank ow σV) _ y N _ (r.same B) (s.trans (.same B)) ry eg λσV3 O R l3 Y=>?_;have x:Ext d X:=.same B;refine⟨N,O,b,C,et,λH4 D E=>?_⟩;have z:Ext X H4:=E.ext O;dsimp only at f;split at f;rename_i hbt;dsimp only;rw[a4A hbt];obtain⟨⟨r5,S⟩,ee,f⟩:=bind_some f;refine⟨C,D,r5,S,ee,λv H5 ok5 r5' T f5=>?_⟩;dsimp only at f;split at f;rename_i d';obtain⟨⟨F,τe'⟩,ec',f⟩:=bind_some f;cases f;refine⟨_,by lia,rfl,u,cT ow S,don++[d'],F,ec',by rw[← n];simp,by simp;lia,?_,ok5.blank (by rw[l3]) (λj hj=>((Y j hj).1).symm),Step.blank hb ((R.trans E).trans T) λj hj=>((Y j hj).1).symm⟩;exact((W.mono x).mono z |>.mono (T.ext D)).append (.cons r5' .nil);cases f;rename_i hbf;dsimp only;rw[a4z hbf];refine⟨_,by lia,rfl,u,cT ow C,don,dD,f,n,by lia,(W.mono x).mono z,D.blank (by rw[l3]) (λj hj=>((Y j hj).1).symm),Step.blank hb (R.trans E) λj hj=>((Y j hj).1).symm⟩
 ·have e0:i=items.length:=by lia
  subst e0;rw[List.drop_length]at f;cases f;rw[a6f]at n;subst n;refine .inl ⟨A.stop d hP,λp hp=>?_⟩;obtain⟨U,V⟩:=tY I okw M;have B:tM d (upd d p (.lst ys)):=bE hp;have nw:xW d (upd d p (.lst ys)) (.own (.lst don)) (.ref p):=⟨p,rfl,hp,ys,aQ,W.mono (.same B)⟩;exact k _ _ (U.same B) (nw.res U) ((K.trans V).trans (.same B)) (nw.frh.back (K.trans V))
def bT{X:Cx}{ow:List Nat}{ex:Expr}{ri:DI}{g:TG}{a:DG}{t:DT}{e:DE}(b:bE3 ow g a)(h:∀ Γ,PE X ex (aN2 ow (dTI Γ ri) g (dTT Γ t) (dTE Γ e))):GE X ex (dJ ow ri a t e):=.mk λΓ=>peW (h Γ) λ_ _ _=>wH b
def bO{X:Cx}{Γ:Gm}:bM3 X [] (dTT Γ fR):=λpins s σ H Q I ⟨a,ok,b,σ',e,k⟩=>bB7 pins s σ H Q I (by cases e;exact k H ok .refl)
def jX{X:Cx}{Γ:Gm}{c:Expr}{t:DT}(h:GT X c t):bM3 X [c] (dTT Γ t):=bB8 (h.to Γ)
def mZ{X:Cx}{E:Ex}{ow:List Nat}{i:Nat}{st:Stmt}{ri:DI}{g:TG}{a:DG}{t:DT}{e:DE}(b:bE3 ow g a)(h:∀ Γ,PS X st (λD σ H=>aN2 ow (dTI Γ ri) g (dTT Γ t) (dTE Γ e) σ H λv c=>D.nx (σ.set i (some v)) c)):GS E X st (fA i (dJ ow ri a t e)):=.mk λΓ=>psW (h Γ) λD σV H h=>wH b (tW h)
abbrev Run:=List Sl->Option (Res×List Sl)
structure ArgOk(H:Hp)(as:List Sl)(vs:List V):Prop where
 len:as.length=vs.length
 rel:∀ (i:Nat) s,as[i]? = some s->∃ v,vs[i]? = some v/\bD8 H s v
 dis:∀ (i j:Nat) s t p,i≠j->as[i]? = some s->as[j]? = some t->s.m.mt=true->t.m≠.val->vs[i]? = some (.ref p)->vs[j]? = some (.ref p)->False
 own:∀ (i:Nat) s,as[i]? = some s->s.m≠.own
def cL9(as:List Sl)(vs:List V)(a:Addr):Prop:=∃ (i:Nat) (s:Sl),as[i]? = some s/\s.m.mt=true/\vs[i]? = some (.ref a)
structure PostOk(as:List Sl)(vs:List V)(H:Hp)(as':List Sl)(H':Hp):Prop where
 rel:∀ (i:Nat) s,as[i]? = some s->s.m.mt=true->∃ s' v,as'[i]? = some s'/\s'.m=s.m/\vs[i]? = some v/\bD8 H' s' v
 fr:∀ a o,H a=some o->¬ cL9 as vs a->H' a=some o
 dom:∀ a,H' a=none->H a=none
def dsp(n:Nat)(run:Run):Sp:=λvs H Q _=>∃ as res as',ArgOk H as vs/\as.length=n/\run as=some (res,as')/\∀ v H',PostOk as vs H as' H'->xW H H' res v->Q v H'
noncomputable def cS9(σ:Sg):Res->Option Res
 | .val d=>some (.val d)
 | .own d=>some (.own d)
 | .slot i=>match σ[i]? with
   | some (some s)=>if s.m=.own then some (.own s.d)else if s.m=.val then some (.val s.d)else none
   | _=>none
noncomputable def qY:List Sl->Sg->List Sl
 | [],_=>[]
 | a::as,some s::σ=>(if a.m=.val then a else s)::qY as σ
 | a::as,_::σ=>a::qY as σ
 | a::as,[]=>a::as
noncomputable def ini(len:Nat)(as:List Sl):Sg:=as.map some++List.replicate (len-as.length) none
noncomputable def iX(len:Nat)(a:DS):Run:=λas=>(a (ini len as)).bind λo=>match o with
 | .nx σ=>some (.val .non,qY as σ)
 | .rt r σ=>(cS9 σ r).bind λb=>some (b,qY as σ)
 | _=>none
def kQ{len:Nat}{as:List Sl}{i:Nat}{s:Sl}:(ini len as)[i]? = some (some s)↔as[i]? = some s:=by
 unfold ini;by_cases h:i < as.length;rw[a4c (by simpa using h),a8b];cases as[i]? <;> simp;rw[a4b (by simpa using h),List.getElem?_replicate,a6d.mpr (by lia)];split<;>simp
def gN{N:List Str}{vs:List V}{i:Nat}{v:V}:(L2.iT N vs)[i]? = some (some v)↔vs[i]? = some v:=by
 unfold L2.iT;by_cases h:i < vs.length;rw[a4c (by simpa using h),a8b];cases vs[i]? <;> simp;rw[a4b (by simpa using h),List.getElem?_replicate,a6d.mpr (by lia)];split<;>simp
theorem aB2:∀ {as:List Sl} {σ:Sg} {i:Nat} {a s:Sl},as[i]? = some a->σ[i]? = some (some s)->(qY as σ)[i]? = some (if a.m=.val then a else s)
 | [],_,_,_,_,h,_=>by simp at h
 | _::_,[],_,_,_,_,h=>by simp at h
 | a::as,o::σ,0,b,s,h,h'=>by
   simp at h h';subst h h';unfold qY;simp
 | a::as,o::σ,i+1,b,s,h,h'=>by
   have:=aB2 (as:=as) (σ:=σ) (i:=i) (a:=b) (s:=s) (by simpa using h) (by simpa using h');cases o<;>(unfold qY;simpa using this)
section
variable{P:Program}{w:World}{K:W.Frag}{mg:Str->Option Value}{base:Heap}
abbrev MS:=Sg->(Out->Prop)->Prop
abbrev MC:=List Sl->(Res->List Sl->Prop)->Prop
def dN5(m:MS):Prop:=∀ σ (Q a:Out->Prop),(∀ o,Q o->a o)->m σ Q->m σ a
def mTS(Γ:Gm)(E:Ex)(m:MS):TS:=λD σV H=>∃ σ,StOk Γ H σ σV/\m σ λo=>aP2 Γ E σ σV H o D
def dN6(n:Nat)(C:MC):Sp:=λvs H Q _=>∃ as,ArgOk H as vs/\as.length=n/\C as λres as'=>∀ v H',PostOk as vs H as' H'->xW H H' res v->Q v H'
def dN7(as:List Sl)(K:Res->List Sl->Prop)(o:Out):Prop:=match o with
 | .nx σ=>K (.val .non) (qY as σ)
 | .rt r σ=>∃ a,cS9 σ r=some a/\K a (qY as σ)
 | _=>False
def dN8(len:Nat)(m:MS):MC:=λas K=>m (ini len as) (dN7 as K)
def cF1{x qual:Str}{st:Stmt}{f:Addr}{fd:FuncData}{N ps:List Str}{k:Nat}(F:Fun K x qual st f fd)(S:FnScope N ps (aJ st))(R:ps.length<=N.length)(m:MS)(hm:dN5 m)
  (hb:∀ (cdv:Value) (A:Around) (outer:List Env) (s:Shared) (H:Hp) (E:XK),Room k (A.deeper (PyProof.Rows.envOfC qual (aJ st) s.heap.objs.size f cdv))->∀ Γ,PSs (bM0 CX0 P w K mg base N qual (aJ st) f cdv A outer s H E).nox (mU st) (mTS Γ Ex.no m)) :
  FnOk P w K mg base CX0 (k+1) f fd ps (dN6 ps.length (dN8 N.length m)):=by
 refine F.ok S (λvs H Q E Z1=>by obtain⟨as,ok,J,_⟩:=Z1;rw[← ok.len];exact J) λcdv A outer s H vs Q E T h=>?_;obtain⟨as,ok,J,h⟩:=h;refine⟨_,hb cdv A outer s H E T ⟨H,cL9 as vs⟩,ini N.length as,?_,hm _ _ _ (λo k=>?_) h⟩;refine⟨λi s e=>?_,λi j s t p n l G m m' e U=>?_,λi s p l m=>?_,λi s p l m e=>?_,λa o e _=>e,λa e=>e,?_⟩;obtain⟨v,y,r⟩:=ok.rel i s (kQ.mp e);exact⟨v,gN.mpr y,r⟩;exact ok.dis i j s t p n (kQ.mp l) (kQ.mp G) m m' (gN.mp e) (gN.mp U);exact absurd m (ok.own i s (kQ.mp l));exact⟨i,s,kQ.mp l,by rw[m];rfl,gN.mp e⟩;unfold ini L2.iT;have:=ok.len;simp;lia;have u:∀ σ σV' H',StOk ⟨H,cL9 as vs⟩ H' σ σV'->Step (ini N.length as) (L2.iT N vs) H σ σV' H'->PostOk as vs H (qY as σ) H':=λσ σV' H' b st'=>by
  have V:∀ a,iU (ini N.length as) (L2.iT N vs) a->cL9 as vs a:=λa ⟨j,t,G,m,W⟩=>⟨j,t,kQ.mp G,m,gN.mp W⟩;refine⟨λi a l m=>?_,λa o e n=>st'.fr a o e λz=>n (V a z),st'.dom⟩;have L:a.m=.par:=by
   have h0:=ok.own i a l;cases q:a.m with
   | par=>rfl
   | own=>exact absurd q h0
   | val=>rw[q]at m;cases m
   | lent=>rw[q]at m;cases m
  obtain⟨s',es,X,_,C⟩:=st'.fix i a (kQ.mpr l) (.inl L);obtain⟨v,y,r⟩:=b.rel i s' es;obtain⟨Y,M,_⟩:=ok.rel i a l;have:some (some v)=some (some Y):=by rw[← y,C];exact gN.mpr M
  cases this;refine⟨s',v,?_,X,M,r⟩;rw[aB2 l es,a4z (by rw[L];exact λz=>nomatch z)]
 cases o with
 | nx σ=>
   exact λσV' H' b st'=>k .non H' (u σ σV' H' b st') .non
 | rt r σ=>
   obtain⟨res,y,k⟩:=k;intro v σV' H' b I st';refine k v H' (u σ σV' H' b st') ?_;cases r with
   | val d=>cases y;exact I
   | own d=>
     cases y;obtain⟨p,D,B,q3,Z⟩:=I;exact⟨p,D,Z,B⟩
   | slot i=>
     obtain⟨D,s',B⟩:=I;have g:(match σ[i]? with | some (some s)=>if s.m=.own then some (Res.own s.d)else if s.m=.val then some (.val s.d)else none | _=>none)=some res:=y;rw[B]at g;dsimp only at g;obtain⟨v',C,O⟩:=b.rel i s' B;rw[D]at C;cases C;split at g
     ·rename_i hm;cases g;obtain⟨p,rfl,ow⟩:=(cV (by rw[hm];exact λz=>nomatch z)).mp O;exact⟨p,rfl,b.own i s' p B hm D,ow⟩
     ·split at g;rename_i hm;cases g;obtain⟨m,d⟩:=s';cases hm;exact O;cases g
 | bk σ=>exact k.elim
 | ct σ=>exact k.elim
 | ex c f σ=>exact k.elim
def aZ{x qual:Str}{st:Stmt}{f:Addr}{fd:FuncData}{N ps:List Str}{k:Nat}(F:Fun K x qual st f fd)(S:FnScope N ps (aJ st))(d:ps.length<=N.length)(b:DS)
  (hb:∀ (cdv:Value) (A:Around) (outer:List Env) (s:Shared) (H:Hp) (E:XK),Room k (A.deeper (PyProof.Rows.envOfC qual (aJ st) s.heap.objs.size f cdv))->GSs Ex.no (bM0 CX0 P w K mg base N qual (aJ st) f cdv A outer s H E).nox (mU st) b) :
  FnOk P w K mg base CX0 (k+1) f fd ps (dsp ps.length (iX N.length b)):=
 (cF1 F S d (λσ Q=>∃ o,b σ=some o/\Q o) (λσ Q l w ⟨o,e,q⟩=>⟨o,e,w o q⟩) λcdv A outer s H E g Γ=>cS1 ((hb cdv A outer s H E g).to Γ) λD σV H ⟨σ,ok,o,e,q⟩=>⟨σ,ok,o,e,q⟩).imp
  λvs H Q E ⟨as,res,as',ok,h,a,k⟩=>by
   obtain⟨o,i,a⟩:=bind_some a;refine⟨as,ok,h,o,i,?_⟩;cases o with
   | nx σ=>cases a;exact k
   | rt r σ=>
     obtain⟨m,j,a⟩:=bind_some a;cases a;exact⟨_,j,k⟩
   | bk σ=>cases a
   | ct σ=>cases a
   | ex c f σ=>cases a
end
noncomputable def yP(σ:Sg):Res->Option Sl
 | .val d=>some ⟨.val,d⟩
 | .own d=>some ⟨.par,d⟩
 | .slot i=>match σ[i]? with
   | some (some s)=>some ⟨if s.m.mt=true then .par else s.m,s.d⟩
   | _=>none
noncomputable def sA(σ:Sg):List Res->Option (List Sl)
 | []=>some []
 | r::rs=>(yP σ r).bind λa=>(sA σ rs).bind λas=>some (a::as)
noncomputable def bF0(i:Nat):List Res->Bool
 | []=>false
 | .slot j::rs=>decide (i=j)||bF0 i rs
 | _::rs=>bF0 i rs
noncomputable def eW:List Res->Bool
 | []=>true
 | .slot i::rs=>!bF0 i rs&&eW rs
 | _::rs=>eW rs
noncomputable def jF(j:Nat):List Res->List Sl->Option Sl
 | .slot i::rs,a::as=>if i=j then some a else jF j rs as
 | _::rs,_::as=>jF j rs as
 | _,_=>none
noncomputable def iW(rs:List Res)(as:List Sl):Nat->Sg->Sg
 | _,[]=>[]
 | k,some s::σ=>(match jF k rs as with
   | some a=>some (if s.m.mt=true then⟨s.m,a.d⟩else s)
   | none=>some s)::iW rs as (k+1) σ
 | k,none::σ=>none::iW rs as (k+1) σ
noncomputable def bI(n:Nat)(run:Run)(a:DA):DE:=λσ=>(a σ).bind λx=>(sA x.2 x.1).bind λas=>if as.length=n/\eW x.1=true then(run as).bind λy=>some (y.1,iW x.1 y.2 0 x.2)else none
theorem sC{σ:Sg}:∀ {rs:List Res} {as:List Sl},sA σ rs=some as->as.length=rs.length/\∀ (k:Nat) r,rs[k]? = some r->∃ a,as[k]? = some a/\yP σ r=some a
 | [],as,h=>by cases h;exact⟨rfl,λk r e=>by simp at e⟩
 | r::rs,as,h=>by
   obtain⟨a,b,h⟩:=bind_some h;obtain⟨as',c,h⟩:=bind_some h;cases h;obtain⟨l,g⟩:=sC c;refine⟨by simp[l],λk d e=>?_⟩;cases k with
   | zero=>simp at e;subst e;exact⟨a,rfl,b⟩
   | succ k=>
     obtain⟨f,i,j⟩:=g k d (by simpa using e);exact⟨f,by simpa using i,j⟩
theorem ResOks.get{Γ:Gm}{H:Hp}{σ:Sg}{σV:St}:∀ {rs:List Res} {vs:List V},ResOks Γ H σ σV rs vs->rs.length=vs.length/\∀ (k:Nat) r,rs[k]? = some r->∃ v,vs[k]? = some v/\jC Γ H σ σV r v
 | _,_,.nil=>⟨rfl,λk r e=>by simp at e⟩
 | _,_,.cons h t _=>by
   obtain⟨l,g⟩:=ResOks.get t;refine⟨by simp[l],λk a e=>?_⟩;cases k with
   | zero=>simp at e;subst e;exact⟨_,rfl,h⟩
   | succ k=>
     obtain⟨b,c,d⟩:=g k a (by simpa using e);exact⟨b,by simpa using c,d⟩
theorem ResOks.dis{Γ:Gm}{H:Hp}{σ:Sg}{σV:St}:∀ {rs:List Res} {vs:List V},ResOks Γ H σ σV rs vs->∀ (k l:Nat) d d' p,k < l->rs[k]? = some (.own d)->rs[l]? = some (.own d')->vs[k]? = some (.ref p)->vs[l]? ≠ some (.ref p)
 | _,_,.nil,k,l,d,d',p,_,e,_,_=>by simp at e
 | _,_,.cons h t q,k,l,d,d',p,b,e,a,ev=>by
   cases l with
   | zero=>lia
   | succ l=>
     cases k with
     | zero=>
       simp at e ev;subst e ev;intro z;exact q d p rfl rfl l d' (by simpa using a) (by simpa using z)
     | succ k=>
       intro z;exact ResOks.dis t k l d d' p (by lia) (by simpa using e) (by simpa using a) (by simpa using ev) (by simpa using z)
theorem oZ{i:Nat}:∀ {rs:List Res} {k:Nat},rs[k]? = some (.slot i)->bF0 i rs=true
 | [],_,h=>by simp at h
 | r::rs,0,h=>by simp at h;subst h;simp[bF0]
 | r::rs,k+1,h=>by
   have:=oZ (rs:=rs) (k:=k) (by simpa using h);cases r<;>simp[bF0,this]
theorem nA:∀ {rs:List Res},eW rs=true->∀ (k l i:Nat),rs[k]? = some (.slot i)->rs[l]? = some (.slot i)->k=l
 | [],_,k,l,i,h,_=>by simp at h
 | r::rs,hn,k,l,i,h,h'=>by
   cases k with
   | zero=>
     cases l with
     | zero=>rfl
     | succ l=>
       simp at h;subst h;unfold eW at hn;rw[a3c]at hn;rw[oZ (k:=l) (by simpa using h')]at hn;simp at hn
   | succ k=>
     cases l with
     | zero=>
       simp at h';subst h';unfold eW at hn;rw[a3c]at hn;rw[oZ (k:=k) (by simpa using h)]at hn;simp at hn
     | succ l=>
       have a:eW rs=true:=by
        cases r with
        | slot j=>unfold eW at hn;rw[a3c]at hn;exact hn.2
        | val d=>exact hn
        | own d=>exact hn
       exact a4V Nat.succ (nA a k l i (by simpa using h) (by simpa using h'))
theorem fC{j:Nat}:∀ {rs:List Res} {as:List Sl} {a:Sl},jF j rs as=some a->∃ k:Nat,rs[k]? = some (.slot j)/\as[k]? = some a
 | [],_,_,h=>by simp[jF]at h
 | r::rs,[],_,h=>by cases r<;>simp[jF]at h
 | r::rs,a::as,b,h=>by
   cases r with
   | slot i=>
     have h':(if i=j then some a else jF j rs as)=some b:=h;split at h';rename_i e;cases h';subst e;exact⟨0,rfl,rfl⟩
     ·obtain⟨k,c,f⟩:=fC h';exact⟨k+1,by simpa using c,by simpa using f⟩
   | val d=>obtain⟨k,c,f⟩:=fC (rs:=rs) (as:=as) h;exact⟨k+1,by simpa using c,by simpa using f⟩
   | own d=>obtain⟨k,c,f⟩:=fC (rs:=rs) (as:=as) h;exact⟨k+1,by simpa using c,by simpa using f⟩
noncomputable def lM(rs:List Res)(as:List Sl)(k:Nat)(o:Option Sl):Option Sl:=match o with
 | some s=>(match jF k rs as with
   | some a=>some (if s.m.mt=true then⟨s.m,a.d⟩else s)
   | none=>some s)
 | none=>none
theorem jG{rs:List Res}{as:List Sl}:∀ (k:Nat) (σ:Sg) (j:Nat),(iW rs as k σ)[j]? = (σ[j]?).map (lM rs as (k+j))
 | _,[],_=>by simp[iW]
 | k,o::σ,0=>by cases o<;>simp[iW,lM]
 | k,o::σ,j+1=>by
   have:=jG (rs:=rs) (as:=as) (k+1) σ j;have e:k+1+j=k+(j+1):=by lia
   rw[e]at this;cases o<;>simpa[iW]using this
theorem oF{rs:List Res}{as:List Sl}:∀ (k:Nat) (σ:Sg),(iW rs as k σ).length=σ.length
 | _,[]=>rfl
 | k,o::σ=>by cases o<;>simp[iW,oF (k+1) σ]
def aP5{Γ:Gm}{σ c:Sg}{rs:List Res}{as:List Sl}{σV:St}{H Z:Hp}{vs:List V}(e2:sA c rs=some as)(hc:eW rs=true)(w:StOk Γ Z c σV)(r1:ResOks Γ Z c σV rs vs)(C:Step σ σV H c σV Z)
  (f1:∀ (j:Nat) d p,rs[j]? = some (.own d)->vs[j]? = some (.ref p)->H p=none) :
  ArgOk Z as vs/\∀ r as' v H2,PostOk as vs Z as' H2->xW Z H2 r v->StOk Γ H2 (iW rs as' 0 c) σV/\jC Γ H2 (iW rs as' 0 c) σV r v/\Step σ σV H (iW rs as' 0 c) σV H2/\Frh H r v:=by
 obtain⟨la,ga⟩:=sC e2;obtain⟨lv,gv⟩:=r1.get;have O:∀ (i:Nat) a,as[i]? = some a->∃ r v,rs[i]? = some r/\yP c r=some a/\vs[i]? = some v/\jC Γ Z c σV r v:=λi a x=>by
  have hi:i < rs.length:=by rw[← la];exact(a0a.mp x).1
  have P:rs[i]? = some rs[i]:=a1a hi;obtain⟨a',Q,h2⟩:=ga i _ P;rw[x]at Q;cases Q;obtain⟨v,h3,h4⟩:=gv i _ P;exact⟨_,v,P,h2,h3,h4⟩
 have f:∀ i a,yP c (.slot i)=some a->∃ s,c[i]? = some (some s)/\a=⟨if s.m.mt=true then .par else s.m,s.d⟩:=λi a x=>by
  have X:(match c[i]? with | some (some s)=>some (⟨if s.m.mt=true then .par else s.m,s.d⟩:Sl) | _=>none)=some a:=x;split at X
  ·rename_i s hs;cases X;exact⟨s,hs,rfl⟩
  ·cases X
 -- an argument that may change: new,or owned here
 have K:∀ a,cL9 as vs a->iU c σV a\/(H a=none/\¬ aA8 c σV a/\Γ.H₀ a=none):=λa ⟨i,s,R,m,F⟩=>by
  obtain⟨r,v,P,x,D,L⟩:=O i s R;rw[F]at D;cases D;cases r with
  | val d=>cases x;cases m
  | own d=>
    obtain⟨p,B,S,Y,q4⟩:=L;cases B;exact .inr ⟨f1 i d a P F,Y,q4⟩
  | slot j=>
    obtain⟨s',hs,rfl⟩:=f j s x;obtain⟨B,_⟩:=L;refine .inl ⟨j,s',hs,?_,B⟩;by_cases hm:s'.m.mt=true;exact hm;simp only[hm]at m;exact absurd m hm
 have I:ArgOk Z as vs:=by
  refine⟨by rw[la,lv],λi a R=>?_,λi j s t p nij R g m m' F D=>?_,λi a R=>?_⟩
  ·obtain⟨r,v,P,x,F,L⟩:=O i a R;refine⟨v,F,?_⟩;cases r with
   | val d=>cases x;exact L
   | own d=>cases x;obtain⟨p,B,S,_⟩:=L;exact⟨p,B,S⟩
   | slot j=>
     obtain⟨s',hs,rfl⟩:=f j a x;obtain⟨B,_⟩:=L;obtain⟨v',e4,r4⟩:=w.rel j s' hs;rw[B]at e4;cases e4;by_cases hm:s'.m.mt=true;simp only[hm,if_true];exact(cV (s:=⟨.par,s'.d⟩) (λz=>nomatch z)).mpr ((cV (fP hm)).mp r4);simp only[hm];exact r4
  ·obtain⟨r,v,P,x,T,L⟩:=O i s R;obtain⟨r2,v2,er2,ea2,ev2,rv2⟩:=O j t g;rw[F]at T;cases T;rw[D]at ev2;cases ev2;have E:∀ l a,yP c (.slot l)=some a->a.m≠.val->∃ s,c[l]? = some (some s)/\s.m≠.val/\(a.m.mt=true->s.m.mt=true):=λl a x hm=>by
    obtain⟨s',hs,rfl⟩:=f l a x;refine⟨s',hs,?_,?_⟩;intro z;simp only[z,Md.mt]at hm;exact hm rfl;intro z;by_cases U:s'.m.mt=true;exact U;simp only[U]at z;exact z
   cases r with
   | val d=>cases x;cases m
   | own d=>
     obtain⟨q,B,S,Y,q4⟩:=L;cases B;cases r2 with
     | val d=>cases ea2;exact m' rfl
     | own d2=>
       rcases Nat.lt_or_gt_of_ne nij with z | z;exact r1.dis i j d d2 p z P er2 F D
       ·exact r1.dis j i d2 d p z er2 P D F
     | slot l=>
       obtain⟨s',hs,U,_⟩:=E l t ea2 m';exact Y ⟨l,s',hs,U,rv2.1⟩
   | slot l=>
     obtain⟨s',hs,U,hmt⟩:=E l s x (fP m);cases r2 with
     | val d=>cases ea2;exact m' rfl
     | own d2=>
       obtain⟨q,B,S,Y,q4⟩:=rv2;cases B;exact Y ⟨l,s',hs,U,L.1⟩
     | slot l2=>
       obtain⟨s2,hs2,hm2,_⟩:=E l2 t ea2 m';refine w.dis l l2 s' s2 p (λz=>?_) hs hs2 (hmt m) hm2 L.1 rv2.1;subst z;exact nij (nA hc i j l P er2)
  ·obtain⟨r,v,P,x,T,L⟩:=O i a R;cases r with
   | val d=>cases x;exact λz=>nomatch z
   | own d=>cases x;exact λz=>nomatch z
   | slot j=>
     obtain⟨s',hs,rfl⟩:=f j a x;intro z;by_cases hm:s'.m.mt=true;simp only[hm,if_true]at z;cases z;simp only[hm]at z;have z':s'.m=.own:=z;rw[z']at hm;exact hm rfl
 refine⟨I,λr as' v H2 po nw=>?_⟩;have extA:Ext Z H2:=by
  refine⟨λp xs h=>po.fr p _ h λz=>?_,λp o u h=>po.fr p _ h λz=>?_⟩;obtain⟨i,s,R,m,F⟩:=z;obtain⟨v,e4,r4⟩:=I.rel i s R;rw[F]at e4;cases e4;obtain⟨q,eq,ow⟩:=(cV (fP m)).mp r4;cases eq;obtain⟨o,ho,n1,_⟩:=ow.obj;rw[h]at ho;cases ho;exact n1 _ rfl;obtain⟨i,s,R,m,F⟩:=z;obtain⟨v,e4,r4⟩:=I.rel i s R;rw[F]at e4;cases e4;obtain⟨q,eq,ow⟩:=(cV (fP m)).mp r4;cases eq;obtain⟨o',ho,_,n1⟩:=ow.obj;rw[h]at ho;cases ho;exact n1 _ _ rfl
 have back:∀ (j:Nat) t,(iW rs as' 0 c)[j]? = some (some t)->∃ s,c[j]? = some (some s)/\t.m=s.m/\(t=s\/(s.m.mt=true/\∃ (k:Nat) (a:Sl),rs[k]? = some (.slot j)/\as'[k]? = some a/\t=⟨s.m,a.d⟩)):=λj t g=>by
  rw[jG,a9e]at g;cases q:c[j]? with
  | none=>rw[q]at g;cases g
  | some o=>
    rw[q]at g;cases o with
    | none=>cases g
    | some s=>
      have A:lM rs as' j (some s)=some t:=a4a g;unfold lM at A;refine⟨s,rfl,?_⟩;dsimp only at A;split at A;rename_i a ha;obtain⟨W,Q,h2⟩:=fC ha;have M:=a4a A;by_cases hm:s.m.mt=true;rw[a4A hm]at M;subst M;exact⟨rfl,.inr ⟨hm,W,a,Q,h2,rfl⟩⟩;rw[a4z hm]at M;subst M;exact⟨rfl,.inl rfl⟩;cases A;exact⟨rfl,.inl rfl⟩
 have fwd:∀ (j:Nat) s,c[j]? = some (some s)->∃ t,(iW rs as' 0 c)[j]? = some (some t)/\t.m=s.m/\(s.m.mt=false->t=s):=λj s g=>by
  rw[jG,a9e,g];show ∃ t,some (lM rs as' j (some s))=some (some t)/\_;unfold lM;dsimp only;split;refine⟨_,rfl,?_,λz=>?_⟩;split<;>rfl;rw[a4z (by rw[z];exact a9c)];exact⟨s,rfl,rfl,λ_=>rfl⟩
 -- a slot that is handed in by no argument that may change
 have quiet:∀ (j:Nat) s t p,c[j]? = some (some s)->(iW rs as' 0 c)[j]? = some (some t)->t=s->s.m≠.val->σV[j]? = some (some (.ref p))->(∀ k:Nat,s.m.mt=true->rs[k]? ≠ some (.slot j))->¬ cL9 as vs p:=by
  intro j s t p hs _ _ hm F hno ⟨i,a,R,m,evi⟩;obtain⟨r,v,P,x,T,L⟩:=O i a R;rw[evi]at T;cases T;cases r with
  | val d=>cases x;cases m
  | own d=>
    obtain⟨q,B,S,Y,q4⟩:=L;cases B;exact Y ⟨j,s,hs,hm,F⟩
  | slot l=>
    obtain⟨s',G,rfl⟩:=f l a x;have hmt:s'.m.mt=true:=by
     by_cases h':s'.m.mt=true;exact h';simp only[h']at m;exact absurd m h'
    by_cases z:l=j;subst z;rw[hs]at G;cases G;exact hno i hmt P;exact w.dis l j s' s p z G hs hmt hm L.1 F
 have okB:StOk Γ H2 (iW rs as' 0 c) σV:=by
  refine⟨λj t g=>?_,λj l t t' q n g el m m' eq eq'=>?_,λj t q g m eq=>?_,λj t q g m eq=>?_,λa o e n=>?_,λa e=>w.dom a (po.dom a e),by rw[oF];exact w.len⟩
  ·obtain⟨s,hs,N,hc'⟩:=back j t g;obtain⟨w',ew,rw'⟩:=w.rel j s hs;refine⟨w',ew,?_⟩;by_cases J:s.m.mt=true/\∃ W:Nat,rs[W]? = some (.slot j)
   ·obtain⟨hm,W,hk'⟩:=J;obtain⟨a,ha,hao⟩:=ga W _ hk';obtain⟨v',hv',rv'⟩:=gv W _ hk';have D:σV[j]? = some (some v'):=rv'.1;rw[ew]at D;cases D;obtain⟨s',G,X⟩:=f j a hao;rw[hs]at G;cases G;have am:a.m=.par:=by rw[X,a4A hm]
    obtain⟨a2,w2,Q,h2,h3,h4⟩:=po.rel W a ha (by rw[am];rfl);rw[hv']at h3;cases h3;have ht:t=⟨s.m,a2.d⟩:=by
     rw[jG,a9e,hs]at g;have A:lM rs as' j (some s)=some t:=a4a g;unfold lM at A;dsimp only at A;split at A;rename_i b hb;obtain⟨k2,B,S⟩:=fC hb;obtain rfl:=nA hc k2 W j B hk';rw[Q]at S;cases S;have:=a4a A;rw[a4A hm]at this;exact this.symm;rename_i hb
     -- no argument at all: the lists part in length
     exfalso;have:∀ {rs:List Res} {as:List Sl} {kk:Nat} {a:Sl},rs[kk]? = some (.slot j)->as[kk]? = some a->jF j rs as≠none:=by
      intro rs
      induction rs with
      | nil=>intro as kk a h;simp at h
      | cons r rs ih=>
        intro as kk a h h';cases as with
        | nil=>simp at h'
        | cons b as=>
          cases kk with
          | zero=>simp at h;subst h;simp[jF]
          | succ kk=>
            have:=ih (as:=as) (kk:=kk) (a:=a) (by simpa using h) (by simpa using h');cases r with
            | slot i=>simp only[jF];split;exact λz=>nomatch z;exact this
            | val d=>exact this
            | own d=>exact this
     exact this hk' Q hb
    subst ht;have h5:=(cV (s:=a2) (by rw[h2,am];exact λz=>nomatch z)).mp h4;exact(cV (s:=⟨s.m,a2.d⟩) (fP hm)).mpr h5
   ·have ht:t=s:=by
     rcases hc' with h | ⟨hm,W,a,Q,_⟩;exact h;exact absurd ⟨hm,W,Q⟩ J
    rw[ht];refine rw'.mono extA λp o ep m hp=>po.fr p o hp ?_;exact quiet j s t p hs g ht m (by rw[ew,ep]) λW hm hk=>J ⟨hm,W,hk⟩
  ·obtain⟨s,hs,N,_⟩:=back j t g;obtain⟨s',G,mm',_⟩:=back l t' el;exact w.dis j l s s' q n hs G (by rw[← N];exact m) (by rw[← mm'];exact m') eq eq'
  ·obtain⟨s,hs,N,_⟩:=back j t g;exact w.own j s q hs (N.symm.trans m) eq
  ·obtain⟨s,hs,N,_⟩:=back j t g;exact w.par j s q hs (N.symm.trans m) eq
  ·refine po.fr a o (w.keep a o e n) λz=>?_;rcases K a z with⟨j,s,hs,m,F⟩ | ⟨_,_,z0⟩
   ·cases hq:s.m with
    | own=>rw[w.own j s a hs hq F]at e;cases e
    | par=>exact n (w.par j s a hs hq F)
    | val=>rw[hq]at m;cases m
    | lent=>rw[hq]at m;cases m
   ·rw[z0]at e;cases e
 have stB:Step σ σV H (iW rs as' 0 c) σV H2:=by
  refine⟨λa o e n=>?_,λa e=>C.dom a (po.dom a e),λa ⟨j,t,g,m,x⟩=>?_,λa ⟨j,t,g,m,x⟩=>?_,λj t g=>?_,λj t g m=>?_,λj t g m=>?_⟩
  ·refine po.fr a o (C.fr a o e n) λz=>?_;rcases K a z with y | ⟨y,_⟩;rcases C.mu a y with y | y;exact n y;rw[e]at y;cases y;rw[e]at y;cases y
  ·obtain⟨s,hs,N,_⟩:=back j t g;exact C.mu a ⟨j,s,hs,by rw[← N];exact m,x⟩
  ·obtain⟨s,hs,N,_⟩:=back j t g;exact C.nv a ⟨j,s,hs,by rw[← N];exact m,x⟩
  ·obtain⟨s,hs⟩:=C.kp j t g;obtain⟨t',Q,_⟩:=fwd j s hs;exact⟨t',Q⟩
  ·obtain⟨s,hs,B,S,Y⟩:=C.fix j t g m;obtain⟨t',Q,h2,h3⟩:=fwd j s hs;refine⟨t',Q,h2.trans B,λz=>?_,Y⟩;rw[h3 (by rw[B,z];rfl)];exact S z
  ·obtain⟨s,hs,N,_⟩:=back j t g;exact C.lt j s hs (N.symm.trans m)
 refine⟨okB,?_,stB,nw.frh.back C⟩;cases r with
 | val d=>exact nw
 | own d=>
   obtain⟨p,B,S,Y⟩:=nw;refine⟨p,B,Y,λZ0=>?_,w.dom p S⟩;obtain⟨j,t,g,m,x⟩:=Z0;obtain⟨s,hs,N,_⟩:=back j t g;obtain⟨o,ho,_⟩:=w.mutObj ⟨j,s,hs,by rw[← N];exact m,x⟩;rw[S]at ho;cases ho
 | slot i=>exact nw.elim
def aP6{Γ:Gm}{n:Nat}{run:Run}{g:DA}{E:XK}{σV:St}{H:Hp}{Q:VK}(h:dTE Γ (bI n run g) σV H Q):cB5 (dsp n run) [] E (dTA Γ g) σV H Q:=by
 obtain⟨σ,ok,res,σ',e,k⟩:=h;obtain⟨⟨rs,a⟩,l,e⟩:=bind_some e;obtain⟨as,i,e⟩:=bind_some e;dsimp only at e;split at e
 case isFalse=>cases e
 case isTrue b=>
 obtain⟨⟨r,as'⟩,m,e⟩:=bind_some e;cases e;dsimp only at i b k;refine⟨σ,ok,rs,a,l,λvs o d p f q=>?_⟩;show dsp n run (vs++[]) o Q E;rw[a6f];obtain⟨s,c⟩:=aP5 i b.2 d p f q;refine⟨as,r,as',s,b.1,m,λv j po t=>?_⟩;obtain⟨u,w,x,y⟩:=c r as' v j po t;exact k v j u w x y
def aM{X:Cx}{e:Expr}{n:Nat}{run:Run}{a:DA}{E:XK}(h:∀ Γ,PE X e (cB5 (dsp n run) [] E (dTA Γ a))):GE X e (bI n run a):=.mk λΓ=>peW (h Γ) λ_ _ _=>aP6
section
variable{X:Cx}
def rG(i j:Int):Prop:=cP2 i j\/(Builtin.Int.intBits i<=2 ^ 20/\Builtin.Int.intBits j<=2 ^ 20)
theorem rG.ok{i j:Int}(h:rG i j):IntMulOk i j:=by
 rcases h with h | h;exact h.ok;exact IntMulOk.of_bits h.1 h.2
def cF2:OpR X (binaryOp .Mult) (rI rG λi j=>.int (i*j)):=opI λ_ _ _ _ _ _ _ a q=>PyProof.Rows.mul_int q a.ok
end
noncomputable section
open Classical
noncomputable def ii(f:Int->Int->D):F2:=λd e=>match d,e with
 | .int i,.int j=>some (.val (f i j))
 | _,_=>none
noncomputable def iiC(C:Int->Int->Prop)(f:Int->Int->D):F2:=λd e=>match d,e with
 | .int i,.int j=>if C i j then some (.val (f i j))else none
 | _,_=>none
noncomputable def iu(f:Int->D):F1:=λd=>match d with
 | .int i=>some (.val (f i))
 | _=>none
end
def aB3{g:Int->Int->V}{f:Int->Int->D}(h:∀ H i j,Rp H (f i j) (g i j)):kB (rI0 g) (ii f):=by
 intro H c d x y Q res a b e k;unfold ii at e;split at e;cases e;obtain rfl:=cC a;obtain rfl:=cC b;exact⟨_,_,rfl,rfl,k _ H (.refl _) (h H _ _)⟩;cases e
def yQ{C:Int->Int->Prop}{g:Int->Int->V}{f:Int->Int->D}(h:∀ H i j,Rp H (f i j) (g i j)):kB (rI C g) (iiC C f):=by
 intro H d l x y Q res a b e k;unfold iiC at e;split at e;split at e;rename_i c;cases e;obtain rfl:=cC a;obtain rfl:=cC b;exact⟨_,_,rfl,rfl,c,k _ H (.refl _) (h H _ _)⟩;cases e;cases e
def cT0{g:Int->V}{f:Int->D}(h:∀ H i,Rp H (f i) (g i)):cS2 (rU g) (iu f):=by
 intro H d x Q res a e k;unfold iu at e;split at e;cases e;obtain rfl:=cC a;exact⟨_,rfl,k _ H (.refl _) (h H _)⟩;cases e
noncomputable def aK4:F2:=ii λi j=>.int (i-j)
noncomputable def bA0:F2:=iiC (λ_ j=>0 < j) λi j=>.int (i % j)
noncomputable def dF1:F2:=iiC cL5 λi j=>.int (i ^ j.toNat)
noncomputable def ltI:F2:=ii λi j=>.bl (decide (i < j))
noncomputable def leI:F2:=ii λi j=>.bl (decide (i<=j))
noncomputable def gtI:F2:=ii λi j=>.bl (decide (j < i))
noncomputable def geI:F2:=ii λi j=>.bl (decide (j<=i))
noncomputable def dF2:F1:=iu λi=>.int (-i)
def gD:kB (rI0 λi j=>.int (i-j)) aK4:=aB3 λ_ _ _=>.int _
def jH:kB (rI (λ_ j=>0 < j) λi j=>.int (i % j)) bA0:=yQ λ_ _ _=>.int _
def cF3:kB (rI cL5 λi j=>.int (i ^ j.toNat)) dF1:=yQ λ_ _ _=>.int _
def kR:kB (rI0 λi j=>.bl (decide (i<=j))) leI:=aB3 λ_ _ _=>.bl _
def nB:kB (rI0 λi j=>.bl (decide (j < i))) gtI:=aB3 λ_ _ _=>.bl _
def aP7:kB (rI0 λi j=>.bl (decide (j<=i))) geI:=aB3 λ_ _ _=>.bl _
def cF4:cS2 (rU λi=>.int (-i)) dF2:=cT0 λ_ _=>.int _
section
variable{X:Cx}{pins:List (Addr×Obj)}{σ:St}{H:Hp}{s:Shared}{l:Addr}{xs:List V}
def uA(I:Inv X pins σ H s)(h:eR H l=some (true,xs)):xs.length<=sizeLine/\∃ (its:List Value) (n:Nat),bW xs its/\xs.length=its.length/\s.heap.get? l=some {cls:=.type "list",data:=.seq its.toArray n}:=by
 unfold eR at h;split at h;rename_i e;cases h;exact I.lstM e;cases h;rename_i o ys e;cases h;obtain⟨_,z,its,n,r,e⟩:=I.hok l _ e;exact⟨z,its,n,r,r.length,e⟩;cases h
end
def cT1:R2:=λx y H Q=>∃ l b xs zs,x=.ref l/\y=.ref b/\eR H l=some (true,xs)/\eR H b=some (true,zs)/\xs.length+zs.length<=sizeLine/\∀ p,H p=none->Q (.ref p) (upd H p (.lst (xs++zs)))
def cF5{X:Cx}:OpR X (binaryOp .Add) cT1:=by
 intro pins s σ H x y v u Q I c d h;obtain⟨l,b,xs,o,rfl,rfl,f,g,p,q⟩:=h;cases c;cases d;obtain⟨z,its,n,r,t,e⟩:=uA I f;obtain⟨w,a,n2,i,j,k⟩:=uA I g;refine PySem.P.add_list e k ?_ (by rw[a6a,a6a];lia);have m:its.toArray++a.toArray=(its++a).toArray:=by simp
 rw[m];exact⟨.ref _,_,I.lnew (t':=s.toks) (r.append i) (by rw[a0c];lia),rfl,q _ I.fresh⟩
def cT2:R2:=λx y H Q=>cD6 x y H Q\/cT1 x y H Q
def cW{X:Cx}:OpR X (binaryOp .Add) cT2:=cR9.or cF5
noncomputable def vM:F2:=λd e=>match d,e with
 | .int i,.int j=>some (.val (.int (i+j)))
 | .str a,.str b=>if a.length+b.length<=sizeLine then some (.val (.str (a++b)))else none
 | .lst l,.lst m=>if l.length+m.length<=sizeLine then some (.own (.lst (l++m)))else none
 | .tup l,.tup m=>if l.length+m.length<=sizeLine then some (.val (.tup (l++m)))else none
 | _,_=>none
def yR{H:Hp}{p:Addr}{xs:List V}{l:List D}(a:H p=none)(r:Rps H l xs):xW H (upd H p (.lst xs)) (.own (.lst l)) (.ref p):=⟨p,rfl,a,xs,aQ,r.mono (.same (bE a))⟩
def yS{H:Hp}{p:Addr}{xs:List V}{l:List D}(a:H p=none)(r:Rps H l xs):xW H (upd H p (.tup xs)) (.val (.tup l)) (.ref p):=.tup aQ (r.mono (.same (bE a)))
def cX:kB cT2 vM:=by
 intro H t u x y Q res d f e k;unfold vM at e;split at e;cases e;obtain rfl:=cC d;obtain rfl:=cC f;exact .inl (k _ H (.refl _) (.int _));split at e;rename_i i;cases e;obtain rfl:=iO d;obtain rfl:=iO f;exact .inl ⟨i,k _ H (.refl _) (.str _)⟩;cases e;split at e;rename_i l m i;cases e;obtain⟨p,xs,rfl,g,a⟩:=fD d;obtain⟨q,ys,rfl,h,b⟩:=fD f;have:=a.length;have:=b.length;exact .inr ⟨p,q,xs,ys,rfl,rfl,g,h,by lia,λr c=>k _ _ (bE c) (yR c (a.append b))⟩;cases e
 ·split at e;rename_i l m i;cases e;obtain⟨p,xs,rfl,g,a⟩:=dE d;obtain⟨q,ys,rfl,h,b⟩:=dE f;have o:=a.length;have s:=b.length;refine .inl (.inr ⟨xs,ys,cL g,cL h,by lia,λj=>?_,λj n=>?_,λj n r c=>k _ _ (bE c) (yS c (a.append b))⟩);subst j;have:l=[]:=a0e o;subst this;exact k _ H (.refl _) (.tup h b);subst n;have:m=[]:=a0e s;subst this;rw[a6f]at k;exact k _ H (.refl _) (.tup g a);cases e
 ·cases e
noncomputable section
open Classical
noncomputable def aK5:F2:=λd e=>match d,e with
 | .int i,.int j=>if rG i j then some (.val (.int (i*j)))else none
 | .str z,.int i=>if z.length<=1000/\0<=i/\i<=1000 then some (.val (.str (Txt.mul z i)))else none
 | _,_=>none
end
def cF6:R2:=λx y H Q=>rI rG (λi j=>.int (i*j)) x y H Q\/cD3 x y H Q
def cY{X:Cx}:OpR X (binaryOp .Mult) cF6:=cF2.or cR8
def iB:kB cF6 aK5:=by
 intro H d f x y Q res b c e k;unfold aK5 at e;split at e;split at e;rename_i a;cases e;obtain rfl:=cC b;obtain rfl:=cC c;exact .inl ⟨_,_,rfl,rfl,a,k _ H (.refl _) (.int _)⟩;cases e;split at e;rename_i a;cases e;obtain rfl:=iO b;obtain rfl:=cC c;exact .inr ⟨a.1,a.2.1,a.2.2,λy _ e=>by subst e;exact k _ H (.refl _) (.str _)⟩;cases e;cases e
noncomputable def ixD:F2:=λd e=>match d,e with
 | .lst l,.int i=>(atI l i).map .val
 | .tup l,.int i=>(atI l i).map .val
 | .str z,.int i=>if z.length<=sizeLine then(atI z.cps.toList i).map λc=>.val (.str ⟨#[c]⟩)else none
 | _,_=>none
theorem Rps.atI{H:Hp}{l:List D}{xs:List V}{i:Int}{d:D}(r:Rps H l xs)(h:L2.atI l i=some d):∃ x,L2.atI xs i=some x/\Rp H d x:=by
 unfold L2.atI at h ⊢;obtain⟨j,a,b⟩:=bind_some h;rw[← r.length,a];exact r.get b
def cT3:kB dI6 ixD:=by
 intro H m n x y Q res f g e k;unfold ixD at e;split at e;obtain rfl:=cC g;obtain⟨p,xs,rfl,h,i⟩:=fD f;obtain⟨d,a,b⟩:=a2c.mp e;cases b;obtain⟨x,j,r⟩:=i.atI a;exact⟨x,aN4 h j,k _ H (.refl _) r⟩;obtain rfl:=cC g;obtain⟨p,xs,rfl,h,i⟩:=dE f;obtain⟨d,a,b⟩:=a2c.mp e;cases b;obtain⟨x,j,r⟩:=i.atI a;exact⟨x,aN4 (cL h) j,k _ H (.refl _) r⟩;split at e;rename_i l;obtain rfl:=cC g;obtain rfl:=iO f;obtain⟨c,a,b⟩:=a2c.mp e;cases b;exact⟨_,cD0 l a,k _ H (.refl _) (.str _)⟩;cases e;cases e
def bM{X:Cx}{a b:Expr}{c d:DE}{pos:Pos}(ha:GE X a c)(hb:GE X b d)(hs:aM9 b):GE X (.Subscript a b pos) (aU ixD c d):=.mk λΓ=>peW (dD8 dN2 (ha.to Γ) (hb.to Γ) hs) λ_ _ _=>hX cT3
noncomputable def nD:FN:=λds=>match ds with
 | [.lst l]=>some (.val (.int l.length))
 | [.tup l]=>some (.val (.int l.length))
 | [.str z]=>if z.length<=sizeLine then some (.val (.int z.length))else none
 | _=>none
def aP8{H:Hp}{d:D}{vs:List V}(h:Vws H [d] vs):∃ x,vs=[x]/\Vw H d x:=by
 cases h with
 | cons a t=>cases t;exact⟨_,rfl,a⟩
def bU:aG4 cR4 nD:=by
 intro H ds vs Q res vw e k;unfold nD at e;split at e;cases e;obtain⟨x,rfl,v⟩:=aP8 vw;obtain⟨p,xs,rfl,a,b⟩:=fD v;refine⟨_,_,rfl,aA4 a,?_⟩;rw[← b.length];exact k _ H (.refl _) (.int _);cases e;obtain⟨x,rfl,v⟩:=aP8 vw;obtain⟨p,xs,rfl,a,b⟩:=dE v;refine⟨_,_,rfl,aA4 (cL a),?_⟩;rw[← b.length];exact k _ H (.refl _) (.int _);split at e;rename_i c;cases e;obtain⟨x,rfl,v⟩:=aP8 vw;obtain rfl:=iO v;exact⟨_,_,rfl,bC4 c,k _ H (.refl _) (.int _)⟩;cases e;cases e
noncomputable def cM0(l:List D)(lo hi:Option Int):List D:=(l.drop (HT.sIx l.length 0 lo)).take (HT.sIx l.length l.length hi-HT.sIx l.length 0 lo)
def Rps.cut{H:Hp}{l:List D}{xs:List V}(r:Rps H l xs)(lo hi:Option Int):Rps H (cM0 l lo hi) (yG xs lo hi):=by
 unfold cM0 yG;rw[r.length];exact(r.drop _).take _
def aP9{xs:List V}{lo hi:Option Int}(h:HT.sIx xs.length 0 lo=0/\HT.sIx xs.length xs.length hi=xs.length):yG xs lo hi=xs:=by
 unfold yG;rw[h.1,h.2];simp
end Dv
namespace HT
open PySem PySem.Spec PyProof.Rows
section
variable{prog:Program}{w:World}{A:Around}{E:Value->Shared->Prop}{s:Shared}
def getItem_tuple_all{t sl:Addr}{items:Array Value}{f g:Value}{lo hi:Option Int}{Q:Value->Shared->Prop}(a:IsTup s.heap t items)(hs:s.heap.IsSliceOf sl f g .none)(pl:IsPart f lo)(j:IsPart g hi)
  (i:sIx items.size 0 lo=0/\sIx items.size items.size hi=items.size) (h:Q (.ref t) s):wpAny (model prog w) A (getItem (.ref t) (.ref sl)) Q E s:=by
 obtain⟨os,c,d,k⟩:=id hs;have e:s.TypeIs (.ref sl) "slice":=⟨os,c,d⟩;unfold getItem
 try with_reducible refine a4C ?_
 first | refine a4x (a4y ?_) | skip
 refine a4x (wpAny_sequenceKey a.typeIs (by decide) ?_);refine a4x (wpAny_callSpecial?_slot (name:=Str.ofString "__getitem__") a.typeIs a8e
  (a4H a8e a.typeIs entry_tuple_getitem ?_ (args_tuple_getitem _ _)))
 show wpAny _ _ (Builtin.Tuple.tupleItemsOf (.ref t) >>= _) _ _ s;refine a4x (tupleItemsOf_ a ?_);refine a4x (a5k e ?_);rw[a4A (by decide)];refine a4x (iN hs pl j ?_);have b:(((sIx items.size 0 lo:Nat):Int)==0&&(1:Int)==1&&(sIx items.size items.size hi-sIx items.size 0 lo)==items.size)=true:=by
  rw[i.1,i.2];simp
 show wpAny _ _ (if(((sIx items.size 0 lo:Nat):Int)==0&&(1:Int)==1&&(sIx items.size items.size hi-sIx items.size 0 lo)==items.size)=true then _ else _) _ _ s;rw[a4A b];refine a4x ?_;unfold Builtin.Tuple.tupleIsExact;refine a4x (a5k a.typeIs (a4y ?_));rw[a4A (by decide)];refine a4x (a4I ?_);exact a4y ⟨_,rfl,a4y h⟩
end
end HT
namespace Dv
open PySem L2
def dJ5:V->Option Int->Option Int->Hp->VK->Prop:=λx lo hi H Q=>match x with
 | .str z=>z.length<=sizeLine/\Q (.str (Txt.slice z lo hi)) H
 | .ref p=>(∃ xs,eR H p=some (true,xs)/\∀ r,H r=none->Q (.ref r) (upd H r (.lst (yG xs lo hi)))) \/
   ∃ xs,eR H p=some (false,xs)/\(yG xs lo hi=xs->Q (.ref p) H)/\∀ r,H r=none->Q (.ref r) (upd H r (.tup (yG xs lo hi)))
 | _=>False
def dN9{X:Cx}:SlR X dJ5:=by
 intro pins s σ H x v d e lo hi sl Q I b hs pl c h;unfold dJ5 at h;split at h;rename_i z;exact dE2 pins s σ H _ v d e lo hi sl Q I b hs pl c h
 ·rename_i p;rcases h with h | ⟨xs,g,j,k⟩;exact dE2 pins s σ H _ v d e lo hi sl Q I b hs pl c (.inl h);by_cases f:HT.sIx xs.length 0 lo=0/\HT.sIx xs.length xs.length hi=xs.length
  ·cases b;obtain⟨its,r,i,l⟩:=I.tuple (eG g);have a:its.toArray.size=xs.length:=by rw[a6a];exact r.length.symm
   refine⟨"tuple",_,a8e.lookup,i.typeIs,?_⟩;exact HT.getItem_tuple_all i hs pl c (by rw[a];exact f) ⟨.ref p,H,I,rfl,j (aP9 f)⟩
  ·exact dE2 pins s σ H _ v d e lo hi sl Q I b hs pl c (.inr ⟨xs,g,f,k⟩)
 ·exact h.elim
abbrev DO:=Sg->Option (Option Int×Sg)
def dTO(Γ:Gm)(r:DO):TO:=λσV H Q=>∃ σ,StOk Γ H σ σV/\∃ o σ',r σ=some (o,σ')/\∀ H',StOk Γ H' σ' σV->Step σ σV H σ' σV H'->Q o H'
structure GO(X:Cx)(e:Option Expr)(r:DO):Prop where
 to:∀ Γ,PO X e (dTO Γ r)
def poW{X:Cx}{e:Option Expr}{t t':TO}(h:PO X e t)(w:∀ σ H Q,t' σ H Q->t σ H Q):PO X e t':=λpins s σ H Q I q=>h pins s σ H Q I (w σ H Q q)
noncomputable def dA5:DO:=λσ=>some (none,σ)
noncomputable def dP(r:DE):DO:=λσ=>(r σ).bind λx=>(rd x.2 x.1).bind λd=>match d with
 | .int i=>some (some i,x.2)
 | _=>none
def aQ0{X:Cx}:GO X none dA5:=.mk λΓ=>poW cB7 λσV H Q Z1=>by obtain⟨σ,ok,o,σ',e,k⟩:=Z1;cases e;exact k H ok .refl
def aQ1{X:Cx}{e:Expr}{r:DE}(h:GE X e r):GO X (some e) (dP r):=.mk λΓ=>poW (cB8 (h.to Γ)) λσV H Q ⟨σ,ok,o,σ',e,k⟩=>by
 obtain⟨⟨x,c⟩,f,e⟩:=bind_some e;obtain⟨d,g,e⟩:=bind_some e;dsimp only at e;split at e;cases e;exact⟨σ,ok,x,_,f,λv i a j b _=>⟨_,cC (j.vw a g),k i a b⟩⟩;cases e
noncomputable def slD(d:D)(lo hi:Option Int):Option Res:=match d with
 | .str z=>if z.length<=sizeLine then some (.val (.str (Txt.slice z lo hi)))else none
 | .lst l=>some (.own (.lst (cM0 l lo hi)))
 | .tup l=>some (.val (.tup (cM0 l lo hi)))
 | _=>none
noncomputable def dSl(r:DE)(a b:DO):DE:=λσ=>(r σ).bind λx=>(a x.2).bind λy=>(b y.2).bind λz=>(rd z.2 x.1).bind λd=>(slD d y.1 z.1).bind λw=>some (w,z.2)
def aB4{X:Cx}{e:Expr}{lo hi:Option Expr}{B pos:Pos}{r:DE}{a b:DO}(C:GE X e r)(ha:GO X lo a)(hb:GO X hi b):GE X (.Subscript e (.Slice lo hi none B) pos) (dSl r a b):=.mk λΓ=>peW (bB4 dN9 (C.to Γ) (ha.to Γ) (hb.to Γ)) λσV H Q ⟨σ,ok,res,σ',e,k⟩=>by
 obtain⟨⟨x,i⟩,D,e⟩:=bind_some e;obtain⟨⟨lo,j⟩,E,e⟩:=bind_some e;obtain⟨⟨hi,y⟩,F,e⟩:=bind_some e;obtain⟨d,G,e⟩:=bind_some e;obtain⟨w,c,e⟩:=bind_some e;cases e;refine⟨σ,ok,x,i,D,λv L l I m _=>⟨i,l,lo,j,E,λM n f=>⟨j,n,hi,y,F,λs g h=>?_⟩⟩⟩;have vw:=((I.step l f).step n h).vw g G;have fin:∀ v H',tM s H'->xW s H' res v->Q v H':=λv H' z A=>k v H' (g.same z) (A.res g) (((m.trans f).trans h).trans (.same z)) (A.frh.back ((m.trans f).trans h));dsimp only at c;unfold slD at c;split at c;split at c;rename_i J;cases c;obtain rfl:=iO vw;exact⟨J,fin _ s (.refl _) (.str _)⟩;cases c;cases c;obtain⟨p,xs,rfl,t,u⟩:=fD vw;exact .inl ⟨xs,t,λq o=>fin _ _ (bE o) (yR o (u.cut lo hi))⟩;cases c;obtain⟨p,xs,rfl,t,u⟩:=dE vw;refine .inr ⟨xs,cL t,λK=>fin _ s (.refl _) ?_,λq o=>fin _ _ (bE o) (yS o (u.cut lo hi))⟩;have:=u.cut lo hi;rw[K]at this;exact .tup t this;cases c
def cT4(K:W.Frag):List V->Hp->VK->Prop:=λxs H Q=>∃ (a:Addr) (bs:List Bool),xs=[.ref a]/\SqL K H a (bs.map V.bl)/\Q (.bl (bs.all id)) H
noncomputable def cF7:List D->Option (List Bool)
 | []=>some []
 | .bl b::r=>(cF7 r).bind λbs=>some (b::bs)
 | _=>none
theorem aB5:∀ {l:List D} {bs:List Bool},cF7 l=some bs->l=bs.map D.bl
 | [],_,h=>by cases h;rfl
 | .bl b::r,_,h=>by
   obtain⟨bs,a,e⟩:=bind_some h;cases e;rw[aB5 a];rfl
 | .non::_,_,h=>by cases h
 | .int _::_,_,h=>by cases h
 | .str _::_,_,h=>by cases h
 | .tup _::_,_,h=>by cases h
 | .lst _::_,_,h=>by cases h
 | .dic _ _::_,_,h=>by cases h
noncomputable def cF8:FN:=λds=>match ds with
 | [.lst l]=>(cF7 l).map λbs=>.val (.bl (bs.all id))
 | _=>none
def pQ{K:W.Frag}:aG4 (cT4 K) cF8:=by
 intro H ds vs Q res vw e k;unfold cF8 at e;split at e;obtain⟨bs,c,d⟩:=a2c.mp e;cases d;obtain⟨x,rfl,v⟩:=aP8 vw;obtain⟨p,xs,rfl,a,b⟩:=fD v;rw[aB5 c]at b;rw[b.bls_inv]at a;exact⟨p,bs,rfl,fT a,k _ H (.refl _) (.bl _)⟩;cases e
def jI{X:Cx}(K:W.Frag)(a:X.K=K)(b:X.calm=true):mS X (.builtin "all") (cT4 K):=by rw[← a];exact bB9 b
noncomputable def dF3:FN:=λds=>match ds with
 | [.int i,.int j]=>some (.val (.int (if j > i then j else i)))
 | _=>none
noncomputable def dF4:FN:=λds=>match ds with
 | [.int i,.int j]=>some (.val (.int (if j < i then j else i)))
 | _=>none
noncomputable def cT5:FN:=λds=>match ds with
 | [.int i]=>some (.val (.int i))
 | [.bl b]=>some (.val (.int (if b then 1 else 0)))
 | _=>none
def cF9:aG4 (λxs H Q=>(∃ i,xs=[.int i]/\Q (.int i) H)\/∃ k,xs=[.bl k]/\Q (.int (if k then 1 else 0)) H) cT5:=by
 intro H ds vs Q res vw e k;unfold cT5 at e;split at e;cases e;obtain⟨x,rfl,a⟩:=aP8 vw;obtain rfl:=cC a;exact .inl ⟨_,rfl,k _ H (.refl _) (.int _)⟩;cases e;obtain⟨x,rfl,a⟩:=aP8 vw;obtain rfl:=wD a;exact .inr ⟨_,rfl,k _ H (.refl _) (.int _)⟩;cases e
noncomputable def cT6:FN:=λds=>match ds with
 | [.lst l]=>some (.own (.lst l))
 | [.tup l]=>some (.own (.lst l))
 | _=>none
noncomputable def aG9:FN:=λds=>match ds with
 | [.lst l]=>some (.val (.tup l))
 | [.tup l]=>some (.val (.tup l))
 | _=>none
def iC:aG4 cR7 aG9:=by
 intro H ds vs Q res vw e k;unfold aG9 at e;split at e;cases e;obtain⟨x,rfl,a⟩:=aP8 vw;obtain⟨p,xs,rfl,b,c⟩:=fD a;exact⟨p,true,xs,rfl,b,λq d=>k _ _ (bE d) (yS d c)⟩;cases e;obtain⟨x,rfl,a⟩:=aP8 vw;obtain⟨p,xs,rfl,b,c⟩:=dE a;exact⟨p,false,xs,rfl,cL b,k _ H (.refl _) (.tup b c)⟩;cases e
noncomputable def dF5:D->String
 | .non=>"NoneType"
 | .bl _=>"bool"
 | .int _=>"int"
 | .str _=>"str"
 | .lst _=>"list"
 | .tup _=>"tuple"
 | .dic _ _=>"dict"
noncomputable def bN4(c:String):F1:=λd=>match d with
 | .dic _ _=>none
 | d=>some (.val (.bl (pM (dF5 d) c)))
noncomputable def dO0:F1:=iu λi=>.int (Builtin.Int.intBits i)
noncomputable def cM1:FM:=λd ds=>match d,ds with
 | .lst l,[e]=>if l.length < sizeLine then some (.lst (l++[e]),.non)else none
 | _,_=>none
def iD{H:Hp}{l:List D}{p:Addr}(h:cP H (.lst l) p):∃ xs,H p=some (.lst xs)/\Rps H l xs:=h
def uB:dA4 mT cM1:=by
 intro H d p ds vs Q d' e ow r b k;unfold cM1 at b;split at b
 ·split at b
  ·rename_i l x f;cases b;obtain⟨xs,g,c⟩:=iD ow;cases r with
   | cons a t=>
     cases t;exact⟨p,xs,_,rfl,rfl,g,by rw[← c.length];exact f,k _ _ ⟨_,aQ,(c.append (.cons a .nil)).mono (cP.ext ow)⟩ .non⟩
  ·cases b
 ·cases b
noncomputable def cM2:FM:=λd ds=>match d,ds with
 | .lst l,[.lst m]=>if l.length+m.length<=sizeLine then some (.lst (l++m),.non)else none
 | _,_=>none
def cT7:V->List V->Hp->VK->Prop:=λx vs H Q=>∃ l b xs zs,x=.ref l/\vs=[.ref b]/\H l=some (.lst xs)/\eR H b=some (true,zs)/\xs.length+zs.length<=sizeLine/\Q .non (upd H l (.lst (xs++zs)))
def uC{X:Cx}:MtM X "list.extend" cT7:=by
 intro pins s σ H x vs v us Q I g i h;obtain⟨l,b,xs,t,rfl,rfl,f,j,w,q⟩:=h;cases g;obtain⟨u,rfl,k⟩:=i.one;cases k;obtain⟨z,its,n,r,y,e⟩:=I.lstM f;obtain⟨A,a,n2,m,o,p⟩:=uA I j;have d:its.toArray.size+a.toArray.size<=sizeLine:=by rw[a6a,a6a];lia
 have c:¬ (!its.toArray.isEmpty&&Builtin.List.listTooLong (its.toArray.size+a.toArray.size))=true:=by
  rw[tL d,Bool.and_false];exact a9c
 refine a5o F.slot_list_extend ⟨_,e,rfl⟩ F.entry_list_extend (F.args_list_extend_2 _ _)
  (AutoSeq1.list_extend_list_list_0 l its.toArray n b a.toArray n2 c (by rw[a6a];lia) (by lia)) ⟨e,p,?_⟩
 refine⟨.non,_,I.lset (its':=its++a) f e (by simp) (r.append m) ?_,rfl,q⟩;rw[a0c];lia
def uD:dJ2 cT7 cM2:=by
 intro H d p ds vs Q d' e ow r b k;unfold cM2 at b;split at b;split at b;rename_i l m i;cases b;obtain⟨xs,g,c⟩:=iD ow;obtain⟨x,rfl,a⟩:=aP8 r;obtain⟨q,ys,rfl,h,f⟩:=fD a;have:=c.length;have:=f.length;exact⟨p,q,xs,ys,rfl,rfl,g,h,by lia,k _ _ ⟨_,aQ,(c.append f).mono (cP.ext ow)⟩ .non⟩;cases b;cases b
noncomputable def dF6:FM:=λd ds=>match d,ds with
 | .lst l,[]=>(l[l.length-1]?).map λy=>(.lst l.dropLast,y)
 | _,_=>none
theorem Rps.dropLast{H:Hp}{l:List D}{xs:List V}(r:Rps H l xs):Rps H l.dropLast xs.dropLast:=by
 rw[List.dropLast_eq_take,List.dropLast_eq_take,r.length];exact r.take _
def cG0:dA4 dI5 dF6:=by
 intro H d p ds vs Q d' e ow r a k;unfold dF6 at a;split at a;obtain⟨y,c,f⟩:=a2c.mp a;cases f;cases r;obtain⟨xs,g,b⟩:=iD ow;obtain⟨x,ex,h⟩:=b.get c;exact⟨p,xs,x,rfl,rfl,g,by rw[← b.length];exact ex,k _ _ ⟨_,aQ,b.dropLast.mono (cP.ext ow)⟩ (h.mono (cP.ext ow))⟩;cases a
noncomputable def dA6(i:Int)(e:D):D->Option D
 | .lst l=>(ixN l.length i).map λj=>.lst (l.set j e)
 | _=>none
noncomputable def cT8(k:Nat)(ri c:DE):DS:=λσ=>(c σ).bind λx=>match x.1 with
 | .val d=>if xY "list" k x.2=true then(ri x.2).bind λy=>(rd y.2 y.1).bind λe=>match e with
   | .int i=>(aK3 (λa _=>(dA6 i d a).map λb=>(b,.non)) k [] y.2).bind λz=>some (.nx z.2)
   | _=>none else none
 | _=>none
def bN5{X:Cx}{E:Ex}{st:Stmt}{k:Nat}{ri G:DE}(h:∀ Γ,PS X st (bA7 (dTE Γ G) (dC8 (zV k) (dTE Γ ri) cQ7))):GS E X st (cT8 k ri G):=.mk λΓ=>psW (h Γ) λD σV H ⟨σ,ok,o,e,L⟩=>by
 obtain⟨⟨x,f⟩,M,e⟩:=bind_some e;refine⟨σ,ok,x,f,M,λv H1 g N u f1=>?_⟩;cases x with
 | own d=>cases e
 | slot d=>cases e
 | val d=>
   have c:(if xY "list" k f=true then(ri f).bind λy=>(rd y.2 y.1).bind λI=>match I with
    | .int i=>(aK3 (λa _=>(dA6 i d a).map λb=>(b,.non)) k [] y.2).bind λz=>some (.nx z.2)
    | _=>none else none)=some o:=e
   split at c
   ·rename_i hn;obtain⟨⟨y,w⟩,O,c⟩:=bind_some c;obtain⟨I,P,c⟩:=bind_some c;obtain⟨s0,A,B,Q⟩:=oX hn;obtain⟨p,ep,ow⟩:=g.ownAt A B;dsimp only at c;split at c
    ·rename_i i;obtain⟨⟨z,R⟩,S,c⟩:=bind_some c;cases c;obtain⟨s,d',y',hs,hm,T,rfl,rfl⟩:=hZ S;obtain⟨b,J,U⟩:=a2c.mp T;cases U;refine⟨_,ep,f,g,y,w,O,λvi V n W q f2=>?_⟩;obtain rfl:=cC (W.vw n P);obtain⟨p',r,t⟩:=n.ownAt hs (fP hm);rw[ep]at r;cases r;have Y:Rp V d v:=Rp.mono (q.ext g) N;obtain⟨m,Z⟩:=s;cases Z with
     | lst l=>
       obtain⟨j,e8,e9⟩:=a2c.mp J;cases e9;obtain⟨xs,h1,K⟩:=iD t;refine⟨p,xs,i,j,rfl,rfl,h1,by rw[← K.length];exact e8,?_⟩;obtain⟨C,F⟩:=n.write (d':=.lst (l.set j d)) (o':=.lst (xs.set j v)) hs hm ep ⟨_,aQ,(K.set j Y).mono (cP.ext t)⟩;exact L _ _ C ((u.trans q).trans F)
     | _=>cases J
    ·cases c
   ·cases c
noncomputable def isD(neg:Bool):F2:=λd e=>match e with
 | .non=>some (.val (.bl (if neg then !decide (d=.non)else decide (d=.non))))
 | .bl b=>(match d with | .bl a=>some (.val (.bl (if neg then !decide (a=b)else decide (a=b)))) | _=>none)
 | _=>none
def aH0{H:Hp}{d:D}{v:V}(h:Vw H d v):decide (v=.non)=decide (d=.non):=by
 rcases h with h | ⟨p,rfl,h⟩;cases h<;>simp;cases d<;>first | exact h.elim | simp
def cT9{neg:Bool}:kB (dA2 neg) (isD neg):=by
 intro H c d x y Q res a b e k;unfold isD at e;split at e;cases e;obtain rfl:=aO8 b;show Q (.bl (if neg then !decide (x=.non)else decide (x=.non))) H;rw[aH0 a];exact k _ H (.refl _) (.bl _);split at e;cases e;obtain rfl:=wD b;obtain rfl:=wD a;exact k _ H (.refl _) (.bl _);cases e;cases e
def aH1(i j:Int):Prop:=0 < j/\j < 18446744073709551616
def aB6{X:Cx}:OpR X (binaryOp .FloorDiv) (rI aH1 λi j=>.int (i / j)):=opI λi j _ _ _ _ _ a q=>by
 have c:(0:Int) < j:=a.1;have d:j < 18446744073709551616:=a.2;refine PyProof.Rows.floordiv_int (by lia) (by rw[Int.fdiv_eq_ediv_of_nonneg i (by lia)];exact q) (.inl (PyProof.noPylong_of_log2 ?_));have h0:j.natAbs≠0:=by lia
 have b:j.natAbs.log2 < 64:=(Nat.log2_lt h0).mpr (by lia);lia
noncomputable def dA7:F2:=iiC aH1 λi j=>.int (i / j)
def aQ2:kB (rI aH1 λi j=>.int (i / j)) dA7:=yQ λ_ _ _=>.int _
mutual
def uE:D->PyData
 | .non=>.none
 | .bl b=>.bool b
 | .int i=>.int i
 | .str x=>.str x
 | .tup l=>.tuple (toPys l)
 | .lst l=>.list (toPys l)
 | .dic _ _=>.dict []
def toPys:List D->List PyData
 | []=>[]
 | d::r=>uE d::toPys r
end
section
variable{X:Cx}{pins:List (Addr×Obj)}{σ:St}{H:Hp}{s:Shared}
mutual
theorem aB7(I:Inv X pins σ H s):∀ {d:D} {v:V} {u:Value},Rp H d v->cE v u->(uE d).canLay0=true->∃ as,Reads s.heap u (uE d) as
 | _,_,_,.non,r,_=>by cases r;exact⟨_,.none⟩
 | _,_,_,.bl b,r,_=>by cases r;exact⟨_,.bool b⟩
 | _,_,_,.int i,r,_=>by obtain⟨t,rfl⟩:=r;exact⟨_,.int i t⟩
 | _,_,_,.str x,r,_=>by obtain⟨t,rfl⟩:=r;exact⟨_,.str x t⟩
 | _,_,_,.tup h rs,r,a=>by
   cases r;obtain⟨_,its,c,⟨o,j,f,n,hd⟩,_⟩:=I.hok _ _ h;obtain⟨as,g⟩:=rps_reads I rs c a;exact⟨_,.tuple j f hd (by simpa using g)⟩
 | _,_,_,.lst h rs,r,a=>by
   cases r;obtain⟨_,_,its,n,c,e⟩:=I.hok _ _ h;obtain⟨as,g⟩:=rps_reads I rs c a;exact⟨_,.list e rfl rfl (by simpa using g)⟩
 | _,_,_,.dic h k rs,r,a=>nomatch a
theorem rps_reads(I:Inv X pins σ H s):∀ {l:List D} {vs:List V} {us:List Value},Rps H l vs->bW vs us->PyData.canLayAll0 (toPys l)=true->∃ as,ReadsAll s.heap us (toPys l) as
 | [],_,_,.nil,r,_=>by cases r;exact⟨_,.nil⟩
 | d::l,_,_,.cons a t,r,c=>by
   cases r with
   | cons e f=>
     have b:(uE d).canLay0=true/\PyData.canLayAll0 (toPys l)=true:=by simpa[toPys,PyData.canLayAll0]using c
     obtain⟨as,g⟩:=aB7 I a e b.1;obtain⟨bs,h⟩:=rps_reads I t f b.2;exact⟨_,.cons g h⟩
end
def fU(I:Inv X pins σ H s){d:D}{v:V}{u:Value}(h:Vw H d v)(r:cE v u)(a:(uE d).canLay0=true):∃ as,Reads s.heap u (uE d) as:=by
 rcases h with h | ⟨p,rfl,h⟩;exact aB7 I h r a;cases r;cases d with
 | lst l=>
   obtain⟨xs,b,c⟩:=iD h;obtain⟨_,its,n,f,e⟩:=I.hok _ _ b;obtain⟨as,g⟩:=rps_reads I c f a;exact⟨_,.list e rfl rfl (by simpa using g)⟩
 | dic ks vs=>exact nomatch a
 | _=>exact h.elim
end
noncomputable def bF1(d e:D):Bool:=PyData.eqv (uE d) (uE e)
noncomputable def rH(d:D):Bool:=(uE d).canLay0&&decide ((uE d).depth<=60)
def dF7(neg:Bool):R2:=λx y H Q=>∃ d e,Vw H d x/\Vw H e y/\rH d=true/\rH e=true/\Q (.bl (if neg then !bF1 d e else bF1 d e)) H
def eK{d:D}(h:rH d=true):(uE d).canLay0=true/\(uE d).depth<=60:=by
 unfold rH at h;rw[a3c,a4E]at h;exact h
def oG{X:Cx}(l:X.A.units+64 < cLine):OpR X (compareOp .Eq) (dF7 false):=by
 intro pins s σ H x y v u Q I a b h;obtain⟨d,e,c,f,g,i,q⟩:=h;obtain⟨a1,m⟩:=eK g;obtain⟨a2,n⟩:=eK i;obtain⟨as,j⟩:=fU I c a a1;obtain⟨bs,k⟩:=fU I f b a2;exact SeqAt.rcAt_reads j k a1 a2 (by lia) _ _ _ _ ⟨.bl _,H,I,rfl,q⟩
def sD{X:Cx}(l:X.A.units+64 < cLine):OpR X (compareOp .NotEq) (dF7 true):=by
 intro pins s σ H x y v u Q I a b h;obtain⟨d,e,c,f,g,i,q⟩:=h;obtain⟨a1,m⟩:=eK g;obtain⟨a2,n⟩:=eK i;obtain⟨as,j⟩:=fU I c a a1;obtain⟨bs,k⟩:=fU I f b a2;exact SeqAt.rcNeAt_reads j k a1 a2 (by lia) _ _ _ _ ⟨.bl _,H,I,rfl,q⟩
noncomputable def eqD(neg:Bool):F2:=λd e=>if rH d=true/\rH e=true then some (.val (.bl (if neg then !bF1 d e else bF1 d e)))else none
def fV{neg:Bool}:kB (dF7 neg) (eqD neg):=by
 intro H b c x y Q res d f e k;unfold eqD at e;split at e;rename_i a;cases e;exact⟨b,c,d,f,a.1,a.2,k _ H (.refl _) (.bl _)⟩;cases e
def dF8(neg:Bool):R2:=λx y H Q=>(∃ i j,x=.str i/\y=.str j/\Q (.bl (if neg then(Builtin.Str.occurrences j i 0 j.length 1).isEmpty else !(Builtin.Str.occurrences j i 0 j.length 1).isEmpty)) H) \/
 ∃ d e b l,Vw H d x/\Vw H e y/\bM9 e=some (b,l)/\rH d=true/\rH e=true/\Q (.bl (if neg then !(l.any λy=>bF1 y d)else l.any λy=>bF1 y d)) H
theorem pR(d:D):∀ l:List D,(toPys l).any (λy=>PyData.eqv y (uE d))=l.any λy=>bF1 y d
 | []=>rfl
 | e::r=>by show(PyData.eqv (uE e) (uE d)||(toPys r).any _)=_;rw[pR d r];rfl
def wI{e:D}{b:Bool}{l:List D}(h:bM9 e=some (b,l)):PyData.depthAll (toPys l)<=(uE e).depth/\((uE e).canLay0=true->PyData.canLayAll0 (toPys l)=true):=by
 cases e with
 | lst a=>cases h;exact⟨by show _<=PyData.depth (.list (toPys l));simp only[PyData.depth];lia,λz=>z⟩
 | tup a=>cases h;exact⟨by show _<=PyData.depth (.tuple (toPys l));simp only[PyData.depth];lia,λz=>z⟩
 | _=>cases h
def pS{X:Cx}(o:X.A.units+64 < cLine):OpR X (compareOp .In) (dF8 false):=by
 intro pins s σ H x y v u Q I a c h;rcases h with⟨i,j,rfl,rfl,q⟩ | ⟨d,e,b,l,v1,v2,hs,k,m,q⟩;exact aM1 pins s σ H _ _ v u Q I a c ⟨_,_,rfl,rfl,by simpa using q⟩;obtain⟨a1,p⟩:=eK k;obtain⟨a2,r⟩:=eK m;obtain⟨as,f⟩:=fU I v1 a a1;obtain⟨bs,g⟩:=fU I v2 c a2;obtain⟨dp,cl⟩:=wI hs;have fin:EP X pins σ Q (.bool ((toPys l).any λy=>PyData.eqv y (uE d))) s:=⟨.bl _,H,I,by rw[pR];rfl,q⟩;cases e with
 | lst n=>cases hs;exact SeqAt.in_list_reads g f (cl a2) a1 (by lia) fin
 | tup n=>cases hs;exact SeqAt.in_tuple_reads g f (cl a2) a1 (by lia) fin
 | _=>cases hs
def wJ{X:Cx}(o:X.A.units+64 < cLine):OpR X (compareOp .NotIn) (dF8 true):=by
 intro pins s σ H x y v u Q I a c h;rcases h with⟨i,j,rfl,rfl,q⟩ | ⟨d,e,b,l,v1,v2,hs,k,m,q⟩;exact vP pins s σ H _ _ v u Q I a c ⟨_,_,rfl,rfl,by simpa using q⟩;obtain⟨a1,p⟩:=eK k;obtain⟨a2,r⟩:=eK m;obtain⟨as,f⟩:=fU I v1 a a1;obtain⟨bs,g⟩:=fU I v2 c a2;obtain⟨dp,cl⟩:=wI hs;have fin:EP X pins σ Q (.bool (!(toPys l).any λy=>PyData.eqv y (uE d))) s:=⟨.bl _,H,I,by rw[pR];rfl,q⟩;cases e with
 | lst n=>cases hs;exact SeqAt.notIn_list_reads g f (cl a2) a1 (by lia) fin
 | tup n=>cases hs;exact SeqAt.notIn_tuple_reads g f (cl a2) a1 (by lia) fin
 | _=>cases hs
noncomputable def inD(neg:Bool):F2:=λd e=>match d,e with
 | .str i,.str j=>some (.val (.bl (if neg then(Builtin.Str.occurrences j i 0 j.length 1).isEmpty else !(Builtin.Str.occurrences j i 0 j.length 1).isEmpty)))
 | d,e=>match bM9 e with
   | some (_,l)=>if rH d=true/\rH e=true then some (.val (.bl (if neg then !(l.any λy=>bF1 y d)else l.any λy=>bF1 y d)))else none
   | none=>none
def lO{neg:Bool}:kB (dF8 neg) (inD neg):=by
 intro H f g x y Q res a c e k;unfold inD at e;split at e;cases e;obtain rfl:=iO a;obtain rfl:=iO c;exact .inl ⟨_,_,rfl,rfl,k _ H (.refl _) (.bl _)⟩;split at e;rename_i b l hs;split at e;rename_i d;cases e;exact .inr ⟨f,g,b,l,a,c,hs,d.1,d.2,k _ H (.refl _) (.bl _)⟩;cases e;cases e
def cG1(K:W.Frag):List V->Hp->VK->Prop:=λxs H Q=>∃ x c t,xs=[x,.ty c]/\TyOf K H x (.type t)/\(t="NoneType"\/t="int"\/t="bool"\/t="str"\/t="list"\/t="tuple") /\
 (c="int"\/c="bool"\/c="str"\/c="list"\/c="tuple")/\Q (.bl (pM t c)) H
def lP{X:Cx}(K:W.Frag)(a:X.K=K):mS X (.builtin "isinstance") (cG1 K):=by
 subst a;intro pins s σ H xs us Q I r h;obtain⟨x,c,t,rfl,ty,b,d,q⟩:=h;exact yK pins s σ H _ us Q I r ⟨x,c,.type t,_,rfl,ty,bD4 b d,q⟩
def aB8{X:Cx}{e:Expr}{r:DE}{c:String}(K:W.Frag)(f:c="int"\/c="bool"\/c="str"\/c="list"\/c="tuple")(h:∀ Γ,PE X e (tCB (cG1 K) (cB4 (dTE Γ r) (cB4 (tC (.ty c)) cP9)))):GE X e (bM8 (bN4 c) r):=.mk λΓ=>peW (h Γ) λσV H Q j=>by
 have m:cS2 (λx H Q=>cG1 K [x,.ty c] H Q) (bN4 c):=by
  intro H d x Q res a e k;cases d with
  | non=>cases e;obtain rfl:=aO8 a;exact⟨_,_,_,rfl,.non,.inl rfl,f,k _ H (.refl _) (.bl _)⟩
  | bl b=>cases e;obtain rfl:=wD a;exact⟨_,_,_,rfl,.bl b,.inr (.inr (.inl rfl)),f,k _ H (.refl _) (.bl _)⟩
  | int i=>cases e;obtain rfl:=cC a;exact⟨_,_,_,rfl,.int i,.inr (.inl rfl),f,k _ H (.refl _) (.bl _)⟩
  | str i=>cases e;obtain rfl:=iO a;exact⟨_,_,_,rfl,.str i,.inr (.inr (.inr (.inl rfl))),f,k _ H (.refl _) (.bl _)⟩
  | tup l=>cases e;obtain⟨p,xs,rfl,g,_⟩:=dE a;exact⟨_,_,_,rfl,.tup g,.inr (.inr (.inr (.inr (.inr rfl)))),f,k _ H (.refl _) (.bl _)⟩
  | lst l=>
    cases e;rcases a with a | ⟨p,rfl,a⟩
    ·cases a with
     | lst g _=>exact⟨_,_,_,rfl,.frz g,.inr (.inr (.inr (.inr (.inl rfl)))),f,k _ H (.refl _) (.bl _)⟩
    ·obtain⟨xs,g,_⟩:=iD a;exact⟨_,_,_,rfl,.lst g,.inr (.inr (.inr (.inr (.inl rfl)))),f,k _ H (.refl _) (.bl _)⟩
  | dic ks vs=>cases e
 exact aA9 m j
def gE{X:Cx}{e:Expr}{r:DE}(h:GE X e r)(Γ:Gm):PE X e (dTE Γ r):=h.to Γ
def gA{X:Cx}{e:List Expr}{r:DA}(h:GA X e r)(Γ:Gm):PA X e (dTA Γ r):=h.to Γ
def gT{X:Cx}{e:Expr}{r:DT}(h:GT X e r)(Γ:Gm):PT X e (dTT Γ r):=h.to Γ
def gI{X:Cx}{tg e:Expr}{r:DI}(h:GI X tg e r)(Γ:Gm):PI X tg e (dTI Γ r):=h.to Γ
def gSs{X:Cx}{E:Ex}{e:List Stmt}{r:DS}(h:GSs E X e r)(Γ:Gm):PSs X e (dTS Γ E r):=h.to Γ
noncomputable def aQ3(K:W.Frag):Bool:=K.all λp=>match p.2.cls with
 | .type n=>!(n=="list")
 | _=>true
def cG2{K:W.Frag}{H:Hp}{a:Addr}{ns:List Int}(c:aQ3 K=true)(g:cR2 H)(b:SqL K H a (ns.map V.int)):ArgOk H [⟨.val,.lst (ns.map D.int)⟩] [.ref a]:=by
 have d:∃ o,H a=some (.frz o (.lst (ns.map V.int))):=by
  rcases b with b | ⟨o,its,n,k,q,_⟩
  ·rcases b with b | ⟨o,b⟩;rcases g a with z | ⟨o,xs,z⟩;rw[b]at z;cases z;rw[b]at z;cases z;exact⟨o,b⟩
  ·exfalso;unfold aQ3 at c;rw[a5i]at c;have hm:(a,o)∈K:=by
    clear c g;have:∀ (l:List (Addr×Obj)),List.lookup a l=some o->(a,o)∈l:=by
     intro l
     induction l with
     | nil=>intro h;simp at h
     | cons p r u=>
       intro h;rw[a4i]at h;split at h
       ·rename_i e;have:a=p.1:=by simpa using e
        cases h;rw[this];exact a9a
       ·exact a0b _ (u h)
    exact this K k
   have:=c _ hm;rw[q]at this;simp at this
 obtain⟨o,d⟩:=d;refine⟨rfl,λi s e=>?_,λi j s t p n f v m=>?_,λi s e=>?_⟩
 ·cases i with
  | zero=>simp at e;subst e;exact⟨_,rfl,.lst d (tP ns)⟩
  | succ i=>simp at e
 ·cases i with
  | zero=>simp at f;subst f;cases m
  | succ i=>simp at f
 ·cases i with
  | zero=>simp at e;subst e;exact λz=>nomatch z
  | succ i=>simp at e
def aQ4{run:Run}{K:W.Frag}{H:Hp}{a:Addr}{ns:List Int}(b:aQ3 K=true)(c:cR2 H)(d:SqL K H a (ns.map V.int))(h:∃ as',run [⟨.val,.lst (ns.map D.int)⟩]=some (.val (.bl true),as')) :
  dsp 1 run [.ref a] H (λv _=>v=.bl true) (λ_ _ _=>False):=by
 obtain⟨as',h⟩:=h;exact⟨_,_,as',cG2 b c d,rfl,h,λv H' po e=>by cases e;rfl⟩
def OK1{b:Type}(o:Option b)(K:b->Prop):Prop:=match o with
 | some a=>K a
 | none=>False
def RE(r:DE)(σ:Sg)(Q:Res->Sg->Prop):Prop:=OK1 (r σ) λx=>Q x.1 x.2
def RT(r:DT)(σ:Sg)(Q:Bool->Sg->Prop):Prop:=OK1 (r σ) λx=>Q x.1 x.2
def RA(r:DA)(σ:Sg)(Q:List Res->Sg->Prop):Prop:=OK1 (r σ) λx=>Q x.1 x.2
def RS(r:DS)(σ:Sg)(Q:Out->Prop):Prop:=OK1 (r σ) Q
def RI(r:DI)(σ:Sg)(Q:List D->Option Nat->Sg->Prop):Prop:=OK1 (r σ) λx=>Q x.1 x.2.1 x.2.2
def RO(r:DO)(σ:Sg)(Q:Option Int->Sg->Prop):Prop:=OK1 (r σ) λx=>Q x.1 x.2
theorem bA{b c:Type}{o:Option b}{f:b->Option c}{K:c->Prop}:OK1 (o.bind f) K=OK1 o λa=>OK1 (f a) K:=by cases o<;>rfl
theorem cQ{b:Type}{a:b}{K:b->Prop}:OK1 (some a) K=K a:=rfl
def aQ5{b c:Type}{o:Option b}{f:b->c}{K:c->Prop}:OK1 (o.map f) K=OK1 o λa=>K (f a):=by cases o<;>rfl
theorem eL{a:Type}{c:Prop}[Decidable c]{o:Option a}{K:a->Prop}:OK1 (if c then o else none) K=(c/\OK1 o K):=by
 by_cases h:c;rw[a4A h];exact propext ⟨λq=>⟨h,q⟩,λq=>q.2⟩;rw[a4z h];exact propext ⟨λq=>q.elim,λq=>h q.1⟩
def aB9{b:Type}{o:Option b}{K:b->Prop}:OK1 o K↔∃ a,o=some a/\K a:=by
 cases o with
 | none=>exact⟨λq=>q.elim,λ⟨_,e,_⟩=>nomatch e⟩
 | some a=>exact⟨λq=>⟨a,rfl,q⟩,λZ1=>by obtain⟨_,e,q⟩:=Z1;cases e;exact q⟩
def uF{b:Type}{o:Option b}{K c:b->Prop}(h:OK1 o K)(w:∀ a,K a->c a):OK1 o c:=by
 cases o with
 | none=>exact h
 | some a=>exact w a h
def VK:Nat->Sg->Nat->Sg->(Res->Sg->Prop)->Prop
 | 0,some s::_,i,σ,Q=>Q (if s.m=.val then .val s.d else .slot i) σ
 | n+1,_::r,i,σ,Q=>VK n r i σ Q
 | _,_,_,_,_=>False
theorem cU0:∀ (n:Nat) (r:Sg) (i:Nat) (σ:Sg) (Q:Res->Sg->Prop),VK n r i σ Q=OK1 (match r[n]? with | some (some s)=>some (if s.m=.val then Res.val s.d else Res.slot i,σ) | _=>none) λx=>Q x.1 x.2
 | 0,[],_,_,_=>rfl
 | 0,none::_,_,_,_=>rfl
 | 0,some s::_,_,_,_=>rfl
 | n+1,[],_,_,_=>rfl
 | n+1,_::r,i,σ,Q=>by
   show VK n r i σ Q=_;rw[cU0 n r i σ Q,a7e]
def GK:Nat->Sg->(D->Prop)->Prop
 | 0,some s::_,K=>K s.d
 | n+1,_::r,K=>GK n r K
 | _,_,_=>False
theorem cU1:∀ (n:Nat) (r:Sg) (K:D->Prop),GK n r K=OK1 (match r[n]? with | some (some s)=>some s.d | _=>none) K
 | 0,[],_=>rfl
 | 0,none::_,_=>rfl
 | 0,some s::_,_=>rfl
 | n+1,[],_=>rfl
 | n+1,_::r,K=>by
   show GK n r K=_;rw[cU1 n r K,a7e]
def RD(σ:Sg)(r:Res)(K:D->Prop):Prop:=OK1 (rd σ r) K
def PK:Nat->Sg->Sl->(Sg->Prop)->Prop
 | 0,none::r,s,K=>K (some s::r)
 | 0,some ⟨.val,_⟩::r,s,K=>K (some s::r)
 | 0,some ⟨.own,_⟩::r,s,K=>K (some s::r)
 | n+1,o::r,s,K=>PK n r s λa=>K (o::a)
 | _,_,_,_=>False
def aH2{n:Nat}{o:Option Sl}{r:Sg}:eY (o::r) (n+1)=eY r n:=by unfold eY;rw[a7e]
theorem cG3:∀ (n:Nat) (r:Sg) (s:Sl) (K:Sg->Prop),PK n r s K=OK1 (if eY r n=true then some (r.set n (some s))else none) K
 | 0,[],s,K=>rfl
 | 0,none::r,s,K=>rfl
 | 0,some ⟨.val,_⟩::r,s,K=>rfl
 | 0,some ⟨.own,_⟩::r,s,K=>rfl
 | 0,some ⟨.par,_⟩::r,s,K=>rfl
 | 0,some ⟨.lent,_⟩::r,s,K=>rfl
 | n+1,[],s,K=>by
   show False=_;rw[eL];unfold eY;simp
 | n+1,o::r,s,K=>by
   show PK n r s (λa=>K (o::a))=_;rw[cG3 n r s _,eL,eL,aH2,List.set_cons_succ];rfl
def MK:Nat->Sg->FM->List D->(D->Sg->Prop)->Prop
 | 0,some ⟨.own,d⟩::r,f,ds,K=>OK1 (f d ds) λy=>K y.2 (some ⟨.own,y.1⟩::r)
 | 0,some ⟨.par,d⟩::r,f,ds,K=>OK1 (f d ds) λy=>K y.2 (some ⟨.par,y.1⟩::r)
 | n+1,o::r,f,ds,K=>MK n r f ds λe a=>K e (o::a)
 | _,_,_,_,_=>False
theorem cU2:∀ (n:Nat) (r:Sg) (f:FM) (ds:List D) (K:D->Sg->Prop),MK n r f ds K=OK1 (aK3 f n ds r) λx=>OK1 (match x.1 with | .val d=>some d | _=>none) λd=>K d x.2
 | 0,[],f,ds,K=>rfl
 | 0,none::r,f,ds,K=>rfl
 | 0,some ⟨.val,_⟩::r,f,ds,K=>rfl
 | 0,some ⟨.lent,_⟩::r,f,ds,K=>rfl
 | 0,some ⟨.own,d⟩::r,f,ds,K=>by
   show OK1 (f d ds) _=OK1 ((f d ds).bind λy=>some (Res.val y.2,some (⟨.own,y.1⟩:Sl)::r)) _;rw[bA];rfl
 | 0,some ⟨.par,d⟩::r,f,ds,K=>by
   show OK1 (f d ds) _=OK1 ((f d ds).bind λy=>some (Res.val y.2,some (⟨.par,y.1⟩:Sl)::r)) _;rw[bA];rfl
 | n+1,[],f,ds,K=>rfl
 | n+1,o::r,f,ds,K=>by
   show MK n r f ds (λe a=>K e (o::a))=_;rw[cU2 n r f ds _];unfold aK3;rw[a7e];cases q:r[n]? with
   | none=>rfl
   | some x=>cases x with
     | none=>rfl
     | some s=>
       dsimp only;by_cases hm:s.m.mt=true;rw[a4A hm,a4A hm,bA,bA];rfl;rw[a4z hm,a4z hm];rfl
def TK:String->Nat->Sg->Prop->Prop
 | T,0,some ⟨.own,d⟩::_,P=>tyD T d=true/\P
 | T,0,some ⟨.par,d⟩::_,P=>tyD T d=true/\P
 | T,0,some ⟨.lent,d⟩::_,P=>tyD T d=true/\P
 | T,n+1,_::r,P=>TK T n r P
 | _,_,_,_=>False
theorem aQ6:∀ (T:String) (n:Nat) (r:Sg) (P:Prop),TK T n r P=(xY T n r=true/\P)
 | T,0,[],P=>by simp[TK,xY]
 | T,0,none::r,P=>by simp[TK,xY]
 | T,0,some ⟨.val,d⟩::r,P=>by simp[TK,xY]
 | T,0,some ⟨.own,d⟩::r,P=>by simp[TK,xY]
 | T,0,some ⟨.par,d⟩::r,P=>by simp[TK,xY]
 | T,0,some ⟨.lent,d⟩::r,P=>by simp[TK,xY]
 | T,n+1,[],P=>by simp[TK,xY]
 | T,n+1,o::r,P=>by
   show TK T n r P=_;rw[aQ6 T n r P];unfold xY;rw[a7e]
section
variable{σ:Sg}{Q:Res->Sg->Prop}{QT:Bool->Sg->Prop}{QA:List Res->Sg->Prop}{QS:Out->Prop}{K:D->Prop}{KR:Res->Prop}{a b c:DE}{ra:DA}{t u:DT}{x y:DS}{d e:D}{f:F2}{f1:F1}{fn:FN}{i j n:Nat}{r:Sg}{o:Option Sl}
theorem dJ6:RE (dC d) σ Q=Q (.val d) σ:=rfl
theorem bN6:RE (aF i) σ Q=VK i σ i σ Q:=(cU0 i σ i σ Q).symm
theorem bN7:VK (n+1) (o::r) i σ Q=VK n r i σ Q:=rfl
theorem bN8:VK 0 (some ⟨.val,d⟩::r) i σ Q=Q (.val d) σ:=rfl
theorem bN9:VK 0 (some ⟨.own,d⟩::r) i σ Q=Q (.slot i) σ:=rfl
theorem bO0:VK 0 (some ⟨.par,d⟩::r) i σ Q=Q (.slot i) σ:=rfl
theorem bO1:VK 0 (some ⟨.lent,d⟩::r) i σ Q=Q (.slot i) σ:=rfl
theorem bO2:RE (aU f a b) σ Q=RE a σ λx g=>RE b g λy c=>RD c x λd=>RD c y λe=>OK1 (f d e) λr=>Q r c:=by
 unfold RE aU RD;simp only[bA,cQ]
theorem bO3:RD σ (.val d) K=K d:=rfl
theorem bO4:RD σ (.own d) K=K d:=rfl
theorem bO5:RD σ (.slot i) K=GK i σ K:=(cU1 i σ K).symm
theorem bO6{m:Md}:GK 0 (some ⟨m,d⟩::r) K=K d:=rfl
theorem bO7:GK (n+1) (o::r) K=GK n r K:=rfl
theorem bO8:RT (fO a) σ QT=RE a σ λx c=>RD c x λd=>OK1 (match d with | .bl b=>some b | _=>none) λb=>QT b c:=by
 unfold RT RE fO RD;simp only[bA];congr 1;funext x;congr 1;funext d;cases d<;>rfl
theorem bO9{b:Bool}{K:Bool->Prop}:OK1 (match D.bl b with | .bl b=>some b | _=>none) K=K b:=rfl
theorem cU3:RT (dOr t u) σ QT=RT t σ λb a=>if b=true then QT true a else RT u a QT:=by
 unfold RT dOr;simp only[bA];congr 1;funext x;by_cases h:x.1=true<;>simp[h,OK1]
theorem bP0:RT (aK2 t) σ QT=RT t σ λb a=>QT (!b) a:=by
 unfold RT aK2;simp only[bA,cQ]
theorem aQ7:RT fR σ QT=QT true σ:=rfl
theorem bP1{b:Bool}{K:Bool->Prop}:OK1 (match Res.val (D.bl b)with | .val (.bl t)=>some t | _=>none) K=K b:=rfl
theorem bP2:RA aR σ QA=QA [] σ:=rfl
theorem aQ8:RA (aC a ra) σ QA=RE a σ λx b=>RA ra b λxs c=>QA (x::xs) c:=by
 unfold RA RE aC;simp only[bA,cQ]
def RDs(σ:Sg)(rs:List Res)(K:List D->Prop):Prop:=OK1 (rds σ rs) K
def VLs(rs:List Res)(K:List D->Prop):Prop:=OK1 (vals rs) K
theorem aQ9{K:List D->Prop}:RDs σ [] K=K []:=rfl
theorem aR0{x:Res}{xs:List Res}{K:List D->Prop}:RDs σ (x::xs) K=RD σ x λd=>RDs σ xs λds=>K (d::ds):=by
 show OK1 ((rd σ x).bind λd=>(rds σ xs).bind λds=>some (d::ds)) K=_;unfold RDs RD;simp only[bA,cQ]
theorem bP3{K:List D->Prop}:VLs [] K=K []:=rfl
theorem bP4{xs:List Res}{K:List D->Prop}:VLs (.val d::xs) K=VLs xs λds=>K (d::ds):=by
 show OK1 ((vals xs).bind λds=>some (d::ds)) K=_;unfold VLs;simp only[bA,cQ]
theorem cU4:RE (dCB fn ra) σ Q=RA ra σ λxs a=>RDs a xs λds=>OK1 (fn ds) λr=>Q r a:=by
 unfold RE RA RDs dCB;simp only[bA,cQ]
theorem bP5:RE (iV ra) σ Q=RA ra σ λxs a=>VLs xs λds=>ds.length<=sizeLine/\Q (.val (.tup ds)) a:=by
 unfold RE RA VLs iV;simp only[bA,eL,cQ]
theorem bP6:RE (qW ra) σ Q=RA ra σ λxs a=>VLs xs λds=>ds.length<=sizeLine/\Q (.own (.lst ds)) a:=by
 unfold RE RA VLs qW;simp only[bA,eL,cQ]
def FK(r:Res)(σ:Sg)(K:D->Sg->Prop):Prop:=OK1 (dJ1 σ r) λx=>K x.1 x.2
def ZK:Nat->Sg->(D->Sg->Prop)->Prop
 | 0,some ⟨.own,d⟩::r,K=>K d (some ⟨.val,d⟩::r)
 | 0,some ⟨.val,d⟩::r,K=>K d (some ⟨.val,d⟩::r)
 | n+1,o::r,K=>ZK n r λd a=>K d (o::a)
 | _,_,_=>False
theorem cU5:RE (dFz a) σ Q=RE a σ λx b=>FK x b λd c=>Q (.val d) c:=by
 unfold RE dFz FK;simp only[bA,cQ]
theorem bP7{K:D->Sg->Prop}:FK (.val d) σ K=K d σ:=rfl
theorem bP8{K:D->Sg->Prop}:FK (.own d) σ K=K d σ:=rfl
theorem bP9{K:D->Sg->Prop}:ZK 0 (some ⟨.own,d⟩::r) K=K d (some ⟨.val,d⟩::r):=rfl
theorem bQ0{K:D->Sg->Prop}:ZK 0 (some ⟨.val,d⟩::r) K=K d (some ⟨.val,d⟩::r):=rfl
theorem bQ1{K:D->Sg->Prop}:ZK (n+1) (o::r) K=ZK n r λd a=>K d (o::a):=rfl
theorem aR1:RS gM σ QS=QS (.nx σ):=rfl
theorem aR2:RS (λσ=>some (.ct σ)) σ QS=QS (.ct σ):=rfl
def SqK(y:DS)(QS:Out->Prop):Out->Prop
 | .nx σ=>RS y σ QS
 | o=>QS o
theorem bQ2:RS (cN x y) σ QS=RS x σ (SqK y QS):=by
 unfold RS cN;rw[bA];congr 1;funext o;cases o<;>rfl
theorem bQ3:SqK y QS (.nx σ)=RS y σ QS:=rfl
theorem bQ4{v:Res}:SqK y QS (.rt v σ)=QS (.rt v σ):=rfl
theorem bQ5:SqK y QS (.bk σ)=QS (.bk σ):=rfl
theorem bQ6:SqK y QS (.ct σ)=QS (.ct σ):=rfl
theorem bQ7:RS (fQ a) σ QS=RE a σ λx b=>QS (.rt x b):=by unfold RS RE fQ;simp only[bA,cQ]
theorem aR3:RS dE9 σ QS=QS (.rt (.val .non) σ):=rfl
theorem bQ8:RS (qX t x y) σ QS=RT t σ λb a=>if b=true then RS x a QS else RS y a QS:=by
 unfold RS RT qX;simp only[bA];congr 1;funext z;by_cases h:z.1=true<;>simp[h]
def PtK(i:Nat)(r:Res)(σ:Sg)(K:Sg->Prop):Prop:=OK1 (dJ3 i r σ) K
theorem bQ9:RS (fA i a) σ QS=RE a σ λx b=>PtK i x b λc=>QS (.nx c):=by unfold RS RE PtK fA;simp only[bA,cQ]
theorem bR0{K:Sg->Prop}:PtK i (.val d) σ K=PK i σ ⟨.val,d⟩ K:=(cG3 i σ _ K).symm
theorem bR1{s:Sl}{K:Sg->Prop}:PK 0 (none::r) s K=K (some s::r):=rfl
theorem bR2{s:Sl}{K:Sg->Prop}:PK 0 (some ⟨.val,d⟩::r) s K=K (some s::r):=rfl
theorem bR3{s:Sl}{K:Sg->Prop}:PK 0 (some ⟨.own,d⟩::r) s K=K (some s::r):=rfl
theorem bR4{s:Sl}{K:Sg->Prop}:PK (n+1) (o::r) s K=PK n r s λa=>K (o::a):=rfl
def dF9{b:FM}{ds:List D}{σ:Sg}:OK1 (aK3 b i ds σ) (λx=>Q x.1 x.2)=MK i σ b ds λd a=>Q (.val d) a:=by
 rw[cU2];apply propext;rw[aB9,aB9];constructor;rintro⟨⟨x,s⟩,e,q⟩;obtain⟨_,_,_,_,_,_,rfl,_⟩:=hZ e;exact⟨_,e,q⟩;rintro⟨⟨x,s⟩,e,q⟩;obtain⟨_,_,_,_,_,_,rfl,_⟩:=hZ e;exact⟨_,e,q⟩
theorem bR5{T:String}{P:Prop}:TK T 0 (some ⟨.own,d⟩::r) P=(tyD T d=true/\P):=rfl
theorem bR6{T:String}{P:Prop}:TK T 0 (some ⟨.par,d⟩::r) P=(tyD T d=true/\P):=rfl
theorem bR7{T:String}{P:Prop}:TK T (n+1) (o::r) P=TK T n r P:=rfl
theorem bR8{a:FM}{ds:List D}{K:D->Sg->Prop}:MK 0 (some ⟨.own,d⟩::r) a ds K=OK1 (a d ds) λy=>K y.2 (some ⟨.own,y.1⟩::r):=rfl
theorem bR9{a:FM}{ds:List D}{K:D->Sg->Prop}:MK 0 (some ⟨.par,d⟩::r) a ds K=OK1 (a d ds) λy=>K y.2 (some ⟨.par,y.1⟩::r):=rfl
theorem bS0{a:FM}{ds:List D}{K:D->Sg->Prop}:MK (n+1) (o::r) a ds K=MK n r a ds λe b=>K e (o::b):=rfl
theorem bS1:RS (cT8 i a b) σ QS=RE b σ λx c=>OK1 (match x with | .val d=>some d | _=>none) λd=>TK "list" i c (RE a c λy f=>RD f y λg=>OK1 (match g with | .int k=>some k | _=>none) λk=>
  MK i f (λa _=>(dA6 k d a).map λb=>(b,.non)) [] λ_ e=>QS (.nx e)):=by
 unfold RS RE RD cT8;rw[bA];congr 1;funext x;obtain⟨x,c⟩:=x;cases x with
 | own d=>rfl
 | slot d=>rfl
 | val d=>
   show OK1 _ _=TK _ _ _ _;rw[aQ6];dsimp only;rw[eL];simp only[bA];congr 1;congr 1;funext y;congr 1;funext g;cases g with
   | int k=>
     dsimp only;rw[bA];show _=MK _ _ _ _ _;rw[← dF9 (Q:=λ_ e=>QS (.nx e))];rfl
   | _=>rfl
theorem bS2{K:D->Prop}:OK1 (match Res.val d with | .val d=>some d | _=>none) K=K d:=rfl
theorem bS3{k:Int}{K:Int->Prop}:OK1 (match D.int k with | .int k=>some k | _=>none) K=K k:=rfl
theorem bS4{g:DG}:RS (cS7 g a) σ QS=RE a σ λx b=>OK1 (match x with | .val d=>some d | _=>none) λd=>OK1 (g d b) λc=>QS (.nx c):=by
 unfold RS RE cS7;rw[bA];congr 1;funext x;obtain⟨x,b⟩:=x;cases x with
 | own d=>rfl
 | slot d=>rfl
 | val d=>
   show OK1 ((g d b).bind _) _=OK1 (g d b) _;rw[bA];rfl
theorem cU6{K:Sg->Prop}:OK1 (dgN i d σ) K=PK i σ ⟨.val,d⟩ K:=(cG3 i σ _ K).symm
theorem aR4{a:DGs}{l:List D}{K:Sg->Prop}:OK1 (lK n a (.tup l) σ) K=(l.length=n/\OK1 (a l σ) K):=by
 show OK1 (if l.length=n then a l σ else none) K=_;rw[eL]
theorem aC0{g:DG}{b:DGs}{l:List D}{K:Sg->Prop}:OK1 (cB g b (d::l) σ) K=OK1 (g d σ) λa=>OK1 (b l a) K:=by
 show OK1 ((g d σ).bind λa=>b l a) K=_;rw[bA]
theorem aR5{K:Sg->Prop}:OK1 (kP [] σ) K=K σ:=rfl
theorem bS5{K:D×D->Prop}:OK1 (match [d,e]with | [d,e]=>some (d,e) | _=>none) K=K (d,e):=rfl
end
def CK(run:Run)(as:List Sl)(K:Res->List Sl->Prop):Prop:=OK1 (run as) λy=>K y.1 y.2
def AK(σ:Sg)(rs:List Res)(K:List Sl->Prop):Prop:=OK1 (sA σ rs) K
def A1(σ:Sg)(r:Res)(K:Sl->Prop):Prop:=OK1 (yP σ r) K
def HK:Nat->Sg->(Sl->Prop)->Prop
 | 0,some ⟨m,d⟩::_,K=>K ⟨if m.mt=true then .par else m,d⟩
 | n+1,_::r,K=>HK n r K
 | _,_,_=>False
def UK:Nat->Sg->D->(Sg->Prop)->Prop
 | 0,some ⟨.own,_⟩::r,d,K=>K (some ⟨.own,d⟩::r)
 | 0,some ⟨.par,_⟩::r,d,K=>K (some ⟨.par,d⟩::r)
 | 0,o::r,_,K=>K (o::r)
 | n+1,o::r,d,K=>UK n r d λa=>K (o::a)
 | _,[],_,K=>K []
noncomputable def uS(σ:Sg)(i:Nat)(d:D):Sg:=match σ[i]? with
 | some (some s)=>if s.m.mt=true then σ.set i (some ⟨s.m,d⟩)else σ
 | _=>σ
noncomputable def sB:List Res->List Sl->Sg->Sg
 | .slot i::rs,a::as,σ=>sB rs as (uS σ i a.d)
 | _::rs,_::as,σ=>sB rs as σ
 | _,_,σ=>σ
def cU7{σ:Sg}{i j:Nat}{d:D}:(uS σ i d)[j]? = (σ[j]?).map λo=>if j=i then(match o with | some s=>some (if s.m.mt=true then⟨s.m,d⟩else s) | none=>none)else o:=by
 unfold uS;by_cases hj:j=i
 ·subst hj;cases h:σ[j]? with
  | none=>dsimp only;rw[h];rfl
  | some o=>
    cases o with
    | none=>dsimp only;rw[h];simp
    | some s=>
      dsimp only;by_cases hm:s.m.mt=true;rw[a4A hm,a3b (a0a.mp h).1];simp[hm];rw[a4z hm,h];simp[hm]
 ·have:∀ x:Option Sl,(σ.set i x)[j]? = σ[j]?:=λx=>a3a (a3d hj);split;split;rw[this];cases σ[j]? <;> simp[hj];cases σ[j]? <;> simp[hj];cases σ[j]? <;> simp[hj]
theorem aC1:∀ (rs:List Res) (as:List Sl) (σ:Sg) (j:Nat),eW rs=true->(sB rs as σ)[j]? = (σ[j]?).map (lM rs as j)
 | [],as,σ,j,_=>by cases as<;>(show σ[j]? = _;cases σ[j]? with | none=>rfl | some o=>cases o<;>simp[lM,jF])
 | r::rs,[],σ,j,_=>by cases r<;>(show σ[j]? = _;cases σ[j]? with | none=>rfl | some o=>cases o<;>simp[lM,jF])
 | .val d::rs,a::as,σ,j,h=>aC1 rs as σ j h
 | .own d::rs,a::as,σ,j,h=>aC1 rs as σ j h
 | .slot i::rs,a::as,σ,j,h=>by
   have h':eW rs=true/\bF0 i rs=false:=by
    unfold eW at h;rw[a3c]at h;exact⟨h.2,by simpa using h.1⟩
   show(sB rs as (uS σ i a.d))[j]? = _;rw[aC1 rs as _ j h'.1,cU7];cases σ[j]? with
   | none=>rfl
   | some o=>
     cases o with
     | none=>by_cases hj:j=i<;>simp[lM,hj]
     | some s=>
       by_cases hj:j=i
       ·subst hj;have c:jF j rs as=none:=by
         cases q:jF j rs as with
         | none=>rfl
         | some b=>
           obtain⟨k,e,_⟩:=fC q;rw[oZ e]at h';cases h'.2
        simp[lM,c,jF]
       ·have:¬ i=j:=λz=>hj z.symm;simp[lM,hj,jF,this]
def cU8{rs:List Res}{as:List Sl}{σ:Sg}(h:eW rs=true):iW rs as 0 σ=sB rs as σ:=by
 apply a3h;intro j;rw[jG,aC1 rs as σ j h,a9e]
def BK(rs:List Res)(as:List Sl)(σ:Sg)(K:Sg->Prop):Prop:=K (sB rs as σ)
def dA8(as:List Sl)(K:Res->List Sl->Prop):Out->Prop
 | .nx σ=>K (.val .non) (qY as σ)
 | .rt r σ=>OK1 (cS9 σ r) λa=>K a (qY as σ)
 | _=>False
section
variable{σ:Sg}{Q:Res->Sg->Prop}{ra:DA}{d:D}{i n:Nat}{r:Sg}{o:Option Sl}
theorem aR6{run:Run}:RE (bI n run ra) σ Q=RA ra σ λrs a=>AK a rs λas=>(as.length=n/\eW rs=true)/\CK run as λy as'=>BK rs as' a λb=>Q y b:=by
 unfold RE RA AK CK bI;simp only[bA,eL,cQ];congr 1;funext x;congr 1;funext as;apply propext;constructor;rintro⟨h,q⟩;refine⟨h,uF q λy q=>?_⟩;unfold BK;rw[← cU8 h.2];exact q;rintro⟨h,q⟩;refine⟨h,uF q λy q=>?_⟩;unfold BK at q;rw[← cU8 h.2]at q;exact q
theorem bS6{as:List Sl}{K:Sg->Prop}:BK [] as σ K=K σ:=by cases as<;>rfl
theorem bS7{rs:List Res}{a:Sl}{as:List Sl}{K:Sg->Prop}:BK (.val d::rs) (a::as) σ K=BK rs as σ K:=rfl
theorem bS8{rs:List Res}{a:Sl}{as:List Sl}{K:Sg->Prop}:BK (.own d::rs) (a::as) σ K=BK rs as σ K:=rfl
theorem bS9{e:D}{K:Sg->Prop}:UK 0 (some ⟨.own,e⟩::r) d K=K (some ⟨.own,d⟩::r):=rfl
theorem bT0{e:D}{K:Sg->Prop}:UK 0 (some ⟨.par,e⟩::r) d K=K (some ⟨.par,d⟩::r):=rfl
theorem bT1{e:D}{K:Sg->Prop}:UK 0 (some ⟨.val,e⟩::r) d K=K (some ⟨.val,e⟩::r):=rfl
theorem bT2{e:D}{K:Sg->Prop}:UK 0 (some ⟨.lent,e⟩::r) d K=K (some ⟨.lent,e⟩::r):=rfl
theorem bT3{K:Sg->Prop}:UK (n+1) (o::r) d K=UK n r d λa=>K (o::a):=rfl
def aR7{len:Nat}{b:DS}{as:List Sl}{K:Res->List Sl->Prop}:CK (iX len b) as K=RS b (ini len as) (dA8 as K):=by
 unfold CK RS iX;rw[bA];congr 1;funext o;cases o with
 | rt x s=>show OK1 ((cS9 s x).bind _) _=OK1 (cS9 s x) _;rw[bA];rfl
 | _=>rfl
def FSK:Nat->Sg->(Res->Prop)->Prop
 | 0,some ⟨.own,d⟩::_,K=>K (.own d)
 | 0,some ⟨.val,d⟩::_,K=>K (.val d)
 | n+1,_::r,K=>FSK n r K
 | _,_,_=>False
section
variable{as:List Sl}{K:Res->List Sl->Prop}{KR:Res->Prop}
theorem aR8:dA8 as K (.nx σ)=K (.val .non) (qY as σ):=rfl
theorem aR9:dA8 as K (.rt (.val d) σ)=K (.val d) (qY as σ):=rfl
theorem aS0:dA8 as K (.rt (.own d) σ)=K (.own d) (qY as σ):=rfl
theorem bT4:FSK 0 (some ⟨.own,d⟩::r) KR=KR (.own d):=rfl
theorem bT5:FSK 0 (some ⟨.val,d⟩::r) KR=KR (.val d):=rfl
theorem bT6:FSK (n+1) (o::r) KR=FSK n r KR:=rfl
theorem aS1:qY [] σ=[]:=rfl
theorem aS2{s:Sl}:qY (⟨.val,d⟩::as) (some s::r)=⟨.val,d⟩::qY as r:=rfl
theorem aS3{s:Sl}:qY (⟨.par,d⟩::as) (some s::r)=s::qY as r:=rfl
theorem aS4{s:Sl}:qY (⟨.lent,d⟩::as) (some s::r)=s::qY as r:=rfl
end
theorem bT7{K:List Sl->Prop}:AK σ [] K=K []:=rfl
theorem bT8{x:Res}{xs:List Res}{K:List Sl->Prop}:AK σ (x::xs) K=A1 σ x λa=>AK σ xs λas=>K (a::as):=by
 show OK1 ((yP σ x).bind λa=>(sA σ xs).bind λas=>some (a::as)) K=_;unfold AK A1;simp only[bA,cQ]
theorem bT9{K:Sl->Prop}:A1 σ (.val d) K=K ⟨.val,d⟩:=rfl
theorem bU0{K:Sl->Prop}:A1 σ (.own d) K=K ⟨.par,d⟩:=rfl
theorem bU1{K:Sl->Prop}:HK 0 (some ⟨.own,d⟩::r) K=K ⟨.par,d⟩:=rfl
theorem bU2{K:Sl->Prop}:HK 0 (some ⟨.par,d⟩::r) K=K ⟨.par,d⟩:=rfl
theorem bU3{K:Sl->Prop}:HK 0 (some ⟨.lent,d⟩::r) K=K ⟨.lent,d⟩:=rfl
theorem bU4{K:Sl->Prop}:HK (n+1) (o::r) K=HK n r K:=rfl
end
section
variable{σ:Sg}{QS:Out->Prop}{Q:Res->Sg->Prop}{ri:DI}{g:DG}{b:DS}{a:DE}{ra:DA}
def cU9:RS (rF ri g b) σ QS=RI ri σ λitems l a=>OK1 (bE6 g b items (lendO l a)) λo=>QS (aB1 l a o):=by
 unfold RS RI rF;simp only[bA,cQ]
noncomputable def dJ7:List D->Option (List D)
 | [.int j]=>if -(2 ^ 62)<=j/\j < 2 ^ 62 then some (aZ9 0 j.toNat)else none
 | [.int i,.int j]=>if(-(2 ^ 62)<=i/\i < 2 ^ 62) /\ -(2 ^ 62)<=j/\j < 2 ^ 62 then some (aZ9 i (j-i).toNat)else none
 | _=>none
theorem bU5{K:List D->Option Nat->Sg->Prop}:RI (bE5 ra) σ K=RA ra σ λxs a=>RDs a xs λds=>OK1 (dJ7 ds) λl=>K l none a:=by
 unfold RI RA RDs bE5;simp only[bA];congr 1;funext x;congr 1;funext ds
 match ds with
 | []=>rfl
 | [.int j]=>show OK1 (if -(2 ^ 62)<=j/\j < 2 ^ 62 then _ else none) _=OK1 (if -(2 ^ 62)<=j/\j < 2 ^ 62 then _ else none) _;rw[eL,eL];rfl
 | [.int i,.int j]=>show OK1 (if(-(2 ^ 62)<=i/\i < 2 ^ 62) /\ -(2 ^ 62)<=j/\j < 2 ^ 62 then _ else none) _=OK1 (if(-(2 ^ 62)<=i/\i < 2 ^ 62) /\ -(2 ^ 62)<=j/\j < 2 ^ 62 then _ else none) _;rw[eL,eL];rfl
 | [.non]=>rfl
 | [.bl _]=>rfl
 | [.str _]=>rfl
 | [.tup _]=>rfl
 | [.lst _]=>rfl
 | [.dic _ _]=>rfl
 | .non::_::_=>rfl
 | .bl _::_::_=>rfl
 | .str _::_::_=>rfl
 | .tup _::_::_=>rfl
 | .lst _::_::_=>rfl
 | .dic _ _::_::_=>rfl
 | .int _::.non::_=>rfl
 | .int _::.bl _::_=>rfl
 | .int _::.str _::_=>rfl
 | .int _::.tup _::_=>rfl
 | .int _::.lst _::_=>rfl
 | .int _::.dic _ _::_=>rfl
 | .int _::.int _::_::_=>rfl
theorem aS5{j:Int}{K:List D->Prop}:OK1 (dJ7 [.int j]) K=((-(2 ^ 62)<=j/\j < 2 ^ 62)/\K (aZ9 0 j.toNat)):=by
 show OK1 (if -(2 ^ 62)<=j/\j < 2 ^ 62 then some (aZ9 0 j.toNat)else none) K=_;rw[eL];rfl
def cG4{items:List D}(P:Nat->Sg->Prop)(h0:P 0 σ)(hs:∀ i d σ,items[i]? = some d->P i σ->OK1 (g d σ) λc=>RS b c λo=>∃ a,(o=.nx a\/o=.ct a)/\P (i+1) a){K:Out->Prop}(k:∀ σ',P items.length σ'->K (.nx σ')):OK1 (bE6 g b items σ) K:=by
 induction items generalizing P σ with
 | nil=>exact k σ h0
 | cons d r f=>
   show OK1 ((g d σ).bind _) K;rw[bA];refine uF (hs 0 d σ rfl h0) λc h=>?_;rw[bA];refine uF h λo j=>?_;obtain⟨a,l,m⟩:=j;have go:OK1 (bE6 g b r a) K:=f (λi=>P (i+1)) m (λi d σ e p=>hs (i+1) d σ (by simpa using e) p) λσ' p=>k σ' (by simpa using p);rcases l with rfl | rfl;exact go;exact go
end
section
variable{i j:Int}{l m:List D}{K:Res->Prop}{d e:D}{σ:Sg}{Q:Res->Sg->Prop}
theorem bU6:OK1 (vM (.int i) (.int j)) K=K (.val (.int (i+j))):=rfl
theorem bU7:OK1 (aK4 (.int i) (.int j)) K=K (.val (.int (i-j))):=rfl
theorem bU8:OK1 (aK5 (.int i) (.int j)) K=(rG i j/\K (.val (.int (i*j)))):=@eL _ (rG i j) (Classical.propDecidable _) _ _
theorem bU9:OK1 (dA7 (.int i) (.int j)) K=(aH1 i j/\K (.val (.int (i / j)))):=@eL _ (aH1 i j) (Classical.propDecidable _) _ _
theorem bV0:OK1 (bA0 (.int i) (.int j)) K=(0 < j/\K (.val (.int (i % j)))):=@eL _ (0 < j) (Classical.propDecidable _) _ _
theorem bV1:OK1 (dF1 (.int i) (.int j)) K=(cL5 i j/\K (.val (.int (i ^ j.toNat)))):=@eL _ (cL5 i j) (Classical.propDecidable _) _ _
theorem cV0:OK1 (ltI (.int i) (.int j)) K=K (.val (.bl (decide (i < j)))):=rfl
theorem cV1:OK1 (leI (.int i) (.int j)) K=K (.val (.bl (decide (i<=j)))):=rfl
theorem cV2:OK1 (gtI (.int i) (.int j)) K=K (.val (.bl (decide (j < i)))):=rfl
theorem cV3:OK1 (geI (.int i) (.int j)) K=K (.val (.bl (decide (j<=i)))):=rfl
theorem bV2:OK1 (dF2 (.int i)) K=K (.val (.int (-i))):=rfl
theorem bV3:OK1 (dO0 (.int i)) K=K (.val (.int (Builtin.Int.intBits i))):=rfl
theorem bV4:OK1 (ixD (.lst l) (.int i)) K=OK1 (atI l i) λd=>K (.val d):=by
 show OK1 ((atI l i).map Res.val) K=_;rw[aQ5]
theorem aS6:OK1 (nD [.lst l]) K=K (.val (.int l.length)):=rfl
theorem aS7:OK1 (nD [.tup l]) K=K (.val (.int l.length)):=rfl
theorem bV5:OK1 (cT5 [.int i]) K=K (.val (.int i)):=rfl
theorem aS8{b:Bool}:OK1 (cT5 [.bl b]) K=K (.val (.int (if b then 1 else 0))):=rfl
theorem bV6:OK1 (dF3 [.int i,.int j]) K=K (.val (.int (if j > i then j else i))):=rfl
theorem bV7:OK1 (dF4 [.int i,.int j]) K=K (.val (.int (if j < i then j else i))):=rfl
theorem aS9:OK1 (cT6 [.lst l]) K=K (.own (.lst l)):=rfl
theorem aC2:OK1 (cT6 [.tup l]) K=K (.own (.lst l)):=rfl
theorem bV8:OK1 (aG9 [.lst l]) K=K (.val (.tup l)):=rfl
theorem aT0:OK1 (aG9 [.tup l]) K=K (.val (.tup l)):=rfl
theorem bV9{c:String}:OK1 (bN4 c (.int i)) K=K (.val (.bl (pM "int" c))):=rfl
theorem bW0{c:String}{b:Bool}:OK1 (bN4 c (.bl b)) K=K (.val (.bl (pM "bool" c))):=rfl
theorem bW1{k:Int}{K:D×D->Prop}:OK1 ((dA6 k e (.lst l)).map λb=>(b,D.non)) K=OK1 (ixN l.length k) λj=>K (.lst (l.set j e),.non):=by
 show OK1 (((ixN l.length k).map λj=>D.lst (l.set j e)).map λb=>(b,D.non)) K=_;rw[aQ5,aQ5]
def SK(d:D)(lo hi:Option Int)(K:Res->Prop):Prop:=OK1 (slD d lo hi) K
theorem bW2{K:Option Int->Sg->Prop}:RO dA5 σ K=K none σ:=rfl
theorem bW3{lo hi:Option Int}:SK (.lst l) lo hi K=K (.own (.lst (cM0 l lo hi))):=rfl
theorem bW4{lo hi:Option Int}:SK (.tup l) lo hi K=K (.val (.tup (cM0 l lo hi))):=rfl
theorem bW5{x:D}{K:D->Prop}:OK1 (atI (x::l) 0) K=K x:=by
 show OK1 ((ixN (x::l).length 0).bind λj=>(x::l)[j]?) K=_;unfold ixN;rw[a4A (Int.le_refl 0),a4A (by first | (simp;done) | (simp;lia))];rfl
theorem bW6{x y:D}{K:D->Prop}:OK1 (atI (x::y::l) 1) K=K y:=by
 show OK1 ((ixN (x::y::l).length 1).bind λj=>(x::y::l)[j]?) K=_;unfold ixN;rw[a4A (by decide),a4A (by first | (simp;done) | (simp;lia))];rfl
theorem bW7{x:D}{K:Nat->Prop}:OK1 (ixN (x::l).length 0) K=K 0:=by
 unfold ixN;rw[a4A (Int.le_refl 0),a4A (by first | (simp;done) | (simp;lia))];rfl
theorem bW8{x y:D}{K:Nat->Prop}:OK1 (ixN (x::y::l).length 1) K=K 1:=by
 unfold ixN;rw[a4A (by decide),a4A (by first | (simp;done) | (simp;lia))];rfl
theorem bW9{i j:Int}(a:-(2 ^ 64) < j)(b:j < 2 ^ 64):rG i j=True:=eq_true (.inl (.inr ⟨a,b⟩))
theorem bX0{i j:Int}(a:-(2 ^ 64) < i)(b:i < 2 ^ 64):rG i j=True:=eq_true (.inl (.inl ⟨a,b⟩))
theorem bX1{i:Int}{p:Prop}[Decidable p]:rG i (if p then 1 else 0)=True:=eq_true (.inl (.inr (by split<;>decide)))
theorem cG5{i j:Int}(a:0 < j)(b:j < 18446744073709551616):aH1 i j=True:=eq_true ⟨a,b⟩
theorem cV4{i j:Int}(a:0<=j)(b:j<=1000000)(c:-18446744073709551616 < i)(d:i < 18446744073709551616):cL5 i j=True:=eq_true ⟨a,b,by show i.natAbs < 18446744073709551616;lia⟩
theorem bX2{σ:Sg}:lendO none σ=σ:=rfl
theorem cV5{σ:Sg}{o:Out}:aB1 none σ o=o:=by cases o<;>rfl
theorem bX3{σ σ':Sg}:aZ8 none σ σ'=σ':=rfl
theorem bX4:(tyD "list" (.lst l)=true)=True:=by simp[tyD]
end
noncomputable def uG:List D->Option (List Str)
 | []=>some []
 | .str s::r=>(uG r).bind λl=>some (s::l)
 | _::_=>none
theorem pA:∀ {l:List D} {a:List Str},uG l=some a->l=a.map D.str
 | [],_,h=>by cases h;rfl
 | .str s::r,_,h=>by
   obtain⟨l,b,c⟩:=bind_some h;cases c;rw[pA b];rfl
 | .non::_,_,h=>by cases h
 | .int _::_,_,h=>by cases h
 | .bl _::_,_,h=>by cases h
 | .tup _::_,_,h=>by cases h
 | .lst _::_,_,h=>by cases h
 | .dic _ _::_,_,h=>by cases h
noncomputable def nv1(σ:Sg):Res->Option D
 | .own d=>some d
 | .slot i=>match σ[i]? with
   | some (some s)=>if s.m=.val then none else some s.d
   | _=>none
 | .val _=>none
noncomputable def nvs(σ:Sg):List Res->Option (List D)
 | []=>some []
 | r::rs=>(nv1 σ r).bind λd=>(nvs σ rs).bind λds=>some (d::ds)
inductive Owns(H:Hp):List D->List V->Prop
 | nil:Owns H [] []
 | cons {d:D} {p:Addr} {ds:List D} {vs:List V}:cP H d p->Owns H ds vs->Owns H (d::ds) (.ref p::vs)
def cG6{Γ:Gm}{H:Hp}{σ:Sg}{σV:St}{r:Res}{v:V}{d:D}(ok:StOk Γ H σ σV)(h:jC Γ H σ σV r v)(e:nv1 σ r=some d):∃ p,v=.ref p/\cP H d p:=by
 cases r with
 | val d=>cases e
 | own d'=>
   cases e;obtain⟨p,e,ow,_⟩:=h;exact⟨p,e,ow⟩
 | slot i=>
   unfold nv1 at e;dsimp only at e;split at e;rename_i s hs;split at e;cases e;rename_i hm;cases e;obtain⟨p,b,ow⟩:=ok.ownAt hs hm;obtain⟨a,_⟩:=h;rw[b]at a;cases a;exact⟨p,rfl,ow⟩;cases e
theorem aC3{Γ:Gm}{H:Hp}{σ:Sg}{σV:St}:∀ {rs:List Res} {vs:List V} {ds:List D},StOk Γ H σ σV->ResOks Γ H σ σV rs vs->nvs σ rs=some ds->Owns H ds vs
 | [],_,_,_,.nil,e=>by cases e;exact .nil
 | r::rs,_,_,ok,.cons a t _,e=>by
   obtain⟨d,b,e⟩:=bind_some e;obtain⟨ds,c,e⟩:=bind_some e;cases e;obtain⟨p,rfl,ow⟩:=cG6 ok a b;exact .cons ow (aC3 ok t c)
def dG0(a:List V->Hp->L2.VK->Prop)(f:FN):Prop:=∀ H ds vs Q res,Owns H ds vs->f ds=some res->(∀ v H',tM H H'->xW H H' res v->Q v H')->a vs H Q
noncomputable def dCO(f:FN)(a:DA):DE:=λσ=>(a σ).bind λx=>(nvs x.2 x.1).bind λds=>(f ds).bind λr=>some (r,x.2)
def cV6{X:Cx}{e:Expr}{c:List V->Hp->L2.VK->Prop}{f:FN}{d:DA}(j:dG0 c f)(h:∀ Γ,PE X e (tCB c (dTA Γ d))):GE X e (dCO f d):=.mk λΓ=>peW (h Γ) λσV H Q ⟨σ,ok,res,σ',e,k⟩=>by
 obtain⟨⟨x,l⟩,m,e⟩:=bind_some e;obtain⟨ds,n,e⟩:=bind_some e;obtain⟨r,o,e⟩:=bind_some e;cases e;refine⟨σ,ok,x,_,m,λvs p a q b s=>?_⟩;refine j p ds vs Q _ (aC3 a q n) o λv H' g i=>?_;exact k v H' (a.same g) (i.res a) (b.trans (.same g)) (i.frh.back b)
noncomputable def dA9:FN:=λds=>match ds with
 | [.lst l]=>some (.own (.lst l.reverse))
 | _=>none
def cG7:dG0 aA5 dA9:=by
 intro H ds vs Q res ow e k;unfold dA9 at e;split at e
 ·cases e;cases ow with
  | cons a t=>
    cases t;obtain⟨xs,c,d⟩:=iD a;refine⟨_,xs,rfl,c,λr b=>k _ _ (bE b) ⟨r,rfl,b,_,aQ,d.reverse.mono (Ext.same (bE b))⟩⟩
 ·cases e
noncomputable def dJ8(l m:List D):List D:=(l.zip m).map λp=>.tup [p.1,p.2]
noncomputable def dO1:FN:=λds=>match ds with
 | [.lst l,.lst m]=>some (.val (.tup (dJ8 l m)))
 | _=>none
section
variable{σ:Sg}{Q:Res->Sg->Prop}{ra:DA}
def NV(σ:Sg)(rs:List Res)(K:List D->Prop):Prop:=OK1 (nvs σ rs) K
def N1(σ:Sg)(r:Res)(K:D->Prop):Prop:=OK1 (nv1 σ r) K
theorem bX5{K:List D->Prop}:NV σ [] K=K []:=rfl
theorem bX6{d:D}{K:D->Prop}:N1 σ (.own d) K=K d:=rfl
def GN:Nat->Sg->(D->Prop)->Prop
 | 0,some ⟨m,d⟩::_,K=>if m=.val then False else K d
 | n+1,_::r,K=>GN n r K
 | _,_,_=>False
theorem bX7{d:D}{r:Sg}{K:D->Prop}:GN 0 (some ⟨.own,d⟩::r) K=K d:=rfl
theorem bX8{d:D}{r:Sg}{K:D->Prop}:GN 0 (some ⟨.par,d⟩::r) K=K d:=rfl
theorem bX9{d:D}{r:Sg}{K:D->Prop}:GN 0 (some ⟨.lent,d⟩::r) K=K d:=rfl
theorem bY0{n:Nat}{o:Option Sl}{r:Sg}{K:D->Prop}:GN (n+1) (o::r) K=GN n r K:=rfl
theorem bY1{l:List D}{K:Res->Prop}:OK1 (dA9 [.lst l]) K=K (.own (.lst l.reverse)):=rfl
theorem bY2{l m:List D}{K:Res->Prop}:OK1 (dO1 [.lst l,.lst m]) K=K (.val (.tup (dJ8 l m))):=rfl
end
end Dv
namespace PySem
section
variable{prog:Program}{w:World}{A:Around}{E:Value->Shared->Prop}{s:Shared}
def bF2{it t:Addr}{i:Nat}{its:Array Value}{x:Value}{Q:Value->Shared->Prop}(a:s.heap.IsTupleIter it t i)(e:s.heap.IsTuple t its)(f:its[i]? = some x)
  (q:∀ h',h'.IsTupleIter it t (i+1)->Heap.SameBut it s.heap h'->Q x {s with heap:=h'}):wpAny (model prog w) A (Builtin.SmallTypes.nextOf (.ref it)) Q E s:=by
 obtain⟨o,b,g,hd⟩:=id a;obtain⟨h,c,_,nt,d⟩:=e;unfold Builtin.SmallTypes.nextOf;refine a4x (wpAny_callSpecial?_slot (name:=Str.ofString "__next__") a.typeIs a7h (a4H a7h a.typeIs F.entry_tuple_iterator_next ?_ (F.args_tuple_iterator_next_1 _)));show wpAny _ _ (field (.ref it) 0 >>= _) _ _ s;refine a4x (a4G b hd (x:=.ref t) rfl ?_);show wpAny _ _ (if(Value.ref t==Value.none)=true then _ else _) _ _ s;rw[a4z (show ¬ ((Value.ref t==Value.none)=true)from a9c)];show wpAny _ _ (field (.ref it) 1 >>= _) _ _ s;refine a4x (a4G b hd (x:=.int i 0) rfl ?_);show wpAny _ _ (seqItems? (.ref t) >>= _) _ _ s;refine a4x (a4K c d ?_);simp only[Int.toNat_natCast,f];refine a4x (a5q b hd (by simp) (wpAny_pure ⟨x,rfl,wpAny_pure (q _ ⟨_,Heap.get?_update_self _ b (Obj.isFreed_of_fields (Obj.data_mapFields hd _)),(Obj.cls_mapFields ..).trans g,by rw[Obj.data_mapFields hd];simp[rawInt]⟩ (a3f ..))⟩))
def wK{it t:Addr}{i:Nat}{its:Array Value}{Q:Value->Shared->Prop}(g:A.handled=none)(b:s.heap.IsTupleIter it t i)(h:s.heap.IsTuple t its)(j:its[i]? = none)
  (q:∀ h' e,Heap.ExtBut it s.heap h'->(∃ o,h'.get? e=some o/\o.cls=.type "StopIteration")->E (.ref e) {s with heap:=h'}):wpAny (model prog w) A (Builtin.SmallTypes.nextOf (.ref it)) Q E s:=by
 obtain⟨o,c,k,hd⟩:=id b;obtain⟨l,d,_,nt,f⟩:=h;unfold Builtin.SmallTypes.nextOf;refine a4x (wpAny_callSpecial?_slot (name:=Str.ofString "__next__") b.typeIs a7h (a4H a7h b.typeIs F.entry_tuple_iterator_next ?_ (F.args_tuple_iterator_next_1 _)));show wpAny _ _ (field (.ref it) 0 >>= _) _ _ s;refine a4x (a4G c hd (x:=.ref t) rfl ?_);show wpAny _ _ (if(Value.ref t==Value.none)=true then _ else _) _ _ s;rw[a4z (show ¬ ((Value.ref t==Value.none)=true)from a9c)];show wpAny _ _ (field (.ref it) 1 >>= _) _ _ s;refine a4x (a4G c hd (x:=.int i 0) rfl ?_);show wpAny _ _ (seqItems? (.ref t) >>= _) _ _ s;refine a4x (a4K d f ?_);simp only[Int.toNat_natCast,j];refine a4x (a4I (a4x (a5q c hd (by simp) ?_)));show wpAny _ _ (newExc (.type "StopIteration") [] >>= _) _ _ _;refine a4x ?_;simp only[newExc,newTuple];refine a4x (a4J ?_ (by size_fits));refine a4x (m:=firstArgMember _ _) (wpAny_of_eq (a:=Value.none) (by first | rfl | (simp only[firstArgMember];rfl)) ?_);refine a4J ?_ (by size_fits);simp only[raiseNew];refine a4x (wpAny_handled ?_);rw[show A.in1.handled=none from g];refine a4x (a4y (wpAny_throw ?_));exact q _ _ (((a3f ..).extBut.push _).push _) ⟨_,a7a _ rfl,rfl⟩
end
def Draws.tup{prog:Program}{w:World}{A:Around}(f:A.handled=none)(it t:Addr)(c:t≠it)(its:Array Value) :
  Draws prog w A it [it,t] its.size (λi v=>its[i]? = some v) (λi h=>h.IsTupleIter it t i/\h.IsTuple t its) where
 live:=λ_ _ st=>st.1.imp λ_ z=>z.1
 frame:=λ_ _ _ st d=>⟨st.1.at λo e=>d it (by simp) o e,st.2.at λo e=>d t (by simp) o e⟩
 item:=λi s Q E hi st g=>bF2 st.1 st.2 (x:=its[i]) (by simp[hi]) λh' a b=>g _ h' s.toks (by simp[hi]) ⟨a,st.2.at λo e=>(b.2 t c).trans e⟩ b
 done:=λs Q E st j=>wK f st.1 st.2 (by simp) j
end PySem
namespace L2
open PySem PyProof.Rows
section
variable{X:Cx}{pins:List (Addr×Obj)}{σ:St}{H:Hp}{s:Shared}{h':Heap}{ch:List Addr}
def Inv.spun{t':Nat}{a:Addr}{o:HO}(I:Inv X pins σ H s)(g:∀ b∈ch,aL6 X pins H b)(k:∀ b u,b∉ch->s.heap.get? b=some u->h'.get? b=some u)(i:s.heap.objs.size<=a)
  (h:cM X.prog X.w (upd H a o) h' a o):Inv X pins σ (upd H a o) {s with heap:=h',toks:=t'}:=by
 have ha:H a=none:=I.hok.fresh i;have f:∀ b u,H b=some u->b∉ch:=λb u e z=>by rw[(g b z).1]at e;cases e
 refine I.step (g':=s.gens) (d':=s.drawn) (ch:=ch) (λb hb=>?_) (λb u _ _ d e _=>k b u d e) (λb u _ _ d e _=>⟨u.slots,k b u d e⟩) (λb u _ e n=>?_) (λb u d e=>⟨u,k b u d e⟩)
  (λb xs e=>by rw[aK (aY e ha)];exact e) (λb u v e=>by rw[aK (aY e ha)];exact e) (λb ps e=>⟨#[],by rw[aK (aY e ha),e];simp⟩) (λm hm=>?_) (λb u e=>?_) I.bare
 ·obtain⟨y,j,A,l,p,t⟩:=g b hb;exact⟨l,j,p,t⟩
 ·rw[aK (a0d (a9b (a5a e) i))];exact n
 ·obtain⟨u,es,ep,x,r⟩:=hm;exact⟨u,es,ep,k _ u (λz=>(g _ z).2.1 rfl) x,r⟩
 ·by_cases hb:b=a;subst hb;rw[aQ]at e;cases e;exact h;rw[aK hb]at e;refine(I.hok b u e).stay (λc v d q=>k c v ?_ q) (λc q=>by rw[aK (aY q ha)];exact q) λc xs q=>by rw[aK (aY q ha)];exact q
  rcases d with z | z;rw[z];exact f b u e;exact f c _ z
def Inv.spun0{t':Nat}(I:Inv X pins σ H s)(f:∀ b∈ch,aL6 X pins H b)(k:∀ b u,b∉ch->s.heap.get? b=some u->h'.get? b=some u):Inv X pins σ H {s with heap:=h',toks:=t'}:=by
 have d:∀ b u,H b=some u->b∉ch:=λb u e z=>by rw[(f b z).1]at e;cases e
 refine I.step (g':=s.gens) (d':=s.drawn) (ch:=ch) (λb hb=>?_) (λb u _ _ a e _=>k b u a e) (λb u _ _ a e _=>⟨u.slots,k b u a e⟩) (λb u _ e n=>n) (λb u a e=>⟨u,k b u a e⟩)
  (λb xs e=>e) (λb u v e=>e) (λb ps e=>⟨#[],by rw[e];simp⟩) (λm hm=>?_) (λb u e=>?_) I.bare
 ·obtain⟨o,g,p,h,i,j⟩:=f b hb;exact⟨h,g,i,j⟩
 ·obtain⟨u,es,ep,l,r⟩:=hm;exact⟨u,es,ep,k _ u (λz=>(f _ z).2.1 rfl) l,r⟩
 ·refine(I.hok b u e).stay (λc v a q=>k c v ?_ q) (λc q=>q) λc xs q=>q;rcases a with z | z;rw[z];exact d b u e;exact d c _ z
end
noncomputable def dG1(K:W.Frag)(a:Addr):It:=
 ⟨λi H=>∃ xs x,SqT K H a xs/\xs[i]? = some x,λi H v H'=>∃ T x,v=.ref T/\H T=none/\H'=upd H T (.tup [.int i,x])/\∀ xs,SqT K H a xs->xs[i]? = some x,λi H=>∃ xs,SqT K H a xs/\xs.length=i⟩
noncomputable def dG2(K:W.Frag)(a:Addr):It:=
 ⟨λi H=>∃ xs x,SqL K H a xs/\xs[i]? = some x,λi H v H'=>∃ T x,v=.ref T/\H T=none/\H'=upd H T (.tup [.int i,x])/\∀ xs,SqL K H a xs->xs[i]? = some x,λi H=>∃ xs,SqL K H a xs/\xs.length=i⟩
def aC4{P:Program}{w:World}{H:Hp}{h b:Heap}{e it T:Addr}{i:Nat}{tk:Tok}{u:Value}{x:V}(c:h.get? T=some {cls:=.type "tuple",data:=.seq #[.int i tk,u]})(hs:b.get? T=h.get? T)(d:cE x u):cM P w (upd H T (.tup [.int i,x])) b T (.tup [.int i,x]):=by
 have a:=hs.trans c;exact⟨by show 2<=sizeLine;decide,[.int i tk,u],.cons ⟨tk,rfl⟩ (.cons d .nil),⟨_,a,rfl,_,rfl⟩,⟨_,a,rfl⟩⟩
def aH3{P:Program}{w:World}{K:W.Frag}{B:List Expr}{k:Nat}{pos:Pos}(a e it:Addr)(l:e≠it) :
  Turn P w K (.Tuple B k pos) (dG1 K a) [e,it] e (λi h=>(∃ f,IsEnum h e it i f)/\h.IsTupleIter it a i) where
 mem:=by simp
 obj:=λi h st b hb=>by
  obtain⟨⟨f,g⟩,o,C,c,d⟩:=st;rcases a2b.mp hb with z | hb;subst z;exact⟨_,g,λv z=>by cases z⟩;rw[a1b.mp hb];exact⟨o,C,λv z=>by rw[d]at z;cases z⟩
 keep:=λi h h' st k=>by
  obtain⟨⟨f,g⟩,hi⟩:=st;exact⟨⟨f,k e (by simp) _ g⟩,hi.at λo q=>k it (by simp) o q⟩
 item:=by
  intro X L M N O i pins s σ H E I F st Q;subst L M N;obtain⟨⟨f,g⟩,hi⟩:=st;obtain⟨xs,x,G,J⟩:=Q;obtain⟨its,R,p,hz⟩:=I.tuple G;obtain⟨u,hu,ru⟩:=R.get J;have r:s.heap.IsTuple a its.toArray:=p;have m:a≠it:=λz=>by
   obtain⟨o,j,t,_⟩:=r;obtain⟨o',S,D,_⟩:=id hi;rw[z,S]at j;cases j;rw[t]at D;injection D with q;exact absurd q (by decide)
  have T:e≠a:=λz=>by
   obtain⟨o,j,t,_⟩:=r;rw[← z,g]at j;cases j;have U:Value.type "enumerate"=Value.type "tuple":=t;injection U with q;exact absurd q (by decide)
  have V:i < its.toArray.size:=by
   have:=(a0a.mp hu).1;simpa using this
  refine wpAny_pyNext_enum_itemD (Draws.tup (A:=X.A.in1) (I.ok.hd O) it a m its.toArray) g ⟨hi,r⟩ V l (by simp[l,T]) λy j tk hy C Y hT hsz hk=>?_;obtain rfl:y=u:=by
   rw[a1c,hu]at hy;exact(a4a hy).symm
  refine⟨_,rfl,wpAny_letOwnedTupleGo_enum C λt Z n=>?_⟩;have hTe:s.heap.objs.size≠e:=λz=>absurd (a5a g) (by rw[← z];exact a7d _);have ha:H s.heap.objs.size=none:=I.hok.fresh (a8a _);refine⟨.ref s.heap.objs.size,upd H s.heap.objs.size (.tup [.int i,x]),?_,rfl,⟨_,x,rfl,ha,rfl,λys hys=>by rw[I.tuple_inj hys G];exact J⟩,⟨⟨_,Z⟩,Y.1.at λo q=>(n.2 it l.symm).trans q⟩,λb hb=>?_⟩;exact I.spun (ch:=[e,it]) (t':=tk+1) F (λb u hb q=>(n.2 b λz=>hb (by simp[z])).trans (hk b u (λz=>hb (by simp[z])) (λz=>hb (by simp[z])) q)) (a8a _) (aC4 (e:=e) (it:=it) hT (n.2 _ hTe) ru);rw[aK (λz=>?_)];exact(F b hb).1;obtain⟨o,C⟩:∃ o,s.heap.get? b=some o:=by
   rcases a2b.mp hb with z | hb;rw[z];exact⟨_,g⟩;rw[a1b.mp hb];exact hi.imp λ_ q=>q.1
  exact absurd (a5a C) (by rw[z];exact a7d _)
 done:=by
  intro X L M N O i pins s σ H E I F st Q;subst L M N;obtain⟨⟨f,g⟩,hi⟩:=st;obtain⟨xs,G,J⟩:=Q;obtain⟨its,R,p,hz⟩:=I.tuple G;have r:s.heap.IsTuple a its.toArray:=p;have m:a≠it:=λz=>by
   obtain⟨o,j,t,_⟩:=r;obtain⟨o',S,D,_⟩:=id hi;rw[z,S]at j;cases j;rw[t]at D;injection D with q;exact absurd q (by decide)
  have hl:its.toArray.size=i:=by rw[a6a,← R.length];exact J
  refine wpAny_pyNext_enum_endD (Draws.tup (A:=X.A.in1) (I.ok.hd O) it a m its.toArray) g ⟨by rw[hl];exact hi,r⟩ λh' hx'=>⟨rfl,I.spun0 (ch:=[e,it]) (t':=s.toks) F λb u hb q=>hx' b u (λz=>hb (by simp[z])) q⟩
 self:=λ_ _ _ _ _ st h=>wpAny_pyIter_enum st.1.choose_spec h
def aH4{P:Program}{w:World}{K:W.Frag}{B:List Expr}{k:Nat}{pos:Pos}(a e it:Addr)(l:e≠it) :
  Turn P w K (.Tuple B k pos) (dG2 K a) [e,it] e (λi h=>(∃ f,IsEnum h e it i f)/\h.IsListIter it a i) where
 mem:=by simp
 obj:=λi h st b hb=>by
  obtain⟨⟨f,g⟩,o,C,c,d⟩:=st;rcases a2b.mp hb with z | hb;subst z;exact⟨_,g,λv z=>by cases z⟩;rw[a1b.mp hb];exact⟨o,C,λv z=>by rw[d]at z;cases z⟩
 keep:=λi h h' st k=>by
  obtain⟨⟨f,g⟩,hi⟩:=st;exact⟨⟨f,k e (by simp) _ g⟩,hi.at λo q=>k it (by simp) o q⟩
 item:=by
  intro X L M N O i pins s σ H E I F st Q;subst L M N;obtain⟨⟨f,g⟩,hi⟩:=st;obtain⟨xs,x,G,J⟩:=Q;obtain⟨its,R,p,hz⟩:=I.list G;obtain⟨u,hu,ru⟩:=R.get J;have r:s.heap.IsList a its.toArray:=p.isList;have m:a≠it:=λz=>by
   obtain⟨o,j,t,_⟩:=r;obtain⟨o',S,D,_⟩:=id hi;rw[z,S]at j;cases j;rw[t]at D;injection D with q;exact absurd q (by decide)
  have T:e≠a:=λz=>by
   obtain⟨o,j,t,_⟩:=r;rw[← z,g]at j;cases j;have U:Value.type "enumerate"=Value.type "list":=t;injection U with q;exact absurd q (by decide)
  have V:i < its.toArray.size:=by
   have:=(a0a.mp hu).1;simpa using this
  refine wpAny_pyNext_enum_itemD (Draws.list (A:=X.A.in1) (I.ok.hd O) it a m its.toArray) g ⟨hi,r⟩ V l (by simp[l,T]) λy j tk hy C Y hT hsz hk=>?_;obtain rfl:y=u:=by
   rw[a1c,hu]at hy;exact(a4a hy).symm
  refine⟨_,rfl,wpAny_letOwnedTupleGo_enum C λt Z n=>?_⟩;have hTe:s.heap.objs.size≠e:=λz=>absurd (a5a g) (by rw[← z];exact a7d _);have ha:H s.heap.objs.size=none:=I.hok.fresh (a8a _);refine⟨.ref s.heap.objs.size,upd H s.heap.objs.size (.tup [.int i,x]),?_,rfl,⟨_,x,rfl,ha,rfl,λys hys=>by rw[I.list_inj hys G];exact J⟩,⟨⟨_,Z⟩,Y.1.at λo q=>(n.2 it l.symm).trans q⟩,λb hb=>?_⟩;exact I.spun (ch:=[e,it]) (t':=tk+1) F (λb u hb q=>(n.2 b λz=>hb (by simp[z])).trans (hk b u (λz=>hb (by simp[z])) (λz=>hb (by simp[z])) q)) (a8a _) (aC4 (e:=e) (it:=it) hT (n.2 _ hTe) ru);rw[aK (λz=>?_)];exact(F b hb).1;obtain⟨o,C⟩:∃ o,s.heap.get? b=some o:=by
   rcases a2b.mp hb with z | hb;rw[z];exact⟨_,g⟩;rw[a1b.mp hb];exact hi.imp λ_ q=>q.1
  exact absurd (a5a C) (by rw[z];exact a7d _)
 done:=by
  intro X L M N O i pins s σ H E I F st Q;subst L M N;obtain⟨⟨f,g⟩,hi⟩:=st;obtain⟨xs,G,J⟩:=Q;obtain⟨its,R,p,hz⟩:=I.list G;have r:s.heap.IsList a its.toArray:=p.isList;have m:a≠it:=λz=>by
   obtain⟨o,j,t,_⟩:=r;obtain⟨o',S,D,_⟩:=id hi;rw[z,S]at j;cases j;rw[t]at D;injection D with q;exact absurd q (by decide)
  have hl:its.toArray.size=i:=by rw[a6a,← R.length];exact J
  refine wpAny_pyNext_enum_endD (Draws.list (A:=X.A.in1) (I.ok.hd O) it a m its.toArray) g ⟨by rw[hl];exact hi,r⟩ λh' hx'=>⟨rfl,I.spun0 (ch:=[e,it]) (t':=s.toks) F λb u hb q=>hx' b u (λz=>hb (by simp[z])) q⟩
 self:=λ_ _ _ _ _ st h=>wpAny_pyIter_enum st.1.choose_spec h
end L2
namespace PySem
open AutoSeq1 (wpAny_loadPart')
noncomputable abbrev bA1(l:Addr):Obj:={cls:=.type "tuple_iterator",data:=.fields #[.ref l,.int 0 0]}
noncomputable abbrev dG3(it:Addr):Obj:={cls:=.type "enumerate",data:=.fields #[.none,.bool false,.ref it,rawInt 0,.none,.none]}
def bF3(l:Addr)(its:Array Value)(n:Nat)(b:Option Addr)(sl:Array (Option Value)) :
  Meets (Builtin.«enumerate.__new__» ⟨[.type "enumerate",.ref l],[]⟩) (λ_ R s=>s.heap.get? l=some {cls:=.type "tuple",dict:=b,data:=.seq its n,slots:=sl} /\
   R (.ok (.ret (.ref (s.heap.push (bA1 l)).objs.size))) {s with heap:=(s.heap.push (bA1 l)).push (dG3 s.heap.objs.size)}):=
 .of_wp λprog w A R s h=>by
  obtain⟨i,g,d,tk,os⟩:=s;obtain⟨a,h⟩:=h;have e:=sub_enumerate;have f:Heap.IsTuple (Shared.heap ⟨i,g,d,tk,os⟩) l its:=⟨_,a,rfl,n,rfl⟩
  wp_walk using a4S a
  refine wpAny_stack_any λst=>a4y ?_;split;rename_i c _ _ _ _ _;cases (c==Value.type "enumerate")<;>(wp_walk using a4S a,a4Q f;exact⟨_,rfl,h⟩)
  ·wp_walk using a4S a,a4Q f;exact⟨_,rfl,h⟩
section
variable{prog:Program}{w:World}{A:Around}{E:Value->Shared->Prop}{s:Shared}
def aH5{l:Addr}{its:Array Value}{Q:Value->Shared->Prop}(i:s.heap.IsTuple l its)
  (h:∀ h',IsEnum h' (s.heap.objs.size+1) s.heap.objs.size 0 .none->h'.IsTupleIter s.heap.objs.size l 0->h'.objs.size=s.heap.objs.size+2->(∀ b o,s.heap.get? b=some o->h'.get? b=some o)->Q (.ref (s.heap.objs.size+1)) {s with heap:=h'}) :
  wpAny (model prog w) A (call (.type "enumerate") [.ref l]) Q E s:=by
 obtain⟨⟨c,a,dt,sl⟩,hl,j,n,hd⟩:=i;have d:c=.type "tuple":=j;have e:dt=.seq its n:=hd;subst d e;refine callType_new F.called_enumerate (by decide) (F.typeCall_enumerate_1 _) (F.newCall_enumerate_1 _) (λobj=>F.args_object_init_2 obj _) F.entry_enumerate_new (bF3 l its n a sl) ⟨hl,?_⟩;have f:(s.heap.push (bA1 l)).objs.size=s.heap.objs.size+1:=a4g ..;show _/\_;rw[f];have g:IsEnum ((s.heap.push (bA1 l)).push (dG3 s.heap.objs.size)) (s.heap.objs.size+1) s.heap.objs.size 0 .none:=by
  have:=a7a (s.heap.push (bA1 l)) (o:=dG3 s.heap.objs.size) rfl;rw[f]at this;exact this
 exact⟨⟨_,g,rfl⟩,h _ g ⟨_,a2a _ (a7a _ rfl),rfl,rfl⟩ (by rw[a4g,f]) λb o x=>a2a _ (a2a _ x)⟩
end
end PySem
namespace L2
open PySem PyProof.Rows
section
variable{X:Cx}
def cV7(K:W.Frag)(b:TA):TI:=λσ H R=>b σ H λvs a=>∃ p,vs=[.ref p]/\((∃ xs,eR a p=some (true,xs)/\R (dG2 K p) a)\/∃ xs,eR a p=some (false,xs)/\R (dG1 K p) a)
def uH(K:W.Frag)(x:X.K=K){g:List Expr}{k:Nat}{i:Pos}{a:Expr}{v:TA}{p pos:Pos}(y:Gl X "enumerate")(hm:X.mg "enumerate"=none)(l:bootBuiltins "enumerate"=some (.type "enumerate"))(ha:PA X [a] v)(hs:starEach [a] X.env=[(false,eval a X.env)]:=by rfl):PI X (.Tuple g k i) (.Call (.Name "enumerate" p) [a] [] pos) (cV7 K v):=by
 subst x;intro pins s σ H R I h;refine Call_ (gK I y hm l (a2e (thn (ha pos pins s σ H _ I h) λus s1 Z0=>?_) hs rfl));obtain⟨vs,w,f,A,m⟩:=Z0;obtain⟨b,rfl,m⟩:=m;obtain⟨u,rfl,B⟩:=A.one;cases B;have d:∀ c,c∈[s1.heap.objs.size+1,s1.heap.objs.size]->s1.heap.objs.size<=c:=λc e=>by
  rcases a2b.mp e with z | e;lia;rw[a1b.mp e];exact a8a _
 rcases m with⟨xs,n,q⟩ | ⟨xs,n,q⟩;obtain⟨its,C,o,D⟩:=f.list (fT n);refine call_enumerate_list o.isList λh' j hi r t=>wpAny_pyIter_enum j ?_;exact⟨_,[s1.heap.objs.size+1,s1.heap.objs.size],_,_,w,rfl,f.kept (t':=s1.toks) t,aH4 b _ _ (Nat.succ_ne_self _),⟨⟨_,j⟩,hi⟩,λc e=>f.fpOk (d c e) (f.hok.fresh (d c e)),q⟩;obtain⟨its,C,o,D⟩:=f.tuple (eG n);refine aH5 (show s1.heap.IsTuple b its.toArray from o) λh' j hi r t=>wpAny_pyIter_enum j ?_;exact⟨_,[s1.heap.objs.size+1,s1.heap.objs.size],_,_,w,rfl,f.kept (t':=s1.toks) t,aH3 b _ _ (Nat.succ_ne_self _),⟨⟨_,j⟩,hi⟩,λc e=>f.fpOk (d c e) (f.hok.fresh (d c e)),q⟩
end
end L2
namespace Dv
open PySem L2 Mr
section
variable{P:Program}{w:World}{K:W.Frag}{mg:Str->Option Value}{base:Heap}
end
section
variable{K:W.Frag}{H:Hp}{C fI:Addr}{E:XK}
end
section
variable{K:W.Frag}{H:Hp}{C fI:Addr}{E:XK}
end
end Dv
namespace Dv
open PySem L2
noncomputable def rJ(n:Nat):List D->List D
 | []=>[]
 | d::r=>.tup [.int (n:Int),d]::rJ (n+1) r
theorem jJ:∀ (n:Nat) (l:List D),(rJ n l).length=l.length
 | _,[]=>rfl
 | n,_::r=>by show(rJ (n+1) r).length+1=r.length+1;rw[jJ]
theorem jK:∀ {n:Nat} {l:List D} {i:Nat} {d:D},(rJ n l)[i]? = some d->∃ y,l[i]? = some y/\d=.tup [.int ((n+i:Nat):Int),y]
 | _,[],_,_,h=>by simp[rJ]at h
 | n,y::r,0,d,h=>by
   simp[rJ]at h;exact⟨y,rfl,by rw[← h];rfl⟩
 | n,y::r,i+1,d,h=>by
   obtain⟨z,e,q⟩:=jK (n:=n+1) (l:=r) (i:=i) (d:=d) (by simpa[rJ]using h);exact⟨z,by simpa using e,by rw[q,show n+1+i=n+(i+1) by lia]⟩
def aT1{K:W.Frag}{p:Addr}{xs:List V}{l:List D}:ItD (dG2 K p) (rJ 0 l) (λH=>SqL K H p xs/\Rps H l xs) where
 go:=λH i d ⟨h,r⟩ e=>by
  obtain⟨y,a,_⟩:=jK e;obtain⟨x,ex,_⟩:=r.get a;exact⟨xs,x,h,ex⟩
 yld:=λH i d v H' ⟨h,r⟩ e ⟨T,x,c,b,f,g⟩=>by
  obtain⟨y,a,rfl⟩:=jK e;obtain⟨k,ex,j⟩:=r.get a;have:=g xs h;rw[ex]at this;cases this;subst c f;refine⟨bE b,.tup aQ (.cons ?_ (.cons (j.mono (Ext.same (bE b))) .nil))⟩;rw[a9e];exact .int _
 stop:=λH ⟨h,r⟩=>⟨xs,h,by rw[jJ,r.length]⟩
def aT2{K:W.Frag}{p:Addr}{xs:List V}{l:List D}:ItD (dG1 K p) (rJ 0 l) (λH=>SqT K H p xs/\Rps H l xs) where
 go:=λH i d ⟨h,r⟩ e=>by
  obtain⟨y,a,_⟩:=jK e;obtain⟨x,ex,_⟩:=r.get a;exact⟨xs,x,h,ex⟩
 yld:=λH i d v H' ⟨h,r⟩ e ⟨T,x,c,b,f,g⟩=>by
  obtain⟨y,a,rfl⟩:=jK e;obtain⟨k,ex,j⟩:=r.get a;have:=g xs h;rw[ex]at this;cases this;subst c f;refine⟨bE b,.tup aQ (.cons ?_ (.cons (j.mono (Ext.same (bE b))) .nil))⟩;rw[a9e];exact .int _
 stop:=λH ⟨h,r⟩=>⟨xs,h,by rw[jJ,r.length]⟩
noncomputable def dO2:D->Option (List D)
 | .lst l=>some l
 | .tup l=>some l
 | _=>none
noncomputable def aT3(r:DE):DI:=λσ=>(r σ).bind λx=>(rd x.2 x.1).bind λd=>(dO2 d).bind λl=>some (rJ 0 l,(match x.1 with | .slot i=>some i | _=>none),x.2)
def uI{X:Cx}{tg e:Expr}{r:DE}(K:W.Frag)(h:∀ Γ,PI X tg e (cV7 K (dTA Γ (aC r aR)))):GI X tg e (aT3 r):=.mk λΓ=>piW (h Γ) λσV H R ⟨σ,ok,items,l,y,e,k⟩=>by
 obtain⟨⟨x,m⟩,z,e⟩:=bind_some e;obtain⟨d,n,e⟩:=bind_some e;obtain⟨its,o,e⟩:=bind_some e;cases e;refine⟨σ,ok,[x],m,?_,λvs w a g i B=>?_⟩;show((_:Option _).bind _)=_;rw[z];rfl
 cases g with
 | cons g t _=>
   cases t;have vw:=g.vw a n;cases d with
   | lst A=>
     cases o;obtain⟨p,xs,rfl,j,q⟩:=fD vw;refine⟨p,rfl,.inl ⟨xs,j,k _ w _ a i (aT1 (xs:=xs)) λc b s f=>?_⟩⟩;obtain⟨u,v⟩:=pO a g n (items:=its) rfl vw p true xs rfl j q c b s f;exact⟨fT u,v⟩
   | tup A=>
     cases o;obtain⟨p,xs,rfl,j,q⟩:=dE vw;refine⟨p,rfl,.inr ⟨xs,cL j,k _ w _ a i (aT2 (xs:=xs)) λc b s f=>?_⟩⟩;obtain⟨u,v⟩:=pO a g n (items:=its) rfl vw p false xs rfl (cL j) q c b s f;exact⟨eG u,v⟩
   | _=>cases o
end Dv
namespace Mr
open PySem L2
noncomputable def top(i:Nat):Stmt:=PySem.Challenge.pw_mostrows_k43_hard_houses.main.body.getD i (.Pass ⟨0,0,0,0⟩)
noncomputable abbrev sE:Stmt:=top 47
noncomputable abbrev wL:Stmt:=top 46
noncomputable abbrev bY3:Stmt:=top 1
noncomputable abbrev wM:Stmt:=top 9
noncomputable abbrev fW:Stmt:=top 10
noncomputable abbrev iQ:Stmt:=top 17
noncomputable abbrev sF:Stmt:=top 15
noncomputable abbrev oH:Stmt:=top 16
noncomputable abbrev gO:Stmt:=top 18
noncomputable abbrev bY4:Stmt:=top 19
noncomputable abbrev sG:Stmt:=top 22
noncomputable abbrev aC5:Stmt:=top 23
noncomputable abbrev gP:Stmt:=top 24
noncomputable abbrev oJ:Stmt:=top 33
noncomputable abbrev oK:Stmt:=top 48
noncomputable abbrev pT:Stmt:=top 34
noncomputable abbrev kL:Stmt:=top 35
noncomputable abbrev sH:Stmt:=top 42
noncomputable abbrev iR:Stmt:=top 29
noncomputable abbrev aC6:Stmt:=top 27
noncomputable abbrev pU:Stmt:=top 26
noncomputable abbrev wN:Stmt:=top 30
noncomputable abbrev sI:Stmt:=top 25
noncomputable abbrev aC7:Stmt:=top 31
noncomputable abbrev cV8:Stmt:=top 28
noncomputable abbrev wO:Stmt:=top 44
noncomputable abbrev kM:Stmt:=top 49
noncomputable abbrev oM:Stmt:=top 37
noncomputable abbrev oN:Stmt:=top 38
noncomputable abbrev aC8:Stmt:=top 39
noncomputable abbrev oO:Stmt:=top 40
noncomputable abbrev jL:Stmt:=top 50
noncomputable abbrev cV9:Stmt:=top 51
structure Adr where
 a2P:Addr
 a1R:FuncData
 a3n:Addr
 a2u:FuncData
 hard:Addr
 a3s:FuncData
 a0W:Addr
 a1O:FuncData
 a0k:Addr
 a0A:FuncData
 a0p:Addr
 a0J:FuncData
 a0H:Addr
 a1y:FuncData
 a0q:Addr
 a0y:FuncData
 a0l:Addr
 a0C:FuncData
 look:Addr
 a3r:FuncData
 a0M:Addr
 a1T:FuncData
 a1X:Addr
 a2A:FuncData
 a0m:Addr
 a0B:FuncData
 a0v:Addr
 a1s:FuncData
 a2x:Addr
 a1q:FuncData
 a0z:Addr
 a1k:FuncData
 a0r:Addr
 a0R:FuncData
 a0K:Addr
 a1U:FuncData
 a0o:Addr
 a0I:FuncData
 picked:Addr
 a1B:FuncData
 a0t:Addr
 a0D:FuncData
 grouped:Addr
 a1N:FuncData
 a0G:Addr
 a1z:FuncData
 joined:Addr
 a2z:FuncData
 cut:Addr
 a3l:FuncData
 a0U:Addr
 a1P:FuncData
 a1G:Addr
 a0Q:FuncData
 a0x:Addr
 a1r:FuncData
 a0u:Addr
 a1u:FuncData
 a1Y:Addr
 a2B:FuncData
 a0w:Addr
 a1t:FuncData
 a1v:Addr
 a0L:FuncData
 law:Addr
 a3X:FuncData
structure Txt(K:W.Frag)(mg:Str->Option Value)(a:Adr):Prop where
 a3J:mg "_law_take"=some (.ref a.a2P)
 a2F:Fun K "_law_take" "_law_take" sE a.a2P a.a1R
 a3L:mg "_law_box"=some (.ref a.a3n)
 a2V:Fun K "_law_box" "_law_box" wL a.a3n a.a2u
 a3Y:mg "hard"=some (.ref a.hard)
 a3F:Fun K "hard" "hard" bY3 a.hard a.a3s
 a3A:mg "is_name"=some (.ref a.a0W)
 a2D:Fun K "is_name" "is_name" wM a.a0W a.a1O
 a2E:mg "are_unlike_names"=some (.ref a.a0k)
 a0O:Fun K "are_unlike_names" "are_unlike_names" fW a.a0k a.a0A
 a2N:mg "is_right_alone"=some (.ref a.a0p)
 a1p:Fun K "is_right_alone" "is_right_alone" iQ a.a0p a.a0J
 a2Z:mg "names_of"=some (.ref a.a0H)
 a2w:Fun K "names_of" "names_of" sF a.a0H a.a1y
 a1l:mg "columns_of"=some (.ref a.a0q)
 a0E:Fun K "columns_of" "columns_of" oH a.a0q a.a0y
 a2M:mg "is_right_behind"=some (.ref a.a0l)
 a0T:Fun K "is_right_behind" "is_right_behind" gO a.a0l a.a0C
 a4m:mg "look"=some (.ref a.look)
 a3O:Fun K "look" "look" bY4 a.look a.a3r
 a3G:mg "is_value"=some (.ref a.a0M)
 a2K:Fun K "is_value" "is_value" sG a.a0M a.a1T
 a3U:mg "is_row"=some (.ref a.a1X)
 a3m:Fun K "is_row" "is_row" aC5 a.a1X a.a2A
 a2I:mg "first_wrong_row"=some (.ref a.a0m)
 a0Y:Fun K "first_wrong_row" "first_wrong_row" gP a.a0m a.a0B
 a3D:mg "look_house"=some (.ref a.a0v)
 a2s:Fun K "look_house" "look_house" oJ a.a0v a.a1s
 a3B:mg "_law_formed"=some (.ref a.a2x)
 a2m:Fun K "_law_formed" "_law_formed" oK a.a2x a.a1q
 a2Q:mg "tables_of"=some (.ref a.a0z)
 a1V:Fun K "tables_of" "tables_of" pT a.a0z a.a1k
 a2X:mg "named_tables"=some (.ref a.a0r)
 a1L:Fun K "named_tables" "named_tables" kL a.a0r a.a0R
 a3K:mg "pairs_of"=some (.ref a.a0K)
 a2L:Fun K "pairs_of" "pairs_of" sH a.a0K a.a1U
 a2O:mg "common_columns"=some (.ref a.a0o)
 a1m:Fun K "common_columns" "common_columns" iR a.a0o a.a0I
 a2C:mg "picked"=some (.ref a.picked)
 a1S:Fun K "picked" "picked" aC6 a.picked a.a1B
 a1D:mg "places_of"=some (.ref a.a0t)
 a0N:Fun K "places_of" "places_of" pU a.a0t a.a0D
 a3z:mg "grouped"=some (.ref a.grouped)
 a2y:Fun K "grouped" "grouped" wN a.grouped a.a1N
 a3k:mg "table_of"=some (.ref a.a0G)
 a2v:Fun K "table_of" "table_of" sI a.a0G a.a1z
 a3T:mg "joined"=some (.ref a.joined)
 a3q:Fun K "joined" "joined" aC7 a.joined a.a2z
 a3Z:mg "cut"=some (.ref a.cut)
 a3R:Fun K "cut" "cut" cV8 a.cut a.a3l
 a2U:mg "by_tree"=some (.ref a.a0U)
 a2t:Fun K "by_tree" "by_tree" wO a.a0U a.a1P
 a2Y:mg "_law_by_trees"=some (.ref a.a1G)
 a1H:Fun K "_law_by_trees" "_law_by_trees" kM a.a1G a.a0Q
 a3x:mg "first_rows"=some (.ref a.a0x)
 a2o:Fun K "first_rows" "first_rows" oM a.a0x a.a1r
 a3y:mg "tellers_of"=some (.ref a.a0u)
 a2q:Fun K "tellers_of" "tellers_of" oN a.a0u a.a1u
 a3W:mg "in_all"=some (.ref a.a1Y)
 a3p:Fun K "in_all" "in_all" aC8 a.a1Y a.a2B
 a3C:mg "by_columns"=some (.ref a.a0w)
 a1Z:Fun K "by_columns" "by_columns" oO a.a0w a.a1t
 a2S:mg "_law_by_orders"=some (.ref a.a1v)
 a1E:Fun K "_law_by_orders" "_law_by_orders" jL a.a1v a.a0L
 a4u:mg "law"=some (.ref a.law)
 a4w:Fun K "law" "law" cV9 a.law a.a3X
 a3Q:mg "all"=none
 a4q:mg "bool"=none
 a4p:mg "dict"=none
 a1W:mg "enumerate"=none
 a4l:mg "int"=none
 a1F:mg "isinstance"=none
 a0Z:mg "len"=none
 a4o:mg "list"=none
 a4r:mg "max"=none
 a4s:mg "min"=none
 a2T:mg "range"=none
 a3H:mg "reversed"=none
 a4k:mg "set"=none
 a3S:mg "sorted"=none
 a4t:mg "str"=none
 a1I:mg "tuple"=none
 a4n:mg "zip"=none
 a3I:∃ t,mg "GREATEST"=some (.int 999 t)
 a3P:∃ t,mg "LETTERS"=some (.str "abcdefghijklmnopqrstuvwxyz" t)
 a3M:∃ t,mg "LONGEST"=some (.int 6 t)
 a2W:∃ t,mg "MOST_COLUMNS"=some (.int 6 t)
 a3o:∃ t,mg "MOST_TABLES"=some (.int 6 t)
 a3V:∃ t,mg "WIDEST"=some (.int 4 t)
def lQ:bootBuiltins "all"=some (.builtin "all"):=by decide +kernel
def aT4:bootBuiltins "bool"=some (.type "bool"):=by decide +kernel
def aT5:bootBuiltins "dict"=some (.type "dict"):=by decide +kernel
def eB:bootBuiltins "enumerate"=some (.type "enumerate"):=by decide +kernel
def aC9:bootBuiltins "int"=some (.type "int"):=by decide +kernel
def dL:bootBuiltins "isinstance"=some (.builtin "isinstance"):=by decide +kernel
def bB:bootBuiltins "len"=some (.builtin "len"):=by decide +kernel
def aT6:bootBuiltins "list"=some (.type "list"):=by decide +kernel
def bF4:bootBuiltins "max"=some (.builtin "max"):=by decide +kernel
def bF5:bootBuiltins "min"=some (.builtin "min"):=by decide +kernel
def uJ:bootBuiltins "reversed"=some (.type "reversed"):=by decide +kernel
def uK:bootBuiltins "set"=some (.type "set"):=by decide +kernel
def yT:bootBuiltins "sorted"=some (.builtin "sorted"):=by decide +kernel
def bF6:bootBuiltins "str"=some (.type "str"):=by decide +kernel
def cH:bootBuiltins "tuple"=some (.type "tuple"):=by decide +kernel
def aD0:bootBuiltins "zip"=some (.type "zip"):=by decide +kernel
def pV:FnScope ["_law_box_here","_law_many","_law_digit","_law_one"] ["_law_box_here","_law_many"] (aJ sE):=⟨rfl,rfl,rfl,by decide +kernel,rfl,by decide +kernel,by decide +kernel⟩
def sJ:FnScope ["_law_script","_law_k","_law_cell","_law_seed"] ["_law_script","_law_k"] (aJ wL):=⟨rfl,rfl,rfl,by decide +kernel,rfl,by decide +kernel,by decide +kernel⟩
def aT7:FnScope ["m","rows","question","value"] ["m"] (aJ bY3):=⟨rfl,rfl,rfl,by decide +kernel,rfl,by decide +kernel,by decide +kernel⟩
def sK:FnScope ["text","sign"] ["text"] (aJ wM):=⟨rfl,rfl,rfl,by decide +kernel,rfl,by decide +kernel,by decide +kernel⟩
def fF:FnScope ["texts","text"] ["texts"] (aJ fW):=⟨rfl,rfl,rfl,by decide +kernel,rfl,by decide +kernel,by decide +kernel⟩
def gQ:FnScope ["name","columns"] ["name","columns"] (aJ iQ):=⟨rfl,rfl,rfl,by decide +kernel,rfl,by decide +kernel,by decide +kernel⟩
def pW:FnScope ["question","name","columns"] ["question"] (aJ sF):=⟨rfl,rfl,rfl,by decide +kernel,rfl,by decide +kernel,by decide +kernel⟩
def lS:FnScope ["question","found","name","columns","column"] ["question"] (aJ oH):=⟨rfl,rfl,rfl,by decide +kernel,rfl,by decide +kernel,by decide +kernel⟩
def fX:FnScope ["ahead","name","columns"] ["ahead","name","columns"] (aJ gO):=⟨rfl,rfl,rfl,by decide +kernel,rfl,by decide +kernel,by decide +kernel⟩
def aT8:FnScope ["question","at","pair"] ["question"] (aJ bY4):=⟨rfl,rfl,rfl,by decide +kernel,rfl,by decide +kernel,by decide +kernel⟩
def pX:FnScope ["number"] ["number"] (aJ sG):=⟨rfl,rfl,rfl,by decide +kernel,rfl,by decide +kernel,by decide +kernel⟩
def wP:FnScope ["width","row","number"] ["width","row"] (aJ aC5):=⟨rfl,rfl,rfl,by decide +kernel,rfl,by decide +kernel,by decide +kernel⟩
def fY:FnScope ["width","rows","at","row"] ["width","rows"] (aJ gP):=⟨rfl,rfl,rfl,by decide +kernel,rfl,by decide +kernel,by decide +kernel⟩
def lT:FnScope ["question","house","at","pair"] ["question","house"] (aJ oJ):=⟨rfl,rfl,rfl,by decide +kernel,rfl,by decide +kernel,by decide +kernel⟩
def lU:FnScope ["_law_question","_law_house","_law_m","_law_sets","_law_both","_law_kt","_law_own","_law_rows","_law_k","_law_column"] ["_law_question","_law_house","_law_m"] (aJ oK):=⟨rfl,rfl,rfl,by decide +kernel,rfl,by decide +kernel,by decide +kernel⟩
def oP:FnScope ["question","house","pair","rows"] ["question","house"] (aJ pT):=⟨rfl,rfl,rfl,by decide +kernel,rfl,by decide +kernel,by decide +kernel⟩
def jM:FnScope ["question","house"] ["question","house"] (aJ kL):=⟨rfl,rfl,rfl,by decide +kernel,rfl,by decide +kernel,by decide +kernel⟩
def pY:FnScope ["tree","found","waiting","one"] ["tree"] (aJ sH):=⟨rfl,rfl,rfl,by decide +kernel,rfl,by decide +kernel,by decide +kernel⟩
def gU:FnScope ["one","other","column"] ["one","other"] (aJ iR):=⟨rfl,rfl,rfl,by decide +kernel,rfl,by decide +kernel,by decide +kernel⟩
def wQ:FnScope ["row","places","place"] ["row","places"] (aJ aC6):=⟨rfl,rfl,rfl,by decide +kernel,rfl,by decide +kernel,by decide +kernel⟩
def oQ:FnScope ["columns","some","column"] ["columns","some"] (aJ pU):=⟨rfl,rfl,rfl,by decide +kernel,rfl,by decide +kernel,by decide +kernel⟩
def sM:FnScope ["table","columns","others","places","other_places","groups","row"] ["table","columns","others"] (aJ wN):=⟨rfl,rfl,rfl,by decide +kernel,rfl,by decide +kernel,by decide +kernel⟩
def pZ:FnScope ["columns","rows"] ["columns","rows"] (aJ sI):=⟨rfl,rfl,rfl,by decide +kernel,rfl,by decide +kernel,by decide +kernel⟩
def wR:FnScope ["one","other","common","added","ends","places","rows","row","column","end"] ["one","other"] (aJ aC7):=⟨rfl,rfl,rfl,by decide +kernel,rfl,by decide +kernel,by decide +kernel⟩
def bY5:FnScope ["table","columns","places","row"] ["table","columns"] (aJ cV8):=⟨rfl,rfl,rfl,by decide +kernel,rfl,by decide +kernel,by decide +kernel⟩
def sN:FnScope ["question","house","tree","made","sizes","pair"] ["question","house","tree"] (aJ wO):=⟨rfl,rfl,rfl,by decide +kernel,rfl,by decide +kernel,by decide +kernel⟩
def jN:FnScope ["_law_question","_law_house","_law_m","_law_names","_law_rows","_law_k","_law_one","_law_other","_law_last","_law_pair","_law_tree","_law_kt","_law_own"] ["_law_question","_law_house","_law_m"] (aJ kM):=⟨rfl,rfl,rfl,by decide +kernel,rfl,by decide +kernel,by decide +kernel⟩
def lV:FnScope ["house","rows"] ["house"] (aJ oM):=⟨rfl,rfl,rfl,by decide +kernel,rfl,by decide +kernel,by decide +kernel⟩
def lW:FnScope ["tables","gone","column","tellers","table","known","lists","one"] ["tables","gone","column"] (aJ oN):=⟨rfl,rfl,rfl,by decide +kernel,rfl,by decide +kernel,by decide +kernel⟩
def wS:FnScope ["end","lists","one"] ["end","lists"] (aJ aC8):=⟨rfl,rfl,rfl,by decide +kernel,rfl,by decide +kernel,by decide +kernel⟩
def lX:FnScope ["question","house","order","tables","rows","levels","looks","at","column","tellers","longer","row","told","shortest","places","lists","end"] ["question","house","order"] (aJ oO):=⟨rfl,rfl,rfl,by decide +kernel,rfl,by decide +kernel,by decide +kernel⟩
def iS:FnScope ["_law_question","_law_house","_law_m","_law_columns","_law_rows","_law_a","_law_b","_law_c","_law_found","_law_levels","_law_looks"] ["_law_question","_law_house","_law_m"] (aJ jL):=⟨rfl,rfl,rfl,by decide +kernel,rfl,by decide +kernel,by decide +kernel⟩
def bY6:FnScope ["_law_script","_law_k","_law_m","_law_question","_law_house"] ["_law_script"] (aJ cV9):=⟨rfl,rfl,rfl,by decide +kernel,rfl,by decide +kernel,by decide +kernel⟩
section
variable{P:Program}{w:World}{K:W.Frag}{mg:Str->Option Value}{base:Heap}{a:Adr}
def aH6(T:Txt K mg a):cJ K a.a1R ["_law_box_here","_law_many"] []:=T.a2F.binds (ps:=["_law_box_here","_law_many"]) λ_ _ _ _ _ _ us b=>match us,b with | [_,_],_=>rfl
def aT9(T:Txt K mg a):cJ K a.a2u ["_law_script","_law_k"] []:=T.a2V.binds (ps:=["_law_script","_law_k"]) λ_ _ _ _ _ _ us b=>match us,b with | [_,_],_=>rfl
def bY7(T:Txt K mg a):cJ K a.a3s ["m"] []:=T.a3F.binds (ps:=["m"]) λ_ _ _ _ _ _ us b=>match us,b with | [_],_=>rfl
def wT(T:Txt K mg a):cJ K a.a1O ["text"] []:=T.a2D.binds (ps:=["text"]) λ_ _ _ _ _ _ us b=>match us,b with | [_],_=>rfl
def lY(T:Txt K mg a):cJ K a.a0A ["texts"] []:=T.a0O.binds (ps:=["texts"]) λ_ _ _ _ _ _ us b=>match us,b with | [_],_=>rfl
def oU(T:Txt K mg a):cJ K a.a0J ["name","columns"] []:=T.a1p.binds (ps:=["name","columns"]) λ_ _ _ _ _ _ us b=>match us,b with | [_,_],_=>rfl
def sO(T:Txt K mg a):cJ K a.a1y ["question"] []:=T.a2w.binds (ps:=["question"]) λ_ _ _ _ _ _ us b=>match us,b with | [_],_=>rfl
def eM(T:Txt K mg a):cJ K a.a0y ["question"] []:=T.a0E.binds (ps:=["question"]) λ_ _ _ _ _ _ us b=>match us,b with | [_],_=>rfl
def nE(T:Txt K mg a):cJ K a.a0C ["ahead","name","columns"] []:=T.a0T.binds (ps:=["ahead","name","columns"]) λ_ _ _ _ _ _ us b=>match us,b with | [_,_,_],_=>rfl
def cW0(T:Txt K mg a):cJ K a.a3r ["question"] []:=T.a3O.binds (ps:=["question"]) λ_ _ _ _ _ _ us b=>match us,b with | [_],_=>rfl
def aH7(T:Txt K mg a):cJ K a.a1T ["number"] []:=T.a2K.binds (ps:=["number"]) λ_ _ _ _ _ _ us b=>match us,b with | [_],_=>rfl
def bF7(T:Txt K mg a):cJ K a.a2A ["width","row"] []:=T.a3m.binds (ps:=["width","row"]) λ_ _ _ _ _ _ us b=>match us,b with | [_,_],_=>rfl
def nF(T:Txt K mg a):cJ K a.a0B ["width","rows"] []:=T.a0Y.binds (ps:=["width","rows"]) λ_ _ _ _ _ _ us b=>match us,b with | [_,_],_=>rfl
def wU(T:Txt K mg a):cJ K a.a1s ["question","house"] []:=T.a2s.binds (ps:=["question","house"]) λ_ _ _ _ _ _ us b=>match us,b with | [_,_],_=>rfl
def wV(T:Txt K mg a):cJ K a.a1q ["_law_question","_law_house","_law_m"] []:=T.a2m.binds (ps:=["_law_question","_law_house","_law_m"]) λ_ _ _ _ _ _ us b=>match us,b with | [_,_,_],_=>rfl
def qA(T:Txt K mg a):cJ K a.a1k ["question","house"] []:=T.a1V.binds (ps:=["question","house"]) λ_ _ _ _ _ _ us b=>match us,b with | [_,_],_=>rfl
def rK(T:Txt K mg a):cJ K a.a0R ["question","house"] []:=T.a1L.binds (ps:=["question","house"]) λ_ _ _ _ _ _ us b=>match us,b with | [_,_],_=>rfl
def aH8(T:Txt K mg a):cJ K a.a1U ["tree"] []:=T.a2L.binds (ps:=["tree"]) λ_ _ _ _ _ _ us b=>match us,b with | [_],_=>rfl
def oV(T:Txt K mg a):cJ K a.a0I ["one","other"] []:=T.a1m.binds (ps:=["one","other"]) λ_ _ _ _ _ _ us b=>match us,b with | [_,_],_=>rfl
def lZ(T:Txt K mg a):cJ K a.a1B ["row","places"] []:=T.a1S.binds (ps:=["row","places"]) λ_ _ _ _ _ _ us b=>match us,b with | [_,_],_=>rfl
def fG(T:Txt K mg a):cJ K a.a0D ["columns","some"] []:=T.a0N.binds (ps:=["columns","some"]) λ_ _ _ _ _ _ us b=>match us,b with | [_,_],_=>rfl
def wW(T:Txt K mg a):cJ K a.a1N ["table","columns","others"] []:=T.a2y.binds (ps:=["table","columns","others"]) λ_ _ _ _ _ _ us b=>match us,b with | [_,_,_],_=>rfl
def sP(T:Txt K mg a):cJ K a.a1z ["columns","rows"] []:=T.a2v.binds (ps:=["columns","rows"]) λ_ _ _ _ _ _ us b=>match us,b with | [_,_],_=>rfl
def bF8(T:Txt K mg a):cJ K a.a2z ["one","other"] []:=T.a3q.binds (ps:=["one","other"]) λ_ _ _ _ _ _ us b=>match us,b with | [_,_],_=>rfl
def cG8(T:Txt K mg a):cJ K a.a3l ["table","columns"] []:=T.a3R.binds (ps:=["table","columns"]) λ_ _ _ _ _ _ us b=>match us,b with | [_,_],_=>rfl
def qB(T:Txt K mg a):cJ K a.a1P ["question","house","tree"] []:=T.a2t.binds (ps:=["question","house","tree"]) λ_ _ _ _ _ _ us b=>match us,b with | [_,_,_],_=>rfl
def rL(T:Txt K mg a):cJ K a.a0Q ["_law_question","_law_house","_law_m"] []:=T.a1H.binds (ps:=["_law_question","_law_house","_law_m"]) λ_ _ _ _ _ _ us b=>match us,b with | [_,_,_],_=>rfl
def wX(T:Txt K mg a):cJ K a.a1r ["house"] []:=T.a2o.binds (ps:=["house"]) λ_ _ _ _ _ _ us b=>match us,b with | [_],_=>rfl
def wY(T:Txt K mg a):cJ K a.a1u ["tables","gone","column"] []:=T.a2q.binds (ps:=["tables","gone","column"]) λ_ _ _ _ _ _ us b=>match us,b with | [_,_,_],_=>rfl
def bF9(T:Txt K mg a):cJ K a.a2B ["end","lists"] []:=T.a3p.binds (ps:=["end","lists"]) λ_ _ _ _ _ _ us b=>match us,b with | [_,_],_=>rfl
def wZ(T:Txt K mg a):cJ K a.a1t ["question","house","order"] []:=T.a1Z.binds (ps:=["question","house","order"]) λ_ _ _ _ _ _ us b=>match us,b with | [_,_,_],_=>rfl
def qC(T:Txt K mg a):cJ K a.a0L ["_law_question","_law_house","_law_m"] []:=T.a1E.binds (ps:=["_law_question","_law_house","_law_m"]) λ_ _ _ _ _ _ us b=>match us,b with | [_,_,_],_=>rfl
end
end Mr
namespace Dv
open PySem L2
noncomputable def aU0:DS:=λ_=>none
def uL{X:Cx}{E:Ex}{st:Stmt}:GS E X st aU0:=.mk λ_ _ _ _ _ _ _ h=>by
 obtain⟨_,_,_,e,_⟩:=h;cases e
end Dv
namespace L2
open PySem PySem.Spec PyProof.Rows
inductive TkH(h:Heap):Tk->Value->Prop
 | s (x:Str) (t:Tok):TkH h (.s x) (.str x t)
 | p {a b:Tk} {q:Addr} {o:Obj} {u w:Value} {n:Nat}:h.get? q=some o->o.cls=.type "tuple"->o.data=.seq #[u,w] n->TkH h a u->TkH h b w->TkH h (.p a b) (.ref q)
theorem TkH.inj{h:Heap}:∀ {a b:Tk} {v:Value},TkH h a v->TkH h b v->a=b
 | _,_,_,.s x t,.s _ _=>rfl
 | _,_,_,.p g _ i c d,.p g1 _ g3 e f=>by
   rw[g]at g1;cases g1;rw[i]at g3;cases g3;rw[c.inj e,d.inj f]
theorem TkH.keep{h h':Heap}{d:Addr}{o:Obj}{es ep}(hd:h.get? d=some o)(c:o.data=.dict es ep)(k:∀ b u,b≠d->h.get? b=some u->h'.get? b=some u):∀ {a:Tk} {v:Value},TkH h a v->TkH h' a v
 | _,_,.s x t=>.s x t
 | _,_,.p e g f a b=>.p (k _ _ (λz=>by rw[z,hd]at e;cases e;rw[c]at f;cases f) e) g f (a.keep hd c k) (b.keep hd c k)
noncomputable def aH9:Tk->PyData
 | .s x=>.str x
 | .p a b=>.tuple [aH9 a,aH9 b]
noncomputable def Tk.ok(k:Tk):Bool:=(aH9 k).canLay0&&decide (k.dep<=8)
theorem pB{h:Heap}:∀ {k:Tk} {v:Value},TkH h k v->∃ as,Reads h v (aH9 k) as
 | _,_,.s x t=>⟨_,.str x t⟩
 | _,_,.p c d e a b=>by
   obtain⟨as,r⟩:=pB a;obtain⟨bs,q⟩:=pB b;exact⟨_,.tuple c d e (.cons r (.cons q .nil))⟩
theorem pC:∀ k:Tk,(aH9 k).depth=k.dep
 | .s x=>rfl
 | .p a b=>by
   show max (aH9 a).depth (max (aH9 b).depth 0)+1=max a.dep b.dep+1;rw[pC a,pC b];simp
theorem aU1:∀ a b:Tk,PyData.eqv (aH9 a) (aH9 b)=decide (a=b)
 | .s x,.s y=>by
   show(x==y)=_;by_cases e:x=y;subst e;simp;rw[a4D (λz=>e (by cases z;rfl))];exact beq_eq_false_iff_ne.mpr e
 | .s x,.p _ _=>by rw[a4D (λz=>nomatch z)];rfl
 | .p _ _,.s x=>by rw[a4D (λz=>nomatch z)];rfl
 | .p a b,.p c d=>by
   show(PyData.eqv (aH9 a) (aH9 c)&&(PyData.eqv (aH9 b) (aH9 d)&&true))=_;rw[aU1 a c,aU1 b d,Bool.and_true];by_cases e:a=c;by_cases f:b=d;subst e f;simp;rw[a4D f,a4D (show ¬ Tk.p a b=Tk.p c d from λz=>f (by cases z;rfl))];simp;rw[a4D e,a4D (show ¬ Tk.p a b=Tk.p c d from λz=>e (by cases z;rfl))];simp
section
variable{prog:Program}{w:World}{E:Value->Shared->Prop}
theorem aQ6{A:Around}{s:Shared}{a b:Tk}{u v:Value}{Q:Bool->Shared->Prop}(e:A.units+8 < cLine)(c:a.ok=true)(d:b.ok=true)(ha:TkH s.heap a u)(hb:TkH s.heap b v)(h:Q (decide (a=b)) s):wpAny (model prog w) A (eqBool u v) Q E s:=by
 unfold Tk.ok at c d;rw[a3c,a4E]at c d;obtain⟨as,r⟩:=pB ha;obtain⟨bs,q⟩:=pB hb;refine SeqAt.eqBoolOverData prog w A E s u v _ _ as bs Q r q c.1 d.1 ?_ (by rw[aU1];exact h);rw[pC,pC];lia
theorem uM:∀ (k:Tk) {v:Value} {A:Around} {s:Shared} {Q:Int->Shared->Prop},A.units+k.dep < cLine->TkH s.heap k v->(∀ tk,Q (fS w k) {s with toks:=tk})->wpAny (model prog w) A (pyHash v) Q E s
 | .s x,_,A,s,Q,_,.s _ t,h=>wpAny_pyHash_str (h _)
 | .p a b,_,A,s,Q,d,.p (q:=q) c e f ha hb,h=>by
   have hd:A.units+(max a.dep b.dep+1) < cLine:=d;refine W.pyHash_slot (T:="tuple") ⟨_,c,e⟩ F.slot_tuple_hash F.entry_tuple_hash (F.args_tuple_hash_1 _) (beq_builtin_none _) (.inr (by lia)) ?_;show wpAny _ _ (Builtin.Tuple.tupleItemsOf (.ref q) >>= _) _ _ s;refine a4x (wpAny_tupleItemsOf c f (a4x ?_));rw[← Array.forIn_toList];have z:A.in1.units=A.units+1:=rfl;refine a4x (a4x (uM a (s:=s) (by rw[z];lia) ha λg=>a4x (a4y (a4y ?_))));refine a4x (a4x (uM b (s:={s with toks:=g}) (by rw[z];lia) hb λi=>a4x (a4y (a4y ?_))));refine a4y ?_;exact a4x (wpAny_mkInt (a4y ⟨_,_,rfl,h _⟩))
theorem pD:∀ (n:Nat) (k:Tk) {v:Value} {A:Around} {s:Shared} {Q:Bool->Shared->Prop},k.dep<=n->TkH s.heap k v->Q true s->wpAny (model prog w) A (eqIsQuiet n v) Q E s
 | n,.s x,_,A,s,Q,_,.s _ t,h=>by rw[eqIsQuiet_byValue n (by rfl)];exact a4y h
 | 0,.p a b,_,A,s,Q,hn,_,h=>by exact absurd hn (Nat.not_succ_le_zero _)
 | n+1,.p a b,_,A,s,Q,hn,.p (q:=q) c e f ha hb,h=>by
   have hd:max a.dep b.dep+1<=n+1:=hn;have d:s.TypeIs (.ref q) "tuple":=⟨_,c,e⟩;unfold eqIsQuiet;refine a4x (a4Y d F.slot_tuple_eq.lookup ?_);show wpAny _ _ (isInstance (.ref q) (.type "tuple") >>= _) _ _ s;refine a4x (wpAny_isInstance d isSubtype_tuple_tuple ?_);simp only[Bool.not_true,Bool.false_eq_true,if_false];refine a4x (a4K c f (a4x ?_));show wpAny _ _ (forIn #[_,_] _ _) _ _ s;rw[← Array.forIn_toList];refine a4x (a4x (pD n a (s:=s) (by lia) ha ?_));simp only[Bool.not_true,Bool.false_eq_true,if_false];refine a4y (a4x (a4x (pD n b (s:=s) (by lia) hb ?_)));simp only[Bool.not_true,Bool.false_eq_true,if_false];exact a4y (a4y (a4y h))
end
abbrev TkE:=Tk×Value×Value
noncomputable def xA(w:World)(x:TkE):DictEntry:=⟨fS w x.1,x.2.1,x.2.2⟩
noncomputable def atT:List TkE->Tk->Option Value
 | [],_=>none
 | x::r,k=>if x.1=k then some x.2.2 else atT r k
theorem aD1{k:Tk}:∀ {xs:List TkE},(∀ (j:Nat) p,xs[j]? ≠ some (k,p))->atT xs k=none
 | [],_=>rfl
 | x::r,h=>by
   unfold atT;rw[a4z (λz=>h 0 x.2 (by rw[← z];rfl))];exact aD1 λj p=>h (j+1) p
theorem uN{k:Tk}:∀ {xs:List TkE} {j:Nat} {p:Value×Value},(xs.map (·.1)).Nodup->xs[j]? = some (k,p)->atT xs k=some p.2
 | x::r,0,p,_,h=>by cases h;unfold atT;rw[a4A rfl]
 | x::r,j+1,p,hn,h=>by
   have h':r[j]? = some (k,p):=by simpa using h
   have a:=a5h.mp (show(x.1::r.map (·.1)).Nodup from hn);unfold atT;rw[a4z (λz=>a.1 (by rw[z];exact a1i.mpr ⟨_,a6c h',rfl⟩))];exact uN a.2 h'
def bG0{k:Tk}{xs:List TkE}{i j:Nat}{p q:Value×Value}(hn:(xs.map (·.1)).Nodup)(c:xs[i]? = some (k,p))(d:xs[j]? = some (k,q)):i=j:=by
 have a:(xs.map (·.1))[i]? = some k:=by rw[a8b,c];rfl
 have b:(xs.map (·.1))[j]? = some k:=by rw[a8b,d];rfl
 exact(List.getElem?_inj (a0a.mp a).1 hn).mp (a.trans b.symm)
section
variable{prog:Program}{w:World}{A:Around}{E:Value->Shared->Prop}{s:Shared}{d:Addr}{o:Obj}{es:Array DictEntry}{ep:Nat}{xs:List TkE}{k:Tk}{key:Value}
def bG1(a:es.toList=xs.map (xA w))(i:Nat):es[i]? = xs[i]?.map (xA w):=by rw[← a5b,a,a8b]
noncomputable def plc(w:World)(es:Array DictEntry)(k:Tk):List Nat:=placesWithHash es.size (λi=>es[i]?.map (·.hash)) (fS w k)
def aU2{i:Nat}(c:es.toList=xs.map (xA w)):i∈plc w es k↔∃ x,xs[i]? = some x/\fS w x.1=fS w k:=by
 have d:es.size=xs.length:=by rw[← a8c,c,a3e]
 unfold plc placesWithHash;rw[List.mem_filter,a7f];dsimp only;rw[bG1 c];constructor;rintro⟨a,b⟩;have e:xs[i]? = some (xs[i]'(d ▸ a)):=a1a _;rw[e]at b;exact⟨_,e,by simpa[xA]using b⟩;rintro⟨x,a,b⟩;rw[a];exact⟨by rw[d];exact(a0a.mp a).1,by simp[xA,b]⟩
def aU3:(plc w es k).Nodup:=List.Pairwise.filter _ List.nodup_range
def bG2{l:List Value}{Q:Bool->Shared->Prop}(b:k.dep<=8)(c:TkH s.heap k key)(d:∀ v∈l,∃ j:Tk,j.dep<=8/\TkH s.heap j v)(h:Q false s):wpAny (model prog w) A (tableMayTell key l) Q E s:=by
 unfold tableMayTell;split;exact a4y h;refine a4x (pD 8 k b c ?_);simp only[Bool.not_true,Bool.false_eq_true,if_false];refine a4x (wpAny_forIn_list _ (λdD r s'=>s'=s/\r=(none,())/\∀ v∈dD,∃ j:Tk,j.dep<=8/\TkH s.heap j v) _ ?_ ?_ _ _ ⟨rfl,rfl,d⟩);rintro x dD r s' ⟨rfl,rfl,a⟩;obtain⟨j,hj,e⟩:=a x (.head _);refine a4x (pD 8 j hj e ?_);simp only[Bool.not_true,Bool.false_eq_true,if_false];exact a4y ⟨rfl,rfl,λv f=>a v (.tail _ f)⟩;rintro r s' ⟨rfl,rfl,_⟩;exact a4y h
def aU4{Q:Option Nat->Shared->Prop}(hu:A.units+8 < cLine)(P:k.ok=true)(R:TkH s.heap k key)(M:s.heap.get? d=some o)(hd:o.data=.dict es ep)(F:es.toList=xs.map (xA w))(H:∀ x∈xs,TkH s.heap x.1 x.2.1/\x.1.ok=true)(hn:(xs.map (·.1)).Nodup)
  (h0:(∀ (j:Nat) p,xs[j]? ≠ some (k,p))->Q none s) (U:∀ (j:Nat) p,xs[j]? = some (k,p)->Q (some j) s):wpAny (model prog w) A (dictFind d key (fS w k)) Q E s:=by
 have dk:k.dep<=8:=by unfold Tk.ok at P;rw[a3c,a4E]at P;exact P.2
 have there:∀ (j:Nat) p,xs[j]? = some (k,p)->j∈plc w es k:=λj p e=>(aU2 F).mpr ⟨_,e,rfl⟩;have g:∀ (i:Nat),i∈plc w es k->∃ x:TkE,xs[i]? = some x/\es[i]? = some ⟨fS w k,x.2.1,x.2.2⟩/\TkH s.heap x.1 x.2.1/\x.1.ok=true:=λi hi=>by
  obtain⟨x,e,eh⟩:=(aU2 F).mp hi;obtain⟨a,b⟩:=H x (a6c e);exact⟨x,e,by rw[bG1 F,e];show some (xA w x)=_;unfold xA;rw[eh],a,b⟩
 have plain:wpAny (model prog w) A (dictWalkPlain d key (fS w k) es (plc w es k)) Q E s:=by
  unfold dictWalkPlain;refine a4x (wpAny_forIn_list _ (λdD r s'=>s'=s/\r=(none,())/\∃ pre,plc w es k=pre++dD/\∀ i∈pre,∀ p,xs[i]? ≠ some (k,p)) _ ?_ ?_ _ _ ⟨rfl,rfl,[],rfl,λ_ h=>nomatch h⟩)
  ·rintro i dD r s' ⟨rfl,rfl,pre,l,c⟩;obtain⟨x,C,D,I,J⟩:=g i (by rw[l];simp);rw[D];dsimp only;rw[a4A (by simp)];refine a4x (wpAny_dictEpoch M hd (a4x (aQ6 hu J P I R (a4x (wpAny_dictEpoch M hd ?_)))));rw[a4z (by simp)];by_cases f:x.1=k
   ·rw[a4W f]
    first | rw[a4A rfl] | skip
    refine a4x (a4I (a4y (a4y (U i x.2 (by rw[C,← f])))))
   ·rw[a4D f];simp only[Bool.false_eq_true,if_false];have nx:∀ j∈pre++[i],∀ p,xs[j]? ≠ some (k,p):=λj hj p e=>by
     rcases a7c.mp hj with z | z;exact c j z p e;cases a1b.mp z;rw[C]at e;cases e;exact f rfl
    refine a4x (a4I ?_)
    first
     | exact a4y ⟨rfl,rfl,pre++[i],by rw[l];simp,nx⟩
     | exact a4x (a4y (a4y ⟨rfl,rfl,pre++[i],by rw[l];simp,nx⟩))
  ·rintro r s' ⟨rfl,rfl,pre,l,c⟩;exact a4y (h0 λj p e=>c j (by have:=there j p e;rw[l]at this;simpa using this) p e)
 have X:∀ v∈(plc w es k).filterMap (λi=>es[i]?.map (·.key)),∃ j:Tk,j.dep<=8/\TkH s.heap j v:=λv V=>by
  obtain⟨i,hi,e⟩:=a8h.mp V;obtain⟨x,C,D,I,J⟩:=g i hi;rw[D]at e;cases e;unfold Tk.ok at J;rw[a3c,a4E]at J;exact⟨_,J.2,I⟩
 have K:(∃ x t,key=.str x t/\k=.s x)\/∃ q,key=.ref q:=by
  cases R with
  | s x t=>exact .inl ⟨x,t,rfl,rfl⟩
  | p=>exact .inr ⟨_,rfl⟩
 have Y:placesWithHash es.size (λi=>es[i]?.map (·.hash)) (fS w k)=plc w es k:=rfl;rcases K with⟨x,t,rfl,ek⟩ | ⟨q,rfl⟩
 case' inl=>by_cases G:(es.all λe=>isExactStrKey e.key)=true
 case pos=>
  subst ek;have f:∀ y∈xs,∃ z u,y.1=.s z/\y.2.1=.str z u:=λy N=>by
   have m:xA w y∈es:=Array.mem_toList_iff.mp (by rw[F];exact a1i.mpr ⟨y,N,rfl⟩);have:=Array.all_eq_true'.mp G _ m;obtain⟨a,_⟩:=H y N;obtain⟨y1,y2,y3⟩:=y;cases a with
   | s z u=>exact⟨z,u,rfl,rfl⟩
   | p=>cases this
  have Z:KeysOf (strKind prog w) es:=λe hm=>by
   obtain⟨y,N,rfl⟩:=a1i.mp (by rw[← F];exact Array.mem_toList_iff.mpr hm);obtain⟨z,u,C,D⟩:=f y N;exact⟨z,by show Value.isStrOf z (xA w y).key=true;unfold xA;rw[D];simp[Value.isStrOf],by unfold xA;rw[C];rfl⟩
  refine wpAny_dictFind_of (knd:=strKind prog w) (k:=x) (by show Value.isStrOf x (.str x t)=true;simp[Value.isStrOf]) M hd Z ?_;have key:∀ (j:Nat) y,xs[j]? = some y->(Value.isStrOf x y.2.1=true↔y.1=.s x):=λj y e=>by
   obtain⟨z,u,C,D⟩:=f y (a6c e);rw[C,D];show(z==x)=true↔_;rw[a4B];exact⟨λh=>by rw[h],λh=>by cases h;rfl⟩
  cases hf:es.findIdx? λe=>Value.isStrOf x e.key with
  | none=>
    refine(show Q (es.findIdx? λe=>Value.isStrOf x e.key) s from ?_);rw[hf];refine h0 λj p e=>?_;have m:xA w (.s x,p)∈es:=Array.mem_toList_iff.mp (by rw[F];exact a1i.mpr ⟨_,a6c e,rfl⟩);have:=Array.findIdx?_eq_none_iff.mp hf _ m;rw[show Value.isStrOf x (xA w (.s x,p)).key=true from(key j _ e).mpr rfl]at this;cases this
  | some i=>
    refine(show Q (es.findIdx? λe=>Value.isStrOf x e.key) s from ?_);rw[hf];obtain⟨hl,O,_⟩:=Array.findIdx?_eq_some_iff_getElem.mp hf;have e:=bG1 F i;rw[a6b hl]at e;obtain⟨y,ey,I⟩:=a2c.mp e.symm;rw[← I]at O;obtain⟨y1,y2⟩:=y;have:=(key i _ ey).mp O;dsimp only at this;subst this;exact U i y2 ey
 all_goals
  unfold dictFind;refine a4C (a4x (wpAny_dictEntries M hd ?_));dsimp only;rw[Y]
 case' neg=>
  rw[a4z G];by_cases V:(((Value.str x t)::(plc w es k).filterMap λi=>es[i]?.map (·.key)).all carriedByValue)=true
 case pos=>rw[a4A V];exact plain
 case' neg=>rw[a4z V]
 case' inr=>
  have S:¬ (es.any λe=>e.key==Value.ref q&&e.hash != fS w k)=true:=λh=>by
   obtain⟨e,hm,O⟩:=Array.any_eq_true'.mp h;obtain⟨y,N,rfl⟩:=a1i.mp (by rw[← F];exact Array.mem_toList_iff.mpr hm);rw[a3c,a4B,bne_iff_ne]at O;have:=(H y N).1;rw[show y.2.1=Value.ref q from O.1]at this;exact O.2 (by rw[← this.inj R];rfl)
  rw[a4z (by simp[carriedByValue]),a4z S]
 all_goals
  first
  | by_cases n:(((plc w es k).filterMap λi=>es[i]?.map (·.key))==[Value.ref q])=true
  | by_cases n:(((plc w es k).filterMap λi=>es[i]?.map (·.key))==[Value.str x t])=true
 all_goals first | rw[a4A n] | rw[a4z n]
 all_goals first | refine a4x (a4y ?_) | refine a4x (bG2 dk R X ?_)
 all_goals
  rw[a4z (by simp)];refine a4x (wpAny_forIn_list _ (λdD r s'=>s'=s/\∃ pre B,r=(none,B)/\plc w es k=pre++dD/\((B=none/\∀ i∈pre,∀ p,xs[i]? ≠ some (k,p))\/∃ j p,B=some j/\j∈pre/\xs[j]? = some (k,p))) _ ?_ ?_ _ _ ⟨rfl,[],none,rfl,rfl,.inl ⟨rfl,λ_ h=>nomatch h⟩⟩)
  ·rintro i dD r s' ⟨rfl,pre,B,rfl,l,W⟩;obtain⟨y,C,D,I,J⟩:=g i (by rw[l];simp);have T:plc w es k=(pre++[i])++dD:=by rw[l];simp
   rw[D];dsimp only;rw[a4A (by simp)];refine a4x (wpAny_dictEpoch M hd (a4x (aQ6 hu J P I R (a4x (wpAny_dictEpoch M hd ?_)))));rw[a4z (by simp)];by_cases f:y.1=k
   ·have L:xs[i]? = some (k,y.2):=by rw[C,← f]
    rw[a4W f];rcases W with⟨rfl,c⟩ | ⟨j,p,rfl,hj,e⟩
    ·first | rw[a4A rfl] | skip
     simp only[Option.isSome_none,Bool.false_eq_true,if_false,if_true];refine a4x (a4I ?_);split;exact a4y (a4y (U i _ L));exact a4y ⟨rfl,_,_,rfl,T,.inr ⟨i,_,rfl,by simp,L⟩⟩
    ·have:=bG0 hn e L;subst this;have nd:=aU3 (w:=w) (es:=es) (k:=k);rw[l]at nd;exact absurd rfl ((List.nodup_append.mp nd).2.2 j hj j (.head _))
   ·rw[a4D f];simp only[Bool.false_eq_true,if_false];refine a4x (a4I ?_);rw[a4z (by simp)];refine a4y ⟨rfl,_,_,rfl,T,?_⟩;rcases W with⟨rfl,c⟩ | ⟨j,p,rfl,hj,e⟩;refine .inl ⟨rfl,λj hj p e=>?_⟩;rcases a7c.mp hj with z | z;exact c j z p e;cases a1b.mp z;rw[C]at e;cases e;exact f rfl;exact .inr ⟨j,p,rfl,a0g _ hj,e⟩
  ·rintro r s' ⟨rfl,pre,B,rfl,l,W⟩;rcases W with⟨rfl,c⟩ | ⟨j,p,rfl,hj,e⟩;exact a4y (h0 λj p e=>c j (by have:=there j p e;rw[l]at this;simpa using this) p e);exact a4y (U j p e)
end
end L2
namespace Dv
open PySem L2 Mr
section
variable{Γ:Gm}{H H1:Hp}{σ σ1:Sg}{σV:St}{p:Addr}{o o':HO}
end
def aV{X:Cx}{E:Ex}{i:Nat}{x:Str}{e:Expr}{r:DE}{pos a:Pos}(b:X.N.Nodup)(hi:X.N[i]? = some x)(c:Loc X.env.scope x)(d:GE X e r)(hs:swapsWith e (some (.Name x a)) pos.line X.env=pure false:=by rfl)(f:X.fn x=true\/X.env.scope.names.lookup x=some .local:=by first | exact .inl rfl | exact .inr rfl | assumption) :
  GS E X (.Assign [.Name x a] e pos) (fA i r):=cS6 λΓ=>bL7 b hi c (d.to Γ) hs f
@[irreducible] noncomputable def dB0(g:DG)(b:DS)(items:List D)(σ:Sg):=bE6 g b items σ
section
variable{σ:Sg}{QS:Out->Prop}{Q:Res->Sg->Prop}{ri:DI}{g:DG}{b:DS}{a:DE}{ra:DA}
theorem aU5:RS (rF ri g b) σ QS=RI ri σ λitems l a=>OK1 (dB0 g b items (lendO l a)) λo=>QS (aB1 l a o):=by
 unfold dB0;exact cU9
def cG9{items:List D}(P:Nat->Sg->Prop)(h0:P 0 σ)(hs:∀ i d σ,items[i]? = some d->P i σ->OK1 (g d σ) λc=>RS b c λo=>∃ a,(o=.nx a\/o=.ct a)/\P (i+1) a){K:Out->Prop}(k:∀ σ',P items.length σ'->K (.nx σ')):OK1 (dB0 g b items σ) K:=by
 unfold dB0;exact cG4 P h0 hs k
end
end Dv
namespace PySem
structure Fill(prog:Program)(w:World)(A:Around)(S I:Addr)(n:Nat)(P:Nat->Value->Prop)(J:Nat->Heap->Prop):Prop where
 put:∀ i v (s:Shared) (Q:Bool->Shared->Prop) (E:Value->Shared->Prop),i < n->P i v->J i s.heap ->
  (∀ b h' tk,J (i+1) h'->(∀ c o,c≠S->s.heap.get? c=some o->h'.get? c=some o)->Q b {s with heap:=h',toks:=tk})->wpAny (model prog w) A (setAdd S v) Q E s
 stay:∀ i h h',J i h->(∀ c o,c≠I->h.get? c=some o->h'.get? c=some o)->J i h'
section
variable{prog:Program}{w:World}{A:Around}{E:Value->Shared->Prop}{R:Result->Shared->Prop}{S I:Addr}{fp:List Addr}{n:Nat}{P:Nat->Value->Prop}{St J:Nat->Heap->Prop}
theorem xB(W:Walks prog w A.in1 I fp [I] n P St)(F:Fill prog w A.in1 S I n P J)(l:S∉fp) :
  ∀ (k i:Nat) (s:Shared),i+k=n->St i s.heap->J i s.heap ->
    (∀ h' tk,J n h'->(∀ c o,c≠S->c≠I->s.heap.get? c=some o->h'.get? c=some o)->R (.ok (.ret .none)) {s with heap:=h',toks:=tk}) ->
    codeAny (model prog w) A (.builtin "set.update.loop" ⟨[.ref S,.ref I],[]⟩) R s
 | 0,i,s,m,st,j,q=>by
   have hi:i=n:=m;subst hi;refine a4O PyProof.Rows.F.entry_set_update_loop ?_;rw[a4f a0h _]
   (show wpAny _ A.in1 (pyNext (.ref I) >>= _) _ _ s;refine a4x (W.done s _ _ st λh' tk d=>?_))
   have p:∀ c o,c≠I->s.heap.get? c=some o->h'.get? c=some o:=λc o a e=>d c o (by simpa using a) e;exact a4y (q h' tk (F.stay _ _ _ j p) λc o _ a e=>p c o a e)
 | k+1,i,s,m,st,j,q=>by
   have hi:i < n:=by lia
   refine a4O PyProof.Rows.F.entry_set_update_loop ?_;rw[a4f a0h _]
   (show wpAny _ A.in1 (pyNext (.ref I) >>= _) _ _ s;refine a4x (W.item i s _ _ hi st λv y B C f g=>?_))
   have r:∀ c o,c≠I->s.heap.get? c=some o->y.get? c=some o:=λc o a e=>g c o (by simpa using a) e
   (show wpAny _ A.in1 (holding [v] (setAdd S v) >>= _) _ _ _;refine a4x (a4C ?_))
   refine F.put i v _ _ _ hi C (F.stay _ _ _ j r) λb D E G t=>?_;refine a4y ⟨a4U a0h _,?_⟩;have h:St (i+1) D:=W.frame _ _ _ f λc a o e=>t c o (λz=>l (z ▸ a)) e;exact xB W F l k (i+1) _ (by lia) h G λh' tk H K=>q h' tk H λc o u x e=>K c o u x (t c o u (r c o x e))
def cH0{T b a:String}{args:List Value}{Q Q₁:Value->Shared->Prop}{s:Shared}(k:TypeCalled T b a)(l:checkTypeCall T ⟨args,[]⟩=pure ())
  (g:codeAny (model prog w) A.in1 (.call (.builtin b) ⟨.type T::args,[]⟩) (wants Q₁ E) s)
  (h:∀ obj d,Q₁ obj d->d.TypeIs obj T/\codeAny (model prog w) A.in1 (.call (.builtin a) ⟨obj::args,[]⟩) (wants (λr i=>r=.none/\Q obj i) E) d) :
  wpAny (model prog w) A (call (.type T) args) Q E s:=by
 obtain⟨n1,n2,⟨c,n,n3⟩,o,p,q,j⟩:=k;have t:=j.lookup;refine wpAny_call (codeAny_of_tree (a4y ⟨Code.quiet_builtin _ (by decide +kernel),a4O F.entry_type_call ?_⟩));rw[Around.under_plain (weight_type_call_type T args []) rfl]
 repeat (any_goals (first | assumption | wp_step))
 refine a5s g λr s1 f=>?_
 match r,f with
 | .error e,f=>exact f
 | .ok (.ret obj),f=>
   obtain⟨u,hi⟩:=h obj s1 f;have hb:=j.bind obj
   repeat (any_goals (first | assumption | wp_step))
   refine a5s hi λr s2 f=>?_
   match r,f with
   | .error e,f=>exact f
   | .ok (.ret x),⟨m,v⟩=>
     subst m
     repeat (any_goals (first | assumption | wp_step))
end
open Sem (wp)
def xC:entryFor table "dict.update.loop"=some Builtin.«dict.update.loop»:=entryFor_of_tree (by kernel_rfl)
def mB:plainId "dict.update.loop"=true:=by decide +kernel
section
variable{prog:Program}{w:World}{A:Around}{E:Value->Shared->Prop}
def aI0{s:Shared}{a:Addr}{u x:Value}{Q:List Value->Shared->Prop}(f:s.heap.IsTuple a #[u,x])(h:Q [u,x] s):wpAny (model prog w) A (Builtin.Dict.pairItems (.ref a)) Q E s:=by
 obtain⟨⟨c,i,j,sl⟩,k,b,n,e⟩:=f;simp only at b e;subst b e;obtain⟨l,g,d,tk,os⟩:=s;have m:(⟨l,g,d,tk,os⟩:Shared).TypeIs (.ref a) "tuple":=⟨_,k,rfl⟩;unfold Builtin.Dict.pairItems
 repeat (any_goals (first | assumption | wp_step))
end
section
variable{prog:Program}{w:World}{A:Around}{E:Value->Shared->Prop}{R:Result->Shared->Prop}{d I:Addr}{fp:List Addr}{n:Nat}{P:Nat->Value->Prop}{St:Nat->Heap->Prop}{κ:Type}[DecidableEq κ]{knd:KeyKind prog w κ}
def aI1{K:Type}[DecidableEq K](l:List (K×Value))(k:K)(v:Value):(stored l k v).length<=l.length+1:=by
 unfold stored;split<;>simp
end
end PySem
namespace PySem
noncomputable abbrev aI2(es:Array (Int×Value))(ep:Nat)(t:SetTable):Obj:={cls:=.type "set",dict:=none,data:=.set es ep t}
noncomputable def eZ(w:World):Bool:=!w.params.followText "set-order"
section
variable{prog:Program}{w:World}{A:Around}{E:Value->Shared->Prop}{s:Shared}
def cH1(a:Value){Q:Value->Shared->Prop}(h:Q (.ref s.heap.objs.size) {s with heap:=s.heap.push (aI2 #[] 0 (.fresh 0 0 (eZ w)))}) :
  codeAny (model prog w) A (.call (.builtin "set.__new__") ⟨[.type "set",a],[]⟩) (wants Q E) s:=by
 refine codeAny_call_builtin F.plain_set_new F.entry_set_new (wpAny_of_eq (F.newCall_set_1 a) ?_);have b:=sub_set_self;unfold Builtin.«set.__new__» Builtin.Frozenset.newClass;obtain⟨c,g,d,tk,os⟩:=s
 wp_walk
 refine a5p (a4y ?_);simp only[newObj];exact a4x (wpAny_alloc (a4y (a4y h)))
end
section
variable{prog:Program}{w:World}{A:Around}{E:Value->Shared->Prop}{n:Nat}{P:Nat->Value->Prop}{St J:Nat->Heap->Prop}
structure Src(prog:Program)(w:World)(A:Around)(h₀:Heap)(l:Addr)(n:Nat)(P:Nat->Value->Prop) where
 T:String
 St:Addr->Nat->Heap->Prop
 ob:Obj
 ty:∃ o,h₀.get? l=some o/\o.cls=.type T
 n1:isSubtype (.type T) (.type "set")=pure false
 n2:isSubtype (.type T) (.type "frozenset")=pure false
 n3:(Value.type T==Value.type "dict")=false
 iter:∀ (A:Around) (s:Shared) (Q:Value->Shared->Prop) (E:Value->Shared->Prop),(∀ b o,h₀.get? b=some o->s.heap.get? b=some o)->Q (.ref s.heap.objs.size) {s with heap:=s.heap.push ob}->wpAny (model prog w) A (pyIter (.ref l)) Q E s
 free:ob.isFreed=false
 walk:∀ (A':Around),A'.handled=A.handled->∀ I,l≠I->Walks prog w A' I [I,l] [I] n P (St I)
 iT:∀ h:Heap,(∀ b o,h₀.get? b=some o->h.get? b=some o)->St h.objs.size 0 (h.push ob)
def aD2{s:Shared}{l:Addr}{Q:Value->Shared->Prop}(c:Src prog w A s.heap l n P)
  (L:∀ A':Around,A'.handled=A.handled->A'.units<=A.units+8->Fill prog w A' s.heap.objs.size (s.heap.objs.size+1) n P J)
  (y:∀ (h':Heap),h'.get? s.heap.objs.size=some (aI2 #[] 0 (.fresh 0 0 (eZ w)))->(∀ b o,s.heap.get? b=some o->h'.get? b=some o)->J 0 h')
  (q:∀ h' tk,J n h'->(∀ b o,s.heap.get? b=some o->h'.get? b=some o)->Q (.ref s.heap.objs.size) {s with heap:=h',toks:=tk}) :
  wpAny (model prog w) A (call (.type "set") [.ref l]) Q E s:=by
 obtain⟨T,St,ob,⟨⟨t,k,m,j⟩,f,g⟩,n1,n2,n3,iter,free,walk,iT⟩:=c;simp only at g;subst g;have h:l < s.heap.objs.size:=a5a f;refine cH0 (Q₁:=λobj s₁=>obj=.ref s.heap.objs.size/\s₁={s with heap:=s.heap.push (aI2 #[] 0 (.fresh 0 0 (eZ w)))}) F.called_set (F.typeCall_set_1 _) (cH1 _ ⟨rfl,rfl⟩) λobj s₁ Z0=>?_;obtain⟨B,C⟩:=Z0;subst B C;have u:(s.heap.push (aI2 #[] 0 (.fresh 0 0 (eZ w)))).get? s.heap.objs.size=some (aI2 #[] 0 (.fresh 0 0 (eZ w))):=a7a _ rfl;have a:∀ b o,s.heap.get? b=some o->(s.heap.push (aI2 #[] 0 (.fresh 0 0 (eZ w)))).get? b=some o:=λb o e=>a2a _ e;have v:Shared.TypeIs {s with heap:=s.heap.push (aI2 #[] 0 (.fresh 0 0 (eZ w)))} (.ref s.heap.objs.size) "set":=⟨_,u,rfl⟩;have D:Shared.TypeIs {s with heap:=s.heap.push (aI2 #[] 0 (.fresh 0 0 (eZ w)))} (.ref l) T:=⟨_,a l _ f,rfl⟩;refine⟨v,codeAny_call_builtin F.called_set.init.plain F.entry_set_init (check_set_init_1 v ?_)⟩;have G:=a l _ f;unfold Builtin.«set.__init__» noKeywords Builtin.Frozenset.updateFrom;generalize p:pyIter=PI
 wp_walk
 subst p;refine iter _ _ _ _ a ?_;refine a4x (wpAny_runValue ?_);have x:(s.heap.push (aI2 #[] 0 (.fresh 0 0 (eZ w)))).objs.size=s.heap.objs.size+1:=a4g ..;have ne:l≠s.heap.objs.size+1:=λz=>absurd h (by rw[z];exact a5j.mpr (Nat.le_succ _));have i:=iT _ a;rw[x]at i;have r:((s.heap.push (aI2 #[] 0 (.fresh 0 0 (eZ w)))).push ob).get? s.heap.objs.size=some (aI2 #[] 0 (.fresh 0 0 (eZ w))):=a2a _ u;have d:∀ b o,s.heap.get? b=some o->((s.heap.push (aI2 #[] 0 (.fresh 0 0 (eZ w)))).push ob).get? b=some o:=λb o e=>a2a _ (a b o e);show codeAny (model prog w) A.in1.in1 (.builtin "set.update.loop" ⟨[.ref s.heap.objs.size,.ref (s.heap.push (aI2 #[] 0 (.fresh 0 0 (eZ w)))).objs.size],[]⟩) _ _;rw[x];refine xB (walk A.in1.in1.in1 rfl (s.heap.objs.size+1) ne) (L A.in1.in1.in1 rfl (by show A.units+1+1+1<=A.units+8;lia)) ?_ n 0 _ (a9e n) i (y _ r d) λh' tk H I=>?_;simp only[List.mem_cons,List.not_mem_nil,or_false,not_or];exact⟨a0d (a2g _),a9h h⟩;refine a4y (a4y ⟨rfl,q h' tk H λb o e=>?_⟩);have hb:=a5a e;exact I b o (a0d hb) (a0d (Nat.lt_succ_of_lt hb)) (d b o e)
noncomputable def Src.list{s:Shared}(d:A.handled=none){l:Addr}{items:Array Value}(a:s.heap.IsList l items):Src prog w A s.heap l items.size (λi v=>items[i]? = some v) where
 T:="list"
 St:=λI i h=>h.IsListIter I l i/\h.IsList l items
 ob:={cls:=.type "list_iterator",data:=.fields #[.ref l,.int 0 0]}
 ty:=by obtain⟨o,f,g,_⟩:=a;exact⟨o,f,g⟩
 n1:=F.sub_list_set
 n2:=F.sub_list_frozenset
 n3:=by decide
 iter:=λA' s' Q E b j=>wpAny_pyIter_list (a.at λo e=>b l o e) j
 free:=rfl
 walk:=λA' ha I c=>Walks.list (ha.trans d) I l c items
 iT:=λh b=>⟨⟨_,a7a _ rfl,rfl,rfl⟩,(a.at λo e=>b l o e).push _⟩
def yU:isSubtype (.type "tuple") (.type "set")=pure false:=by rw[a5v];kernel_rfl
def rM:isSubtype (.type "tuple") (.type "frozenset")=pure false:=by rw[a5v];kernel_rfl
noncomputable def Src.tup{s:Shared}(d:A.handled=none){l:Addr}{items:Array Value}(a:s.heap.IsTuple l items):Src prog w A s.heap l items.size (λi v=>items[i]? = some v) where
 T:="tuple"
 St:=λI i h=>h.IsTupleIter I l i/\h.IsTuple l items
 ob:={cls:=.type "tuple_iterator",data:=.fields #[.ref l,.int 0 0]}
 ty:=by obtain⟨o,f,g,_⟩:=a;exact⟨o,f,g⟩
 n1:=yU
 n2:=rM
 n3:=by decide
 iter:=λA' s' Q E b j=>a4Q (a.at λo e=>b l o e) j
 free:=rfl
 walk:=λA' ha I c=>Walks.tuple (ha.trans d) I l c items
 iT:=λh b=>⟨⟨_,a7a _ rfl,rfl,rfl⟩,(a.at λo e=>a2a _ (b l o e))⟩
end
open Sem (wp)
section
variable{prog:Program}{w:World}{A:Around}{E:Value->Shared->Prop}{κ:Type}[DecidableEq κ]{knd:KeyKind prog w κ}
end
section
variable{prog:Program}{w:World}{A:Around}{E:Value->Shared->Prop}
end
section
variable{prog:Program}{w:World}{A:Around}{E:Value->Shared->Prop}{κ:Type}[DecidableEq κ]{knd:KeyKind prog w κ}
end
end PySem
namespace L2
open PySem PySem.Spec PyProof.Rows
def cW1:R2:=λx y H Q=>∃ a v,x=.ref a/\dA3 H a y (some v)/\Q v H
def bG3{X:Cx}{o i:Expr}{pos:Pos}{a ty:TE}(b:X.A.units+1 < cLine)(c:PE X o a)(hi:PE X i ty)(hs:cL6 i):PE X (.Subscript o i pos) (tOp cW1 a ty):=cE2 b c hi hs
def bG4{κ:Type}[DecidableEq κ]{l:List (κ×V)}{k:κ}{v:V}(h:k∉l.map Prod.fst):cE0 l k v=l++[(k,v)]:=by
 unfold cE0;rw[a4z];simp only[List.any_eq_true,decide_eq_true_eq,not_exists,not_and];exact λp a e=>h (by rw[← e];exact List.mem_map_of_mem a)
theorem sQ:∀ (prs acc:List (Key×V)),((acc++prs).map Prod.fst).Nodup->rX acc prs=acc++prs
 | [],acc,_=>by simp[rX]
 | p::prs,acc,h=>by
   show rX (cE0 acc p.1 p.2) prs=_;have h':((acc.map Prod.fst)++p.1::prs.map Prod.fst).Nodup:=by simpa using h
   rw[bG4 λz=>(List.nodup_append.mp h').2.2 _ z p.1 (by simp) rfl,sQ prs (acc++[(p.1,p.2)]) (by simpa using h)];simp
end L2
namespace Dv
open PySem L2 Mr
end Dv
namespace L2
open PySem PySem.Spec PyProof.Rows
def aU6(w:World)(h:Heap)(d:Addr)(xs:List TkE):Prop:=∃ o es ep,h.get? d=some o/\o.ExactDict/\o.data=.dict es ep/\es.toList=xs.map (xA w)/\(∀ x∈xs,TkH h x.1 x.2.1/\x.1.ok=true)/\(xs.map (·.1)).Nodup
def bY8{k:Tk}(h:k.ok=true):k.dep<=8:=by unfold Tk.ok at h;rw[a3c,a4E]at h;exact h.2
section
variable{prog:Program}{w:World}{A:Around}{E:Value->Shared->Prop}{s:Shared}{d:Addr}{xs:List TkE}{k:Tk}{key:Value}
def yV(m:aU6 w s.heap d xs):s.TypeIs (.ref d) "dict":=let ⟨o,_,_,h,c,_⟩:=m;⟨o,h,c.1⟩
def aI3{v:Value}{Q:Value->Shared->Prop}(q:A.units+9 < cLine)(b:k.ok=true)(c:TkH s.heap k key)(m:aU6 w s.heap d xs)(e:atT xs k=some v)(h:∀ tk,Q v {s with toks:=tk}):wpAny (model prog w) A (getItem (.ref d) key) Q E s:=by
 have a:=yV m;obtain⟨o,es,ep,f,r,g,i,n,l⟩:=m;have z:A.in1.units=A.units+1:=rfl;unfold getItem;refine a4C (a4x (wpAny_sequenceKey a (by decide) (a4x (wpAny_callSpecial?_slot a slot_dict_getitem (a4H slot_dict_getitem a entry_dict_getitem ?_ (args_dict_getitem _ _))))));show wpAny _ _ (dictGet d key >>= _) _ _ s;unfold dictGet;have od:=bY8 b;refine a4x (a4C (a4x (uM k (by rw[z];lia) c λtk=>a4x (aU4 (s:={s with toks:=tk}) (by rw[z];lia) b c f g i n l (λno=>?_) λj p hj=>?_))));rw[aD1 no]at e;cases e;rw[uN l hj]at e;cases e;refine a4x (wpAny_dictEntries (s:={s with toks:=tk}) f g ?_);rw[bG1 i,hj];exact a4y (a4y ⟨p.2,rfl,a4y (h tk)⟩)
def aI4{v:Value}{Q:Unit->Shared->Prop}(H:A.units+9 < cLine)(i:k.ok=true)(l:TkH s.heap k key)(m:aU6 w s.heap d xs)(e:atT xs k=none)(I:xs.length < 4000)
  (h:∀ h' tk,aU6 w h' d (xs++[(k,key,v)])->Heap.SameBut d s.heap h'->Q () {s with heap:=h',toks:=tk}):wpAny (model prog w) A (setItem (.ref d) key v) Q E s:=by
 have f:=yV m;obtain⟨o,es,ep,g,F,c,n,r,B⟩:=m;have z:A.in1.units=A.units+1:=rfl;have G:es.size=xs.length:=by rw[← a8c,n,a3e]
 unfold setItem;refine a4C (a4x (wpAny_sequenceKey f (by decide) (a4x (wpAny_callSpecial?_slot f slot_dict_setitem (a4H slot_dict_setitem f entry_dict_setitem ?_ (args_dict_setitem _ _ _))))));show wpAny _ _ (Builtin.Dict.notOrdered "__setitem__" ⟨[.ref d,key,v],[]⟩ >>= _) _ _ s;refine a4x (wpAny_notOrdered_dict f ?_);show wpAny _ _ (dictSet d key v >>= _) _ _ s;unfold dictSet;have od:=bY8 i;refine a4x (a4C (a4x (uM k (by rw[z];lia) l λtk=>?_)));unfold dictSetHashed;refine a4C (a4x (aU4 (s:={s with toks:=tk}) (by rw[z];lia) i l g c n r B (λno=>?_) λj p hj=>?_))
 ·refine a4x (a4I (wpAny_updateDictKeys (s:={s with toks:=tk}) g c ?_ (by rw[G,a4P];lia)));refine a4y ⟨.none,rfl,a4y (h _ tk ?_ (a3f ..))⟩;have kp:∀ {a:Tk} {u:Value},TkH s.heap a u->TkH (s.heap.update d (Obj.mapDictKeys λes=>es.push ⟨fS w k,key,v⟩)) a u:=λt=>t.keep g c λb u hb q=>(a1d _ _ (a3d hb)).trans q;refine⟨_,_,ep+1,a5d _ g (Obj.isFreed_of_dict (Obj.data_mapDictKeys c _)),F.mapDictKeys _,Obj.data_mapDictKeys c _,by simp[n,xA],λx C=>?_,?_⟩;rcases a7c.mp C with q | q;exact⟨kp (r x q).1,(r x q).2⟩;cases a1b.mp q;exact⟨kp l,i⟩;rw[a8i];refine List.nodup_append.mpr ⟨B,by simp,λx C y D q=>?_⟩;cases a1b.mp D;obtain⟨y,D,rfl⟩:=a1i.mp C;obtain⟨j,hj⟩:=List.mem_iff_getElem?.mp D;exact no j y.2 (by rw[hj,← show y.1=k from q])
 ·rw[uN B hj]at e;cases e
end
def MP(H:Hp):List (Tk×V)->List TkE->Prop:=Paired λ(p:Tk×V) (q:TkE)=>p.1=q.1/\(∃ y,yD H p.1 y/\cE y q.2.1)/\cE p.2 q.2.2
noncomputable def sR(l:List (Str×V)):List (Key×V):=l.map λp=>(.inr p.1,p.2)
noncomputable def bY9(l:List (Str×V)):List (Tk×V):=l.map λp=>(.s p.1,p.2)
def MxA(H:Hp)(a:Addr)(kvs:List (Tk×V)):Prop:=Rd H a (.dM kvs)\/∃ l,Rd H a (.dK (sR l))/\kvs=bY9 l
def MxW(H:Hp)(a:Addr)(kvs:List (Tk×V)):Prop:=H a=some (.dM kvs)\/∃ l,H a=some (.dK (sR l))/\kvs=bY9 l
def MxW.rd{H:Hp}{a:Addr}{kvs:List (Tk×V)}(h:MxW H a kvs):MxA H a kvs:=h.elim (λh=>.inl (.inl h)) λ⟨l,h,e⟩=>.inr ⟨l,.inl h,e⟩
noncomputable def bZ0:List (Tk×V)->Tk->Option V
 | [],_=>none
 | x::r,k=>if x.1=k then some x.2 else bZ0 r k
theorem MP.val{H:Hp}{k:Tk}:∀ {kvs:List (Tk×V)} {xs:List TkE},MP H kvs xs->(bZ0 kvs k=none/\atT xs k=none)\/∃ v u,bZ0 kvs k=some v/\atT xs k=some u/\cE v u
 | _,_,.nil=>.inl ⟨rfl,rfl⟩
 | p::_,q::_,.cons r t=>by
   unfold bZ0 atT;rw[← r.1];by_cases e:p.1=k;rw[a4A e,a4A e];exact .inr ⟨_,_,rfl,rfl,r.2.2⟩;rw[a4z e,a4z e];exact MP.val t
theorem aU7{P:Program}{w:World}{H:Hp}{h:Heap}(ok:HOk P w H h):∀ {k:Tk} {y:V} {u:Value},yD H k y->cE y u->TkH h k u
 | .s x,_,_,rfl,r=>by obtain⟨t,rfl⟩:=r;exact .s x t
 | .p a b,_,_,⟨q,x,y,rfl,e,c,d⟩,r=>by
   cases r;obtain⟨_,its,f,⟨o,g,i,n,j⟩,_⟩:=ok q _ e;cases f with
   | cons l t=>cases t with
     | cons m t=>cases t;exact .p g i j (aU7 ok c l) (aU7 ok d m)
def cW2{P:Program}{w:World}{H:Hp}{h:Heap}{a:Addr}{kvs:List (Tk×V)}(ok:HOk P w H h)(e:MxA H a kvs)(L:∀ p∈kvs,p.1.ok=true):(a==sysModules)=false/\∃ xs,MP H kvs xs/\aU6 w h a xs:=by
 have all:∀ {l:List (Tk×V)} {m:List TkE},MP H l m->(∀ p∈l,p.1.ok=true)->∀ x∈m,TkH h x.1 x.2.1/\x.1.ok=true:=by
  intro l m q
  induction q with
  | nil=>exact λ_ x c=>nomatch c
  | @cons p q ps Z S t j=>
    intro M x c;rcases a2b.mp c with rfl | c;obtain⟨T,⟨y,b,d⟩,_⟩:=S;rw[← T];exact⟨aU7 ok b d,M p (.head _)⟩;exact j (λp U=>M p (.tail _ U)) x c
 rcases e with e | ⟨l,e,rfl⟩;obtain⟨_,hd,xs,r,o,es,ep,n,u,A,B,C⟩:=(show cM P w H h a (.dM kvs)from aO1 ok e);exact⟨hd,xs,r,o,es,ep,n,u,A,B,all r L,C⟩;obtain⟨_,hd,vs,r,o,es,ep,n,u,A,B,C,D⟩:=(show cM P w H h a (.dK (sR l))from aO1 ok e);have E:∀ (l:List (Str×V)) (vs:List (Key×Value)) (el:List DictEntry),KV (sR l) vs->Pairs (bQ P w) el vs->(∀ e∈el,∃ k,(bQ P w).is k e.key=true/\e.hash=(bQ P w).hash k) ->
   ∃ xs:List TkE,MP H (bY9 l) xs/\el=xs.map (xA w)/\vs.map (·.1)=l.map (λp=>.inr p.1)/\xs.map (·.1)=l.map λp=>Tk.s p.1:=by
  intro l
  induction l with
  | nil=>intro vs el r q _;cases r;cases q;exact⟨[],.nil,rfl,rfl,rfl⟩
  | cons p l j=>
    intro vs el r q N;cases r with
    | @cons _ v _ vs W t=>
      cases q with
      | @cons e _ el _ F G q=>
        obtain⟨xs,b,d,I,J⟩:=j vs el t q λe K=>N e (.tail _ K);obtain⟨k,X,O⟩:=N e (.head _);obtain⟨v1,Y⟩:=v;obtain⟨f,g⟩:=W;dsimp only at f g F G;subst f;have:=(bQ P w).inj _ _ _ F X;subst this;rcases bX (show yA (.inr p.1) e.key=true from F)with⟨i,t,z,_⟩ | ⟨x,t,z,Q⟩;cases z;cases z;obtain⟨eh,R,ev⟩:=e;dsimp only at G O Q;subst O Q;exact⟨(.s p.1,.str p.1 t,Y)::xs,.cons ⟨rfl,⟨.str p.1,rfl,⟨t,rfl⟩⟩,g⟩ b,by rw[d,G];rfl,by rw[a8d,I];rfl,by rw[a8d,J];rfl⟩
 obtain⟨xs,b,d,I,J⟩:=E l vs es.toList r C λe K=>B e (Array.mem_toList_iff.mp K);refine⟨hd,xs,b,o,es,ep,n,u,A,d,all b L,?_⟩;rw[J];rw[I]at D;rw[List.Nodup,List.pairwise_map]at D ⊢;exact D.imp λh z=>h (a4V Sum.inr (Tk.s.inj z))
def cW3:R2:=λx y H Q=>∃ a kvs k v,x=.ref a/\MxA H a kvs/\yD H k y/\k.ok=true/\(∀ p∈kvs,p.1.ok=true)/\bZ0 kvs k=some v/\Q v H
def cH2{X:Cx}{o i:Expr}{pos:Pos}{c ty:TE}(G:X.A.units+64 < cLine)(f:PE X o c)(hi:PE X i ty)(hs:cL6 i):PE X (.Subscript o i pos) (tOp cW3 c ty):=by
 intro pins s σ H Q I h;refine aO6 F.slot_dict_getitem.lookup hs (thn (f pins s σ H _ I h) λu s1 ⟨x,g,j,l,m⟩=>thn (hi pins s1 σ g _ j m) λJ s2 Z0=>?_);obtain⟨y,n,b,p,a,kvs,k,v,ex,q,r,t,w,d,B⟩:=Z0;subst ex;obtain rfl:u=Value.ref a:=l;obtain⟨hd,xs,C,e⟩:=cW2 b.hok q w;rcases C.val (k:=k)with⟨z,_⟩ | ⟨K,L,z,D,E⟩;rw[d]at z;cases z;rw[d]at z;cases z;exact⟨yV e,aI3 (by lia) t (aU7 b.hok r p) e D λtk=>⟨v,n,b.tok _,E,B⟩⟩
def cW4:mR:=λo i v H Q=>∃ p kvs k,o=.ref p/\MxW H p kvs/\yD H k i/\k.ok=true/\(∀ p∈kvs,p.1.ok=true)/\bZ0 kvs k=none/\kvs.length < 4000/\Q (upd H p (.dM (kvs++[(k,v)])))
theorem MP.mono{H H':Hp}(c:∀ b xs,H b=some (.tup xs)->H' b=some (.tup xs)){kvs:List (Tk×V)}{xs:List TkE}(h:MP H kvs xs):MP H' kvs xs:=Paired.mapP h λp q z=>⟨z.1,let ⟨y,a,b⟩:=z.2.1;⟨y,a.mono c,b⟩,z.2.2⟩
def cH3{X:Cx}(O:X.A.units+64 < cLine):dC6 X cW4:=by
 intro pins s σ H o i v ov P u Q I t ri w h;obtain⟨p,kvs,k,rfl,j,n,B,C,D,E,q⟩:=h;cases t;obtain⟨hd,xs,d,F⟩:=cW2 I.hok j.rd C;rcases d.val (k:=k)with⟨_,z⟩ | ⟨R,S,z,_⟩
 ·have G:xs.length=kvs.length:=(Paired.length d).symm;have mu:Mut (H p):=by rcases j with e | ⟨l,e,_⟩<;>(rw[e];exact True.intro)
  have nt:∀ b ys,H b=some (.tup ys)->b≠p:=λb ys e z=>by subst z;rw[e]at mu;exact mu
  refine aI4 (by lia) B (aU7 I.hok n ri) F z (by rw[G];exact E) λh' tk f hs=>⟨_,?_,q⟩;obtain⟨o,es,ep,c,g,J,K,T,L⟩:=f;have r:∀ b ys,H b=some (.tup ys)->upd H p (.dM (kvs++[(k,v)])) b=some (.tup ys):=λb ys e=>by rw[aK (nt b ys e)];exact e
  refine aO5 I mu hs ⟨o,c⟩ ⟨by rw[a0c,a4P];simp only[List.length_cons,List.length_nil];lia,hd,_,?_,o,es,ep,c,g,J,K,L⟩;have M:∀ {l:List (Tk×V)} {m:List TkE} {x:Tk×V} {y:TkE},MP (upd H p (.dM (kvs++[(k,v)]))) l m->(x.1=y.1/\(∃ z,yD (upd H p (.dM (kvs++[(k,v)]))) x.1 z/\cE z y.2.1)/\cE x.2 y.2.2)->MP (upd H p (.dM (kvs++[(k,v)]))) (l++[x]) (m++[y]):=by
   intro l m x y c g
   induction c with
   | nil=>exact .cons g .nil
   | cons a _ N=>exact .cons a N
  exact M (d.mono r) ⟨rfl,⟨i,n.mono r,ri⟩,w⟩
 ·rw[D]at z;cases z
end L2
namespace PySem
open Sem (wp)
section
variable{prog:Program}{w:World}{K:Type}[DecidableEq K]{knd:HeapKind prog w K}{A:Around}{E:Value->Shared->Prop}{s:Shared}
def bG5{d a:Addr}{xs:List (K×Addr×Value)}{k:K}{v:Value}{Q:Value->Shared->Prop}(m:knd.room A)(c:knd.is s.heap k a)(hm:s.heap.DictOfH knd d xs)(hsz:xs.length<=sizeLine)
  (n:∀ p,atKey xs k=some p->Q p.2 {s with toks:=s.toks+knd.draws k})
  (r:atKey xs k=none->∀ h',h'.DictOfH knd d (xs++[(k,a,v)])->Heap.SameBut d s.heap h'->Q v {s with heap:=h',toks:=s.toks+knd.draws k}) :
  wpAny (model prog w) A (dictSetDefault d (.ref a) v) Q E s:=by
 obtain⟨o,es,ep,g,u,hd,i,h,hn⟩:=hm;have kp:∀ {x:K} {b:Addr} (f:Array DictEntry->Array DictEntry),knd.is s.heap x b->knd.is (s.heap.update d (Obj.mapDictKeys f)) x b:=λf t=>knd.keeps t g hd (a3f ..);unfold dictSetDefault
 try with_reducible refine a4C ?_
 refine a4x (knd.pyHash m c (a4x (wpAny_dictFind_heap (s:={s with toks:=s.toks+knd.draws k}) m c g hd i h hn (λno=>?_) λj p hj=>?_)))
 ·have out:k∉xs.map (·.1):=not_mem_keys_of_get no;have q:=r (atKey_none_of_get no);refine a4x (a4I (a4x (wpAny_updateDictKeys (s:={s with toks:=s.toks+knd.draws k}) (hz:=by have:=size_of_entries i;lia) g hd (a4y (q _ ?_ (a3f ..))))));refine⟨_,_,ep+1,a5d _ g (Obj.isFreed_of_dict (Obj.data_mapDictKeys hd _)),u.mapDictKeys _,Obj.data_mapDictKeys hd _,by simp[i,entryOfKey],λx l=>?_,?_⟩;rcases a7c.mp l with z | z;exact kp _ (h x z);cases a1b.mp z;exact kp _ c;simp only[List.map_append,List.map_cons,List.map_nil];exact List.nodup_append.mpr ⟨hn,by simp,λx l y B e=>out (by cases a1b.mp B;exact e ▸ l)⟩
 ·refine a4x (wpAny_dictEntries (s:={s with toks:=s.toks+knd.draws k}) g hd ?_);rw[entry_at i j,hj];exact a4x (a4I (a4y (n p (atKey_of_get hn hj))))
def aI5(knd:HeapKind prog w K)(d a:Addr)(hd:(d==sysModules)=false)(dflt:Value) :
  MeetsIn prog w (Builtin.«dict.setdefault» ⟨[.ref d,.ref a,dflt],[]⟩) (λA R s=>knd.room A.in1/\∃ k xs,knd.is s.heap k a/\s.heap.DictOfH knd d xs/\xs.length<=sizeLine /\
   (∀ p,atKey xs k=some p->R (.ok (.ret p.2)) {s with toks:=s.toks+knd.draws k}) /\
   (atKey xs k=none->∀ h',h'.DictOfH knd d (xs++[(k,a,dflt)])->Heap.SameBut d s.heap h'->R (.ok (.ret dflt)) {s with heap:=h',toks:=s.toks+knd.draws k})):=
 .of_wp λA R s ⟨c,k,xs,b,hm,f,g,h⟩=>by
  have i:s.TypeIs (.ref d) "dict":=hm.typeIs;unfold Builtin.«dict.setdefault» Builtin.Dict.keyAndDefault;refine a4x (a4x (wpAny_notOrdered_dict i (a4y ?_)));show wpAny _ _ (if(d==sysModules)=true then _ else dictSetDefault d (.ref a) dflt >>= _) _ _ s;rw[hd,a4z a9c];exact a4x (bG5 c b hm f (λp e=>a4y ⟨_,rfl,g p e⟩) λe h' m j=>a4y ⟨_,rfl,h e h' m j⟩)
end
end PySem
namespace L2
open PySem PySem.Spec PyProof.Rows
def DTa(H:Hp)(a:Addr)(kvs:List (List Key×V)):Prop:=H a=some (.dT kvs)\/H a=some (.dK [])/\kvs=[]
def cW5{P:Program}{w:World}{H:Hp}{h:Heap}{a:Addr}{kvs:List (List Key×V)}(ok:HOk P w H h)(e:DTa H a kvs):(a==sysModules)=false/\∃ xs,KT H kvs xs/\h.DictOfH (tupleKind (bQ P w)) a xs:=by
 rcases e with e | ⟨e,rfl⟩;obtain⟨_,hd,xs,rel,c⟩:=dE4 ok e;exact⟨hd,xs,rel,c⟩;obtain⟨_,hd,vs,rel,c⟩:=dE3 ok e;cases rel;obtain⟨o,es,ep,d,f,b,k,g,hn⟩:=c;have i:es.toList=[]:=a0e g.length;exact⟨hd,[],.nil,o,es,ep,d,f,b,by rw[i];rfl,λx j=>by simp at j,.nil⟩
theorem snoc{b c:Type}{R:b->c->Prop}{x:b}{y:c}:∀ {l:List b} {m:List c},Paired R l m->R x y->Paired R (l++[x]) (m++[y])
 | _,_,.nil,h=>.cons h .nil
 | _,_,.cons a t,h=>.cons a (snoc t h)
section
variable{X:Cx}{pins:List (Addr×Obj)}{σ:St}{H:Hp}{s:Shared}{a b:Addr}{z:V}{r:Value}{kvs:List (List Key×V)}{k:List Key}{A:Around}{E:Value->Shared->Prop}
def dG4{Q:Value->Shared->Prop}(t:A.units+1 < cLine)(I:Inv X pins σ H s)(e:DTa H a kvs)(h:H b=some (.tup (k.map kV)))(l:kvs.length < sizeLine)(u:cE z r)
  (x:∀ v i s',mX kvs k=some v->Inv X pins σ H s'->cE v i->Q i s') (y:mX kvs k=none->∀ s',Inv X pins σ (upd H a (.dT (kvs++[(k,z)]))) s'->Q r s') :
  wpAny (model X.prog X.w) A (call (.builtin "dict.setdefault") [.ref a,.ref b,r]) Q E s:=by
 obtain⟨hd,xs,rel,j⟩:=cW5 I.hok e;have K:xs.length=kvs.length:=(Paired.length rel).symm;refine call_meetsIn F.slot_dict_setdefault j.typeIs F.entry_dict_setdefault (F.args_dict_setdefault_3 _ _ _) (aI5 (tupleKind (bQ X.prog X.w)) a b hd r) ⟨tupleKind_room_in1 t,k,xs,aA6 I.hok h,j,by lia,λp B=>?_,λhn h' g hs=>?_⟩
 ·have q:=rel.val k;rw[B]at q;cases d:mX kvs k with
  | none=>rw[d]at q;exact nomatch q
  | some v=>rw[d]at q;exact x v _ _ d (I.tok _) q
 ·have q:=rel.val k;rw[hn]at q;have d:mX kvs k=none:=by
   cases d:mX kvs k with
   | none=>rfl
   | some v=>rw[d]at q;exact nomatch q
  refine y d _ ?_;obtain⟨o,es,ep,m,C,D,G,_,J⟩:=g;have f:KT H (kvs++[(k,z)]) (xs++[(k,b,r)]):=snoc rel ⟨rfl,h,u⟩;refine aO5 I (by rcases e with e | ⟨e,_⟩<;>(rw[e];exact True.intro)) hs ⟨o,m⟩ ⟨by simp;lia,hd,_,f.keeps λc ys n=>?_,o,es,ep,m,C,D,G,J⟩;rw[aK (by rcases e with e | ⟨e,_⟩<;>exact dB9 n e λz=>nomatch z)];exact n
end
def dB1(d ty e:TE):TE:=λσ H Q=>d σ H λx c=>∃ a,x=.ref a/\IsD c a/\ty σ c λy f=>e σ f λz H3=>∃ kvs k b,DTa H3 a kvs/\y=.ref b/\H3 b=some (.tup (k.map kV))/\kvs.length < sizeLine /\
 (∀ v,mX kvs k=some v->Q v H3)/\(mX kvs k=none->Q z (upd H3 a (.dT (kvs++[(k,z)]))))
def cW6{X:Cx}{o e f:Expr}{apos cpos:Pos}{g ty i:TE}(n:X.A.units+1 < cLine)(p:PE X o g)(q:PE X e ty)(r:PE X f i)(m:M2 X o "setdefault" apos e f cpos):PE X (.Call (.Attribute o "setdefault" apos) [e,f] [] cpos) (dB1 g ty i):=by
 intro pins s σ H Q I h;refine wpAny_Call_method m.base m.few m.line F.plainAttrs_dict F.slot_dict_setdefault F.type_dict_setdefault (thn (p pins s σ H _ I h) λu s1 Z0=>?_);obtain⟨x,t,j,w,a,ex,d,B⟩:=Z0;subst ex;obtain rfl:u=Value.ref a:=w;obtain⟨C,D,_⟩:=bM6 j d;refine⟨C,D,?_⟩;rw[m.trees];refine Calls.callWith_builtin rfl (Calls.evalArgs_plain (Calls.spliced_cons (thn (q pins s1 σ t _ j B) λE s2 ⟨y,G,J,K,L⟩=>Calls.spliced_cons (thn (r pins s2 σ G _ J L) λY Z ⟨z,M,N,l,kvs,k,b,O,P,R,S,T,U⟩=>Calls.spliced_nil ?_))));subst P;obtain rfl:E=Value.ref b:=K;exact dG4 n N O R S l (λv w' V e c W=>⟨v,M,c,W,T v e⟩) λe V c=>⟨z,_,c,l,U e⟩
end L2
namespace Dv
open PySem L2 Mr
section
variable{X:Cx}{E:Ex}{st:Stmt}{ss dD:List Stmt}{r:DS}{a b m:MS}{pos:Pos}
end
end Dv
namespace L2
open PySem Dv
inductive FQ(Q:Hp->Prop):Hp->Prop
 | done {H:Hp}:Q H->FQ Q H
 | step {H:Hp} {p:Addr} {u:HO}:H p=some u->Fz u->(∀ o,FQ Q (upd H p (.frz o u)))->FQ Q H
end L2
namespace Dv
open PySem L2
structure Hid(Γ:Gm)(σ:Sg)(σV:St)(q:Addr):Prop where
 nv:¬ aA8 σ σV q
 h0:Γ.H₀ q=none
section
variable{Γ:Gm}{H H':Hp}{σ σ':Sg}{σV σV':St}{q g:Addr}{o o':HO}
def Hid.step(h:Hid Γ σ σV q)(st:Step σ σV H σ' σV' H')(e:H q=some o):Hid Γ σ' σV' q/\H' q=some o:=
 ⟨⟨λz=>(st.nv q z).elim h.nv λz=>(by rw[e]at z;cases z),h.h0⟩,st.fr q o e λz=>h.nv z.nv⟩
def bZ1(H:Hp)(q:Addr):Prop:=H q=none\/∃ o,H q=some o/\Fz o
def uO{L:Addr->Prop}(h:∀ a,L a->bZ1 H a)(k:∀ a,¬ L a->H' a=H a):Ext H H':=by
 refine⟨λb xs e=>?_,λb ob x e=>?_⟩<;>rw[k b λz=>?_]<;>first | exact e | (rcases h b z with s | ⟨o,s,f⟩<;>rw[s]at e<;>cases e;exact f)
def StOk.hids{L:Addr->Prop}(ok:StOk Γ H σ σV)(h:∀ a,L a->Hid Γ σ σV a/\bZ1 H a)(k:∀ a,¬ L a->H' a=H a):StOk Γ H' σ σV:=
 ⟨λi t e=>by
  obtain⟨v,b,r⟩:=ok.rel i t e;refine⟨v,b,r.mono (uO (λa z=>(h a z).2) k) λp x c m ex=>?_⟩;rw[k p λz=>(h p z).1.nv ⟨i,t,e,m,by rw[b,c]⟩];exact ex,ok.dis,ok.own,ok.par,
  λa x e n=>by rw[k a λz=>(by have:=(h a z).1.h0;rw[this]at e;cases e)];exact ok.keep a x e n,
  λa e=>by
   by_cases z:L a;exact(h a z).1.h0;rw[k a z]at e;exact ok.dom a e,ok.len⟩
def Step.hids{L:Addr->Prop}{c:Sg}{b:St}{d:Hp}(st:Step c b d σ σV H)(h:∀ a,L a->(d a=none\/iU c b a)/\H' a≠none)(k:∀ a,¬ L a->H' a=H a):Step c b d σ σV H':=
 ⟨λa x e n=>by rw[k a λz=>(by rcases(h a z).1 with q | q;(rw[e]at q;cases q);exact n q)];exact st.fr a x e n,
  λa e=>by
   by_cases z:L a;exact absurd e (h a z).2;rw[k a z]at e;exact st.dom a e,st.mu,st.nv,st.kp,st.fix,st.lt⟩
def cH4{a:Addr}(z:¬ a=q):upd H q o' a=H a:=aK z
def StOk.hid(ok:StOk Γ H σ σV)(h:Hid Γ σ σV q)(s:bZ1 H q):StOk Γ (upd H q o') σ σV:=ok.hids (L:=(· = q)) (λa e=>by subst e;exact⟨h,s⟩) λa z=>cH4 z
def Step.hid{c:Sg}{b:St}{d:Hp}(st:Step c b d σ σV H)(h:d q=none\/iU c b q):Step c b d σ σV (upd H q o'):=st.hids (L:=(· = q)) (λa e=>by subst e;exact⟨h,by rw[aQ];exact λz=>nomatch z⟩) λa z=>cH4 z
def bZ1.ext(s:bZ1 H q):Ext H (upd H q o'):=uO (L:=(· = q)) (λa e=>by subst e;exact s) λa z=>cH4 z
end
section
variable{Γ:Gm}{H H':Hp}{σ σ':Sg}{σV σV':St}{g p:Nat}
noncomputable abbrev SG:Sl:=⟨.own,.dic [] []⟩
def qE{s t:Sl}{i:Nat}(h:(σ.set g (some s))[i]? = some (some t)):(i=g/\t=s)\/(i≠g/\σ[i]? = some (some t)):=by
 rcases bH h with⟨z,a,_⟩ | ⟨z,a⟩;cases a;exact .inl ⟨z,rfl⟩;exact .inr ⟨z,a⟩
def Step.wide(st:Step σ σV H σ' σV' H')(f:g < σ.length)(t:σ'.length=σ.length)(q:σV[g]? = some (some (.ref p)))(k:σV'[g]? = some (some (.ref p))):Step (σ.set g (some SG)) σV H (σ'.set g (some SG)) σV' H':=by
 have up:∀ {a},iU σ σV a->iU (σ.set g (some SG)) σV a:=λ{a} ⟨i,s,c,d,b⟩=>by
  by_cases z:i=g;subst z;exact⟨i,SG,by rw[a3b f],rfl,b⟩;exact⟨i,s,by rw[a3a (a3d z)];exact c,d,b⟩
 have j:∀ {a},aA8 σ σV a->aA8 (σ.set g (some SG)) σV a:=λ{a} ⟨i,s,c,d,b⟩=>by
  by_cases z:i=g;subst z;exact⟨i,SG,by rw[a3b f],(λz=>nomatch z),b⟩;exact⟨i,s,by rw[a3a (a3d z)];exact c,d,b⟩
 have l:iU (σ.set g (some SG)) σV p:=⟨g,SG,by rw[a3b f],rfl,q⟩;refine⟨λa o e n=>st.fr a o e λz=>n (up z),st.dom,λa ⟨i,s,c,d,b⟩=>?_,λa ⟨i,s,c,d,b⟩=>?_,λi s h=>?_,λi s h m=>?_,λi s h m=>?_⟩;rcases qE c with⟨rfl,rfl⟩ | ⟨z,c⟩;rw[k]at b;cases b;exact .inl l;exact(st.mu a ⟨i,s,c,d,b⟩).imp up id;rcases qE c with⟨rfl,rfl⟩ | ⟨z,c⟩;rw[k]at b;cases b;exact .inl l.nv;exact(st.nv a ⟨i,s,c,d,b⟩).imp j id;rcases qE h with⟨rfl,rfl⟩ | ⟨z,h⟩;exact⟨SG,by rw[a3b (by lia)]⟩;obtain⟨s',h'⟩:=st.kp i s h;exact⟨s',by rw[a3a (a3d z)];exact h'⟩;rcases qE h with⟨rfl,rfl⟩ | ⟨z,h⟩;rcases m with m | m<;>cases m;obtain⟨s',h',r⟩:=st.fix i s h m;exact⟨s',by rw[a3a (a3d z)];exact h',r⟩;rcases qE h with⟨rfl,rfl⟩ | ⟨z,h⟩;cases m;obtain⟨s',h',r⟩:=st.lt i s h m;exact⟨s',by rw[a3a (a3d z)];exact h',r⟩
def Step.drop(st:Step σ σV H (σ'.set g (some SG)) σV' H')(h0:σ[g]? = some none)(b:∀ s,σ'[g]? ≠ some (some s)):Step σ σV H σ' σV' H':=by
 have up:∀ {i:Nat} {s:Sl},σ'[i]? = some (some s)->(σ'.set g (some SG))[i]? = some (some s):=λ{i s} h=>by
  rw[a3a (λz=>b s (by rw[z];exact h))];exact h
 refine⟨st.fr,st.dom,λa ⟨i,s,e,r⟩=>st.mu a ⟨i,s,up e,r⟩,λa ⟨i,s,e,r⟩=>st.nv a ⟨i,s,up e,r⟩,λi s h=>?_,λi s h m=>?_,λi s h m=>st.lt i s (up h) m⟩;obtain⟨s',h'⟩:=st.kp i s h;rcases qE h' with⟨rfl,rfl⟩ | ⟨z,h'⟩;rw[h0]at h;cases h;exact⟨s',h'⟩;obtain⟨s',h',r⟩:=st.fix i s h m;rcases qE h' with⟨rfl,rfl⟩ | ⟨z,h'⟩;rw[h0]at h;cases h;exact⟨s',h',r⟩
def StOk.forget(ok:StOk Γ H σ σV):StOk Γ H (σ.set g none) σV:=by
 have up:∀ {i:Nat} {s:Sl},(σ.set g none)[i]? = some (some s)->σ[i]? = some (some s):=λ{i s} h=>by
  rcases bH h with⟨z,a,_⟩ | ⟨z,a⟩;cases a;exact a
 exact⟨λi s e=>ok.rel i s (up e),λi j s t q n b c=>ok.dis i j s t q n (up b) (up c),λi s q e=>ok.own i s q (up e),λi s q e=>ok.par i s q (up e),ok.keep,ok.dom,by rw[a8f];exact ok.len⟩
end
noncomputable def dO3:D->Option Key
 | .int i=>some (.inl i)
 | .str x=>some (.inr x)
 | _=>none
noncomputable def yW:List D->Option (List Key)
 | []=>some []
 | d::r=>(dO3 d).bind λk=>(yW r).bind λks=>some (k::ks)
theorem pE:∀ {l:List D} {ks:List Key},yW l=some ks->l=ks.map xV
 | [],_,h=>by cases h;rfl
 | d::r,_,h=>by
   obtain⟨k,a,h⟩:=bind_some h;obtain⟨ks,b,h⟩:=bind_some h;cases h;rw[a8d,← pE b];cases d<;>cases a<;>rfl
theorem uP{H:Hp}:∀ {ks:List Key} {xs:List V},Rps H (ks.map xV) xs->xs=ks.map kV
 | [],_,h=>by cases h;rfl
 | k::r,_,h=>by
   rw[a8d]at h;cases h with
   | cons a t=>rw[uP t,a8d];cases k<;>cases a<;>rfl
abbrev GA0:=List (List Key×List D)
noncomputable def bG6(k:List Key)(v:D):GA0->GA0
 | []=>[(k,[v])]
 | p::r=>if p.1=k then(p.1,p.2++[v])::r else p::bG6 k v r
inductive Grp(H:Hp)(n:Nat):GA0->List (List Key×V)->List Addr->Prop
 | nil:Grp H n [] [] []
 | cons {k:List Key} {vs:List D} {l:Addr} {xs:List V} {acc:GA0} {kvs:List (List Key×V)} {ls:List Addr}:H l=some (.lst xs)->Rps H vs xs->xs.length<=n->l∉ls->Grp H n acc kvs ls->Grp H n ((k,vs)::acc) ((k,.ref l)::kvs) (l::ls)
section
variable{H H':Hp}{n:Nat}
theorem Grp.keep:∀ {acc:GA0} {kvs:List (List Key×V)} {ls:List Addr},Grp H n acc kvs ls->Ext H H'->(∀ l∈ls,∀ o,H l=some o->H' l=some o)->Grp H' n acc kvs ls
 | _,_,_,.nil,_,_=>.nil
 | _,_,_,.cons a b c d t,x,k=>.cons (k _ a9a _ a) (b.mono x) c d (t.keep x λl e=>k l (a0b _ e))
theorem Grp.up:∀ {acc:GA0} {kvs:List (List Key×V)} {ls:List Addr},Grp H n acc kvs ls->Grp H (n+1) acc kvs ls
 | _,_,_,.nil=>.nil
 | _,_,_,.cons a b c d t=>.cons a b (Nat.le_succ_of_le c) d t.up
theorem Grp.soft:∀ {acc:GA0} {kvs:List (List Key×V)} {ls:List Addr},Grp H n acc kvs ls->∀ l∈ls,∃ xs,H l=some (.lst xs)
 | _,_,_,.nil,_,h=>by simp at h
 | _,_,_,.cons a b c d t,l,h=>by
   rcases a2b.mp h with rfl | h;exact⟨_,a⟩;exact t.soft l h
theorem Grp.keys:∀ {acc:GA0} {kvs:List (List Key×V)} {ls:List Addr},Grp H n acc kvs ls->kvs.map (·.1)=acc.map (·.1)
 | _,_,_,.nil=>rfl
 | _,_,_,.cons a b c d t=>by rw[a8d,a8d,t.keys]
def Grp.len{acc:GA0}{kvs:List (List Key×V)}{ls:List Addr}(h:Grp H n acc kvs ls):kvs.length=acc.length:=by have:=a4V List.length h.keys;simpa using this
theorem Grp.app{k:List Key}{d:D}{y:V}:∀ {acc:GA0} {kvs:List (List Key×V)} {ls:List Addr} {v:V},Grp H n acc kvs ls->mX kvs k=some v ->
  ∃ l xs,v=.ref l/\l∈ls/\H l=some (.lst xs)/\xs.length<=n/\(Rp (upd H l (.lst (xs++[y]))) d y->Ext H (upd H l (.lst (xs++[y])))->Grp (upd H l (.lst (xs++[y]))) (n+1) (bG6 k d acc) kvs ls)
 | _,_,_,_,.nil,h=>by cases h
 | _,_,_,_,.cons (k:=j) (l:=l) (xs:=xs) g i c a t,h=>by
   by_cases e:j=k;rw[hV e]at h;cases h;refine⟨l,xs,rfl,a9a,g,c,λr x=>?_⟩;show Grp _ _ (if j=k then _ else _) _ _;rw[a4A e];refine .cons aQ ((i.mono x).append (.cons r .nil)) (by rw[a0c];exact Nat.succ_le_succ c) a (t.up.keep x λb hb o q=>?_);rw[aK (show b≠l from λz=>a (by rw[← z];exact hb))];exact q;rw[hW e]at h;obtain⟨m,f,s,p,u,w,A⟩:=t.app (d:=d) (y:=y) h;refine⟨m,f,s,a0b _ p,u,w,λr x=>?_⟩;show Grp _ _ (if j=k then _ else _) _ _;rw[a4z e];exact .cons (by rw[aK (show l≠m from λz=>a (by rw[z];exact p))];exact g) (i.mono x) (Nat.le_succ_of_le c) a (A r x)
theorem Grp.more{k:List Key}{l:Addr}(a:H l=some (.lst [])):∀ {acc:GA0} {kvs:List (List Key×V)} {ls:List Addr},Grp H n acc kvs ls->l∉ls->Grp H n (acc++[(k,[])]) (kvs++[(k,.ref l)]) (ls++[l])
 | _,_,_,.nil,_=>.cons a .nil (a4e _) (by simp) .nil
 | _,_,_,.cons b c d e t,h=>.cons b c d (by
   intro z;rcases a7c.mp z with z | z;exact e z
   ·cases a1b.mp z;exact h a9a) (t.more a λz=>h (a0b _ z))
theorem xD{k:List Key}{d:D}:∀ {acc:GA0},k∉acc.map (·.1)->bG6 k d (acc++[(k,[])])=bG6 k d acc
 | [],_=>by simp[bG6]
 | p::r,h=>by
   have e:¬ p.1=k:=λz=>h (by simp[z]);show(if p.1=k then _ else _)=(if p.1=k then _ else _);rw[a4z e,a4z e];exact a4V (p :: ·) (xD λz=>h (by simp at z ⊢;exact .inr z))
theorem aD3{k:List Key}:∀ {kvs:List (List Key×V)},mX kvs k=none->k∉kvs.map (·.1)
 | [],_=>by simp
 | p::r,h=>by
   by_cases e:p.1=k;rw[hV e]at h;cases h;rw[hW e]at h;intro z;rcases a2b.mp z with z | z;exact e z.symm;exact aD3 h z
theorem aD4{k:List Key}{v:V}:∀ {kvs:List (List Key×V)},mX kvs k=none->mX (kvs++[(k,v)]) k=some v
 | [],_=>hV rfl
 | p::r,h=>by
   by_cases e:p.1=k;rw[hV e]at h;cases h;rw[hW e]at h;rw[List.cons_append,hW e];exact aD4 h
end
end Dv
namespace L2
open PySem PySem.Spec PyProof.Rows
def RdT(H:Hp)(a:Addr)(kvs:List (List Key×V)):Prop:=Rd H a (.dT kvs)\/Rd H a (.dK [])/\kvs=[]
def cW7{P:Program}{w:World}{H:Hp}{h:Heap}{a:Addr}{kvs:List (List Key×V)}(ok:HOk P w H h)(e:RdT H a kvs):(a==sysModules)=false/\∃ xs,KT H kvs xs/\h.DictOfH (tupleKind (bQ P w)) a xs:=by
 rcases e with e | ⟨e,rfl⟩;obtain⟨_,hd,xs,rel,c⟩:=aO3 ok e;exact⟨hd,xs,rel,c⟩;obtain⟨_,hd,vs,rel,c⟩:=aO2 ok e;cases rel;obtain⟨o,es,ep,d,f,b,k,g,hn⟩:=c;have i:es.toList=[]:=a0e g.length;exact⟨hd,[],.nil,o,es,ep,d,f,b,by rw[i];rfl,λx j=>by simp at j,.nil⟩
section
variable{X:Cx}{pins:List (Addr×Obj)}{σ:St}{H:Hp}{s:Shared}{a b:Addr}{z v:V}{r:Value}{kvs:List (List Key×V)}{k:List Key}{A:Around}{E:Value->Shared->Prop}
def cW8{Q:Value->Shared->Prop}(f:A.units+1 < cLine)(I:Inv X pins σ H s)(e:RdT H a kvs)(g:H b=some (.tup (k.map kV)))(i:cE z r)(h:∀ c s',Inv X pins σ H s'->cE ((mX kvs k).getD z) c->Q c s') :
  wpAny (model X.prog X.w) A (call (.builtin "dict.get") [.ref a,.ref b,r]) Q E s:=by
 obtain⟨hd,xs,rel,d⟩:=cW7 I.hok e;exact call_meetsIn F.slot_dict_get d.typeIs F.entry_dict_get (F.args_dict_get_3 _ _ _) (meetsH_dict_get_default (tupleKind (bQ X.prog X.w)) a b hd r) ⟨tupleKind_room_in1 f,k,xs,aA6 I.hok g,d,h _ _ (I.tok _) ((rel.val k).getD i)⟩
end
def dG5(d ty e:TE):TE:=λσ H Q=>d σ H λx c=>∃ a,x=.ref a/\IsD c a/\ty σ c λy f=>e σ f λz H3=>∃ kvs k b,RdT H3 a kvs/\y=.ref b/\H3 b=some (.tup (k.map kV))/\Q ((mX kvs k).getD z) H3
def cH5{X:Cx}{o e f:Expr}{apos cpos:Pos}{c ty g:TE}(j:X.A.units+1 < cLine)(l:PE X o c)(n:PE X e ty)(p:PE X f g)(m:M2 X o "get" apos e f cpos):PE X (.Call (.Attribute o "get" apos) [e,f] [] cpos) (dG5 c ty g):=by
 intro pins s σ H Q I h;refine wpAny_Call_method m.base m.few m.line F.plainAttrs_dict F.slot_dict_get F.type_dict_get (thn (l pins s σ H _ I h) λu s1 Z0=>?_);obtain⟨x,q,i,r,a,ex,d,t⟩:=Z0;subst ex;obtain rfl:u=Value.ref a:=r;obtain⟨v,w,_⟩:=bM6 i d;refine⟨v,w,?_⟩;rw[m.trees];refine Calls.callWith_builtin rfl (Calls.evalArgs_plain (Calls.spliced_cons (thn (n pins s1 σ q _ i t) λB s2 ⟨y,C,D,E,G⟩=>Calls.spliced_cons (thn (p pins s2 σ C _ D G) λT U ⟨z,J,K,L,kvs,k,b,M,N,O,P⟩=>Calls.spliced_nil ?_))));subst N;obtain rfl:B=Value.ref b:=E;exact cW8 j K M O L λV W R S=>⟨_,J,R,S,P⟩
end L2
namespace Dv
open PySem L2
noncomputable def aU8:List D->List D->List Key->Option (Option D)
 | [],[],_=>some none
 | .tup l::ks,v::vs,k=>(yW l).bind λj=>if j=k then some (some v)else aU8 ks vs k
 | _,_,_=>none
theorem aD5{H:Hp}{k:List Key}{r:Option D}:∀ {kvs:List (List Key×V)} {vs:List D},Rps H vs (kvs.map (·.2))->aU8 (kvs.map λc=>D.tup (c.1.map xV)) vs k=some r ->
  (r=none/\mX kvs k=none)\/∃ d x,r=some d/\mX kvs k=some x/\Rp H d x
 | [],_,.nil,e=>by cases e;exact .inl ⟨rfl,rfl⟩
 | p::kvs,_,.cons a t,e=>by
   obtain⟨j,g,e⟩:=bind_some e;have i:p.1=j:=by
    have:=pE g;have inj:∀ {x y:List Key},x.map xV=y.map xV->x=y:=λ{x y} h=>by
     refine(List.map_inj_right (f:=xV) λa b h=>?_).mp h;cases a<;>cases b<;>cases h<;>rfl
    exact inj this
   subst i;split at e;rename_i h;cases e;exact .inr ⟨_,_,rfl,hV h,a⟩;rename_i h;rw[hW h];exact aD5 t e
def aU9{H:Hp}{ks vs:List D}{v:V}(h:Vw H (.dic ks vs) v):∃ a u ws,v=.ref a/\Rd H a u/\bD7 u ks ws/\Rps H vs ws:=by
 rcases h with h | ⟨p,rfl,u,ws,b,c,d⟩
 ·cases h with
  | dic b c d=>exact⟨_,_,_,rfl,.inr ⟨_,b⟩,c,d⟩
 ·exact⟨p,u,ws,rfl,.inl b,c,d⟩
def cW9{H:Hp}{ks vs:List D}{v:V}(h:Vw H (.dic ks vs) v):∃ a,v=.ref a/\IsD H a:=by
 obtain⟨a,u,ws,rfl,b,c,_⟩:=aU9 h;refine⟨a,rfl,?_⟩;cases u with
 | dK kvs=>exact .inl ⟨kvs,b⟩
 | dT kvs=>exact .inr (.inl ⟨kvs,b⟩)
 | dM kvs=>exact .inr (.inr ⟨kvs,b⟩)
 | _=>exact c.elim
def aV0{H:Hp}{ks vs:List D}{v:V}{k:List Key}{r:Option D}(h:Vw H (.dic ks vs) v)(e:aU8 ks vs k=some r):∃ a kvs,v=.ref a/\RdT H a kvs/\((r=none/\mX kvs k=none)\/∃ d x,r=some d/\mX kvs k=some x/\Rp H d x):=by
 obtain⟨a,u,ws,rfl,f,b,c⟩:=aU9 h;cases u with
 | dT kvs=>
   obtain⟨rfl,rfl⟩:=b;exact⟨a,kvs,rfl,.inl f,aD5 c e⟩
 | dK kvs=>
   obtain⟨rfl,rfl⟩:=b;cases kvs with
   | nil=>cases c;cases e;exact⟨a,[],rfl,.inr ⟨f,rfl⟩,.inl ⟨rfl,rfl⟩⟩
   | cons p r=>
     obtain⟨j,_⟩:=p;cases c with
     | cons _ _=>cases j<;>cases e
 | dM kvs=>obtain⟨rfl,rfl⟩:=b;cases vs<;>cases e
 | _=>exact b.elim
def bZ2{H:Hp}{l:List D}{v:V}{k:List Key}(h:Vw H (.tup l) v)(e:yW l=some k):∃ b,v=.ref b/\H b=some (.tup (k.map kV)):=by
 rcases h with h | ⟨p,rfl,h⟩
 ·cases h with
  | tup h r=>rw[pE e]at r;rw[uP r]at h;exact⟨_,rfl,h⟩
 ·exact h.elim
noncomputable def dG6:D->Bool
 | .dic _ _=>true
 | _=>false
noncomputable def dJ9:D->D->Option (Option D)
 | .dic ks vs,.tup l=>(yW l).bind λk=>aU8 ks vs k
 | _,_=>none
noncomputable def cX0(a b c:DE):DE:=λσ=>(a σ).bind λx=>(rd x.2 x.1).bind λf=>if dG6 f=true then(b x.2).bind λy=>(c y.2).bind λz=>(rd z.2 x.1).bind λd=>(rd z.2 y.1).bind λe=>(dJ9 d e).bind λr=>some ((match r with | some v=>.val v | none=>z.1),z.2)else none
def cH6{X:Cx}{o e f:Expr}{E F G:DE}{apos cpos:Pos}(O:X.A.units+1 < cLine)(P:GE X o E)(R:GE X e F)(S:GE X f G)(m:M2 X o "get" apos e f cpos):GE X (.Call (.Attribute o "get" apos) [e,f] [] cpos) (cX0 E F G):=.mk λΓ=>peW (cH5 O (P.to Γ) (R.to Γ) (S.to Γ) m) λσV H Q ⟨σ,ok,res,σ',c,k⟩=>by
 obtain⟨⟨x,t⟩,T,c⟩:=bind_some c;obtain⟨U,I,c⟩:=bind_some c;dsimp only at I c;split at c
 case isFalse=>cases c
 rename_i hd;obtain⟨⟨y,B⟩,V,c⟩:=bind_some c;obtain⟨⟨z,D⟩,J,c⟩:=bind_some c;obtain⟨d,K,c⟩:=bind_some c;obtain⟨e',L,c⟩:=bind_some c;obtain⟨r,s,c⟩:=bind_some c;cases c;dsimp only at J K L k;refine⟨σ,ok,x,t,T,λv W i M C f1=>?_⟩;have Y:=M.vw i I;obtain⟨a,rfl,ha⟩:∃ a,v=.ref a/\IsD W a:=by
  cases U with
  | dic ks vs=>exact cW9 Y
  | _=>cases hd
 refine⟨a,rfl,ha,t,i,y,B,V,λw H2 l Z n f2=>⟨B,l,z,D,J,λu N g r3 p f3=>?_⟩⟩;have vx:=((M.step i n).step l p).vw g K;have vy:=(Z.step l p).vw g L;unfold dJ9 at s;split at s;obtain⟨j,g1,s⟩:=bind_some s;obtain⟨b,rfl,hb⟩:=bZ2 vy g1;obtain⟨a',kvs,q,hq,h⟩:=aV0 vx s;cases q;refine⟨kvs,j,b,hq,rfl,hb,?_⟩;have st:=(C.trans n).trans p;rcases h with⟨rfl,h⟩ | ⟨d,x,rfl,h,rp⟩;rw[h];exact k u N g r3 st (f3.back (C.trans n));rw[h];exact k x N g rp st dH;cases s
noncomputable def bA2:D->Option Tk
 | .str x=>some (.s x)
 | .tup [a,b]=>(bA2 a).bind λx=>(bA2 b).bind λy=>some (.p x y)
 | _=>none
theorem cH7{H:Hp}:∀ {d:D} {k:Tk} {v:V},Rp H d v->bA2 d=some k->d=tkD k/\yD H k v
 | .str x,_,_,.str _,e=>by cases e;exact⟨rfl,rfl⟩
 | .tup [a,b],k,_,.tup h (.cons c (.cons f .nil)),e=>by
   unfold bA2 at e;obtain⟨x,g,e⟩:=bind_some e;obtain⟨y,i,e⟩:=bind_some e;cases e;obtain⟨rfl,j⟩:=cH7 c g;obtain⟨rfl,l⟩:=cH7 f i;exact⟨rfl,_,_,_,rfl,h,j,l⟩
theorem aV1:∀ k:Tk,bA2 (tkD k)=some k
 | .s x=>rfl
 | .p a b=>by unfold tkD bA2;rw[aV1 a,aV1 b];rfl
noncomputable def tks:List D->Option (List Tk)
 | []=>some []
 | d::r=>(bA2 d).bind λk=>(tks r).bind λl=>some (k::l)
theorem cX1:∀ l:List Tk,tks (l.map tkD)=some l
 | []=>rfl
 | k::r=>by rw[a8d,tks,aV1,cX1 r];rfl
noncomputable def cH8:List D->Option (List Tk)
 | .non::r=>tks r
 | ks=>(uG ks).map λl=>l.map .s
noncomputable def aV2:List Tk->List D->Tk->Option D
 | j::a,v::vs,k=>if j=k then some v else aV2 a vs k
 | _,_,_=>none
def aD6{u:HO}{ks vs:List D}{ws:List V}{js:List Tk}{H:Hp}(h:bD7 u ks ws)(r:Rps H vs ws)(e:cH8 ks=some js)(hn:js.isEmpty=false):∃ kvs,(u=.dM kvs\/∃ l,u=.dK (sR l)/\kvs=bY9 l)/\js=kvs.map (·.1)/\Rps H vs (kvs.map (·.2)):=by
 cases u with
 | dM kvs=>
   obtain⟨rfl,rfl⟩:=h;have b:tks (kvs.map λa=>tkD a.1)=some js:=e;rw[show kvs.map (λa=>tkD a.1)=(kvs.map (·.1)).map tkD by simp,cX1]at b;cases b;exact⟨kvs,.inl rfl,rfl,r⟩
 | dK kvs=>
   obtain⟨rfl,rfl⟩:=h;have b:(uG (kvs.map λa=>xV a.1)).map (λl=>l.map Tk.s)=some js:=by
    cases kvs with
    | nil=>exact e
    | cons p t=>obtain⟨k,v⟩:=p;cases k<;>exact e
   obtain⟨zs,c,rfl⟩:=a2c.mp b;have d:∀ (kvs:List (Key×V)) (zs:List Str),uG (kvs.map λa=>xV a.1)=some zs->∃ l:List (Str×V),kvs=sR l/\zs=l.map (·.1):=by
    intro kvs
    induction kvs with
    | nil=>intro zs e;cases e;exact⟨[],rfl,rfl⟩
    | cons p t f=>
      intro zs e;obtain⟨k,v⟩:=p;cases k with
      | inl i=>cases e
      | inr x=>
        obtain⟨l,c,g⟩:=bind_some (show(uG (t.map λa=>xV a.1)).bind (λl=>some (x::l))=some zs from e);cases g;obtain⟨m,rfl,rfl⟩:=f l c;exact⟨(x,v)::m,rfl,rfl⟩
   obtain⟨l,rfl,rfl⟩:=d kvs zs c;refine⟨bY9 l,.inr ⟨l,rfl,rfl⟩,by simp[bY9],?_⟩;rw[show(bY9 l).map (·.2)=(sR l).map (·.2) by simp[bY9,sR]];exact r
 | dT kvs=>
   obtain⟨rfl,rfl⟩:=h;cases kvs with
   | nil=>cases e;cases hn
   | cons p t=>cases e
 | _=>exact h.elim
theorem uQ{H:Hp}{k:Tk}:∀ {kvs:List (Tk×V)} {vs:List D},Rps H vs (kvs.map (·.2))->(aV2 (kvs.map (·.1)) vs k=none/\bZ0 kvs k=none)\/∃ d v,aV2 (kvs.map (·.1)) vs k=some d/\bZ0 kvs k=some v/\Rp H d v
 | [],_,.nil=>.inl ⟨rfl,rfl⟩
 | p::kvs,_,.cons a t=>by
   show((if p.1=k then _ else _)=_/\(if p.1=k then _ else _)=_)\/∃ d v,(if p.1=k then _ else _)=_/\(if p.1=k then _ else _)=_/\_;by_cases e:p.1=k;simp only[if_pos e];exact .inr ⟨_,_,rfl,rfl,a⟩;simp only[if_neg e];exact uQ t
noncomputable def cH9(a:List Tk):Bool:=a.all λj=>j.ok
def aD7{kvs:List (Tk×V)}(h:cH9 (kvs.map (·.1))=true):∀ p∈kvs,p.1.ok=true:=λp a=>a5i.mp h _ (a1i.mpr ⟨p,a,rfl⟩)
noncomputable def cI0:F2:=λd e=>match d with
 | .dic ks vs=>(bA2 e).bind λk=>(cH8 ks).bind λa=>if(k.ok&&cH9 a && !a.isEmpty)=true then(aV2 a vs k).map .val else none
 | _=>none
def cX2{H:Hp}{e:D}{y:V}{k:Tk}(h:Vw H e y)(q:bA2 e=some k):e=tkD k/\yD H k y:=by
 rcases h with h | ⟨p,rfl,h⟩;exact cH7 h q;cases e with
 | lst l=>cases q
 | dic ks vs=>cases q
 | _=>exact h.elim
def bG7:kB cW3 cI0:=by
 intro H d e x y Q res h i b k;unfold cI0 at b;split at b
 ·obtain⟨j,m,b⟩:=bind_some b;obtain⟨B,n,b⟩:=bind_some b;split at b;rename_i c;obtain⟨v,f,o⟩:=a2c.mp b;cases o;rw[a3c,a3c]at c;obtain⟨a,u,ws,rfl,g,p,q⟩:=aU9 h;obtain⟨kvs,r,rfl,s⟩:=aD6 p q n (by simpa using c.2);rcases uQ (k:=j) s with⟨z,_⟩ | ⟨d,w,z,t,A⟩;rw[z]at f;cases f;rw[z]at f;cases f;refine⟨a,kvs,j,w,rfl,?_,(cX2 i m).2,c.1.1,aD7 c.1.2,t,k _ _ (.refl _) A⟩;rcases r with rfl | ⟨l,rfl,e⟩;exact .inl g;exact .inr ⟨l,g,e⟩;cases b
 ·cases b
def uR{X:Cx}{a b:Expr}{c d:DE}{pos:Pos}(e:X.A.units+64 < cLine)(ha:GE X a c)(hb:GE X b d)(hs:cL6 b):GE X (.Subscript a b pos) (aU cI0 c d):=.mk λΓ=>peW (cH2 e (ha.to Γ) (hb.to Γ) hs) λ_ _ _=>hX bG7
noncomputable def dK0(e x:D):D->Option D
 | .dic ks vs=>(bA2 e).bind λk=>(cH8 ks).bind λa=>if(k.ok&&cH9 a && !a.isEmpty&&(aV2 a vs k).isNone&&decide (a.length < 4000))=true then some (.dic (.non::(a++[k]).map tkD) (vs++[x]))else none
 | _=>none
noncomputable def nvS(k:Nat)(σ:Sg):Bool:=match σ[k]? with
 | some (some s)=>decide (s.m≠.val)
 | _=>false
noncomputable def cX3(k:Nat)(c f:DE):DS:=λσ=>(f σ).bind λx=>match x.1 with
 | .val d=>if nvS k x.2=true then(c x.2).bind λy=>(rd y.2 y.1).bind λe=>(aK3 (λa _=>(dK0 e d a).map λb=>(b,.non)) k [] y.2).bind λz=>some (.nx z.2)else none
 | _=>none
def cI1{X:Cx}{E:Ex}{st:Stmt}{k:Nat}{B M:DE}(h:∀ Γ,PS X st (bA7 (dTE Γ M) (dC8 (zV k) (dTE Γ B) cW4))):GS E X st (cX3 k B M):=.mk λΓ=>psW (h Γ) λD σV H ⟨σ,ok,o,e,P⟩=>by
 obtain⟨⟨x,c⟩,Q,e⟩:=bind_some e;refine⟨σ,ok,x,c,Q,λv H1 i R C f1=>?_⟩;cases x with
 | own d=>cases e
 | slot d=>cases e
 | val d=>
   have f:(if nvS k c=true then(B c).bind λy=>(rd y.2 y.1).bind λe=>(aK3 (λa _=>(dK0 e d a).map λb=>(b,.non)) k [] y.2).bind λz=>some (.nx z.2)else none)=some o:=e;split at f
   ·rename_i hn;obtain⟨⟨y,F⟩,S,f⟩:=bind_some f;obtain⟨di,T,f⟩:=bind_some f;obtain⟨⟨z,U⟩,V,f⟩:=bind_some f;cases f;obtain⟨s0,G,I⟩:∃ s0,c[k]? = some (some s0)/\s0.m≠.val:=by
     unfold nvS at hn;split at hn;rename_i s hs;exact⟨s,hs,of_decide_eq_true hn⟩;cases hn
    obtain⟨p,ep,ow⟩:=i.ownAt G I;obtain⟨s,d',y',hs,hm,W,rfl,rfl⟩:=hZ V;obtain⟨b,g,Y⟩:=a2c.mp W;cases Y;refine⟨_,ep,c,i,y,F,S,λvi Z n r2 r f2=>?_⟩;obtain⟨p',t,A⟩:=n.ownAt hs (fP hm);rw[ep]at t;cases t;have rv:Rp Z d v:=Rp.mono (r.ext i) R;obtain⟨m,sd⟩:=s;cases sd with
    | dic ks vs=>
      obtain⟨j,g1,g⟩:=bind_some g;obtain⟨js,g2,g⟩:=bind_some g;split at g
      ·rename_i q;cases g;rw[a3c,a3c,a3c,a3c,a4E]at q;have J:=A;obtain⟨u,ws,N,h2,h3⟩:=A;obtain⟨kvs,hu,rfl,O⟩:=aD6 h2 h3 g2 (by simpa using q.1.1.2);have tk:=(cX2 (r2.vw n T) g1).2;rcases uQ (k:=j) O with⟨_,z⟩ | ⟨dd,w,z,_⟩
       ·refine⟨p,kvs,j,rfl,?_,tk,q.1.1.1.1,aD7 q.1.1.1.2,z,by simpa using q.2,?_⟩;rcases hu with rfl | ⟨l,rfl,e⟩;exact .inl N;exact .inr ⟨l,N,e⟩;have ex:=cP.ext (o':=.dM (kvs++[(j,v)])) J;obtain⟨K,L⟩:=n.write (d':=.dic (.non::(kvs.map (·.1)++[j]).map tkD) (vs++[d])) (o':=.dM (kvs++[(j,v)])) hs hm ep ⟨_,(kvs++[(j,v)]).map (·.2),aQ,⟨by simp,rfl⟩,by rw[List.map_append];exact(O.append (.cons rv .nil)).mono ex⟩;exact P _ _ K ((C.trans r).trans L)
       ·rw[z]at q;cases q.1.2
      ·cases g
    | _=>cases g
   ·cases f
noncomputable def dB2:F2:=λd e=>match d,e with
 | .dic ks vs,.tup l=>(yW l).bind λk=>(aU8 ks vs k).bind λo=>o.map .val
 | _,_=>none
def bG8:kB cW1 dB2:=by
 intro H d e x y Q res i l c k;unfold dB2 at c;split at c;obtain⟨j,m,c⟩:=bind_some c;obtain⟨o,n,c⟩:=bind_some c;obtain⟨v,p,q⟩:=a2c.mp c;cases q;cases p;obtain⟨b,rfl,hb⟩:=bZ2 l m;obtain⟨a,kvs,rfl,f,h⟩:=aV0 i n;rcases h with⟨z,_⟩ | ⟨d,w,z,g,r⟩;cases z;cases z;rcases f with f | ⟨_,rfl⟩;exact⟨a,w,rfl,.inr ⟨kvs,j,b,f,rfl,hb,g.symm⟩,k _ _ (.refl _) r⟩;cases g;cases c
def cI2{X:Cx}{a b:Expr}{c d:DE}{pos:Pos}(e:X.A.units+1 < cLine)(ha:GE X a c)(hb:GE X b d)(hs:cL6 b):GE X (.Subscript a b pos) (aU dB2 c d):=.mk λΓ=>peW (bG3 e (ha.to Γ) (hb.to Γ) hs) λ_ _ _=>hX bG8
end Dv
namespace Sx
open PySem PySem.SetTable
noncomputable def gS:Nat->Nat
 | 0=>0
 | n+1=>5*gS n+1
def xE(n:Nat):4*gS n+1=5 ^ n:=by
 induction n with
 | zero=>rfl
 | succ n a=>rw[a1h,← a];show 4*(5*gS n+1)+1=_;lia
def bZ3(a b:Nat):gS (a+b)=gS a*5 ^ b+gS b:=by
 have d:=xE (a+b);have c:=xE a;have e:=xE b;have f:(5:Nat) ^ (a+b)=5 ^ a*5 ^ b:=Nat.pow_add ..;have g:4*(gS a*5 ^ b)+5 ^ b=5 ^ a*5 ^ b:=by rw[← c,Nat.add_mul,Nat.one_mul,a6j]
 lia
def aD8(n:Nat):5 ^ n % 4=1:=by
 have:=xE n;lia
def cX4(n:Nat)(h:n % 2=1):gS n % 2=1:=by
 have a:∀ m,gS m % 2=m % 2:=λm=>by
  induction m with
  | zero=>rfl
  | succ m b=>show(5*gS m+1) % 2=_;lia
 rw[a n,h]
def sS{a b k:Nat}(hb:b % 2=1)(h:2 ^ k ∣ a*b):2 ^ k ∣ a:=by
 have c:Nat.Coprime (2 ^ k) b:=by
  refine Nat.Coprime.pow_left k ?_;have:Nat.gcd 2 b=1:=by
   rw[Nat.gcd_rec,hb];rfl
  exact this
 exact Nat.Coprime.dvd_of_dvd_mul_right c h
theorem bZ4:∀ (k n:Nat),2 ^ k ∣ gS n->2 ^ k ∣ n
 | 0,n,_=>by rw[Nat.pow_zero];exact Nat.one_dvd n
 | k+1,n,h=>by
   rcases Nat.mod_two_eq_zero_or_one n with e | e
   ·obtain⟨m,rfl⟩:∃ m,n=m+m:=⟨n / 2,by lia⟩;rw[bZ3]at h;have f:=aD8 m;obtain⟨q,a⟩:∃ q,5 ^ m+1=2*q:=⟨(5 ^ m+1) / 2,by lia⟩;have b:q % 2=1:=by lia
    have c:gS m*5 ^ m+gS m=2*(gS m*q):=by
     have:gS m*5 ^ m+gS m=gS m*(5 ^ m+1):=by rw[Nat.mul_add,Nat.mul_one]
     rw[this,a,Nat.mul_left_comm]
    rw[c,a1h,a0i (2 ^ k) 2]at h;have d:2 ^ k ∣ gS m*q:=Nat.dvd_of_mul_dvd_mul_left (by decide) h;have g:=bZ4 k m (sS b d);have i:m+m=2*m:=by lia
    rw[i,a1h,a0i (2 ^ k) 2];exact Nat.mul_dvd_mul_left 2 g
   ·exfalso;have o:=cX4 n e;have:2 ∣ gS n:=Nat.dvd_trans ⟨2 ^ k,by rw[a1h,a0i]⟩ h;lia
noncomputable def stp(k:Nat):Nat->Nat->Nat
 | 0,x=>x % 2 ^ k
 | n+1,x=>(5*stp k n x+1) % 2 ^ k
def aV3(k n x:Nat):stp k n x=(5 ^ n*x+gS n) % 2 ^ k:=by
 induction n with
 | zero=>simp[stp,gS]
 | succ n a=>
   show(5*stp k n x+1) % 2 ^ k=_;rw[a];have e:5 ^ (n+1)*x+gS (n+1)=5*(5 ^ n*x+gS n)+1:=by
    show _+(5*gS n+1)=_;rw[a1h,a0i (5 ^ n) 5,a6j,Nat.mul_add];lia
   rw[e,Nat.add_mod,Nat.mul_mod];simp[Nat.mul_mod,Nat.add_mod]
def aV4{k x a b:Nat}(ha:a < b)(hb:b < 2 ^ k)(h:stp k a x=stp k b x):False:=by
 rw[aV3,aV3]at h;obtain⟨d,rfl⟩:∃ d,b=a+d:=⟨b-a,by lia⟩;have hd:2 ^ k ∣ (5 ^ (a+d)*x+gS (a+d))-(5 ^ a*x+gS a):=by
  exact Nat.dvd_of_mod_eq_zero (Nat.sub_mod_eq_zero_of_mod_eq h.symm)
 have e:(5 ^ (a+d)*x+gS (a+d))-(5 ^ a*x+gS a)=gS d*((4*x+1)*5 ^ a):=by
  have c:=xE d;have g:5 ^ (a+d)*x=gS d*(4*x*5 ^ a)+5 ^ a*x:=by
   rw[Nat.pow_add,← c,a6j,Nat.add_mul,Nat.one_mul,Nat.mul_add];congr 1;rw[a0i (4*x),a0i 4 (gS d),a6j,Nat.mul_left_comm]
  have i:gS (a+d)=gS d*5 ^ a+gS a:=by rw[Nat.add_comm a d,bZ3]
  rw[g,i,Nat.add_mul,Nat.one_mul,Nat.mul_add];lia
 rw[e]at hd;have j:((4*x+1)*5 ^ a) % 2=1:=by
  have f:=aD8 a;rw[Nat.mul_mod];have:5 ^ a % 2=1:=by lia
  have:(4*x+1) % 2=1:=by lia
  simp[*]
 have:=Nat.le_of_dvd (by lia) (bZ4 k d (sS j hd));lia
theorem uT:∀ (N:Nat) (f:Nat->Nat),(∀ i,i < N->f i < N)->(∀ i j,i < j->j < N->f i≠f j)->∀ c,c < N->∃ i,i < N/\f i=c
 | 0,_,_,_,c,h=>absurd h (a9i c)
 | N+1,f,hb,hi,c,o=>by
   by_cases k:∃ i,i < N+1/\f i=c;exact k
   ·exfalso
    -- with c left out,and N in its place
    have a:∀ i,i < N+1->f i≠c:=λi h e=>k ⟨i,h,e⟩
    let g:Nat->Nat:=λi=>if f i=N then c else f i
    have l:∀ i,i < N+1->g i < N:=λi h=>by
     show(if f i=N then c else f i) < N;have m:=hb i h;have n:=a i h;split;lia;lia
    have gi:∀ i j,i < j->j < N+1->g i≠g j:=λi j b hj=>by
     show(if f i=N then c else f i)≠if f j=N then c else f j
     have m:=hi i j b hj;have n:=a i (by lia);have p:=a j hj;split<;>split<;>lia
    obtain⟨i,d,e⟩:=uT N g (λi h=>l i (by lia)) (λi j b hj=>gi i j b (by lia)) (g N) (l N (by lia));exact gi i N d (by lia) e
def cI3{k x c:Nat}(b:c < 2 ^ k):∃ n,n < 2 ^ k/\stp k n x=c:=
 uT (2 ^ k) (λn=>stp k n x) (λi _=>by show stp k i x < _;rw[aV3];exact Nat.mod_lt _ (Nat.two_pow_pos k)) (λi j a hj e=>aV4 a hj e) c b
noncomputable def adv(mask:Nat)(p:Probe):Probe:=
 if p.more > 0 then{p with j:=p.j+1,more:=p.more-1}else
 {p with j:=(leap mask p.i p.perturb).1,more:=runEnd mask (leap mask p.i p.perturb).1-(leap mask p.i p.perturb).1,i:=(leap mask p.i p.perturb).1,perturb:=(leap mask p.i p.perturb).2}
noncomputable def wk0(mask:Nat)(h:Int):Probe:=⟨bits h % (mask+1),runEnd mask (bits h % (mask+1))-bits h % (mask+1),bits h % (mask+1),bits h,none⟩
noncomputable def wk(mask:Nat)(h:Int):Nat->Probe
 | 0=>wk0 mask h
 | n+1=>adv mask (wk mask h n)
noncomputable def lp(mask:Nat)(h:Int):Nat->Nat×Nat
 | 0=>(bits h % (mask+1),bits h)
 | l+1=>leap mask (lp mask h l).1 (lp mask h l).2
noncomputable def qZ(mask i:Nat):Nat:=runEnd mask i-i
def cI4(mask i:Nat):qZ mask i<=9:=by unfold qZ runEnd;split<;>lia
noncomputable def tm(mask:Nat)(h:Int):Nat->Nat
 | 0=>0
 | l+1=>tm mask h l+qZ mask (lp mask h l).1+1
def dG7(mask:Nat)(h:Int)(l:Nat):tm mask h l<=10*l:=by
 induction l with
 | zero=>exact a8a _
 | succ l a=>
   have:=cI4 mask (lp mask h l).1;show tm mask h l+qZ mask (lp mask h l).1+1<=_;lia
theorem aV5{mask:Nat}{h:Int}{l:Nat}(e:wk mask h (tm mask h l)=⟨(lp mask h l).1,qZ mask (lp mask h l).1,(lp mask h l).1,(lp mask h l).2,none⟩) :
  ∀ r,r<=qZ mask (lp mask h l).1->wk mask h (tm mask h l+r)=⟨(lp mask h l).1+r,qZ mask (lp mask h l).1-r,(lp mask h l).1,(lp mask h l).2,none⟩
 | 0,_=>e
 | r+1,b=>by
   have a:=aV5 e r (by lia);show adv mask (wk mask h (tm mask h l+r))=_;rw[a];unfold adv;rw[a4A (by show qZ mask (lp mask h l).1-r > 0;lia)];congr 1
theorem yX(mask:Nat)(h:Int):∀ l,wk mask h (tm mask h l)=⟨(lp mask h l).1,qZ mask (lp mask h l).1,(lp mask h l).1,(lp mask h l).2,none⟩
 | 0=>rfl
 | l+1=>by
   have a:=aV5 (yX mask h l) (qZ mask (lp mask h l).1) (a8a _);show adv mask (wk mask h (tm mask h l+qZ mask (lp mask h l).1))=_;rw[a];unfold adv;rw[a4z (by show ¬ qZ mask (lp mask h l).1-qZ mask (lp mask h l).1 > 0;lia)];rfl
theorem aV6(mask:Nat)(h:Int):∀ l,(lp mask h l).2=bits h / 32 ^ l
 | 0=>by show bits h=_;simp
 | l+1=>by
   show(lp mask h l).2 / 32=_;rw[aV6 mask h l,Nat.div_div_eq_div_mul,a1h]
def cI5(h:Int):bits h < 2 ^ 64:=by
 unfold bits;have a:=Int.emod_nonneg h (b:=2 ^ 64) (by decide);have c:=a4j h (b:=2 ^ 64) (by decide);lia
def cI6(mask:Nat)(h:Int){l:Nat}(a:13<=l):(lp mask h l).2=0:=by
 rw[aV6];refine Nat.div_eq_of_lt (a9b (cI5 h) ?_);refine a5e (by decide:2 ^ 64<=32 ^ 13) (Nat.pow_le_pow_right (by decide) a)
def cX5(mask:Nat)(h:Int):∀ l,(lp mask h l).1 < mask+1
 | 0=>Nat.mod_lt _ (Nat.succ_pos _)
 | l+1=>Nat.mod_lt _ (Nat.succ_pos _)
theorem aV7{mask k:Nat}(a:mask+1=2 ^ k)(h:Int):∀ n,(lp mask h (13+n)).1=stp k n (lp mask h 13).1
 | 0=>by
   show _=_ % 2 ^ k;rw[Nat.mod_eq_of_lt (by rw[← a];exact cX5 mask h 13)]
 | n+1=>by
   have e:(lp mask h (13+(n+1))).1=((lp mask h (13+n)).1*5+1+(lp mask h (13+n)).2 / 32) % (mask+1):=rfl;rw[e,cI6 mask h (by lia),aV7 a h n,a];show _=(5*stp k n _+1) % 2 ^ k;rw[a0i 5]
def aV8{mask i:Nat}(hi:i<=mask)(r:Nat)(a:r<=qZ mask i):i+r<=mask:=by
 unfold qZ runEnd at a;split at a<;>lia
theorem cI7{mask:Nat}(h:Int):∀ n,(wk mask h n).dummy=none/\(wk mask h n).j+(wk mask h n).more<=mask
 | 0=>⟨rfl,by
   have a:bits h % (mask+1)<=mask:=a1j (Nat.mod_lt _ (Nat.succ_pos _));exact aV8 a _ (a8a _)⟩
 | n+1=>by
   obtain⟨a,b⟩:=cI7 (mask:=mask) h n;show(adv mask (wk mask h n)).dummy=none/\(adv mask (wk mask h n)).j+(adv mask (wk mask h n)).more<=mask;unfold adv;split;refine⟨a,?_⟩;show(wk mask h n).j+1+((wk mask h n).more-1)<=mask;lia;refine⟨a,?_⟩;exact aV8 (a1j (Nat.mod_lt _ (Nat.succ_pos _))) _ (a8a _)
def cX6{mask:Nat}(h:Int)(n:Nat):(wk mask h n).j<=mask:=by
 have:=(cI7 (mask:=mask) h n).2;lia
def Ris(xs:Array Nat):Prop:=∀ (i j:Nat) (a b:Nat),i < j->xs[i]? = some a->xs[j]? = some b->a < b
structure Cut(xs:Array Nat)(j r:Nat):Prop where
 le:r<=xs.size
 lo:∀ (i a:Nat),i < r->xs[i]? = some a->a < j
 hi:∀ (i a:Nat),r<=i->xs[i]? = some a->j<=a
theorem uU{xs:Array Nat}{j:Nat}(hs:Ris xs):∀ (b lo hi:Nat),hi-lo<=b->lo<=hi->hi<=xs.size->(∀ (i a:Nat),i < lo->xs[i]? = some a->a < j)->(∀ (i a:Nat),hi<=i->xs[i]? = some a->j<=a)->Cut xs j (below.go xs j b lo hi)
 | 0,lo,hi,hf,hl,c,d,f=>by
   have:lo=hi:=by lia
   subst this;exact⟨c,d,f⟩
 | b+1,lo,hi,hf,hl,c,d,f=>by
   unfold below.go;split
   ·rename_i k;have hm:(lo+hi) / 2 < xs.size:=by lia
    have em:xs[(lo+hi) / 2]? = some xs[(lo+hi) / 2]:=a6b hm;have l:xs.getD ((lo+hi) / 2) j=xs[(lo+hi) / 2]:=by rw[a6h,em];rfl
    dsimp only;rw[l];split;rename_i g;refine uU hs b _ hi (by lia) (by lia) c (λi a h e=>?_) f;by_cases z:i=(lo+hi) / 2;subst z;rw[em]at e;cases e;exact g;exact a9g (hs i _ a _ (by lia) e em) g;rename_i g;refine uU hs b lo _ (by lia) (by lia) (by lia) d (λi a h e=>?_);by_cases z:i=(lo+hi) / 2;subst z;rw[em]at e;cases e;lia;have:=hs _ i _ a (by lia) em e;lia
   ·have:lo=hi:=by lia
    subst this;exact⟨c,d,f⟩
def jO{xs:Array Nat}(hs:Ris xs)(j:Nat):Cut xs j (below xs j):=
 uU hs _ _ _ (by lia) (by lia) (a8a _) (λi a h _=>absurd h (a9i _)) λi a h e=>by
  have:=(a0f.mp e).1;lia
def fZ{xs:Array Nat}(hs:Ris xs){i j:Nat}(h:xs[i]? = some j):below xs j=i:=by
 have c:=jO hs j;have b:below xs j<=i:=by
  refine a2j λz=>?_;have:=c.lo i j z h;lia
 have d:i<=below xs j:=by
  refine a2j λz=>?_;have hb:below xs j < xs.size:=a9g z (a0f.mp h).1;have a:xs[below xs j]? = some xs[below xs j]:=a6b hb;have:=hs _ i _ j z a h;have:=c.hi _ _ (a8a _) a;lia
 lia
def qF{t:SetTable}(hs:Ris t.place){i j:Nat}(h:t.place[i]? = some j):t.slot j=.live i:=by
 unfold slot;dsimp only;rw[fZ hs h,h];simp
def aI6{t:SetTable}(hd:t.dummies=#[]){j:Nat}(h:∀ i:Nat,t.place[i]? ≠ some j):t.slot j=.empty:=by
 unfold slot;dsimp only;rw[a4z (by simpa using h _),if_neg (by rw[hd];simp[has])]
def Occ(t:SetTable)(j:Nat):Prop:=∃ i:Nat,t.place[i]? = some j
structure TOk(t:SetTable)(hs:List Int):Prop where
 pw:∃ k,t.mask+1=2 ^ k
 m7:7<=t.mask
 dm:t.dummies=#[]
 ri:Ris t.place
 lt:∀ (i j:Nat),t.place[i]? = some j->j<=t.mask
 len:t.place.size=hs.length
 fit:t.place.size<=t.mask
 rea:∀ (i:Nat) h,hs[i]? = some h->∃ m j,t.place[i]? = some j/\(wk t.mask h m).j=j/\∀ m',m' < m->Occ t (wk t.mask h m').j
section
variable{t:SetTable}{hs:List Int}
end
theorem aV9{t:SetTable}{hs:List Int}(T:TOk t hs){h:Int}{hashAt:Nat->Int}{M:Nat}(p:¬ Occ t (wk t.mask h M).j)(hb:∀ m,m < M->Occ t (wk t.mask h m).j) :
  ∀ (a n:Nat),n<=M->M-n < a ->
    (∃ m i,n<=m/\m < M/\t.place[i]? = some (wk t.mask h m).j/\hashAt i=h/\(∀ m' i',n<=m'->m' < m->t.place[i']? = some (wk t.mask h m').j->hashAt i'≠h)/\probe.go t hashAt h a (wk t.mask h n)=some (.candidate (wk t.mask h m).j i (wk t.mask h (m+1)))) \/
    ((∀ m' i',n<=m'->m' < M->t.place[i']? = some (wk t.mask h m').j->hashAt i'≠h)/\probe.go t hashAt h a (wk t.mask h n)=some (.empty (wk t.mask h M).j none))
 | 0,n,_,hf=>by lia
 | a+1,n,hn,hf=>by
   have f:=(cI7 (mask:=t.mask) h n).1;unfold probe.go;by_cases g:n=M;subst g;refine .inr ⟨λm' i' k b=>by lia,?_⟩;have:t.slot (wk t.mask h n).j=.empty:=aI6 T.dm λi e=>p ⟨i,e⟩;rw[this];dsimp only;rw[f]
   ·obtain⟨i,l⟩:=hb n (by lia);have o:=qF T.ri l;rw[o];dsimp only;by_cases c:hashAt i=h;refine .inl ⟨n,i,a8a _,by lia,l,c,λm' i' k b=>by lia,?_⟩;rw[a4A (by simpa using c)];rfl
    ·rw[a4z (by simpa using c)];have d:∀ i',t.place[i']? = some (wk t.mask h n).j->i'=i:=λi' e=>by
      rw[← fZ T.ri e,← fZ T.ri l]
     rcases aV9 T p hb a (n+1) (by lia) (by lia)with⟨m,i2,a1,a2,a3,a4,a5,a6⟩ | ⟨a1,a2⟩;refine .inl ⟨m,i2,by lia,a2,a3,a4,λm' i' k b e=>?_,a6⟩;by_cases z:m'=n;subst z;rw[d i' e];exact c;exact a5 m' i' (by lia) b e;refine .inr ⟨λm' i' k b e=>?_,a2⟩;by_cases z:m'=n;subst z;rw[d i' e];exact c;exact a1 m' i' (by lia) b e
def gC{b:Type}(xs:Array b){p:Nat}(h:p<=xs.size)(x:b)(i:Nat):(insertAt xs p x)[i]? = if i < p then xs[i]? else if i=p then some x else xs[i-1]?:=by
 rw[← a5b,toList_insertAt];have e:(xs.toList.take p).length=p:=by rw[a1g,a8c];lia
 by_cases a:i < p;rw[a4A a,a4c (by lia),List.getElem?_take_of_lt a,a5b];rw[a4z a,a4b (by lia),e];by_cases c:i=p;subst c;rw[a4A rfl,Nat.sub_self];rfl;rw[a4z c];obtain⟨d,rfl⟩:∃ d,i=p+1+d:=⟨i-p-1,by lia⟩;have f:p+1+d-p=d+1:=by lia
 have g:p+1+d-1=p+d:=by lia
 rw[f,g,a7e,List.getElem?_drop,a5b]
def pF{a:Type}(xs:Array a){p:Nat}(b:p<=xs.size)(x:a):(insertAt xs p x).size=xs.size+1:=by
 rw[← a8c,toList_insertAt,a0c,a7i,a1g,a3i,a8c];lia
noncomputable def yZ{α:Type}(l:List α)(p:Nat)(x:α):List α:=l.take p++x::l.drop p
def aD9{a:Type}(l:List a){p:Nat}(b:p<=l.length)(x:a)(i:Nat):(yZ l p x)[i]? = if i < p then l[i]? else if i=p then some x else l[i-1]?:=by
 have:=gC l.toArray (p:=p) (by simpa using b) x i;rw[← a5b,toList_insertAt]at this;simpa[yZ]using this
def qG{a:Type}(l:List a){p:Nat}(b:p<=l.length)(x:a):(yZ l p x).length=l.length+1:=by
 unfold yZ;rw[a0c,a7i,a1g,a3i];lia
section
variable{t:SetTable}{hs:List Int}{h:Int}{M:Nat}
def xF(t:SetTable)(j:Nat)(hd:t.dummies=#[]):t.put j=({t with place:=insertAt t.place (below t.place j) j},below t.place j):=by
 unfold put;dsimp only;rw[hd];rfl
def cI8{t t':SetTable}{j c:Nat}(a:below t.place j<=t.place.size)(e:t'.place=insertAt t.place (below t.place j) j):Occ t' c↔Occ t c\/c=j:=by
 constructor;rintro⟨i,hi⟩;rw[e,gC _ a]at hi;split at hi;exact .inl ⟨i,hi⟩;split at hi;exact .inr (a4a hi).symm;exact .inl ⟨i-1,hi⟩;rintro(⟨i,hi⟩ | rfl);by_cases hb:i < below t.place j;exact⟨i,by rw[e,gC _ a,a4A hb];exact hi⟩;exact⟨i+1,by rw[e,gC _ a,a4z (by lia),a4z (by lia)];exact hi⟩;exact⟨below t.place c,by rw[e,gC _ a,a4z (by lia),a4A rfl]⟩
theorem TOk.put(T:TOk t hs)(r:¬ Occ t (wk t.mask h M).j)(hb:∀ m,m < M->Occ t (wk t.mask h m).j)(s:t.place.size+1<=t.mask) :
  TOk (t.put (wk t.mask h M).j).1 (yZ hs (below t.place (wk t.mask h M).j) h):=by
 have c:=jO T.ri (wk t.mask h M).j;rw[xF t _ T.dm];have l:=c.le;have n:below t.place (wk t.mask h M).j<=hs.length:=by rw[← T.len];exact l
 have g:∀ x,Occ {t with place:=insertAt t.place (below t.place (wk t.mask h M).j) (wk t.mask h M).j} x↔Occ t x\/x=(wk t.mask h M).j:=λx=>cI8 l rfl;refine⟨T.pw,T.m7,T.dm,?_,?_,?_,?_,?_⟩
 ·intro i1 i2 a b hi f d;have q:∀ i a,t.place[i]? = some a->a≠(wk t.mask h M).j:=λi a e z=>r ⟨i,by rw[e,z]⟩;dsimp only at f d;rw[gC _ l]at f d;generalize (wk t.mask h M).j=j at *;split at f;split at d;exact T.ri _ _ _ _ hi f d;split at d;cases d;exact c.lo _ _ (by assumption) f;exact T.ri _ _ _ _ (by lia) f d;split at f;cases f;rw[a4z (by lia),a4z (by lia)]at d;have y:=c.hi _ _ (by lia:below t.place a<=i2-1) d;have A:=q _ _ d;lia;rw[a4z (by lia),a4z (by lia)]at d;exact T.ri _ _ _ _ (by lia) f d
 ·intro i j e;rcases(g j).mp ⟨i,e⟩with⟨u,v⟩ | rfl;exact T.lt u j v;exact cX6 h M
 ·show(insertAt _ _ _).size=_;rw[pF _ l,qG _ n,T.len]
 ·show(insertAt _ _ _).size<=_;rw[pF _ l];exact s
 ·intro i h' e;rw[aD9 _ n]at e;show ∃ m j,(insertAt t.place (below t.place (wk t.mask h M).j) (wk t.mask h M).j)[i]? = some j/\_;rw[gC _ l];have o:∀ p,hs[p]? = some h'->∃ m j,t.place[p]? = some j/\(wk t.mask h' m).j=j/\∀ m',m' < m->Occ {t with place:=insertAt t.place (below t.place (wk t.mask h M).j) (wk t.mask h M).j} (wk t.mask h' m').j:=λp w=>by
   obtain⟨m,j,a1,a2,a3⟩:=T.rea p h' w;exact⟨m,j,a1,a2,λm' k=>(g _).mpr (.inl (a3 m' k))⟩
  split at e;rw[a4A (by assumption)];exact o i e;split at e;cases e;rw[a4z (by assumption),a4A (by assumption)];exact⟨M,_,rfl,rfl,λm' k=>(g _).mpr (.inl (hb m' k))⟩;rw[a4z (by assumption),a4z (by assumption)];exact o (i-1) e
end
def aI7(ow:Array (Option Nat))(j:Nat):Prop:=∃ k,ow[j]? = some (some k)
structure LOk(mask:Nat)(ow:Array (Option Nat))(hs:List Int):Prop where
 sz:ow.size=mask+1
 bd:∀ (j k:Nat),ow[j]? = some (some k)->k < hs.length
 one:∀ (j j' k:Nat),ow[j]? = some (some k)->ow[j']? = some (some k)->j=j'
 rea:∀ (k:Nat) h,hs[k]? = some h->∃ m,ow[(wk mask h m).j]? = some (some k)/\∀ m',m' < m->aI7 ow (wk mask h m').j
def dG8{ow:Array (Option Nat)}{j:Nat}(hj:j < ow.size):(ow.getD j (some 0)).isNone=true↔¬ aI7 ow j:=by
 have e:ow[j]? = some ow[j]:=a6b hj;rw[a6h,e];show ow[j].isNone=true↔_;constructor;rintro h ⟨k,a⟩;rw[e]at a;rw[a4a a]at h;cases h;intro h;cases b:ow[j]with
 | none=>rfl
 | some k=>exact absurd ⟨k,by rw[e,b]⟩ h
theorem xG{mask:Nat}{ow:Array (Option Nat)}(hs:ow.size=mask+1)(h:Int){L:Nat}(n:¬ aI7 ow (lp mask h L).1) :
  ∀ (fuel l:Nat),l<=L->L < l+fuel->(∀ m,m < tm mask h l->aI7 ow (wk mask h m).j) ->
    ∃ M,layClean.free mask ow fuel (lp mask h l).1 (lp mask h l).2=some (wk mask h M).j/\¬ aI7 ow (wk mask h M).j/\∀ m,m < M->aI7 ow (wk mask h m).j
 | 0,l,o,p,_=>by lia
 | fuel+1,l,o,p,hb=>by
   have b:∀ r,r<=qZ mask (lp mask h l).1->(lp mask h l).1+r < ow.size:=λr e=>by
    have:=aV8 (a1j (cX5 mask h l)) r e;lia
   have f:runEnd mask (lp mask h l).1+1-(lp mask h l).1=qZ mask (lp mask h l).1+1:=by
    unfold qZ runEnd;split<;>lia
   have g:∀ r,r<=qZ mask (lp mask h l).1->(wk mask h (tm mask h l+r)).j=(lp mask h l).1+r:=λr e=>by rw[aV5 (yX mask h l) r e]
   unfold layClean.free;split
   ·rename_i k i;obtain⟨a1,a2,a3⟩:=List.find?_range_eq_some.mp i;rw[a7f,f]at a2;have c:k<=qZ mask (lp mask h l).1:=by lia
    refine⟨tm mask h l+k,by rw[g k c],?_,λm hm=>?_⟩;rw[g k c];exact(dG8 (b k c)).mp a1;by_cases d:m < tm mask h l;exact hb m d;obtain⟨r,rfl⟩:∃ r,m=tm mask h l+r:=⟨m-tm mask h l,by lia⟩;rw[g r (by lia)];have:=a3 r (by lia);refine a1f λz=>?_;rw[(dG8 (b r (by lia))).mpr z]at this;cases this
   ·rename_i i;have a:∀ r,r<=qZ mask (lp mask h l).1->aI7 ow ((lp mask h l).1+r):=λr e=>by
     have:=List.find?_eq_none.mp i r (by rw[a7f,f];lia);exact a1f λz=>this ((dG8 (b r e)).mpr z)
    have q:l≠L:=λz=>by
     subst z;exact n (by simpa using a 0 (a4e _))
    refine xG hs h n fuel (l+1) (by lia) (by lia) λm hm=>?_;have s:m < tm mask h l+qZ mask (lp mask h l).1+1:=hm;by_cases d:m < tm mask h l;exact hb m d;obtain⟨r,rfl⟩:∃ r,m=tm mask h l+r:=⟨m-tm mask h l,by lia⟩;rw[g r (by lia)];exact a r (by lia)
section
variable{mask:Nat}{ow:Array (Option Nat)}{hs:List Int}
def LOk.free(T:LOk mask ow hs)(hn:hs.length<=mask):∃ c,c<=mask/\¬ aI7 ow c:=by
 refine a1f λl=>?_;have d:∀ c,c<=mask->aI7 ow c:=λc m=>a1f λz=>l ⟨c,m,z⟩
 let f:Nat->Nat:=λc=>(ow.getD c none).getD 0
 have j:∀ c,c<=mask->ow[c]? = some (some (f c)):=λc m=>by
  obtain⟨k,e⟩:=d c m;have:f c=k:=by
   show(ow.getD c none).getD 0=k;rw[a6h,e];rfl
  rw[this];exact e
 have n:∀ a b,a < b->b<=mask->f a≠f b:=λa b g hb e=>by
  have o:=j a (by lia);rw[e]at o;have:=T.one a b _ o (j b hb);lia
 obtain⟨i,hi,e⟩:=uT hs.length f (λi h=>T.bd _ _ (j i (by lia))) (λa b g hb=>n a b g (by lia)) (f hs.length) (T.bd _ _ (j hs.length hn));exact n i hs.length hi hn e
def LOk.lay{k:Nat}(r:mask+1=2 ^ k)(T:LOk mask ow hs)(hn:hs.length<=mask)(h:Int):∃ j,layClean.free mask ow (turns mask) (bits h % (mask+1)) (bits h)=some j/\LOk mask (ow.setIfInBounds j (some hs.length)) (hs++[h]):=by
 obtain⟨c,y,s⟩:=T.free hn;obtain⟨n,t,e⟩:=cI3 (k:=k) (x:=(lp mask h 13).1) (c:=c) (by lia);have u:¬ aI7 ow (lp mask h (13+n)).1:=by rw[aV7 r h n,e];exact s
 obtain⟨M,v,q,w⟩:=xG T.sz h u (turns mask) 0 (a4e _) (by show 13+n < 0+(mask+15);lia) (λm hm=>absurd hm (a9i _));refine⟨_,v,?_⟩;have hj:(wk mask h M).j < ow.size:=by rw[T.sz];exact Nat.lt_succ_of_le (cX6 h M)
 have g:∀ c,(ow.setIfInBounds (wk mask h M).j (some hs.length))[c]? = if(wk mask h M).j=c then some (some hs.length)else ow[c]?:=λc=>by
  rw[Array.getElem?_setIfInBounds];split
  ·first | rfl | rw[a4A hj]
  ·rfl
 have i:∀ {c},aI7 ow c->aI7 (ow.setIfInBounds (wk mask h M).j (some hs.length)) c:=λ{c} ⟨b,a⟩=>by
  refine⟨b,?_⟩;rw[g,a4z (λz=>q ⟨b,by rw[z];exact a⟩)];exact a
 refine⟨by rw[Array.size_setIfInBounds];exact T.sz,λj b a=>?_,λj j' b l f=>?_,λb h' a=>?_⟩;rw[g]at a;rw[a0c];split at a;cases a;simp;have:=T.bd _ _ a;simp;lia
 ·rw[g]at l f;split at l;cases l;split at f;lia;have:=T.bd _ _ f;lia;split at f;cases f;have:=T.bd _ _ l;lia;exact T.one _ _ _ l f
 ·by_cases o:b < hs.length;rw[a4c o]at a;obtain⟨m,a1,a2⟩:=T.rea b h' a;refine⟨m,?_,λm' d=>i (a2 m' d)⟩;rw[g,a4z (λz=>q ⟨b,by rw[z];exact a1⟩)];exact a1;rw[a4b (by lia)]at a;have p:b=hs.length:=by
   have:=(a0a.mp a).1;simp at this;lia
  subst p;have:h'=h:=by simpa using a.symm
  subst this;exact⟨M,by rw[g,a4A rfl],λm' d=>i (w m' d)⟩
end
theorem mD{mask k:Nat}(b:mask+1=2 ^ k):∀ (dD:List Int) (hs:List Int) (ow:Array (Option Nat)),LOk mask ow hs->hs.length+dD.length<=mask+1 ->
  ∃ a,dD.foldl (λacc h=>do
    let (owner,k) ← acc
    let j ← layClean.free mask owner (turns mask) (bits h % (mask+1)) (bits h)
    pure (owner.setIfInBounds j (some k),k+1)) (some (ow,hs.length))=some (a,hs.length+dD.length)/\LOk mask a (hs++dD)
 | [],hs,ow,T,_=>⟨ow,by simp,by simpa using T⟩
 | h::dD,hs,ow,T,hl=>by
   rw[a7i]at hl;obtain⟨j,e,d⟩:=T.lay b (by lia) h;obtain⟨a,c,f⟩:=mD b dD (hs++[h]) _ d (by rw[a0c,List.length_singleton];lia);refine⟨a,?_,by simpa using f⟩;rw[List.foldl_cons];rw[a0c,List.length_singleton]at c;have g:hs.length+(h::dD).length=hs.length+1+dD.length:=by rw[a7i];lia
   rw[g,← c];congr 1;show((layClean.free mask ow (turns mask) (bits h % (mask+1)) (bits h)).bind λj=>some (ow.setIfInBounds j (some hs.length),hs.length+1))=_;rw[e];rfl
def cI9(mask:Nat):LOk mask (Array.replicate (mask+1) none) []:=by
 refine⟨by simp,λj k e=>?_,λj j' k e=>?_,λk h e=>by simp at e⟩
 all_goals
  rw[Array.getElem?_replicate]at e;split at e<;>cases e
def aW0{mask k finger moves:Nat}{led plain:Bool}{hashes:Array Int}(H:mask+1=2 ^ k)(K:7<=mask)(hn:hashes.size<=mask) :
  ∃ t order,laid mask finger moves led plain hashes=some (t,order)/\TOk t (order.toList.filterMap (hashes[·]?))/\order.toList.Perm (List.range hashes.size)/\t.mask=mask/\t.place.size=hashes.size/\t.led=led/\t.plain=plain:=by
 obtain⟨ow,e,T⟩:=mD H hashes.toList [] _ (cI9 mask) (by rw[a8c];simp;lia);rw[List.nil_append]at T;have L:layClean mask hashes=some ow:=by
  unfold layClean;rw[← Array.foldl_toList];have n:=e;rw[List.length_nil,a9e]at n;rw[n];rfl
 let g:Nat->Option (Nat×Nat):=λj=>(ow.getD j none).map (j,·)
 have A:∀ j p,g j=some p↔p.1=j/\ow[j]? = some (some p.2):=λj p=>by
  show(ow.getD j none).map (j,·)=some p↔_;rw[a6h];cases I:ow[j]? with
  | none=>simp
  | some o=>
    cases o with
    | none=>simp
    | some B=>
      obtain⟨a,b⟩:=p;simp;intro _;exact⟨λz=>z.symm,λz=>z.symm⟩
 let d:=(List.range (mask+1)).filterMap g
 have mem:∀ p,p∈d↔ow[p.1]? = some (some p.2):=λp=>by
  rw[a8h];constructor;rintro⟨j,_,h⟩;obtain⟨rfl,h'⟩:=(A j p).mp h;exact h';intro h;have:p.1 < mask+1:=by rw[← T.sz];exact(a0f.mp h).1
  exact⟨p.1,a7f.mpr this,(A _ _).mpr ⟨rfl,h⟩⟩
 have pw:d.Pairwise (λa b=>a.1 < b.1):=List.Pairwise.filterMap g (λa U h b hb V C=>by
  rw[((A _ _).mp hb).1,((A _ _).mp C).1];exact h) List.pairwise_lt_range
 have ri:∀ (i j:Nat) p q,i < j->d[i]? = some p->d[j]? = some q->p.1 < q.1:=λi j p q s M N=>by
  obtain⟨hi,rfl⟩:=a0a.mp M;obtain⟨hj,rfl⟩:=a0a.mp N;exact List.pairwise_iff_getElem.mp pw i j hi hj s
 have nd:(d.map (·.2)).Nodup:=by
  rw[List.nodup_iff_pairwise_ne,List.pairwise_map];refine List.Pairwise.imp_of_mem (λ{a b} ha hb O e=>?_) pw;have u:=(mem a).mp ha;have w:=(mem b).mp hb;rw[← e]at w;have:=T.one _ _ _ u w;lia
 have x:hashes.toList.length=hashes.size:=a8c;have perm:(d.map (·.2)).Perm (List.range hashes.size):=(List.perm_ext_iff_of_nodup nd List.nodup_range).mpr λa=>by
  rw[a1i,a7f];constructor;rintro⟨p,v,rfl⟩;rw[← x];exact T.bd _ _ ((mem p).mp v);intro ha;obtain⟨m,u,_⟩:=T.rea a hashes.toList[a] (a1a (by lia));exact⟨((wk mask hashes.toList[a] m).j,a),(mem _).mpr u,rfl⟩
 have J:d.length=hashes.size:=by have:=perm.length_eq;simpa using this
 have y:(d.map (·.2)).filterMap (hashes[·]?)=d.map λp=>hashes.toList.getD p.2 0:=by
  have D:∀ l:List (Nat×Nat),(∀ p∈l,p.2 < hashes.toList.length)->(l.map (·.2)).filterMap (hashes[·]?)=l.map λp=>hashes.toList.getD p.2 0:=by
   intro l
   induction l with
   | nil=>intro _;rfl
   | cons p r P=>
     intro hb;have u:=hb p a9a;have f:hashes[p.2]? = some (hashes.toList.getD p.2 0):=by
      rw[← a5b,a6e,a1a u];rfl
     rw[a8d,a4h,f,a8d,P λq I=>hb q (a0b _ I)]
  exact D d λp v=>T.bd _ _ ((mem p).mp v)
 refine⟨⟨mask,(d.map (·.1)).toArray,#[],finger,led,moves,plain⟩,(d.map (·.2)).toArray,?_,?_,perm,rfl,by simpa using J,rfl,rfl⟩;unfold laid;rw[L];rfl;have pl:∀ (i j:Nat),(d.map (·.1)).toArray[i]? = some j↔∃ p,d[i]? = some p/\p.1=j:=λi j=>by
  rw[a1c,a8b];exact a2c
 have E:∀ c,Occ (⟨mask,(d.map (·.1)).toArray,#[],finger,led,moves,plain⟩:SetTable) c↔aI7 ow c:=λc=>by
  constructor;rintro⟨i,h⟩;obtain⟨p,f,rfl⟩:=(pl i c).mp h;exact⟨p.2,(mem p).mp (a6c f)⟩;rintro⟨B,h⟩;obtain⟨i,hi,f⟩:=a2f ((mem (c,B)).mpr h);exact⟨i,(pl i c).mpr ⟨(c,B),by rw[a1a hi,f],rfl⟩⟩
 refine⟨⟨k,H⟩,K,rfl,?_,?_,?_,?_,?_⟩;intro i j a b s Q R;obtain⟨p,f,rfl⟩:=(pl i a).mp Q;obtain⟨q,F,rfl⟩:=(pl j b).mp R;exact ri i j p q s f F;intro i j n;obtain⟨p,f,rfl⟩:=(pl i j).mp n;have u:=(mem p).mp (a6c f);have w:=(a0f.mp u).1;rw[T.sz]at w;exact a1j w;show(d.map (·.1)).toArray.size=((d.map (·.2)).toArray.toList.filterMap (hashes[·]?)).length;rw[show(d.map (·.2)).toArray.toList=d.map (·.2)from rfl,y];simp;show(d.map (·.1)).toArray.size<=mask;simp[J];lia;intro i h' n;rw[show(d.map (·.2)).toArray.toList=d.map (·.2)from rfl,y,a8b]at n;obtain⟨p,f,F⟩:=a2c.mp n;have v:=(mem p).mp (a6c f);have hb:=T.bd _ _ v;have S:hashes.toList[p.2]? = some h':=by
  rw[← F,a6e,a1a hb];rfl
 obtain⟨m,a1,a2⟩:=T.rea p.2 h' S;have:=T.one _ _ _ a1 v;exact⟨m,p.1,(pl i p.1).mpr ⟨p,f,rfl⟩,this,λm' G=>(E _).mpr (a2 m' G)⟩
section
variable{t:SetTable}{hs:List Int}
def TOk.stop2(T:TOk t hs)(h:Int):∃ M,M<=10*(13+t.place.size)/\¬ Occ t (wk t.mask h M).j/\∀ m,m < M->Occ t (wk t.mask h m).j:=by
 obtain⟨k,u⟩:=T.pw;have y:=T.fit;have ex:∃ n,n<=t.place.size/\¬ Occ t (wk t.mask h (tm t.mask h (13+n))).j:=by
  refine a1f λhn=>?_;have l:∀ n,n<=t.place.size->Occ t (stp k n (lp t.mask h 13).1):=λn d=>a1f λz=>hn ⟨n,d,by
   rw[yX,aV7 u h n];exact z⟩
  let f:Nat->Nat:=λn=>below t.place (stp k n (lp t.mask h 13).1)
  have o:∀ n,n<=t.place.size->f n < t.place.size/\t.place[f n]? = some (stp k n (lp t.mask h 13).1):=λn d=>by
   obtain⟨i,e⟩:=l n d;have:f n=i:=fZ T.ri e;rw[this];exact⟨(a0f.mp e).1,e⟩
  have s:∀ a b,a < b->b<=t.place.size->f a≠f b:=λa b g hb e=>by
   have p:=(o a (by lia)).2;rw[e,(o b hb).2]at p;exact aV4 g (by lia:b < 2 ^ k) (a4a p).symm
  obtain⟨i,hi,e⟩:=uT t.place.size f (λi h=>(o i (by lia)).1) (λa b g hb=>s a b g (by lia)) (f t.place.size) (o t.place.size (a8a _)).1;exact s i t.place.size hi (a8a _) e
 obtain⟨n,hn,q⟩:=ex;have r:∀ N,(∃ m,m < N/\¬ Occ t (wk t.mask h m).j)->∃ M,M < N/\¬ Occ t (wk t.mask h M).j/\∀ m,m < M->Occ t (wk t.mask h m).j:=by
  intro N
  induction N with
  | zero=>rintro⟨m,h,_⟩;exact absurd h (a9i _)
  | succ N v=>
    rintro⟨m,p,w⟩;by_cases hb:∃ m,m < N/\¬ Occ t (wk t.mask h m).j;obtain⟨M,a,b,c⟩:=v hb;exact⟨M,by lia,b,c⟩;exact⟨m,p,w,λm' x=>a1f λz=>hb ⟨m',by lia,z⟩⟩
 obtain⟨M,a,b,c⟩:=r (tm t.mask h (13+n)+1) ⟨_,a2g _,q⟩;have:=dG7 t.mask h (13+n);exact⟨M,by lia,b,c⟩
end
end Sx
namespace PySem
open Sx
section
variable{prog:Program}{w:World}{A:Around}{E:Value->Shared->Prop}{s:Shared}
abbrev kD(prog:Program)(w:World)(h:Heap)(k:List Int)(a:Addr):Prop:=IsTupleKey (intKind prog w) h k a
def kD.at{h h':Heap}{k:List Int}{a:Addr}(x:kD prog w h k a)(e:∀ o,h.get? a=some o->h'.get? a=some o):kD prog w h' k a:=by
 obtain⟨o,items,n,b,r⟩:=x;exact⟨o,items,n,e o b,r⟩
theorem jY:∀ {k:List Int} {vs:List Value},ItemsAre (intKind prog w) k vs->∀ v∈vs,∃ i t,v=.int i t
 | _,_,.nil,v,a=>by simp at a
 | _,_,.cons b r,v,a=>by
   rcases a2b.mp a with rfl | a;obtain⟨t,e⟩:=Value.isInt_shape b;exact⟨_,t,e⟩;exact jY r v a
def cJ0{k:List Int}{a:Addr}{Q:Bool->Shared->Prop}(d:kD prog w s.heap k a)(h:Q true s):wpAny (model prog w) A (hashByValue 8 (.ref a)) Q E s:=by
 have f:=d.typeIs;obtain⟨o,items,n,g,_,hd,hi⟩:=d;unfold hashByValue;refine a4x (a4Y f F.slot_tuple_hash.lookup ?_);dsimp only;refine a4x (a4K g hd ?_);dsimp only[Option.getD_some];refine a4x ?_;rw[← Array.forIn_toList];refine wpAny_forIn_list _ (λdD r s'=>r.1=none/\s'=s/\∀ v∈dD,∃ i t,v=.int i t) _ ?_ ?_ _ _ ⟨rfl,rfl,jY hi⟩
 ·rintro v dD r s' ⟨c,rfl,b⟩;obtain⟨i,t,rfl⟩:=b v a9a;have e:hashByValue 7 (.int i t)=pure true:=by unfold hashByValue;rfl
  rw[e];refine a4x (a4y ?_);simp only[Bool.not_true,Bool.false_eq_true,if_false];exact a4y ⟨rfl,rfl,λu j=>b u (a0b _ j)⟩
 ·rintro⟨l,m⟩ s' ⟨c,rfl,_⟩;simp only at c;subst c;exact a4y h
def aW1{k:List Int}{a:Addr}{Q:Bool->Shared->Prop}(d:kD prog w s.heap k a)(h:Q false s):wpAny (model prog w) A (ofAClassStatement 8 (.ref a)) Q E s:=by
 have f:=d.typeIs;obtain⟨o,items,n,g,_,hd,hi⟩:=d;unfold ofAClassStatement;refine a4x (a5k f ?_);dsimp only;rw[a4A (by decide)];refine a4x (a4y ?_);simp only[Bool.not_true,Bool.false_eq_true,if_false];refine a4x (a4K g hd ?_);dsimp only;refine a4x ?_;rw[← Array.forIn_toList];refine wpAny_forIn_list _ (λdD r s'=>r.1=none/\s'=s/\∀ v∈dD,∃ i t,v=.int i t) _ ?_ ?_ _ _ ⟨rfl,rfl,jY hi⟩
 ·rintro v dD r s' ⟨c,rfl,b⟩;obtain⟨i,t,rfl⟩:=b v a9a;have e:ofAClassStatement 7 (.int i t)=pure false:=by unfold ofAClassStatement;rfl
  rw[e];refine a4x (a4y ?_);simp only[Bool.false_eq_true,if_false];exact a4y ⟨rfl,rfl,λu j=>b u (a0b _ j)⟩
 ·rintro⟨l,m⟩ s' ⟨c,rfl,_⟩;simp only at c;subst c;exact a4y h
def bG9{k:List Int}{a:Addr}{Q:Bool->Shared->Prop}(f:kD prog w s.heap k a)(l:List Value)(g:∀ v∈l,∃ d b,v=.ref b/\kD prog w s.heap d b)(h:Q false s):wpAny (model prog w) A (searchCouldBeSeen (.ref a) l) Q E s:=by
 unfold searchCouldBeSeen;refine a4x ?_;refine wpAny_forIn_list _ (λdD r s'=>r.1=none/\s'=s/\∀ v∈dD,∃ d b,v=.ref b/\kD prog w s.heap d b) _ ?_ ?_ _ _ ⟨rfl,rfl,g⟩;rintro v dD r s' ⟨e,rfl,c⟩;obtain⟨d,b,rfl,hb⟩:=c v a9a;have go:∀ u∈dD,∃ d b,u=Value.ref b/\kD prog w s'.heap d b:=λu i=>c u (a0b _ i);dsimp only;split;exact a4y ⟨rfl,rfl,go⟩;refine a4x (wpAny_eqIsQuiet_tuple f ?_);simp only[Bool.not_true,Bool.false_eq_true,if_false];refine a4x (wpAny_eqIsQuiet_tuple hb ?_);simp only[Bool.not_true,Bool.false_eq_true,if_false];refine a4x (aW1 f ?_);simp only[Bool.false_eq_true,if_false];refine a4x (aW1 hb ?_);simp only[Bool.false_eq_true,if_false];exact a4y ⟨rfl,rfl,go⟩;rintro⟨j,m⟩ s' ⟨e,rfl,_⟩;simp only at e;subst e;exact a4y h
end
structure mR(prog:Program)(w:World)(h:Heap)(S:Addr)(led:Bool)(N:Addr->Prop)(ks:List (List Int))(o:Obj)(es:Array (Int×Value))(ep:Nat)(t:SetTable):Prop where
 ob:h.get? S=some o
 ex:o.ExactSet
 dt:o.data=.set es ep t
 tk:TOk t (es.toList.map (·.1))
 ful:t.place.size*5 < t.mask*3
 ld:t.led=led
 pl:t.plain=true
 len:ks.length=es.size
 it:∀ (i:Nat) e,es[i]? = some e->∃ k a,ks[i]? = some k/\e=(tupleKeyHash (intKind prog w) k,.ref a)/\kD prog w h k a/\N a
 nd:ks.Nodup
section
variable{prog:Program}{w:World}{A:Around}{E:Value->Shared->Prop}{s:Shared}{S:Addr}{led:Bool}{N:Addr->Prop}{ks:List (List Int)}{o:Obj}{es:Array (Int×Value)}{ep:Nat}{t:SetTable}
theorem _root_.Sx.TOk.fits{hs:List Int}(T:TOk t hs){n:Nat}(hn:hs.length=n):t.fits n=true:=by
 have b:=T.len;have a:=T.fit;simp only[SetTable.fits,SetTable.fill,Bool.and_eq_true,beq_iff_eq,decide_eq_true_eq,T.dm];exact⟨by lia,by simpa using a⟩
theorem mR.fits(X:mR prog w s.heap S led N ks o es ep t):t.fits es.size=true:=X.tk.fits (by simp)
def mR.state(X:mR prog w s.heap S led N ks o es ep t){Q:(Array (Int×Value)×Nat×SetTable)->Shared->Prop}(h:Q (es,ep,t) s):wpAny (model prog w) A (setState S) Q E s:=
 wpAny_setState_of X.ob X.dt X.fits h
def mR.even(X:mR prog w s.heap S led N ks o es ep t):t.gaveWay=false:=by
 obtain⟨k,a⟩:=X.tk.pw;have b:=X.tk.m7;unfold SetTable.gaveWay;have:t.mask % 2=1:=by
  cases k with
  | zero=>lia
  | succ k=>rw[a1h]at a;lia
 rw[this];rfl
theorem nG(X:mR prog w s.heap S led N ks o es ep t){k:List Int}{a:Addr}(U:A.units < cLine)(H:kD prog w s.heap k a){M:Nat}(hM:¬ Occ t (wk t.mask (tupleKeyHash (intKind prog w) k) M).j)(hb:∀ m,m < M->Occ t (wk t.mask (tupleKeyHash (intKind prog w) k) m).j)
  (I:M < 10*SetTable.turns t.mask) :
  ∀ (d n:Nat) (c:Option SetTable.Probe) (Q:SetFound->Shared->Prop),c.getD (t.probeStart (tupleKeyHash (intKind prog w) k))=wk t.mask (tupleKeyHash (intKind prog w) k) n->n<=M->M-n < d ->
    (∀ i:Nat,ks[i]? = some k->∃ m j,n<=m/\t.place[i]? = some j/\(wk t.mask (tupleKeyHash (intKind prog w) k) m).j=j/\m < M) ->
    (k∈ks->Q (.there none) s)->(k∉ks->Q (.free (wk t.mask (tupleKeyHash (intKind prog w) k) M).j false) s)->wpAny (model prog w) A (setSearchFrom S (.ref a) (tupleKeyHash (intKind prog w) k) true d c) Q E s
 | 0,n,c,Q,_,_,hf,_,_,_=>by lia
 | d+1,n,c,Q,hst,hn,hf,y,V,q2=>by
   unfold setSearchFrom;refine a4x (X.state ?_);dsimp only;rw[X.even,a4z a9c,hst];have hg:=aV9 X.tk (h:=tupleKeyHash (intKind prog w) k) (hashAt:=λi=>(es[i]?.map (·.1)).getD 0) hM hb (10*SetTable.turns t.mask) n hn (by lia);have B:∀ (i:Nat) e,es[i]? = some e->((es[i]?.map (·.1)).getD 0)=e.1:=λi e W=>by rw[W];rfl
   split
   ·rename_i met q;rcases hg with⟨m,i,a1,a2,a3,a4,a5,a6⟩ | ⟨a1,a2⟩
    ·have e:met=.candidate (wk t.mask (tupleKeyHash (intKind prog w) k) m).j i (wk t.mask (tupleKeyHash (intKind prog w) k) (m+1)):=a4a (q.symm.trans a6);subst e;dsimp only;have hi:i < es.size:=by
      have h1:=(a0f.mp a3).1;have h2:=X.tk.len;simp at h2;lia
     have J:es[i]? = some es[i]:=a6b hi;obtain⟨Y,b,C,Z,K,_⟩:=X.it i _ J;have seen:∀ v∈((es.filter (λx=>x.1==tupleKeyHash (intKind prog w) k)).toList.map (·.2)),∃ Y b,v=Value.ref b/\kD prog w s.heap Y b:=λv hv=>by
      obtain⟨e,W,rfl⟩:=a1i.mp hv;have he':e∈es:=by
       rw[Array.mem_toList_iff]at W;exact(Array.mem_filter.mp W).1
      obtain⟨j,hj,ej⟩:=Array.getElem_of_mem he';obtain⟨k2,l,_,g,h2,_⟩:=X.it j e (by rw[a6b hj,ej]);exact⟨k2,l,by rw[g],h2⟩
     by_cases hl:t.led=true
     ·rw[hl];simp only[Bool.not_true,Bool.false_eq_true,if_false];rw[J,Z];dsimp only;refine a4x (a4C (wpAny_eqBool_tuple U K H ?_));refine a4x (X.state ?_);dsimp only;by_cases f:Y=k;subst f;rw[a4W rfl];simp only[Bool.and_self,if_true];exact a4y (V (a6c C));rw[a4D f];simp only[Bool.and_false,Bool.false_eq_true,if_false];have D:t.sameMemory t.moves t.mask=some true:=by unfold SetTable.sameMemory;simp
      rw[D];dsimp only;rw[a4A rfl,qF X.tk.ri a3];dsimp only;rw[J,Z];dsimp only;refine a4x (wpAny_isSame_ref_self ?_);simp only[if_true];refine a4x (a4y ?_);dsimp only;refine nG X U H hM hb I d (m+1) (some _) Q rfl (by lia) (by lia) (λi2 g=>?_) V q2;obtain⟨F,j2,L,l,p,O⟩:=y i2 g;refine⟨F,j2,?_,l,p,O⟩
      -- it lies behind the one P was met
      refine a3j λhle=>?_;have G:i2 < es.size:=by rw[← X.len];exact(a0a.mp g).1
      have r:es[i2]? = some es[i2]:=a6b G;obtain⟨k3,b5,u,R,_⟩:=X.it i2 _ r;rw[g]at u;cases u;by_cases z:F=m
      ·subst z;have:i2=i:=by rw[← fZ X.tk.ri l,← fZ X.tk.ri a3,p]
       subst this;rw[C]at g;exact f (a4a g)
      ·refine a5 F i2 L (by lia) (by rw[l,p]) ?_;show(es[i2]?.map (·.1)).getD 0=_;rw[B i2 _ r,R]
     ·have hl':t.led=false:=by simpa using hl
      rw[hl'];simp only[Bool.not_false,if_true];refine a4x (bG9 H _ seen ?_);simp only[Bool.false_eq_true,if_false];rw[J,Z];dsimp only;refine a4x (a4C (wpAny_eqBool_tuple U K H ?_));refine a4x (X.state ?_);dsimp only;by_cases f:Y=k;subst f;rw[a4W rfl];simp only[Bool.and_self,if_true];exact a4y (V (a6c C));rw[a4D f];simp only[Bool.and_false,Bool.false_eq_true,if_false];have D:t.sameMemory t.moves t.mask=some true:=by unfold SetTable.sameMemory;simp
      rw[D];dsimp only;rw[a4A rfl,qF X.tk.ri a3];dsimp only;rw[J,Z];dsimp only;refine a4x (wpAny_isSame_ref_self ?_);simp only[if_true];refine a4x (a4y ?_);dsimp only;refine nG X U H hM hb I d (m+1) (some _) Q rfl (by lia) (by lia) (λi2 g=>?_) V q2;obtain⟨F,j2,L,l,p,O⟩:=y i2 g;refine⟨F,j2,?_,l,p,O⟩
      -- it lies behind the one P was met
      refine a3j λhle=>?_;have G:i2 < es.size:=by rw[← X.len];exact(a0a.mp g).1
      have r:es[i2]? = some es[i2]:=a6b G;obtain⟨k3,b5,u,R,_⟩:=X.it i2 _ r;rw[g]at u;cases u;by_cases z:F=m
      ·subst z;have:i2=i:=by rw[← fZ X.tk.ri l,← fZ X.tk.ri a3,p]
       subst this;rw[C]at g;exact f (a4a g)
      ·refine a5 F i2 L (by lia) (by rw[l,p]) ?_;show(es[i2]?.map (·.1)).getD 0=_;rw[B i2 _ r,R]
    ·have e:met=.empty (wk t.mask (tupleKeyHash (intKind prog w) k) M).j none:=a4a (q.symm.trans a2);subst e;dsimp only;refine a4y (q2 λhm=>?_);obtain⟨i,hi,e⟩:=a2f hm;have C:ks[i]? = some k:=by rw[a1a hi,e]
     obtain⟨m,j,L,l,p,O⟩:=y i C;have hi':i < es.size:=by rw[← X.len];exact hi
     have r:es[i]? = some es[i]:=a6b hi';obtain⟨k3,b5,u,R,_⟩:=X.it i _ r;rw[C]at u;cases u;refine a1 m i L O (by rw[l,p]) ?_;show(es[i]?.map (·.1)).getD 0=_;rw[B i _ r,R]
   ·rename_i T;exfalso;rcases hg with⟨m,i,_,_,_,_,_,a6⟩ | ⟨_,a2⟩;exact T _ a6;exact T _ a2
end
end PySem
namespace Sx
open PySem PySem.SetTable
theorem oR(n:Nat):∀ (f k:Nat),n < 2 ^ k*2 ^ f->3<=k->∃ g,sizeAbove.go n f (2 ^ k)=2 ^ g/\k<=g/\n < 2 ^ g/\(2 ^ g=2 ^ k\/2 ^ g<=2*n)
 | 0,k,h,i=>⟨k,rfl,a8a _,by simpa using h,.inl rfl⟩
 | f+1,k,h,i=>by
   unfold sizeAbove.go;split;rename_i j;have e:2 ^ k*2=2 ^ (k+1):=(a1h ..).symm;rw[e];obtain⟨g,a,b,c,d⟩:=oR n f (k+1) (by rw[a1h,a6j,a0i 2 (2 ^ f),← a1h];exact h) (by lia);refine⟨g,a,by lia,c,.inr ?_⟩;rcases d with d | d;rw[d,a1h];lia;exact d;rename_i l;exact⟨k,rfl,a8a _,by lia,.inl rfl⟩
def rN(n:Nat)(h:n < 2 ^ 60):∃ k,sizeAbove n=2 ^ k/\3<=k/\n < 2 ^ k/\2 ^ k<=8+2*n:=by
 obtain⟨k,a,b,c,d⟩:=oR n 64 3 (a9b h (by decide)) (a8a _);exact⟨k,a,b,c,by lia⟩
noncomputable def rel{α:Type}(l:List α)(od:List Nat):List α:=od.filterMap (l[·]?)
theorem zA{a:Type}{l:List a}:∀ {od:List Nat},(∀ j∈od,j < l.length)->∀ i:Nat,(rel l od)[i]? = (od[i]?).bind (l[·]?)
 | [],_,i=>by simp[rel]
 | j::od,h,i=>by
   have hj:=h j a9a;have e:rel l (j::od)=l[j]::rel l od:=by
    unfold rel;rw[a4h,a1a hj]
   rw[e];cases i with
   | zero=>simp[List.getElem?_eq_getElem hj]
   | succ i=>rw[a7e,a7e];exact zA (λx b=>h x (a0b _ b)) i
def sV{a:Type}{l:List a}{od:List Nat}(h:∀ j∈od,j < l.length):(rel l od).length=od.length:=by
 induction od with
 | nil=>rfl
 | cons j od b=>
   have hj:=h j a9a;have e:rel l (j::od)=l[j]::rel l od:=by
    unfold rel;rw[a4h,a1a hj]
   rw[e,a7i,a7i,b λx c=>h x (a0b _ c)]
def aE0{b:Type}{l:List b}{od:List Nat}(h:od.Perm (List.range l.length)):(rel l od).Perm l:=by
 have a:(rel l od).Perm (rel l (List.range l.length)):=h.filterMap _;have c:rel l (List.range l.length)=l:=by unfold rel;exact PySem.List.filterMap_getElem?_range_length l
 rw[c]at a;exact a
def qH{b:Type}(l:List b)(p:Nat)(x:b):(yZ l p x).Perm (x::l):=by
 unfold yZ;have:=List.perm_middle (a:=x) (l₁:=l.take p) (l₂:=l.drop p);rwa[List.take_append_drop]at this
end Sx
namespace PySem
open Sx
section
variable{prog:Program}{w:World}{A:Around}{E:Value->Shared->Prop}{s:Shared}{S:Addr}{led:Bool}{N:Addr->Prop}{ks:List (List Int)}{o:Obj}{es:Array (Int×Value)}{ep:Nat}{t:SetTable}
def xH(prog:Program)(w:World)(h:Heap)(S:Addr)(led:Bool)(N:Addr->Prop)(ks:List (List Int)):Prop:=∃ o es ep t,mR prog w h S led N ks o es ep t
def mR.store(X:mR prog w s.heap S led N ks o es ep t){b:Array (Int×Value)}{t':SetTable}{c:List (List Int)}(T:TOk t' (b.toList.map (·.1)))(l:t'.led=t.led)(m:t'.plain=true)(hn:c.length=b.size)(f:c.Nodup)
  (hi:∀ (i:Nat) e,b[i]? = some e->∃ k a,c[i]? = some k/\e=(tupleKeyHash (intKind prog w) k,.ref a)/\kD prog w s.heap k a/\N a) (p:t'.place.size*5 < t'.mask*3) :
  mR prog w (s.heap.update S (Obj.putSet b t')) S led N c {o with data:=.set b (ep+1) t'} b (ep+1) t':=by
 have q:(s.heap.update S (Obj.putSet b t')).get? S=some {o with data:=.set b (ep+1) t'}:=by
  have:=a5d (Obj.putSet b t') X.ob (by rw[a5w b t' X.dt];rfl);rw[a5w b t' X.dt]at this;exact this
 refine⟨q,X.ex,rfl,T,p,l.trans X.ld,m,hn,λi e r=>?_,f⟩;obtain⟨k,a,u,v,j,x⟩:=hi i e r;refine⟨k,a,u,v,j.at (λob g=>?_),x⟩;have h:a≠S:=λz=>by
  subst z;obtain⟨y,items,n,ho2,_,d,_⟩:=j;rw[X.ob]at ho2;cases ho2;rw[X.dt]at d;cases d
 rw[(a3f s.heap S (Obj.putSet b t')).2 a h];exact g
def cJ1(X:mR prog w s.heap S led N ks o es ep t){k:List Int}{a:Addr}{Q:Bool->Shared->Prop}(hu:A.units < cLine)(hk:kD prog w s.heap k a)(haN:N a)(hn:ks.length < 4000)
  (q1:k∈ks->∀ tk,Q false {s with toks:=tk}) (q2:k∉ks->∀ h' tk J,xH prog w h' S led N J->J.Perm (k::ks)->(∀ c ob,c≠S->s.heap.get? c=some ob->h'.get? c=some ob)->Q true {s with heap:=h',toks:=tk}) :
  wpAny (model prog w) A (setAdd S (.ref a)) Q E s:=by
 obtain⟨M,hMs,hM,hb⟩:=X.tk.stop2 (tupleKeyHash (intKind prog w) k);have hsz:t.place.size=es.size:=by have:=X.tk.len;simpa using this
 have hfit:=X.tk.fit;have hes:es.size < 4000:=by rw[← X.len];exact hn
 unfold setAdd;refine a4C (a4x (wpAny_pyHash_tuple hu hk ?_));unfold setAddHashed;refine a4C ?_;generalize hs':s.toks+(k.length+1)=d;have X':mR prog w ({s with toks:=d}:Shared).heap S led N ks o es ep t:=X;have K:kD prog w ({s with toks:=d}:Shared).heap k a:=hk;unfold setAddHashedIn;refine a4x (X'.state ?_);dsimp only;have hbs:byScan (.ref a) es=false:=rfl;rw[hbs,a4z a9c];unfold setSearch;refine a4x (nG X' hu K hM hb (by show M < 10*(t.mask+15);lia) 100000 0 none _ rfl (a4e _) (by lia) (λi ei=>?_) (λhm=>a4y (q1 hm d)) λhm=>?_)
 ·have hi':i < es.size:=by rw[← X.len];exact(a0a.mp ei).1
  have L:es[i]? = some es[i]:=a6b hi';obtain⟨k3,b5,e4,e5,_⟩:=X.it i _ L;rw[ei]at e4;cases e4;obtain⟨m,j,c1,c2,c3⟩:=X.tk.rea i (tupleKeyHash (intKind prog w) k) (by rw[a8b,a5b,L,e5];rfl);refine⟨m,j,a4e _,c1,c2,a3j λz=>?_⟩;by_cases zz:M=m;subst zz;exact hM ⟨i,by rw[c1,c2]⟩;exact hM (c3 M (by lia))
 ·dsimp only;refine a4x (X'.state ?_);dsimp only;have r:=xF t (wk t.mask (tupleKeyHash (intKind prog w) k) M).j X.tk.dm;have hf7:=X.tk.m7;have hful:=X.ful;have B:=X.tk.put hM hb (by lia);have l:=(jO X.tk.ri (wk t.mask (tupleKeyHash (intKind prog w) k) M).j).le;generalize hj:(wk t.mask (tupleKeyHash (intKind prog w) k) M).j=j at r B l ⊢;rw[r]at B ⊢;dsimp only at B ⊢;generalize hp:SetTable.below t.place j=p at B l ⊢;rw[a4A X.pl];refine a4x (cJ0 K ?_);rw[a4A rfl];have C:p<=es.size:=by lia
  have O:p<=ks.length:=by rw[X.len];exact C
  have ehs:(SetTable.insertAt es p (tupleKeyHash (intKind prog w) k,Value.ref a)).toList.map (·.1)=yZ (es.toList.map (·.1)) p (tupleKeyHash (intKind prog w) k):=by
   rw[SetTable.toList_insertAt];unfold yZ;rw[a8i,a8d,List.map_take,List.map_drop]
  rw[← ehs]at B;have q:(SetTable.insertAt es p (tupleKeyHash (intKind prog w) k,Value.ref a)).size=es.size+1:=pF es C _;have hpl:(SetTable.insertAt t.place p j).size=es.size+1:=by rw[pF t.place l,hsz]
  have P:∀ (i:Nat) e,(SetTable.insertAt es p (tupleKeyHash (intKind prog w) k,Value.ref a))[i]? = some e->∃ R u,(yZ ks p k)[i]? = some R/\e=(tupleKeyHash (intKind prog w) R,.ref u)/\kD prog w s.heap R u/\N u:=λi e h=>by
   rw[gC _ C]at h;rw[aD9 _ O];split at h;rw[a4A (by assumption)];exact X.it i e h;split at h;cases h;rw[a4z (by assumption),a4A (by assumption)];exact⟨k,a,rfl,rfl,hk,haN⟩;rw[a4z (by assumption),a4z (by assumption)];exact X.it (i-1) e h
  have T:(yZ ks p k).Nodup:=(qH ks p k).nodup_iff.mpr (a5h.mpr ⟨hm,X.nd⟩);have f:(yZ ks p k).length=(SetTable.insertAt es p (tupleKeyHash (intKind prog w) k,Value.ref a)).size:=by rw[qG _ O,q,X.len]
  have hz:es.size+1<=sizeLine:=by rw[a4P];lia
  refine a4x (wpAny_storeSet_of (s:={s with toks:=d}) X.ob X.dt ?_ (by rw[q];exact hz));have kept:∀ (e2:Array (Int×Value)) (t2:SetTable) c ob,c≠S->s.heap.get? c=some ob->(s.heap.update S (Obj.putSet e2 t2)).get? c=some ob:=λe2 t2 c ob hc e=>by
   rw[(a3f s.heap S (Obj.putSet e2 t2)).2 c hc];exact e
  by_cases U:({t with place:=SetTable.insertAt t.place p j}:SetTable).tooFull=true
  ·rw[U];simp only[Bool.not_false,Bool.and_self,if_true];refine a4x ?_;unfold setRelay
   -- the table is full for a moment: what is known of it still
   have hg:(s.heap.update S (Obj.putSet (SetTable.insertAt es p (tupleKeyHash (intKind prog w) k,Value.ref a)) {t with place:=SetTable.insertAt t.place p j})).get? S=some {o with data:=.set (SetTable.insertAt es p (tupleKeyHash (intKind prog w) k,Value.ref a)) (ep+1) {t with place:=SetTable.insertAt t.place p j}}:=by
    have:=a5d (Obj.putSet (SetTable.insertAt es p (tupleKeyHash (intKind prog w) k,Value.ref a)) {t with place:=SetTable.insertAt t.place p j}) X.ob (by rw[a5w _ _ X.dt];rfl);rw[a5w _ _ X.dt]at this;exact this
   refine a4x (wpAny_setState_of (s:={s with heap:=s.heap.update S (Obj.putSet (SetTable.insertAt es p (tupleKeyHash (intKind prog w) k,Value.ref a)) {t with place:=SetTable.insertAt t.place p j}),toks:=d}) hg rfl (B.fits (by simp)) ?_);dsimp only;have hgr:SetTable.grown (es.size+1)=(es.size+1)*4:=by unfold SetTable.grown;rw[a4z (by lia)]
   obtain⟨H,V,sa2,sa3,sa4⟩:=rN ((es.size+1)*4) (by lia);rw[hgr,V];rw[a4z (by rw[a4P];lia)];have hpos:1<=2 ^ H:=Nat.one_le_two_pow;have h8:8<=2 ^ H:=by
    have:2 ^ 3<=2 ^ H:=Nat.pow_le_pow_right (by decide) sa2;simpa using this
   generalize hE:SetTable.insertAt es p (tupleKeyHash (intKind prog w) k,Value.ref a)=b at *;obtain⟨D,od,l1,l2,W,l4,l5,l6,l7⟩:=aW0 (mask:=2 ^ H-1) (k:=H) (finger:=t.finger) (moves:=({t with place:=SetTable.insertAt t.place p j}:SetTable).movedTo (2 ^ H-1)) (led:=t.led) (plain:=t.plain) (hashes:=b.map (·.1)) (by lia) (by lia) (by rw[Array.size_map,q];lia);have hrl:({t with place:=SetTable.insertAt t.place p j}:SetTable).relaid (b.map (·.1)) ((es.size+1)*4)=some (D,od):=by
    unfold SetTable.relaid;rw[V];exact l1
   rw[Array.size_map]at W l5;have F:∀ x∈od.toList,x < b.toList.length:=λx I=>by
    have:=W.mem_iff.mp I;rw[a7f]at this;rw[a8c];exact this
   have L:(od.filterMap (b[·]?)).toList=rel b.toList od.toList:=by
    rw[Array.toList_filterMap];unfold rel;congr 1;funext x;rw[a5b]
   have v:od.toList.length=b.size:=by have:=W.length_eq;simpa using this
   have G:(od.filterMap (b[·]?)).size=b.size:=by
    rw[← a8c,L,sV F,v]
   rw[hrl];refine a4x ?_;show wpAny (model prog w) A (ite (((od.filterMap (b[·]?)).size != b.size)=true) _ _) _ _ _;dsimp only;rw[G];simp only[bne_self_eq_false,Bool.false_eq_true,if_false];refine a4y ?_;dsimp only;refine wpAny_storeSet_of (s:={s with heap:=s.heap.update S (Obj.putSet b {t with place:=SetTable.insertAt t.place p j}),toks:=d}) hg rfl ?_ (by rw[G,q];exact hz);refine a4y ?_
   -- as if it were stored at once
   have T3:TOk D ((od.filterMap (b[·]?)).toList.map (·.1)):=by
    have e4:(od.filterMap (b[·]?)).toList.map (·.1)=od.toList.filterMap ((b.map (·.1))[·]?):=by
     rw[Array.toList_filterMap,List.map_filterMap];congr 1;funext x;rw[Array.getElem?_map]
    rw[e4];exact l2
   have Y:∀ x∈od.toList,x < (yZ ks p k).length:=λx I=>by rw[f,← a8c];exact F x I
   refine q2 hm _ d (rel (yZ ks p k) od.toList) ⟨{o with data:=.set (od.filterMap (b[·]?)) (ep+1+1) D},od.filterMap (b[·]?),ep+1+1,D,?_,X.ex,rfl,T3,?_,l6.trans X.ld,l7.trans X.pl,?_,?_,?_⟩ ?_ ?_;have:=a5d (Obj.putSet (od.filterMap (b[·]?)) D) hg (by rw[a5w _ _ rfl];rfl);rw[a5w _ _ rfl]at this;exact this;rw[l4,l5,q];lia;rw[sV Y,v,G]
   ·intro i e h;rw[← a5b,L,zA F]at h;rw[zA Y];cases I:od.toList[i]? with
    | none=>rw[I]at h;cases h
    | some x=>
      rw[I]at h;have he':b[x]? = some e:=by rw[← a5b];exact h
      obtain⟨R,u,h1,h2,h3,h4⟩:=P x e he';refine⟨R,u,h1,h2,h3.at (λob hob=>?_),h4⟩;have y:u≠S:=λz=>by
       subst z;obtain⟨o2,items,n,ho2,_,Z,_⟩:=h3;rw[X.ob]at ho2;cases ho2;rw[X.dt]at Z;cases Z
      rw[(a3f _ S (Obj.putSet (od.filterMap (b[·]?)) D)).2 u y];exact kept _ _ u ob y hob
   ·exact(aE0 (by rw[f];exact W)).nodup_iff.mpr T
   ·exact(aE0 (by rw[f];exact W)).trans (qH ks p k)
   ·intro c ob hc e;rw[(a3f _ S (Obj.putSet (od.filterMap (b[·]?)) D)).2 c hc];exact kept _ _ c ob hc e
  ·have g:({t with place:=SetTable.insertAt t.place p j}:SetTable).tooFull=false:=by simpa using U
   rw[g];simp only[Bool.and_false,Bool.false_eq_true,if_false];refine a4y (q2 hm _ d (yZ ks p k) ⟨_,_,_,_,X.store B rfl X.pl f T P ?_⟩ (qH ks p k) (kept _ _));unfold SetTable.tooFull SetTable.fill at g;simp only[X.tk.dm,decide_eq_false_iff_not,Nat.not_le]at g;simpa using g
end
section
variable{prog:Program}{w:World}{A:Around}{S I:Addr}{led:Bool}{N:Addr->Prop}
def xH.stay{h h':Heap}{ks:List (List Int)}(X:xH prog w h S led N ks)(f:h'.get? S=h.get? S)(g:∀ c ob,N c->h.get? c=some ob->h'.get? c=some ob):xH prog w h' S led N ks:=by
 obtain⟨o,es,ep,t,Y⟩:=X;refine⟨o,es,ep,t,f.trans Y.ob,Y.ex,Y.dt,Y.tk,Y.ful,Y.ld,Y.pl,Y.len,λi e j=>?_,Y.nd⟩;obtain⟨k,a,l,m,n,d⟩:=Y.it i e j;exact⟨k,a,l,m,n.at (λob b=>g a ob d b),d⟩
def gB(prog:Program)(w:World)(h:Heap)(N:Addr->Prop)(ks:List (List Int))(items:Array Value):Prop:=ks.length=items.size/\∀ (i:Nat) v,items[i]? = some v->∃ k a,ks[i]? = some k/\v=.ref a/\kD prog w h k a/\N a
def gB.stay{h h':Heap}{ks:List (List Int)}{items:Array Value}(X:gB prog w h N ks items)(f:∀ c ob,N c->h.get? c=some ob->h'.get? c=some ob):gB prog w h' N ks items:=by
 refine⟨X.1,λi v e=>?_⟩;obtain⟨k,a,g,j,l,d⟩:=X.2 i v e;exact⟨k,a,g,j,l.at (λob b=>f a ob d b),d⟩
def aW2{items:Array Value}{ks:List (List Int)}(B:A.units < cLine)(f:¬ N S)(g:¬ N I)(j:S≠I)(hb:ks.length < 4000) :
  Fill prog w A S I items.size (λi v=>items[i]? = some v) (λi h=>gB prog w h N ks items/\∃ us,xH prog w h S led N us/\us.length<=i/\∀ x,x∈us↔x∈ks.take i) where
 put:=λi v s Q E hi C ⟨TA,us,X,n,hm⟩ q=>by
  obtain⟨k,a,D,rfl,tk,ha⟩:=TA.2 i v C;have F:i < ks.length:=by rw[TA.1];exact hi
  have p:ks.take (i+1)=ks.take i++[k]:=by rw[List.take_add_one,D];rfl
  have G:=X;obtain⟨o,es,ep,t,Y⟩:=X;refine cJ1 Y B tk ha (by lia) (λd b=>?_) λd h' b l H r u=>?_;refine q _ s.heap b ⟨TA,us,G,by lia,λx=>?_⟩ λc ob _ e=>e;rw[p,a7c,a1b,hm x];refine⟨.inl,λh=>?_⟩;rcases h with h | rfl;exact h;exact(hm _).mp d;refine q _ h' b ⟨TA.stay λc ob m e=>u c ob (λz=>f (z ▸ m)) e,l,H,by have:=r.length_eq;simp at this;lia,λx=>?_⟩ u;rw[r.mem_iff,a2b,p,a7c,a1b,hm x];exact or_comm
 stay:=λi h h' ⟨TA,us,X,n,hm⟩ k=>by
  have y:∀ c ob,N c->h.get? c=some ob->h'.get? c=some ob:=λc ob m e=>k c ob (λz=>g (z ▸ m)) e;refine⟨TA.stay y,us,X.stay ?_ y,n,hm⟩;obtain⟨o,es,ep,t,Y⟩:=X;rw[k S o j Y.ob,Y.ob]
end
def aW3:Manifest.owners.lookup (String.ofList (['r','o','t','a','r','e','t','i','_','t','e','s']:List Char).reverse)=some Manifest.sig_set_iterator:=by kernel_rfl
def mE:Slot "set_iterator" "__next__" "set_iterator.__next__":=.of (owner:="set_iterator") (n:="__next__") (by rw[typeLookup_type,a4R];kernel_rfl) (by decide +kernel) (by decide +kernel) (by decide +kernel) (.inl (by decide +kernel)) (by rw[a5v];kernel_rfl)
def xI:entryFor table "set_iterator.__next__"=some Builtin.«set_iterator.__next__»:=entryFor_of_tree (by kernel_rfl)
def aE1(a:Value):argsOk "set_iterator.__next__" ⟨[a],[]⟩:=by
 unfold argsOk;rw[signature?_of (id:="set_iterator.__next__") (n:=['_','_','t','x','e','n','_','_']) (o:=['r','o','t','a','r','e','t','i','_','t','e','s']) (by kernel_rfl) aW3]
 kernel_rfl
def rO:entryFor table "set.__iter__"=some Builtin.«frozenset.__iter__»:=entryFor_alias (id':="frozenset.__iter__") (by kernel_rfl) rfl (by decide +kernel) (by kernel_rfl)
theorem aW4{b:Type}:∀ (l:List b) (i:Nat) (h:i < l.length),(l[i]::l.eraseIdx i).Perm l
 | [],i,h=>absurd h (a9i i)
 | a::l,0,_=>.refl _
 | a::l,i+1,h=>(List.Perm.swap a _ _).trans (.cons a (aW4 l i (Nat.lt_of_succ_lt_succ h)))
theorem xJ{b:Type}(next:Nat->Nat):∀ (fuel k:Nat) (left:List b) (out:Array b),left.length=fuel->(pickOrder.go next fuel k left out).toList.Perm (out.toList++left)
 | 0,k,left,out,h=>by
   have:left=[]:=a0e h;subst this;rw[a6f];exact .refl _
 | fuel+1,k,left,out,h=>by
   have a:next k % left.length < left.length:=Nat.mod_lt _ (by lia)
   unfold pickOrder.go;rw[a1a a];dsimp only;have c:=xJ next fuel (k+1) (left.eraseIdx (next k % left.length)) (out.push left[next k % left.length]) (by rw[List.length_eraseIdx_of_lt a];lia)
   refine c.trans ?_;rw[a2h,List.append_assoc];exact List.Perm.append_left _ (aW4 left _ a)
def rP{a:Type}(next:Nat->Nat)(xs:Array a):(pickOrder next xs).toList.Perm xs.toList:=by
 have:=xJ next xs.size 0 xs.toList #[] (by simp)
 simpa[pickOrder]using this
noncomputable abbrev aI8(slot i n ep:Nat)(S:Addr):Obj:={cls:=.type "set_iterator",data:=.fields #[.int slot 0,.int i 0,.ref S,.int n 0,.int ep 0]}
section
variable{prog:Program}{w:World}{A:Around}{E:Value->Shared->Prop}{s:Shared}{S I:Addr}{N:Addr->Prop}{ks:List (List Int)}{o:Obj}{es:Array (Int×Value)}{ep:Nat}{t:SetTable}
noncomputable def cD(w:World)(S:Addr)(ep:Nat)(es:Array (Int×Value)):Array (Int×Value):=if w.params.followText "set-order"=true then pickOrder (w.params.setOrder S ep) es else es
def qI(es:Array (Int×Value)):(cD w S ep es).toList.Perm es.toList:=by
 unfold cD;split;exact rP _ es;exact .refl _
def aW5(X:mR prog w s.heap S (eZ w) N ks o es ep t){Q:Value->Shared->Prop}(q:Q (.ref s.heap.objs.size) {s with heap:=s.heap.push (aI8 0 0 es.size ep S)}):wpAny (model prog w) A (pyIter (.ref S)) Q E s:=by
 have a:s.TypeIs (.ref S) "set":=⟨o,X.ob,X.ex.1⟩;refine wpAny_pyIter_slot a F.slot_set_iter (a4H F.slot_set_iter a rO ?_ (F.args_set_iter_1 _));show wpAny _ _ (Builtin.Frozenset.sizeOf S >>= _) _ _ s;unfold Builtin.Frozenset.sizeOf;refine a4x (a4x (a5u X.ob X.dt X.fits (a4y ?_)));unfold setDrawn;refine a4x (a4x (X.state ?_));unfold setsByText;refine a4x (a4x (a5p (a4y ?_)));refine a4y ?_;have hd:(!t.plain&&decide (es.size > 1))=false:=by rw[X.pl];rfl
 dsimp only;rw[a4z (λh=>?_)];refine a4x (a4y ?_);refine a4x (wpAny_setEpoch_of X.ob X.dt X.fits ?_);unfold newFields;refine a4x (a4J ?_);exact a4y ⟨_,rfl,"set_iterator",_,⟨_,a7a _ rfl,rfl⟩,mE.lookup,q⟩;rw[a3c]at h;exact Bool.noConfusion (hd.symm.trans h.2)
def aW6(w:World)(h:Heap)(I S:Addr)(es:Array (Int×Value))(ep:Nat)(t:SetTable)(i:Nat):Prop:=
 ∃ slot,h.get? I=some (aI8 slot i es.size ep S)/\(w.params.followText "set-order"=false->SetTable.below t.place slot=i)
def aW7(X:mR prog w s.heap S (eZ w) N ks o es ep t){i slot:Nat}(j:w.params.followText "set-order"=false->SetTable.below t.place slot=i){Q:Option (Value×Nat)->Shared->Prop}
  (k:∀ e next,(cD w S ep es)[i]? = some e->(w.params.followText "set-order"=false->SetTable.below t.place next=i+1)->Q (some (e.2,next)) s) (l:(cD w S ep es)[i]? = none->Q none s):wpAny (model prog w) A (setNext S slot i ep) Q E s:=by
 unfold setNext;refine a4x (X.state ?_);unfold setsByText;refine a4x (a4x (a5p (a4y ?_)));dsimp only;by_cases hb:w.params.followText "set-order"=true
 ·rw[a4A (show(model prog w).w.params.followText "set-order"=true from hb)];simp only[bne_self_eq_false,Bool.false_eq_true,if_false];unfold setWalk;refine a4x (a4x (X.state ?_));unfold setsByText;refine a4x (a4x (a5p (a4y ?_)));dsimp only;rw[a4A (show(model prog w).w.params.followText "set-order"=true from hb)];refine a4x (a5p (a4y ?_));have m:cD w S ep es=pickOrder (w.params.setOrder S ep) es:=by unfold cD;rw[a4A hb]
  show wpAny _ _ (pure ((pickOrder (w.params.setOrder S ep) es)[i]?.map λe=>(e.2,slot))) _ _ _;refine a4y ?_;rw[← m];cases d:(cD w S ep es)[i]? with
  | none=>exact l d
  | some e=>exact k e slot d λz=>by rw[hb]at z;cases z
 ·have f:w.params.followText "set-order"=false:=by simpa using hb
  have a:=j f;have m:cD w S ep es=es:=by unfold cD;rw[a4z hb]
  have n:(!t.plain&&decide (es.size > 1))=false:=by rw[X.pl];rfl
  have g:t.led=true:=by rw[X.ld];unfold eZ;rw[f];rfl
  rw[a4z (show ¬ ((model prog w).w.params.followText "set-order"=true)from hb)];refine a5t (λh=>absurd (n.symm.trans h) a9c) λ_=>?_;refine a4x ?_;have p:wpAny (model prog w) A (if(!t.led && !es.isEmpty)=true then unsupported "set:maker-not-led" else pure ()) (λ_ s'=>s'=s) E s:=by
   rw[g];simp only[Bool.not_true,Bool.false_and,Bool.false_eq_true,if_false];exact a4y rfl
  refine a4M p (λ_ s' x=>?_) λ_ _ z=>z;subst x;rw[a];rw[m]at k l;have q:t.place.size=es.size:=by have:=X.tk.len;simpa using this
  cases d:es[i]? with
  | none=>exact a4y (l d)
  | some e=>
    have r:i < t.place.size:=by rw[q];exact(a0f.mp d).1
    have b:t.place[i]? = some t.place[i]:=a6b r;rw[b];refine a4y (k e _ d λ_=>?_);have c:=jO X.tk.ri (t.place[i]+1);have y:i < SetTable.below t.place (t.place[i]+1):=by
     refine a3j λz=>?_;have:=c.hi i _ z b;lia
    have B:SetTable.below t.place (t.place[i]+1)<=i+1:=by
     refine a2j λz=>?_;have u:i+1 < t.place.size:=a9b z c.le;have v:t.place[i+1]? = some t.place[i+1]:=a6b u;have:=c.lo (i+1) _ z v;have:=X.tk.ri i (i+1) _ _ (a2g _) b v;lia
    lia
def aW8(X:mR prog w s.heap S (eZ w) N ks o es ep t){i:Nat}(hi:aW6 w s.heap I S es ep t i){Q:Option Value->Shared->Prop}{e:Int×Value}(g:(cD w S ep es)[i]? = some e)
  (q:∀ h',aW6 w h' I S es ep t (i+1)->(∀ b ob,b≠I->s.heap.get? b=some ob->h'.get? b=some ob)->Q (some e.2) {s with heap:=h'}):wpAny (model prog w) A (pyNext (.ref I)) Q E s:=by
 obtain⟨slot,c,d⟩:=hi;have h:s.TypeIs (.ref I) "set_iterator":=⟨_,c,rfl⟩;unfold pyNext;refine a4x (a5m (wpAny_callSpecial?_slot (name:=Str.ofString "__next__") h mE (a4H mE h xI ?_ (aE1 _))));show wpAny _ _ (fieldsOf (.ref I) >>= _) _ _ s;unfold fieldsOf;refine a4x (a4x (wpAny_load c (a4y ?_)));dsimp only;refine a4x (a5u X.ob X.dt X.fits ?_);simp only[bne_self_eq_false,Bool.false_eq_true,if_false,Int.toNat_natCast];refine a4x (aW7 X d (λm next a f=>?_) λhn=>?_)
 ·rw[g]at a;cases a;dsimp only;refine a4x (a5q c rfl (by simp) ?_);have j:(s.heap.update I (λob=>ob.mapFields (·.setIfInBounds 0 (rawInt next)))).get? I=some (aI8 next i es.size ep S):=by
   rw[a5d _ c rfl];simp[Obj.mapFields,rawInt]
  refine a4x (a5q (s:={s with heap:=s.heap.update I (λob=>ob.mapFields (·.setIfInBounds 0 (rawInt next)))}) j rfl (by simp) ?_);have k:((s.heap.update I (λob=>ob.mapFields (·.setIfInBounds 0 (rawInt next)))).update I (λob=>ob.mapFields (·.setIfInBounds 1 (rawInt ((i:Int)+1))))).get? I=some (aI8 next (i+1) es.size ep S):=by
   rw[a5d _ j rfl];simp[Obj.mapFields,rawInt]
  refine a4y ⟨_,rfl,a4y (q _ ⟨next,k,f⟩ λb ob hb l=>?_)⟩;exact(a1d _ _ (a3d hb)).trans ((a1d _ _ (a3d hb)).trans l)
 ·rw[g]at hn;cases hn
def aW9(g:A.handled=none)(X:mR prog w s.heap S (eZ w) N ks o es ep t){i:Nat}(hi:aW6 w s.heap I S es ep t i){Q:Option Value->Shared->Prop}(h:(cD w S ep es)[i]? = none)
  (q:∀ h',(∀ b ob,b≠I->s.heap.get? b=some ob->h'.get? b=some ob)->Q none {s with heap:=h'}):wpAny (model prog w) A (pyNext (.ref I)) Q E s:=by
 obtain⟨slot,d,e⟩:=hi;have f:s.TypeIs (.ref I) "set_iterator":=⟨_,d,rfl⟩;unfold pyNext;refine a4x (a5m (wpAny_callSpecial?_slot (name:=Str.ofString "__next__") f mE (a4H mE f xI ?_ (aE1 _))));show wpAny _ _ (fieldsOf (.ref I) >>= _) _ _ s;unfold fieldsOf;refine a4x (a4x (wpAny_load d (a4y ?_)));dsimp only;refine a4x (a5u X.ob X.dt X.fits ?_);simp only[bne_self_eq_false,Bool.false_eq_true,if_false,Int.toNat_natCast];refine a4x (aW7 X e (λl next c j=>?_) λhn=>?_)
 ·rw[h]at c;cases c
 ·dsimp only;refine a4x (a5q d rfl (by simp) ?_);show wpAny _ _ (newExc (.type "StopIteration") [] >>= _) _ _ _;refine a4x ?_;simp only[newExc,newTuple];refine a4x (a4J ?_ (by size_fits));refine a4x (m:=firstArgMember _ _) (wpAny_of_eq (a:=Value.none) rfl ?_);refine a4J ?_ (by size_fits);simp only[raiseNew];refine a4x (wpAny_handled ?_);rw[show A.in1.handled=none from g];refine a4x (a4y (wpAny_throw ?_));refine a4x (wpAny_isInstance (T:="StopIteration") (b:=true) ⟨_,a7a _ rfl,rfl⟩ isSubtype_stop ?_);refine a4y (q _ λb ob hb k=>a2a _ (a2a _ ((a1d _ _ (a3d hb)).trans k)))
end
open L2
def aI9:typeLookup (.type "set") "__len__"=pure (some (.builtin "set.__len__")):=by rw[typeLookup_type,a4R];kernel_rfl
section
variable{prog:Program}{w:World}{A:Around}{E:Value->Shared->Prop}{s:Shared}{S I:Addr}{N:Addr->Prop}{ks:List (List Int)}{o:Obj}{es:Array (Int×Value)}{ep:Nat}{t:SetTable}
def bH0{Q:Bool->Shared->Prop}(c:s.TypeIs (.ref S) "set")(h:∀ b,Q b s):wpAny (model prog w) A (Builtin.List.listLengthHint (.ref S)) Q E s:=by
 unfold Builtin.List.listLengthHint;refine a4x (a4Y c aI9 ?_)
 (generalize hid:("set.__len__":String)=a;(fail_if_success (clear hid a));wp_delta;rw[show splitId a=some ("set","__len__")from by subst hid;decide +kernel];subst hid)
 refine a4x (wpAny_isInstance (b:=true) c sub_set_self ?_);dsimp only;rw[a4z (by decide)];refine a5t (λ_=>?_) (λh'=>(h' (by decide +kernel)).elim);refine a4x (a5k c ?_);exact a4y (h _)
def bH1(y:A.handled=none){L:Addr}{h0:Heap}(X:mR prog w h0 S (eZ w) N ks o es ep t)(B:h0.objs.size<=I)(C:h0.objs.size<=L)(f:L≠I) :
  LoopJ prog w A I L es.size (λi acc h=>(∀ b ob,h0.get? b=some ob->h.get? b=some ob)/\aW6 w h I S es ep t i/\acc.toList=((cD w S ep es).toList.take i).map (·.2)) (λacc h=>(∀ b ob,h0.get? b=some ob->h.get? b=some ob)/\acc.toList=(cD w S ep es).toList.map (·.2)):=by
 have D:(cD w S ep es).toList.length=es.size:=by have:=(qI (w:=w) (S:=S) (ep:=ep) es).length_eq;simpa using this
 have v:∀ b ob,h0.get? b=some ob->b≠I:=λb ob e z=>absurd (a5a e) (a5j.mpr (z ▸ B));have F:∀ b ob,h0.get? b=some ob->b≠L:=λb ob e z=>absurd (a5a e) (a5j.mpr (z ▸ C));have x:∀ (h:Heap),(∀ b ob,h0.get? b=some ob->h.get? b=some ob)->mR prog w h S (eZ w) N ks o es ep t:=λh d=>
  ⟨d _ _ X.ob,X.ex,X.dt,X.tk,X.ful,X.ld,X.pl,X.len,λi e l=>by
   obtain⟨k,a,m,n,G,H⟩:=X.it i e l;exact⟨k,a,m,n,G.at (λob p=>d a ob p),H⟩,X.nd⟩
 refine⟨λi acc s c Q E hi ⟨d,hs,ha⟩ r q=>?_,λacc s c Q E ⟨d,hs,ha⟩ r q=>?_,λi acc h h' ⟨d,hs,ha⟩ _ k=>?_⟩
 ·have g:i < (cD w S ep es).toList.length:=by lia
  have l:(cD w S ep es)[i]? = some (cD w S ep es).toList[i]:=by rw[← a5b];exact a1a g
  refine aW8 (x s.heap d) hs l λh' u j=>?_;have:=q (cD w S ep es).toList[i].2 h' s.toks ⟨λb ob e=>j b ob (v b ob e) (d b ob e),u,?_⟩ (j _ _ f r);exact this;rw[a2h,ha,List.take_add_one,a1a g,a8i];rfl
 ·refine aW9 y (x s.heap d) hs (by rw[← a5b];exact a0j (by lia)) λh' j=>?_;have:=q h' s.toks ⟨λb ob e=>j b ob (v b ob e) (d b ob e),by rw[ha,a2d (by lia)]⟩ (j _ _ f r);exact this
 ·obtain⟨slot,m,n⟩:=hs;exact⟨λb ob e=>k b ob (F b ob e) (d b ob e),⟨slot,k I _ (a3d f) m,n⟩,ha⟩
def xK(J:A.handled=none)(X:mR prog w s.heap S (eZ w) N ks o es ep t)(hz:es.size<=sizeLine){Q:List Value->Shared->Prop}
  (q:∀ h' tk,(∀ b ob,s.heap.get? b=some ob->h'.get? b=some ob)->s.heap.objs.size < h'.objs.size->Q ((cD w S ep es).toList.map (·.2)) {s with heap:=h',toks:=tk}):wpAny (model prog w) A (collect (.ref S)) Q E s:=by
 have h:S < s.heap.objs.size:=a5a X.ob;have n:∀ R:Result->Shared->Prop,(∀ h' tk acc c,(∀ b ob,s.heap.get? b=some ob->h'.get? b=some ob)->acc.toList=(cD w S ep es).toList.map (·.2)->h'.get? s.heap.objs.size=some (gZ acc c)->R (.ok (.ret (.ref s.heap.objs.size))) {s with heap:=h',toks:=tk}) ->
   codeAny (model prog w) A (.builtin "proto.collect" ⟨[.ref S],[]⟩) R s:=by
  intro R C
  (refine a4O F.entry_proto_collect ?_;rw[a4f F.plain_proto_collect _])
  (show wpAny _ A.in1 (newList [] >>= λl=>again (.builtin "list.__iadd__" ⟨[l,.ref S],[]⟩)) _ _ s;refine a4x (a4J ?_))
  (refine a4y ⟨a4U F.plain_list_iadd _,a4O F.entry_list_iadd ?_⟩;rw[a4f F.plain_list_iadd _])
  have up:∀ b ob,s.heap.get? b=some ob->(s.heap.push (gZ #[] 0)).get? b=some ob:=λb ob e=>a2a _ e;have D:(s.heap.push (gZ #[] 0)).objs.size=s.heap.objs.size+1:=a4g ..;have G:mR prog w ({s with heap:=s.heap.push (gZ #[] 0)}:Shared).heap S (eZ w) N ks o es ep t:=
   ⟨up _ _ X.ob,X.ex,X.dt,X.tk,X.ful,X.ld,X.pl,X.len,λi e K=>by
    obtain⟨k,a,p,M,O,P⟩:=X.it i e K;exact⟨k,a,p,M,O.at (λob r=>up a ob r),P⟩,X.nd⟩
  have T:Shared.TypeIs {s with heap:=s.heap.push (gZ #[] 0)} (.ref S) "set":=⟨o,G.ob,X.ex.1⟩
  (show wpAny _ A.in1 (Builtin.List.listExtendWith (.ref s.heap.objs.size) (.ref S) (.ref s.heap.objs.size)) _ _ {s with heap:=s.heap.push (gZ #[] 0)})
  unfold Builtin.List.listExtendWith;refine a4x (a5k T ?_);have p:Builtin.List.listSameRef (.ref s.heap.objs.size) (.ref S)=false:=by
   simp only[Builtin.List.listSameRef,beq_eq_false_iff_ne];exact a9h h
  rw[a4z (by rw[p];decide)];refine a4x (aW5 G ?_);have f:((s.heap.push (gZ #[] 0)).push (aI8 0 0 es.size ep S)).get? s.heap.objs.size=some (gZ #[] 0):=a2a _ (a7a _ rfl);have u:((s.heap.push (gZ #[] 0)).push (aI8 0 0 es.size ep S)).get? (s.heap.push (gZ #[] 0)).objs.size=some (aI8 0 0 es.size ep S):=a7a _ rfl;have j:∀ b ob,s.heap.get? b=some ob->((s.heap.push (gZ #[] 0)).push (aI8 0 0 es.size ep S)).get? b=some ob:=λb ob e=>a2a _ (up b ob e);have v:Shared.TypeIs {s with heap:=(s.heap.push (gZ #[] 0)).push (aI8 0 0 es.size ep S)} (.ref S) "set":=⟨o,j _ _ X.ob,X.ex.1⟩;have U:SetTable.below t.place 0=0:=by
   have c:=jO X.tk.ri 0;refine Nat.le_zero.mp (a2j λz=>?_);have x:0 < t.place.size:=a9b z c.le;have V:t.place[0]? = some t.place[0]:=a6b x;exact absurd (c.lo 0 _ z V) (a9i _)
  have ne:s.heap.objs.size≠(s.heap.push (gZ #[] 0)).objs.size:=by rw[D];exact a0d (a2g _)
  have L:=bH1 (A:=A.in1) J (I:=(s.heap.push (gZ #[] 0)).objs.size) (L:=s.heap.objs.size) X (by rw[D];exact Nat.le_succ _) (a8a _) ne;have H:(∀ b ob,s.heap.get? b=some ob->((s.heap.push (gZ #[] 0)).push (aI8 0 0 es.size ep S)).get? b=some ob)/\aW6 w ((s.heap.push (gZ #[] 0)).push (aI8 0 0 es.size ep S)) (s.heap.push (gZ #[] 0)).objs.size S es ep t 0/\(#[]:Array Value).toList=((cD w S ep es).toList.take 0).map (·.2):=⟨j,⟨0,u,λ_=>U⟩,rfl⟩;refine a4x (a4C (bH0 v λb=>?_));refine a5t (λ_=>?_) (λ_=>a4y ⟨a4U a3g _,bD0 L hz _ es.size 0 _ #[] 0 (by lia) (a4e _) H rfl f λh' tk acc c g y d=>C h' tk acc c g.1 g.2 d⟩)
  (refine a4x (a4I ?_);refine a4x ?_)
  (show wpAny _ _ (updateSeq s.heap.objs.size (·.push .none) >>= λ_=>updateSeq s.heap.objs.size (·.pop)) _ _ _;refine a4x (a5n f rfl ?_))
  have m:(((s.heap.push (gZ #[] 0)).push (aI8 0 0 es.size ep S)).update s.heap.objs.size (Obj.mapSeq (·.push Value.none))).get? s.heap.objs.size=some (gZ #[.none] 1):=by
   rw[a5d _ f rfl];simp[Obj.mapSeq]
  refine a5n (hz:=by seq_fits) m rfl ?_;have B:((((s.heap.push (gZ #[] 0)).push (aI8 0 0 es.size ep S)).update s.heap.objs.size (Obj.mapSeq (·.push Value.none))).update s.heap.objs.size (Obj.mapSeq (·.pop))).get? s.heap.objs.size=some (gZ #[] 2):=by
   rw[a5d _ m rfl];simp[Obj.mapSeq]
  refine a4y ⟨a4U a3g _,bD0 L hz _ es.size 0 _ #[] 2 (by lia) (a4e _) (L.frame _ _ _ _ H ?_ λb ob hb e=>?_) rfl B λh' tk acc c g y d=>C h' tk acc c g.1 g.2 d⟩;exact(Heap.size_update ..).trans (Heap.size_update ..);exact(a1d _ _ (a3d hb)).trans ((a1d _ _ (a3d hb)).trans e)
 (unfold collect;refine a4x (wpAny_runValue (n _ λh' tk acc c g ha d=>?_)))
 (show wpAny _ A (load s.heap.objs.size >>= _) _ _ _;refine a4x (wpAny_load d ?_))
 rw[← ha]at q;exact a4y (q h' tk g (a5a d))
end
end PySem
namespace Sx
open PySem PySem.W PyProof.Rows
structure Ord(c:Nat->Nat->Bool):Prop where
 ir:∀ a,c a a=false
 tr:∀ {a b d},c a b=true->c b d=true->c a d=true
 nt:∀ {a b d},c b a=false->c d b=false->c d a=false
section
variable{N:Nat}{c:Nat->Nat->Bool}{cmp:Nat->Nat->(Bool->Shared->Prop)->Shared->Prop}{s:Shared}(O:Ord c)(hc:∀ i j C,i < N->j < N->C (c i j) s->cmp i j C s)
include O hc
end
noncomputable def tlt:List Int->List Int->Bool
 | _,[]=>false
 | [],_::_=>true
 | a::x,b::y=>if a=b then tlt x y else decide (a < b)
theorem sW:∀ x,tlt x x=false
 | []=>rfl
 | a::x=>by show(if a=a then tlt x x else _)=false;rw[a4A rfl];exact sW x
theorem aE2:∀ {x y z},tlt x y=true->tlt y z=true->tlt x z=true
 | _,[],_,h,_=>by simp[tlt]at h
 | _,_::_,[],_,h=>by simp[tlt]at h
 | [],_::_,_::_,_,_=>rfl
 | a::x,b::y,d::z,i,j=>by
   have e:(if a=b then tlt x y else decide (a < b))=true:=i;have c:(if b=d then tlt y z else decide (b < d))=true:=j;show(if a=d then tlt x z else decide (a < d))=true;by_cases g:a=b;rw[a4A g]at e;by_cases f:b=d;rw[a4A f]at c;rw[a4A (g.trans f)];exact aE2 e c;rw[a4z f]at c;rw[a4z (by lia)];simp at c ⊢;lia;rw[a4z g]at e;by_cases f:b=d;rw[a4A f]at c;rw[a4z (by lia)];simp at e ⊢;lia;rw[a4z f]at c;simp at e c;rw[a4z (by lia)];simp;lia
theorem zB:∀ {x y},tlt x y=false->tlt y x=false->x=y
 | [],[],_,_=>rfl
 | [],_::_,h,_=>by simp[tlt]at h
 | _::_,[],_,h=>by simp[tlt]at h
 | a::x,b::y,f,g=>by
   have c:(if a=b then tlt x y else decide (a < b))=false:=f;have d:(if b=a then tlt y x else decide (b < a))=false:=g;by_cases e:a=b;rw[a4A e]at c;rw[a4A e.symm]at d;rw[e,zB c d];rw[a4z e]at c;rw[a4z λz=>e z.symm]at d;simp at c d;lia
section
variable{prog:Program}{w:World}{A:Around}{E:Value->Shared->Prop}{s:Shared}
theorem bZ5{b:Bool}{Q:Bool->Shared->Prop}:∀ {x y:List Int} {xs ys:List Value} (i:Nat) (fin:Bool),ItemsAre (intKind prog w) x xs->ItemsAre (intKind prog w) y ys->fin=decide (xs.length+i < ys.length+i)->Q (tlt x y) s->KatLex prog w A b (decide (xs.length < ys.length)) Q (xs.zip ys) i s
 | _,_,_,_,i,fin,.nil,.nil,_,q=>q
 | _,_,_,_,i,fin,.nil,.cons _ _,_,q=>by
   show Q (decide (0 < _)) s;rw[a4W (by simp)];exact q
 | _,_,_,_,i,fin,.cons _ _,.nil,_,q=>by
   show Q (decide (_ < 0)) s;rw[a4D (by simp)];exact q
 | _,_,_,_,i,fin,.cons (k:=a) (ks:=x) f g,.cons (k:=d) (ks:=y) h j,_,q=>by
   obtain⟨t,rfl⟩:=Value.isInt_shape f;obtain⟨u,rfl⟩:=Value.isInt_shape h;rw[List.zip_cons_cons];refine kat_cons (wpAny_eqBool_int ?_);have c:Q (if a=d then tlt x y else decide (a < d)) s:=q;by_cases e:a=d;rw[a4A e]at c;rw[show(a==d)=true from a4B.mpr e];refine kat_yes ?_;have:=bZ5 (b:=b) (i+1) (decide (_+(i+1) < _+(i+1))) g j rfl c;simpa using this
   ·rw[a4z e]at c;rw[show(a==d)=false by simpa using e];refine kat_no ?_;cases (b&&i==0)with
    | true=>exact oneLt_int c
    | false=>exact kat_one _ _ (lt_int c)
def bH2{ks:List (List Int)}{vs:List Value}{N:Addr->Prop}{Q:SortKind->Shared->Prop}(T:gB prog w s.heap N ks vs.toArray)(z:0 < vs.length)(B:∀ k∈ks,k≠[])(q:Q (tuples' true) s):wpAny (model prog w) A (keyKind' vs.toArray) Q E s:=by
 have h:∀ (vs:List Value) (ks:List (List Int)),(∀ (i:Nat) v,vs[i]? = some v->∃ k a,ks[i]? = some k/\v=.ref a/\kD prog w s.heap k a)->(∀ k∈ks,k≠[])->∃ fs:List Value,KatTups s.heap vs fs/\fs.length=vs.length/\∀ v∈fs,∃ i t,v=.int i t:=by
  intro vs
  induction vs with
  | nil=>intro ks _ _;exact⟨[],KatTups.nil,rfl,by simp⟩
  | cons v r C=>
    intro ks c d;obtain⟨k,a,j,rfl,o,items,n,g,D,hd,hi⟩:=c 0 v rfl;cases ks with
    | nil=>simp at j
    | cons K ks=>
      simp at j;subst j;obtain⟨fs,l,y,m⟩:=C ks (λi u F=>c (i+1) u (by simpa using F)) λx b=>d x (a0b _ b);have p:=d _ a9a;cases hit:items.toList with
      | nil=>
        rw[hit]at hi;cases hi;exact absurd rfl p
      | cons f dD=>
        have G:items[0]? = some f:=by rw[← a5b,hit];rfl
        obtain⟨i,t,H⟩:=jY hi f (by rw[hit];exact a9a);refine⟨f::fs,KatTups.cons g D hd G l,by simp[y],λx b=>?_⟩;rcases a2b.mp b with rfl | b;exact⟨i,t,H⟩;exact m x b
 obtain⟨fs,l,y,m⟩:=h vs ks (λi v e=>by
  obtain⟨k,a,c,d,I,_⟩:=T.2 i v (by rw[a1c];exact e);exact⟨k,a,c,d,I⟩) B
 refine kat_kind (T:=.type "int") l (by lia) (λv J=>?_) (by decide) q;obtain⟨i,t,rfl⟩:=m v J;exact .now
end
noncomputable def aK6(k:List Int):List (List Int)->List (List Int)
 | []=>[k]
 | x::r=>if tlt k x=true then k::x::r else if k=x then x::r else x::aK6 k r
noncomputable def srt:List (List Int)->List (List Int)
 | []=>[]
 | k::r=>aK6 k (srt r)
abbrev cM3(l:List (List Int)):Prop:=l.Pairwise λa b=>tlt a b=true
theorem uV(k:List Int):∀ (l:List (List Int)) (x:List Int),x∈aK6 k l↔x=k\/x∈l
 | [],x=>by simp[aK6]
 | y::r,x=>by
   unfold aK6;split;simp
   ·split;rename_i h;subst h;simp
    ·rw[a2b,uV k r x,a2b];constructor;rintro(h | h | h);exact .inr (.inl h);exact .inl h;exact .inr (.inr h);rintro(h | h | h);exact .inr (.inl h);exact .inl h;exact .inr (.inr h)
theorem aE3(k:List Int):∀ (l:List (List Int)),cM3 l->cM3 (aK6 k l)
 | [],_=>List.pairwise_singleton _ _
 | y::r,h=>by
   obtain⟨b,d⟩:=a9f.mp h;unfold aK6;split;rename_i c;refine a9f.mpr ⟨λx a=>?_,h⟩;rcases a2b.mp a with rfl | a;exact c;exact aE2 c (b x a)
   ·split;exact h
    ·rename_i hn e;refine a9f.mpr ⟨λx a=>?_,aE3 k r d⟩;rcases(uV k r x).mp a with rfl | a
     ·cases f:tlt y x with
      | true=>rfl
      | false=>exact absurd (zB (by simpa using hn) f) e
     ·exact b x a
theorem qJ:∀ (l:List (List Int)) (x:List Int),x∈srt l↔x∈l
 | [],x=>by simp[srt]
 | k::r,x=>by
   show x∈aK6 k (srt r)↔_;rw[uV,qJ r x,a2b]
theorem qK:∀ (l:List (List Int)),cM3 (srt l)
 | []=>.nil
 | k::r=>aE3 k _ (qK r)
def aX0{l:List (List Int)}(h:cM3 l):l.Nodup:=List.nodup_iff_pairwise_ne.mpr (h.imp λ{a b} h e=>by subst e;rw[sW]at h;cases h)
theorem aX1:∀ {a b:List (List Int)},cM3 a->cM3 b->(∀ x,x∈a↔x∈b)->a=b
 | [],[],_,_,_=>rfl
 | [],y::b,_,_,h=>by have:=(h y).mpr a9a;simp at this
 | x::a,[],_,_,h=>by have:=(h x).mp a9a;simp at this
 | x::a,y::b,ha,hb,h=>by
   obtain⟨a1,a2⟩:=a9f.mp ha;obtain⟨g,i⟩:=a9f.mp hb;have d:x=y:=by
    rcases a2b.mp ((h x).mp a9a)with e | e;exact e;rcases a2b.mp ((h y).mpr a9a)with f | f;exact f.symm;have:=aE2 (g x e) (a1 y f);rw[sW]at this;cases this
   subst d;have nx:x∉a:=λz=>by have:=a1 x z;rw[sW]at this;cases this
   have j:x∉b:=λz=>by have:=g x z;rw[sW]at this;cases this
   rw[aX1 a2 i λz=>?_];constructor;intro c;rcases a2b.mp ((h z).mp (a0b _ c))with e | e;subst e;exact absurd c nx;exact e;intro c;rcases a2b.mp ((h z).mpr (a0b _ c))with e | e;subst e;exact absurd c j;exact e
end Sx
namespace PySem
open Sx PySem.W PyProof.Rows
section
variable{prog:Program}{w:World}{A:Around}{E:Value->Shared->Prop}{s:Shared}{S:Addr}{N:Addr->Prop}{ks:List (List Int)}{o:Obj}{es:Array (Int×Value)}{ep:Nat}{t:SetTable}
end
end PySem
namespace Dv
open PySem L2 Mr
section
variable{Γ:Gm}{H H0:Hp}{σ σ0:Sg}{σV σV0:St}{i:Nat}{v:V}
end
section
variable{K:W.Frag}{H:Hp}{C fI:Addr}{f:Str}{E:XK}{Q:Addr->Hp->Prop}
end
end Dv
namespace L2
open PySem PySem.Spec PyProof.Rows
end L2
namespace PySem
noncomputable def nud{κ:Type}[DecidableEq κ]:List κ->List κ->Nat
 | _,[]=>0
 | seen,k::r=>if k∈seen then nud seen r else nud (k::seen) r+1
section
variable{κ:Type}[DecidableEq κ]
theorem mF:∀ (r:List κ) {a b:List κ},(∀ k,k∈a↔k∈b)->nud a r=nud b r
 | [],_,_,_=>rfl
 | k::r,a,b,h=>by
   show(if k∈a then nud a r else nud (k::a) r+1)=if k∈b then nud b r else nud (k::b) r+1
   by_cases c:k∈a;rw[a4A c,a4A ((h k).mp c),mF r h];rw[a4z c,a4z λz=>c ((h k).mpr z),mF r (a:=k::a) (b:=k::b) λx=>by simp only[List.mem_cons,h x]]
end
section
variable{prog:Program}{w:World}{A:Around}{κ:Type}[DecidableEq κ]{knd:KeyKind prog w κ}
def aX2{S I:Addr}{items:Array Value}{ks:List κ}(C:ks.length=items.size)(D:∀ (i:Nat) v,items[i]? = some v->∃ k,ks[i]? = some k/\knd.is k v=true/\v.scannable=true)(hb:ks.length+1 < scanBound)(l:S≠I) :
  Fill prog w A S I items.size (λi v=>items[i]? = some v) (λi h=>∃ m,h.SetOf knd S (λk=>decide (k∈ks.take i)) m/\m<=i/\m+nud (ks.take i) (ks.drop i)=nud [] ks) where
 put:=λi v s Q E hi F ⟨m,G,hm,hn⟩ q=>by
  obtain⟨k,u,y,sc⟩:=D i v F;have n:i < ks.length:=by rw[C];exact hi
  have B:ks.take (i+1)=ks.take i++[k]:=by rw[List.take_add_one,u];rfl
  have H:ks.drop i=k::ks.drop (i+1):=by
   rw[List.drop_eq_getElem_cons n,(a0a.mp u).2]
  unfold setAdd;refine a4C (a4x (knd.pyHash y ?_));refine wpAny_setAddHashed_of (knd:=knd) y sc G (by lia) λh' p g=>?_;refine q _ h' _ ⟨if decide (k∈ks.take i)=true then m else m+1,?_,?_,?_⟩ λc o J e=>(p.2 c J).trans e
  ·have e:(λj=>decide (j∈ks.take i)||decide (j=k))=λj=>decide (j∈ks.take (i+1)):=by
    funext j;rw[B];simp[← Bool.decide_or]
   rw[e]at g;exact g
  ·split<;>lia
  ·rw[H]at hn;have f:m+(if k∈ks.take i then nud (ks.take i) (ks.drop (i+1))else nud (k::ks.take i) (ks.drop (i+1))+1)=nud [] ks:=hn;have K:nud (ks.take (i+1)) (ks.drop (i+1))=nud (k::ks.take i) (ks.drop (i+1)):=mF _ λx=>by rw[B];simp[or_comm]
   rw[K];by_cases d:k∈ks.take i
   ·rw[a4A d]at f;rw[show(decide (k∈ks.take i))=true from a4W d,a4A rfl,← mF (ks.drop (i+1)) (a:=ks.take i) (b:=k::ks.take i) λx=>⟨λz=>a0b _ z,λz=>by
     rcases a2b.mp z with rfl | z;exact d;exact z⟩]
    exact f
   ·rw[a4z d]at f;rw[show(decide (k∈ks.take i))=false from a4D d,a4z a9c];lia
 stay:=λi h h' ⟨m,⟨o,es,ep,t,L,r⟩,hm⟩ k=>⟨m,⟨o,es,ep,t,k S o l L,r⟩,hm⟩
end
end PySem
namespace L2
open PySem PySem.Spec PyProof.Rows
def uW{X:Cx}{id U:String}{x y:Str}{p c pos a:Pos}{e:Expr}{es:List Expr}{t:TA}{r:List V->Hp->VK->Prop}
  (l:∀ pins s σ H vs us Q,Inv X pins σ H s->bW vs us->r vs H Q->wpAny (model X.prog X.w) X.A (call (.type U) us) (λu s1=>wpAny (model X.prog X.w) X.A (call (.builtin id) [u]) (EP X pins σ Q) X.xe s1) X.xe s)
  (m:Gl X x) (hm:X.mg x=none) (n:bootBuiltins x=some (.builtin id)) (d:Gl X y) (f:X.mg y=none) (g:bootBuiltins y=some (.type U)) (ha:PA X (e::es) t)
  (hn:x≠"__name__":=by decide) (i:(x==("__debug__":Str))=false:=by decide) (j:y≠"__name__":=by decide) (b:(y==("__debug__":Str))=false:=by decide)
  (o:starEach (e::es) X.env=(false,eval e X.env)::starEach es X.env:=by rfl) (k:(backTo a (starEach es X.env)).any (·.1)=false:=by rfl)
  (hs:starEach [.Call (.Name y c) (e::es) [] a] X.env=(false,eval (.Call (.Name y c) (e::es) [] a) X.env)::starEach [] X.env:=by rfl) :
  PE X (.Call (.Name x p) [.Call (.Name y c) (e::es) [] a] [] pos) (tCB r t):=by
 intro pins s σ H Q I h;refine a4N (gK I m hm n (PyProof.Rows.callWith_builtin1 ?_ hs (by rfl)) hn i);rw[hs]
 (show wpAny _ _ (spliced ((false,eval (.Call (.Name y c) (e::es) [] a) X.env)::backTo pos (starEach [] X.env))) _ _ s;refine Calls.spliced_cons (a4N (gK I d f g (a2e ?_ o k) j b)))
 exact thn (ha a pins s σ H _ I h) λus s1 ⟨vs,q,v,z,B⟩=>thn (l pins s1 σ q vs us Q v z B) λu s2 C=>Calls.spliced_nil C
def aE4{X:Cx}{pins:List (Addr×Obj)}{σ:St}{H:Hp}{s:Shared}{p:Addr}{b:Bool}{xs:List V}(I:Inv X pins σ H s)(a:X.calm=true)(h:eR H p=some (b,xs)) :
  ∃ items:List Value,bW xs items/\Nonempty (Src X.prog X.w X.A s.heap p items.toArray.size λi v=>items.toArray[i]? = some v):=by
 cases b with
 | true=>
   obtain⟨its,r,⟨o,n,c,d,f,e⟩,_⟩:=I.list (fT h);exact⟨its,r,⟨Src.list (I.ok.hd a) ⟨o,c,d,n,e⟩⟩⟩
 | false=>
   obtain⟨its,r,q,_⟩:=I.tuple (eG h);exact⟨its,r,⟨Src.tup (I.ok.hd a) q⟩⟩
def aX3:List V->Hp->VK->Prop:=λvs H Q=>∃ p b zs,vs=[.ref p]/\eR H p=some (b,zs.map V.str)/\zs.length < 4000/\Q (.int (nud [] zs:Nat)) H
def qL{X:Cx}(n:X.calm=true):∀ pins s σ H vs us Q,Inv X pins σ H s->bW vs us->aX3 vs H Q ->
  wpAny (model X.prog X.w) X.A (call (.type "set") us) (λu s1=>wpAny (model X.prog X.w) X.A (call (.builtin "len") [u]) (EP X pins σ Q) X.xe s1) X.xe s:=by
 intro pins s σ H vs us Q I y h;obtain⟨p,b,zs,rfl,B,L,q⟩:=h;obtain⟨u,rfl,d⟩:=y.one;cases d;obtain⟨its,r,⟨f⟩⟩:=aE4 I n B;have a:zs.length=its.toArray.size:=by simpa using r.length
 refine aD2 f (λA' _ _=>aX2 (knd:=strKind X.prog X.w) (ks:=zs) a (λi v c=>?_) (by unfold scanBound;lia) (a0d (a2g _))) (λh' g _=>?_) λh' tk ⟨m,g,_,hm⟩ C=>?_
 ·rw[a1c]at c;have hi:i < zs.length:=by
   have:=(a0a.mp c).1;rw[a,a6a];exact this
  have j:zs[i]? = some zs[i]:=a1a hi;obtain⟨u,D,d⟩:=r.get (i:=i) (x:=.str zs[i]) (by rw[a8b,j];rfl);rw[D]at c;cases c;obtain⟨t,rfl⟩:=d;generalize zs[i]=z at j;exact⟨z,j,by simp[PySem.strKind,Value.isStrOf],rfl⟩
 ·exact⟨0,⟨_,#[],0,_,g,⟨rfl,rfl,rfl⟩,rfl,λe E=>by simp at E,λk=>by simp,by decide,by rfl,rfl⟩,a8a _,by simp⟩
 ·obtain⟨o,es,ep,t,F,hex,hd,_,_,l,G,hn⟩:=g;have M:nud (zs.take its.toArray.size) (zs.drop its.toArray.size)=0:=by rw[← a,List.drop_length];rfl
  have J:es.size=nud [] zs:=by lia
  refine call_len_set F hex hd G (by unfold scanBound at l;lia) ?_;refine⟨.int (nud [] zs:Nat),H,?_,?_,q⟩;have K:Inv X pins σ H {s with heap:=h',toks:=tk}:=Inv.spun0 (ch:=[]) I (λb hb=>by simp at hb) λb o _ e=>C b o e;exact K.tok _;rw[J];exact⟨_,rfl⟩
end L2
namespace Dv
open PySem L2 Mr
noncomputable def uX:FN:=λds=>match ds with
 | [d]=>(bM9 d).bind λx=>(uG x.2).bind λa=>if a.length < 4000 then some (.val (.int (nud [] a:Nat)))else none
 | _=>none
def sZ:aG4 aX3 uX:=by
 intro H ds vs Q res vw e k;unfold uX at e;split at e
 ·obtain⟨⟨b,l⟩,g,e⟩:=bind_some e;obtain⟨h,c,e⟩:=bind_some e;dsimp only at c;split at e
  ·rename_i i;cases e;cases vw with
   | cons a t=>
     cases t;obtain⟨p,xs,rfl,d,f⟩:=bN0 a g;rw[pA c]at f;rw[f.strs_inv]at d;exact⟨p,b,h,rfl,d,i,k _ _ (.refl _) (.int _)⟩
  ·cases e
 ·cases e
end Dv
namespace L2
open PySem PySem.Spec PyProof.Rows Sx
theorem mG{prog:Program}{w:World}:∀ {k:List Int} {us:List Value},bW (k.map V.int) us->ItemsAre (intKind prog w) k us
 | [],_,.nil=>.nil
 | i::r,_,.cons h t=>by
   obtain⟨tk,rfl⟩:=h;exact .cons (by simp[intKind,Value.isInt]) (mG t)
def zC{X:Cx}{pins:List (Addr×Obj)}{σ:St}{H:Hp}{s:Shared}{a:Addr}{k:List Int}(I:Inv X pins σ H s)(h:H a=some (.tup (k.map V.int))):kD X.prog X.w s.heap k a:=by
 obtain⟨its,r,⟨o,b,c,n,hd⟩,_⟩:=I.tuple (eG (cL h));exact⟨o,its.toArray,n,b,c,hd,by simpa using mG r⟩
def dK1(r:V->List V->Hp->VK->Prop)(to:TE)(t:TA):TE:=λσ H Q=>to σ H λx H1=>(∃ p xs,x=.ref p/\H1 p=some (.tup xs))/\t σ H1 λxs a=>r x xs a Q
section
variable{X:Cx}{o e:Expr}{es:List Expr}{to:TE}{t:TA}{name:Str}{apos cpos:Pos}{id:String}{r:V->List V->Hp->VK->Prop}
def cX7(slot:Slot "tuple" name id)(g:typeOf (.builtin id)=pure (.type "method_descriptor"))(hm:MtR X id r)(n:PE X o to)(ha:PA X (e::es) t)
  (c:attributeBase o name X.env (eval o X.env)=eval o X.env:=by rfl)
  (f:((backTo cpos (starEach (e::es) X.env)).all (λx=>!x.1)&&(backToKw cpos (keywordEach [] X.env)).all (λx=>x.1.isSome)&&decide ((e::es).length+([]:List Keyword).length+(if([]:List Keyword).isEmpty then 0 else 1) < 30))=true:=by rfl)
  (d:(apos.endLine==cpos.line)=true:=by rfl) (hs:starEach (e::es) X.env=(false,eval e X.env)::starEach es X.env:=by rfl) (b:(backTo cpos (starEach es X.env)).any (·.1)=false:=by rfl) :
  PE X (.Call (.Attribute o name apos) (e::es) [] cpos) (dK1 r to t):=by
 intro pins s σ H Q I h;refine wpAny_Call_method_late c f d rfl (thn (n pins s σ H _ I h) λv s1 Z0=>?_);obtain⟨x,j,k,l,⟨p,xs,ex,q⟩,u⟩:=Z0;subst ex;have y:v=.ref p:=l;subst y;obtain⟨_,its,_,⟨ob,z,A,_⟩,⟨i,B,C⟩⟩:=(show cM X.prog X.w j s1.heap p (.tup xs)from k.hok p _ q);refine⟨"tuple",id,F.plainAttrs_tuple,slot,g,⟨ob,z,A⟩,λa D=>?_,?_⟩;cases D;exact⟨i,B,C⟩;have m:=ha cpos pins s1 σ j _ k u;rw[hs]at m ⊢;refine Calls.callWith_builtin (by show(false||(backTo cpos (starEach es X.env)).any (·.1))=false;rw[b]<;>rfl) (Calls.evalArgs_plain ?_);exact thn m λus s2 ⟨vs,E,G,J,K⟩=>hm pins s2 σ E (.ref p) vs _ us Q G l J K
end
theorem xL:∀ (x y:List Int),HT.lexLt x y=tlt x y
 | [],[]=>rfl
 | [],_::_=>rfl
 | _::_,[]=>rfl
 | a::x,b::y=>by
   rw[HT.lexLt_cons,xL x y];rfl
def dK2:R2:=λx y H Q=>(∃ i j,x=.int i/\y=.int j/\Q (.bl (decide (i < j))) H)\/∃ a b ns c,x=.ref a/\y=.ref b/\H a=some (.tup (ns.map V.int))/\H b=some (.tup (c.map V.int))/\Q (.bl (tlt ns c)) H
def bZ6{X:Cx}(e:X.A.units < cLine):OpR X (compareOp .Lt) dK2:=by
 intro pins s σ H x y v u Q I c d h;rcases h with⟨i,j,rfl,rfl,q⟩ | ⟨a,b,ns,ms,rfl,rfl,ha,hb,q⟩;exact dD2 pins s σ H _ _ v u Q I c d ⟨i,j,rfl,rfl,q⟩;exact cQ4 e pins s σ H _ _ v u Q I c d ⟨a,b,ns,ms,rfl,rfl,SqT.of ha,SqT.of hb,by rw[xL];exact q⟩
end L2
namespace Dv
open PySem L2 Mr Sx
noncomputable def aJ0:List D->Option (List Int)
 | []=>some []
 | .int i::r=>(aJ0 r).bind λl=>some (i::l)
 | _::_=>none
theorem mH:∀ {l:List D} {a:List Int},aJ0 l=some a->l=a.map D.int
 | [],_,h=>by cases h;rfl
 | .int s::r,_,h=>by
   obtain⟨l,b,c⟩:=bind_some h;cases c;rw[mH b];rfl
 | .non::_,_,h=>by cases h
 | .str _::_,_,h=>by cases h
 | .bl _::_,_,h=>by cases h
 | .tup _::_,_,h=>by cases h
 | .lst _::_,_,h=>by cases h
 | .dic _ _::_,_,h=>by cases h
noncomputable abbrev tI(k:List Int):D:=.tup (k.map D.int)
noncomputable def aX4:List D->Option (List (List Int))
 | []=>some []
 | .tup k::r=>(aJ0 k).bind λa=>(aX4 r).bind λl=>some (a::l)
 | _::_=>none
theorem aE5:∀ {l:List D} {a:List (List Int)},aX4 l=some a->l=a.map tI
 | [],_,h=>by cases h;rfl
 | .tup k::r,_,h=>by
   obtain⟨e,b,h⟩:=bind_some h;obtain⟨l,c,d⟩:=bind_some h;cases d;rw[aE5 c,mH b];rfl
 | .non::_,_,h=>by cases h
 | .str _::_,_,h=>by cases h
 | .bl _::_,_,h=>by cases h
 | .int _::_,_,h=>by cases h
 | .lst _::_,_,h=>by cases h
 | .dic _ _::_,_,h=>by cases h
def dG9{H:Hp}{k:List Int}{v:V}(h:Rp H (tI k) v):∃ a,v=.ref a/\H a=some (.tup (k.map V.int)):=by
 cases h with
 | tup h r=>rw[r.ints_inv]at h;exact⟨_,rfl,h⟩
theorem bZ7{H:Hp}:∀ {ks:List (List Int)} {xs:List V},Rps H (ks.map tI) xs->∃ ps:List Addr,xs=ps.map V.ref/\ps.length=ks.length/\∀ (i:Nat) a k,ps[i]? = some a->ks[i]? = some k->H a=some (.tup (k.map V.int))
 | [],_,h=>by cases h;exact⟨[],rfl,rfl,λi a k e=>by simp at e⟩
 | k::ks,_,h=>by
   rw[a8d]at h;cases h with
   | cons a t=>
     obtain⟨p,rfl,d⟩:=dG9 a;obtain⟨ps,rfl,f,g⟩:=bZ7 t;refine⟨p::ps,rfl,by simp[f],λi a j b c=>?_⟩;cases i with
     | zero=>simp at b c;subst b c;exact d
     | succ i=>exact g i a j (by simpa using b) (by simpa using c)
theorem aX5{H:Hp}:∀ {ks:List (List Int)} {ps:List Addr},ps.length=ks.length->(∀ (i:Nat) a k,ps[i]? = some a->ks[i]? = some k->H a=some (.tup (k.map V.int)))->Rps H (ks.map tI) (ps.map V.ref)
 | [],[],_,_=>.nil
 | [],_::_,h,_=>by simp at h
 | _::_,[],h,_=>by simp at h
 | k::ks,p::ps,h,b=>.cons (.tup (b 0 p k rfl rfl) (tP k)) (aX5 (by simpa using h) λi a c d e=>b (i+1) a c (by simpa using d) (by simpa using e))
noncomputable def ltA:F2:=λd e=>match d,e with
 | .int i,.int j=>some (.val (.bl (decide (i < j))))
 | .tup x,.tup y=>(aJ0 x).bind λns=>(aJ0 y).bind λa=>some (.val (.bl (tlt ns a)))
 | _,_=>none
def aX6:kB dK2 ltA:=by
 intro H l m x y Q res a b e k;unfold ltA at e;split at e;cases e;rw[cC a,cC b];exact .inl ⟨_,_,rfl,rfl,k _ _ (.refl _) (.bl _)⟩;obtain⟨ns,h,e⟩:=bind_some e;obtain⟨i,j,e⟩:=bind_some e;cases e;obtain⟨p,xs,rfl,c,d⟩:=dE a;obtain⟨q,ys,rfl,f,g⟩:=dE b;rw[mH h]at d;rw[mH j]at g;rw[d.ints_inv]at c;rw[g.ints_inv]at f;exact .inr ⟨p,q,ns,i,rfl,rfl,c,f,k _ _ (.refl _) (.bl _)⟩;cases e
theorem bZ8{i j:Int}{K:Res->Prop}:OK1 (ltA (.int i) (.int j)) K=K (.val (.bl (decide (i < j)))):=rfl
abbrev FT:=List D->D->Option D
def dK3(r:V->List V->Hp->L2.VK->Prop)(f:FT):Prop:=∀ H l xs e p y Q d,H p=some (.tup xs)->Rps H l xs->Vw H e y->f l e=some d->(∀ v,Rp H d v->Q v H)->r (.ref p) [y] H Q
noncomputable def dMT(f:FT)(a b:DE):DE:=λσ=>(a σ).bind λx=>match x.1 with
 | .val (.tup l)=>(b x.2).bind λy=>(rd y.2 y.1).bind λe=>(f l e).bind λd=>some (.val d,y.2)
 | _=>none
def dH0{X:Cx}{e:Expr}{r:V->List V->Hp->L2.VK->Prop}{f:FT}{n o:DE}(B:dK3 r f)(h:∀ Γ,PE X e (dK1 r (dTE Γ n) (dTA Γ (aC o aR)))):GE X e (dMT f n o):=.mk λΓ=>peW (h Γ) λσV H Q ⟨σ,ok,res,σ',e,k⟩=>by
 have q:=e;clear e;obtain⟨⟨x,a⟩,C,f1⟩:=bind_some q;clear q;dsimp only at f1;have D:∃ l,x=.val (.tup l):=by
  cases x with
  | val E=>
    cases E with
    | tup l=>exact⟨l,rfl⟩
    | _=>cases f1
  | _=>cases f1
 obtain⟨l,rfl⟩:=D;refine⟨σ,ok,_,a,C,λv1 F b G i _=>?_⟩;obtain⟨⟨y,j⟩,s,f2⟩:=bind_some f1;obtain⟨I,u,J⟩:=bind_some f2;obtain⟨d,K,L⟩:=bind_some J;cases L;dsimp only at s u;have m:Rp F (.tup l) v1:=G;obtain⟨p,xs,rfl,w,M⟩:=dE (.inl m);refine⟨⟨p,xs,rfl,w⟩,a,b,[y],j,?_,λvs z c N g _=>?_⟩;show((_:Option _).bind _)=_;rw[s];rfl;cases N with
 | cons O t _=>
   cases t;have A:=g.ext b;refine B z l xs I p _ Q d (A.tup _ _ w) (M.mono A) (O.vw c u) K λv P=>?_;exact k v z c P (i.trans g) dH
end Dv
namespace L2
def cX8{A:PySem.Around}{k:Nat}(a:Room k A):A.units+8 < PySem.cLine:=by have:=a.un;lia
open PySem PySem.Spec PyProof.Rows
theorem cX9{h:Heap}{L:Addr}{m m':Str->Option Value}(a:h.Ns L m)(b:h.Ns L m'):m=m':=by
 obtain⟨o,es,ep,e,f,_,g⟩:=a;obtain⟨o',i,j,c,d,_,k⟩:=b;rw[e]at c;cases c;rw[f]at d;cases d;funext x;rw[← g,← k]
def Inv.frNews{X:Cx}{pins:List (Addr×Obj)}{σ:St}{H:Hp}{s:Shared}{h':Heap}{t':Nat}{m:Str->Option Value}(I:Inv X pins σ H s)(d:Fr X.base X.env.locals s.heap m)(F:Fr X.base X.env.locals h' m)(N:News X.base X.env.locals h' (kO X.base s.heap X.env.locals)):Inv X pins σ H {s with heap:=h',toks:=t'}:=by
 have kp:∀ b o,b≠X.env.locals->s.heap.get? b=some o->h'.get? b=some o:=λb o hb e=>by
  cases q:X.base.get? b with
  | some u=>
    have:=d.keep b u q;rw[e]at this;cases this;exact F.keep b _ q
  | none=>exact(N (b,o) (pG hb q e)).1
 have g:∀ b o,s.heap.get? b=some o->∃ o',h'.get? b=some o':=λb o e=>by
  by_cases hb:b=X.env.locals;obtain⟨o',_,_,a,_⟩:=F.ns;exact⟨o',by rw[hb];exact a⟩;exact⟨o,kp b o hb e⟩
 refine I.step (g':=s.gens) (d':=s.drawn) (ch:=[]) (λ_ z=>nomatch z) (λb o hb _ _ e _=>kp b o hb e) (λb o hb _ _ e _=>⟨o.slots,kp b o hb e⟩) (λ_ _ _ _ n=>n) (λb o _ e=>g b o e) (λ_ _ e=>e) (λ_ _ _ e=>e) (λb ps e=>⟨#[],by rw[e];simp⟩) (λm' hm=>by rw[cX9 hm d.ns];exact F.ns) (λb u e=>?_) I.bare;have f:∀ c v,H c=some v->c≠X.env.locals:=λc v q z=>by rw[z,I.free]at q;cases q
 refine(I.hok b u e).stay (λc v h q=>kp c v ?_ q) (λ_ q=>q) λ_ _ q=>q;rcases h with z | z;rw[z];exact f b u e;exact f c _ z
def cJ2(ls:List Nat)(i:Nat):Prop:=i < ls.length/\∀ j,j < ls.length->ls.getD i 0<=ls.getD j 0/\(j < i->ls.getD i 0 < ls.getD j 0)
def cY0:V->Hp->VK->Prop:=λx H Q=>∃ (p:Addr) (as:List Addr) (ls:List Nat),x=.ref p/\eR H p=some (true,as.map V.ref)/\as.length=ls.length/\ls≠[]/\(∀ (i:Nat) a n,as[i]? = some a->ls[i]? = some n->∃ ys,eR H a=some (true,ys)/\ys.length=n)/\∀ i a,cJ2 ls i->as[i]? = some a->Q (.ref a) H
def aX7{X:Cx}(R:X.calm=true){pins:List (Addr×Obj)}{s:Shared}{σ:St}{H:Hp}{x:V}{u:Value}{Q:VK}(I:Inv X pins σ H s)(r:cE x u)(h:cY0 x H Q) :
  wpAny (model X.prog X.w) X.A (call (.builtin "min") [u] [(Str.ofString "key",.builtin "len")]) (EP X pins σ Q) X.xe s:=by
 obtain⟨p,as,ls,rfl,n,E,t,hn,q⟩:=h;cases r;obtain⟨its,G,pl,hz⟩:=I.list (fT n);obtain⟨m,F⟩:=I.fr;have N:=bA5 (g:=X.base) (h:=s.heap) (L:=X.env.locals);have J:∀ {a:Addr} {b:Bool} {xs:List V},eR H a=some (b,xs)->a≠X.env.locals:=λ{a b xs} e z=>by
  subst z;unfold eR at e;rw[I.free]at e;cases e
 have kp:∀ h,Fr X.base X.env.locals h m->News X.base X.env.locals h (kO X.base s.heap X.env.locals)->∀ b o,b≠X.env.locals->s.heap.get? b=some o->h.get? b=some o:=λh c d b o hb e=>by
  cases z:X.base.get? b with
  | some w=>
    have:=F.keep b w z;rw[e]at this;cases this;exact c.keep b _ z
  | none=>exact(d (b,o) (pG hb z e)).1
 have S:its.length=as.length:=by rw[← G.length,a3e]
 have k:∀ (i:Nat) v,its[i]? = some v->∃ a,as[i]? = some a/\v=.ref a:=λi v e=>by
  have hi:i < as.length:=by rw[← S];exact(a0a.mp e).1
  have f:as[i]? = some as[i]:=a1a hi;obtain⟨u,K,T⟩:=G.get (i:=i) (x:=.ref as[i]) (by rw[a8b,f];rfl);rw[e]at K;cases K;cases T;exact⟨_,f,rfl⟩
 have lp:0 < ls.length:=List.length_pos_iff.mpr t;refine kmb_min (λi=>((ls.getD i 0:Nat):Int)) (I.ok.hd R) F N (λh c d=>pl.isList.at λo e=>kp h c d p o (J n) e) (by lia) (λi v y h tk own c d=>?_) λi v h' U y hb c d=>?_
 ·obtain⟨a,f,rfl⟩:=k i v y;have hi:i < ls.length:=by rw[← E];exact(a0a.mp f).1
  have M:ls[i]? = some ls[i]:=a1a hi;obtain⟨ys,O,W⟩:=hn i a _ f M;obtain⟨P,B,C,Y⟩:=I.list (fT O);have D:News X.base X.env.locals h (kO X.base s.heap X.env.locals):=λp n=>d p (a0g _ n);have l:=B.length;have Z:=nY;refine Calls.call_len_list (s:={s with heap:=h,toks:=tk}) (C.isList.at λo e=>kp h c D a o (J O) e) (by simp only[List.size_toArray]<;>lia) ⟨h,_,tk+1,rfl,?_,c,d⟩;rw[a6a,← l,W,a6e,M];rfl
 ·obtain⟨a,f,rfl⟩:=k i v y;refine⟨.ref a,H,I.frNews F c d,rfl,q i a ⟨by rw[← E];exact(a0a.mp f).1,λj hj=>?_⟩ f⟩;obtain⟨b1,b2⟩:=hb j (by lia);exact⟨by lia,λz=>by have:=b2 z;lia⟩
def bZ9:List V->Hp->VK->Prop:=λvs H Q=>∃ x,vs=[x]/\cY0 x H Q
def cJ3{X:Cx}{x y:Str}{p k kp pos:Pos}{e:Expr}{t:TA}(l:X.calm=true)(m:Gl X x)(hm:X.mg x=none)(n:bootBuiltins x=some (.builtin "min"))(b:Gl X y)(c:X.mg y=none)(d:bootBuiltins y=some (.builtin "len"))(ha:PA X [e] t)
  (hn:x≠"__name__":=by decide) (f:(x==("__debug__":Str))=false:=by decide) (g:y≠"__name__":=by decide) (a:(y==("__debug__":Str))=false:=by decide) (o:backTo pos (starEach [e] X.env)=(false,eval e X.env)::backTo pos (starEach [] X.env):=by rfl) (q:(backTo pos (starEach [e] X.env)).any (·.1)=false:=by rfl) :
  PE X (.Call (.Name x p) [e] [⟨some (Str.ofString "key"),.Name y k,kp⟩] pos) (tCB bZ9 t):=by
 intro pins s σ H Q I h;refine a4N (gK I m hm n (callWith_kw ?_ o q rfl rfl) hn f);refine thn (ha pos pins s σ H _ I h) λus s1 ⟨vs,w,j,r,i⟩=>kws_cons (gK j b c d (kws_nil ?_) g a);obtain⟨x,rfl,i⟩:=i;obtain⟨u,rfl,v⟩:=vQ r;exact aX7 l j v i
theorem aE6:∀ (ns:List Int) (n m:Int),(∀ a,a∈n::ns->a<=m)->m∈n::ns->ns.foldl max n=m
 | [],n,m,_,h=>(a1b.mp h).symm
 | a::r,n,m,c,d=>by
   rw[List.foldl_cons];refine aE6 r (max n a) m (λb hb=>?_) ?_;rcases a2b.mp hb with rfl | hb;exact Int.max_le.mpr ⟨c n (by simp),c a (by simp)⟩;exact c b (by simp[hb])
   ·have e:=c n (by simp);have f:=c a (by simp);rcases a2b.mp d with rfl | d;rw[Int.max_eq_left f];simp;rcases a2b.mp d with rfl | d;rw[Int.max_eq_right e];simp;simp[d]
def cY1:List V->Hp->VK->Prop:=λvs H Q=>∃ (p:Addr) (n:Int) (ns:List Int),vs=[.ref p]/\H p=some (.tup ((n::ns).map V.int))/\Q (.int (ns.foldl max n)) H
def aX8{X:Cx}(D:X.calm=true):mS X (.builtin "max") cY1:=by
 intro pins s σ H xs us Q I r h;obtain⟨p,n,ns,rfl,E,q⟩:=h;obtain⟨u,rfl,F⟩:=vQ r;cases F;have G:X.A.handled=none:=I.ok.hd D;obtain⟨_,its,w,⟨o,c,f,k,J⟩,_⟩:=I.hok p _ E;have y:s.heap.IsTuple p its.toArray:=⟨o,c,f,k,J⟩;have lt:p < s.heap.objs.size:=a5a c;have g:its.length=(n::ns).length:=by rw[← w.length,a3e]
 have d:∀ (i:Nat) v,its.toArray[i]? = some v->∃ t,v=.int ((n::ns).getD i 0) t:=λi v e=>by
  rw[a1c]at e;have hi:i < (n::ns).length:=by rw[← g];exact(a0a.mp e).1
  have B:(n::ns)[i]? = some (n::ns)[i]:=a1a hi;obtain⟨u,c,t,f⟩:=w.get (i:=i) (x:=.int (n::ns)[i]) (by rw[a8b,B];rfl);rw[e]at c;cases c;exact⟨t,by rw[f,a6e,B];rfl⟩
 refine call_max_walk (a4Q y ?_);refine⟨_,[s.heap.objs.size,p],[s.heap.objs.size],_,_,_,_,rfl,Walks.tuple (A:=X.A.in1) G _ p (a0d lt) its.toArray,⟨⟨_,a7a _ rfl,rfl,rfl⟩,y.push _⟩,λb hb=>?_,by rw[a6a,g];simp,CmpOf.ints_gt (λi=>(n::ns).getD i 0) d,λv h' tk K L=>?_⟩;show b < (s.heap.push _).objs.size;rw[a4g];rcases a2b.mp hb with rfl | hb;exact a2g _;rw[a1b.mp hb];exact Nat.lt_succ_of_lt lt;obtain⟨t,rfl⟩:=d _ v K;obtain⟨m,C⟩:=argBest_gt (λi=>(n::ns).getD i 0) (its.toArray.size-1);rw[a6a,g]at m C ⊢;have M:Inv X pins σ H {s with heap:=h',toks:=tk}:=I.kept (t':=tk) λb o e=>L b o (λz=>a7d _ (by have:=a5a e;rw[a1b.mp z]at this;exact this)) (a2a _ e);refine⟨.int (ns.foldl max n),H,M,⟨t,?_⟩,q⟩;congr 1;refine(aE6 ns n _ (λa ha=>?_) ?_).symm;obtain⟨j,hj,rfl⟩:=a2f ha;have:=C j (by lia);rw[a6e (l:=n::ns) (i:=j),a1a hj]at this;exact this;generalize argBest (λi j=>decide ((n::ns).getD i 0 > (n::ns).getD j 0)) ((n::ns).length-1)=i at m;have hi:i < (n::ns).length:=by simp only[List.length_cons]at m ⊢;lia
 rw[a6e,a1a hi];exact a6i hi
end L2
namespace Dv
open PySem L2 Mr
noncomputable def aJ1:D->Nat->List D->Option D
 | d,_,[]=>some d
 | d,n,.lst l::r=>if l.length < n then aJ1 (.lst l) l.length r else aJ1 d n r
 | _,_,_=>none
noncomputable def cJ4:FN:=λds=>match ds with
 | [.lst (.lst l::r)]=>(aJ1 (.lst l) l.length r).map .val
 | _=>none
theorem aE7:∀ {r:List D} {pre:List D} {i:Nat} {d v:D} {n:Nat},aJ1 d n r=some v->(∀ x∈pre,∃ l,x=.lst l)->(∃ l,d=.lst l/\l.length=n)->pre[i]? = some d->(∀ j l,pre[j]? = some (.lst l)->n<=l.length/\(j < i->n < l.length)) ->
  ∃ (k:Nat) (m:List D),(pre++r)[k]? = some v/\v=.lst m/\(∀ x∈pre++r,∃ l,x=.lst l)/\∀ j l,(pre++r)[j]? = some (.lst l)->m.length<=l.length/\(j < k->m.length < l.length)
 | [],pre,i,d,v,n,e,p,⟨l,hd,hn⟩,hi,hb=>by
   cases e;subst hd hn;exact⟨i,l,by rw[a6f];exact hi,rfl,by rw[a6f];exact p,by rw[a6f];exact hb⟩
 | .lst l::r,pre,i,d,v,n,e,p,hd,hi,hb=>by
   unfold aJ1 at e;have s:∀ x∈pre++[.lst l],∃ l,x=.lst l:=λx u=>by
    rcases a7c.mp u with z | z;exact p x z;exact⟨l,a1b.mp z⟩
   have lt:=(a0a.mp hi).1;have split:∀ (j:Nat) (m:List D),(pre++[.lst l])[j]? = some (.lst m)->pre[j]? = some (.lst m)\/(j=pre.length/\m=l):=λj m g=>by
    by_cases hj:j < pre.length;rw[a4c hj]at g;exact .inl g;rw[a4b (by lia)]at g;cases q:j-pre.length with
    | zero=>rw[q]at g;cases g;exact .inr ⟨by lia,rfl⟩
    | succ k=>rw[q]at g;simp at g
   have go:∀ {i':Nat} {d':D} {o:Nat},aJ1 d' o r=some v->(∃ l,d'=.lst l/\l.length=o)->(pre++[.lst l])[i']? = some d'->(∀ j m,(pre++[.lst l])[j]? = some (.lst m)->o<=m.length/\(j < i'->o < m.length))->_:=λa b c f=>aE7 (pre:=pre++[.lst l]) a s b c f;simp only[List.append_assoc,List.singleton_append]at go;split at e;rename_i t;refine go (i':=pre.length) e ⟨l,rfl,rfl⟩ (by simp) λj m g=>?_;rcases split j m g with z | ⟨rfl,rfl⟩;have:=(hb j m z).1;exact⟨by lia,λ_=>by lia⟩;exact⟨a8a _,λh=>absurd h (a7d _)⟩;rename_i t;refine go (i':=i) e hd (by rw[a4c lt];exact hi) λj m g=>?_;rcases split j m g with z | ⟨rfl,rfl⟩;exact hb j m z;exact⟨by lia,λh=>by lia⟩
 | .non::_,_,_,_,_,_,e,_,_,_,_ | .bl _::_,_,_,_,_,_,e,_,_,_,_ | .int _::_,_,_,_,_,_,e,_,_,_,_ | .str _::_,_,_,_,_,_,e,_,_,_,_ | .tup _::_,_,_,_,_,_,e,_,_,_,_ | .dic _ _::_,_,_,_,_,_,e,_,_,_,_=>by cases e
theorem aX9{H:Hp}:∀ {l:List D} {xs:List V},Rps H l xs->(∀ x∈l,∃ m,x=.lst m)->∃ (as:List Addr) (ls:List Nat),xs=as.map V.ref/\as.length=l.length/\ls.length=l.length/\∀ (i:Nat) m,l[i]? = some (.lst m)->∃ a ys,as[i]? = some a/\ls[i]? = some m.length/\eR H a=some (true,ys)/\ys.length=m.length/\Rp H (.lst m) (.ref a)
 | _,_,.nil,_=>⟨[],[],rfl,rfl,rfl,λi m h=>by simp at h⟩
 | d::l,_,.cons a t,h=>by
   obtain⟨m,rfl⟩:=h d (by simp);obtain⟨as,ls,b,c,e,f⟩:=aX9 t λx g=>h x (by simp[g]);have j:=a;obtain⟨p,ys,rfl,k,n⟩:=fD (.inl a);refine⟨p::as,m.length::ls,by rw[b];rfl,by simp[c],by simp[e],λi m' hm=>?_⟩;cases i with
   | zero=>simp at hm;subst hm;exact⟨p,ys,rfl,rfl,k,n.length.symm,j⟩
   | succ i=>exact f i m' (by simpa using hm)
def bH3:aG4 bZ9 cJ4:=by
 intro H ds vs Q res vw e k;unfold cJ4 at e;split at e
 ·rename_i l r;obtain⟨v,F,G⟩:=a2c.mp e;cases G;obtain⟨x,rfl,w⟩:=aP8 vw;obtain⟨p,xs,rfl,I,J⟩:=fD w;obtain⟨i,m,u,rfl,g,y⟩:=aE7 (pre:=[.lst l]) (i:=0) F (λx K=>⟨l,a1b.mp K⟩) ⟨l,rfl,rfl⟩ rfl λj m b=>by
   cases j with
   | zero=>cases b;exact⟨a8a _,λh=>absurd h (a7d _)⟩
   | succ j=>simp at b
  simp only[List.singleton_append]at u g y;obtain⟨as,ls,rfl,L,A,q⟩:=aX9 J g;refine⟨_,rfl,p,as,ls,rfl,I,by lia,λz=>by rw[z]at A;simp at A,λj a n o M=>?_,λj a N o=>?_⟩
  ·have hj:j < (D.lst l::r).length:=by rw[← L];exact(a0a.mp o).1
   obtain⟨m',em⟩:=g _ (a6i hj);obtain⟨O,ys,c,d,B,C,_⟩:=q j m' (by rw[a1a hj,em]);rw[o]at c;cases c;rw[M]at d;cases d;exact⟨ys,B,C⟩
  ·-- s place is s one found
   obtain⟨O,ys,c,d,B,C,P⟩:=q i m u;have hi:i < ls.length:=(a0a.mp d).1;obtain⟨hj,hb⟩:=N;have f:j < (D.lst l::r).length:=by lia
   obtain⟨m',em⟩:=g _ (a6i f);have b:(D.lst l::r)[j]? = some (.lst m'):=by rw[a1a f,em]
   obtain⟨a2,R,U,S,_⟩:=q j m' b;have gi:ls.getD i 0=m.length:=by rw[a6e,d];rfl
   have T:ls.getD j 0=m'.length:=by rw[a6e,S];rfl
   have E:=y j m' b;have t:=hb i hi;rw[gi,T]at t;have:i=j:=by
    rcases Nat.lt_trichotomy i j with z | z | z;have:=t.2 z;have:=E.1;lia;exact z;have:=E.2 z;have:=t.1;lia
   subst this;rw[o]at c;cases c;exact k _ _ (.refl _) P
 ·cases e
noncomputable def cJ5:FN:=λds=>match ds with
 | [.tup l]=>(aJ0 l).bind λns=>match ns with
   | []=>none
   | n::r=>some (.val (.int (r.foldl max n)))
 | _=>none
def bH4:aG4 cY1 cJ5:=by
 intro H ds vs Q res vw e k;unfold cJ5 at e;split at e
 ·obtain⟨ns,c,e⟩:=bind_some e;cases ns with
  | nil=>cases e
  | cons n r=>
    cases e;obtain⟨x,rfl,w⟩:=aP8 vw;obtain⟨p,xs,rfl,a,b⟩:=dE w;rw[mH c]at b;rw[b.ints_inv]at a;exact⟨p,n,r,rfl,a,k _ _ (.refl _) (.int _)⟩
 ·cases e
end Dv
namespace L2
open PySem PySem.Spec PyProof.Rows
def zD:typeLookup (.type "zip") "keys"=pure none:=by rw[typeLookup_type,a4R];kernel_rfl
def rQ:typeLookup (.type "zip") "__getattr__"=pure none:=by rw[typeLookup_type,a4R];kernel_rfl
def xM:entryFor table "zip.__getattribute__"=some Builtin.«object.__getattribute__»:=entryFor_alias (id':="object.__getattribute__") (by kernel_rfl) (by decide +kernel) (by decide +kernel) (by kernel_rfl)
section
variable{prog:Program}{w:World}{A:Around}{E:Value->Shared->Prop}
def aJ2{s:Shared}{z TI TO:Addr}{Q:Option Value->Shared->Prop}(hz:IsZip s.heap z TI TO .none)(l:A.handled=none)
  (h:∀ h' tk,(∀ b o,s.heap.get? b=some o->h'.get? b=some o)->Q none {s with heap:=h',toks:=tk}):wpAny (model prog w) A (getAttr? (.ref z) "keys") Q E s:=by
 obtain⟨i,g,d,tk,os⟩:=s;have m:∀ u:Tok,Meets (Builtin.«object.__getattribute__» ⟨[.ref z,.str "keys" u],[]⟩) (λA R s=>IsZip s.heap z TI TO .none/\raisesAttr (.ref z) "keys" A R s):=λu=>Meets.of_wp λprog w A R s ⟨k,hs⟩=>by
  obtain⟨i,g,d,tk,os⟩:=s;have a:i.get? z=_:=k;have j:(⟨i,g,d,tk,os⟩:Shared).TypeIs (.ref z) "zip":=⟨_,k,rfl⟩;have f:=zD;unfold Builtin.«object.__getattribute__»
  repeat (any_goals (first | assumption | wp_step))
  exact wpAny_raiseAttrError hs.1 hs.2 (attrMsg_fits (by decide +kernel) (by size_fits))
 have j:∀ c,(⟨i,g,d,c,os⟩:Shared).TypeIs (.ref z) "zip":=λ_=>⟨_,hz,rfl⟩;have n:=sub_AttributeError;have p:=F.slot_zip_getattribute.lookup;have q:=F.slot_zip_getattribute.bind (.ref z);have r:=rQ;unfold getAttr? getAttrBy? getAttrBy
 repeat (any_goals (first | assumption | exact j _ | ((with_reducible show wpAny _ _ (call (Value.builtin "zip.__getattribute__") _ _) _ _ _);refine a5o F.slot_zip_getattribute (j _) xM (F.args_zip_getattribute_2 _ _) (m _) ⟨hz,l,λh' c e a=>?_⟩) | wp_step))
 obtain⟨t,v,x⟩:=a.there;show wpAny _ _ (getattributeRaised _ _ _ _ _ _ _) _ _ _;unfold getattributeRaised hookOrError attributeErrorLeaves
 repeat (any_goals (first | assumption | wp_step))
 exact h _ _ a.keeps
structure ZD(h0:Heap)(N l1 l2:Addr)(xs ys:Array Value)(i:Nat)(h:Heap):Prop where
 keep:∀ b o,h0.get? b=some o->h.get? b=some o
 st:IsZip h (N+4) (N+2) (N+3) .none\/∃ T b o,aG2 h (N+4) (N+2) (N+3) T b/\h.get? T=some o/\N+6<=T
 ti:IsPair h (N+2) (.ref N) (.ref (N+1))
 to:∃ a b,IsPair h (N+3) a b
 i1:h.IsListIter N l1 i
 i2:h.IsListIter (N+1) l2 i
 sz:N+6<=h.objs.size
def ZD.move{h0 h h':Heap}{N l1 l2:Addr}{xs ys:Array Value}{i:Nat}(J:ZD h0 N l1 l2 xs ys i h)(l:h0.objs.size=N)(hs:Heap.SameBut (N+5) h h'):ZD h0 N l1 l2 xs ys i h':=by
 have k:∀ {b:Addr} {o:Obj},b≠N+5->h.get? b=some o->h'.get? b=some o:=λhb e=>(hs.2 _ hb).trans e;have c:∀ j,j < 5->N+j≠N+5:=λj hj=>by unfold Addr at *;lia
 refine⟨λb o e=>k (by have:=a5a e;unfold Addr at *;lia) (J.keep b o e),?_,k (c 2 (by unfold Addr at *;lia)) J.ti,?_,J.i1.at λo e=>k (c 0 (by unfold Addr at *;lia)) e,J.i2.at λo e=>k (c 1 (by unfold Addr at *;lia)) e,by rw[hs.1];exact J.sz⟩;rcases J.st with f | ⟨T,b,o,f,m,d⟩;exact .inl (k (c 4 (by unfold Addr at *;lia)) f);exact .inr ⟨T,b,o,k (c 4 (by unfold Addr at *;lia)) f,k (λz=>by subst z;exact absurd d (by unfold Addr at *;lia)) m,d⟩;obtain⟨a,b,g⟩:=J.to;exact⟨a,b,k (c 3 (by unfold Addr at *;lia)) g⟩
variable{κ:Type}[DecidableEq κ]{knd:KeyKind prog w κ}{R:Result->Shared->Prop}
def dzl{h0:Heap}{N l1 l2:Addr}{xs ys:Array Value}(U:A.handled=none)(g:h0.objs.size=N)(h:h0.IsList l1 xs)(j:h0.IsList l2 ys)(X:ys.size=xs.size)(prs:List (κ×Value))(hn:prs.length=xs.size)(hsz:xs.size < 4000)
  (Y:∀ (i:Nat) p,prs[i]? = some p->∃ u,xs[i]? = some u/\ys[i]? = some p.2/\knd.is p.1 u=true) :
  ∀ (k i:Nat) (c:Tok) (s:Shared) (kvs:List (κ×Value)),i+k=xs.size->ZD h0 N l1 l2 xs ys i s.heap->s.heap.DictOf knd (N+5) kvs->kvs.length<=i ->
    (∀ h' tk,h'.DictOf knd (N+5) ((prs.drop i).foldl (λl p=>stored l p.1 p.2) kvs)->(∀ b o,h0.get? b=some o->h'.get? b=some o)->R (.ok (.ret .none)) {s with heap:=h',toks:=tk}) ->
    codeAny (model prog w) A (.builtin "dict.update.loop" ⟨[.ref (N+5),.ref (N+4),.int i c,.none],[]⟩) R s:=by
 have C:l1 < N:=by obtain⟨_,e,_⟩:=h;rw[← g];exact a5a e
 have E:l2 < N:=by obtain⟨_,e,_⟩:=j;rw[← g];exact a5a e
 have D:=aO0 C E;intro k
 induction k with
 | zero=>
   intro i c s kvs n J F Z q;have hi:i=xs.size:=n;refine a4O xC ?_;rw[a4f mB _];have t:s.heap.IsList l1 xs:=h.at λo e=>J.keep _ o e;have L2:s.heap.IsList l2 ys:=j.at λo e=>J.keep _ o e;have f:xs[i]? = none\/ys[i]? = none:=.inl (Array.getElem?_eq_none (by unfold Addr at *;lia));rw[List.drop_of_length_le (by unfold Addr at *;lia)]at q;have fin:∀ h':Heap,(∀ c o,c≠N+4->c≠N+3->c≠N->c≠N+1->s.heap.get? c=some o->h'.get? c=some o)->R (.ok (.ret .none)) {s with heap:=h',toks:=s.toks}:=λh' z=>by
    refine q h' s.toks ?_ λb o e=>?_;obtain⟨o,es,ep,G,r⟩:=F;exact⟨o,es,ep,z _ o (by unfold Addr at *;lia) (by unfold Addr at *;lia) (by unfold Addr at *;lia) (by unfold Addr at *;lia) G,r⟩;have:=a5a e;exact z b o (by unfold Addr at *;lia) (by unfold Addr at *;lia) (by unfold Addr at *;lia) (by unfold Addr at *;lia) (J.keep b o e)
   (show wpAny _ A.in1 (pyNext (.ref (N+4)) >>= _) _ _ s)
   refine a4x ?_;rcases J.st with m | ⟨T,b,o,m,B,y⟩;obtain⟨a,b,d⟩:=J.to;exact wpAny_pyNext_zip_end U D m J.ti d J.i1 J.i2 t L2 f λh' n=>a4x (a4y (a4y (fin h' n)));exact aN7 U D m B J.ti J.i1 J.i2 t L2 f λh' n=>a4x (a4y (a4y (fin h' λc o H _ I K e=>n c o H I K e)))
 | succ k ih=>
   intro i c s kvs n J F Z q;have hi:i < xs.size:=by lia
   refine a4O xC ?_;rw[a4f mB _];have t:s.heap.IsList l1 xs:=h.at λo e=>J.keep _ o e;have L2:s.heap.IsList l2 ys:=j.at λo e=>J.keep _ o e;have ep:prs[i]? = some prs[i]:=a1a (by unfold Addr at *;lia);obtain⟨u,V,W,hu⟩:=Y i _ ep;have sz:=J.sz;have ed:prs.drop i=prs[i]::prs.drop (i+1):=List.drop_eq_getElem_cons (by unfold Addr at *;lia)
   (show wpAny _ A.in1 (pyNext (.ref (N+4)) >>= _) _ _ s)
   refine a4x (a4M (Q:=λv s'=>∃ h',v=some (.ref s.heap.objs.size)/\s'={s with heap:=h'}/\(∃ T b o,aG2 h' (N+4) (N+2) (N+3) T b/\h'.get? T=some o/\N+6<=T)/\(∃ a b,IsPair h' (N+3) a b)/\h'.IsListIter N l1 (i+1)/\h'.IsListIter (N+1) l2 (i+1)/\IsPair h' s.heap.objs.size u prs[i].2 /\
     h'.objs.size=s.heap.objs.size+1/\∀ c o,c≠N+4->c≠N+3->c≠N->c≠N+1->s.heap.get? c=some o->h'.get? c=some o) ?_ ?_ λ_ _ e=>e)
   ·rcases J.st with m | ⟨T,b,o,m,B,y⟩;obtain⟨a,b,d⟩:=J.to;exact wpAny_pyNext_zip_item D m J.ti d J.i1 J.i2 t L2 V W λh' a1 a2 a3 a4 a5 a6 a7=>⟨h',rfl,rfl,⟨_,false,_,a1,a5,sz⟩,⟨_,_,a2⟩,a3,a4,a5,a6,a7⟩;obtain⟨a,b',d⟩:=J.to;refine aG3 D m B J.ti J.i1 J.i2 t L2 V W λh' a1 a3 a4 a5 a6 a7=>⟨h',rfl,rfl,⟨T,true,o,a1,a7 T o (by unfold Addr at *;lia) (by unfold Addr at *;lia) (by unfold Addr at *;lia) B,y⟩,⟨a,b',a7 _ _ (by unfold Addr at *;lia) (by unfold Addr at *;lia) (by unfold Addr at *;lia) d⟩,a3,a4,a5,a6,λc o H _ I K e=>a7 c o H I K e⟩
   ·rintro _ _ ⟨L,rfl,rfl,z1,z2,z3,z4,z5,z6,M⟩;have O:L.DictOf knd (N+5) kvs:=let ⟨o,es,ep,G,r⟩:=F;⟨o,es,ep,M _ o (by unfold Addr at *;lia) (by unfold Addr at *;lia) (by unfold Addr at *;lia) (by unfold Addr at *;lia) G,r⟩
    have J2:ZD h0 N l1 l2 xs ys (i+1) L:=⟨λb o e=>by
     have:=a5a e;exact M b o (by unfold Addr at *;lia) (by unfold Addr at *;lia) (by unfold Addr at *;lia) (by unfold Addr at *;lia) (J.keep b o e),.inr z1,M _ _ (by unfold Addr at *;lia) (by unfold Addr at *;lia) (by unfold Addr at *;lia) (by unfold Addr at *;lia) J.ti,z2,z3,z4,(by unfold Addr at *;lia)⟩
    refine a4x (a4C (a4x (wpAny_tryCatch (aI0 (s:={s with heap:=L}) (a:=s.heap.objs.size) (u:=u) (x:=prs[i].2) ⟨_,z5,rfl,_,rfl⟩ ?_))));dsimp only;refine a4C (wpAny_dictSet_pairs (hsz:=by unfold sizeLine;lia) hu O λh3 P S=>?_);refine a4y ⟨a4U mB _,?_⟩;refine ih (i+1) 0 _ _ (by unfold Addr at *;lia) (J2.move g S) P (a5e (aI1 ..) (by unfold Addr at *;lia)) λh' tk dn kn=>q h' tk (by rw[ed];exact dn) kn
def xN{s:Shared}{h0:Heap}{l1 l2:Addr}{xs ys:Array Value}{prs:List (κ×Value)}{Q:Value->Shared->Prop}(y:A.handled=none)(h:h0.IsList l1 xs)(j:h0.IsList l2 ys)(m:ys.size=xs.size)(hn:prs.length=xs.size)(hsz:xs.size < 4000)
  (z:∀ (i:Nat) p,prs[i]? = some p->∃ u,xs[i]? = some u/\ys[i]? = some p.2/\knd.is p.1 u=true)
  (hz:IsZip s.heap (h0.objs.size+4) (h0.objs.size+2) (h0.objs.size+3) .none) (ti:IsPair s.heap (h0.objs.size+2) (.ref h0.objs.size) (.ref (h0.objs.size+1))) (to:IsPair s.heap (h0.objs.size+3) .none .none)
  (i1:s.heap.IsListIter h0.objs.size l1 0) (i2:s.heap.IsListIter (h0.objs.size+1) l2 0) (hs:s.heap.objs.size=h0.objs.size+5) (B:∀ b o,h0.get? b=some o->s.heap.get? b=some o)
  (q:∀ h' tk,h'.DictOf knd (h0.objs.size+5) (prs.foldl (λl p=>stored l p.1 p.2) [])->(∀ b o,h0.get? b=some o->h'.get? b=some o)->Q (.ref (h0.objs.size+5)) {s with heap:=h',toks:=tk}) :
  wpAny (model prog w) A (call (.type "dict") [.ref (h0.objs.size+4)]) Q E s:=by
 refine callType_codes (Q₁:=λobj s₁=>obj=.ref s.heap.objs.size/\s₁={s with heap:=s.heap.push {cls:=.type "dict",data:=.dict #[]}}) F.kt_called_dict (F.kt_typeCall_dict_1 _) F.entry_dict_init (kt_code_dict_new _ ⟨rfl,rfl⟩) ?_;rintro obj s₁ ⟨rfl,rfl⟩;have a:(s.heap.push {cls:=.type "dict",data:=.dict #[]}).DictOf knd s.heap.objs.size []:=Heap.DictOf.new s.heap;have c:∀ b o,s.heap.get? b=some o->(s.heap.push {cls:=.type "dict",data:=.dict #[]}).get? b=some o:=λb o e=>a2a _ e;refine⟨a.typeIs,F.args_dict_init_2 _ _,?_⟩;have n:Shared.TypeIs {s with heap:=s.heap.push {cls:=.type "dict",data:=.dict #[]}} (.ref (h0.objs.size+4)) "zip":=⟨_,c _ _ hz,rfl⟩;unfold Builtin.«dict.__init__» Builtin.Dict.selfAndRest;refine a4x (a4x (wpAny_notOrdered_dict a.typeIs (a4y ?_)));show wpAny _ _ (Builtin.Dict.updateFrom "dict.__init__" s.heap.objs.size (.ref (h0.objs.size+4)) [] .none) _ _ _;unfold Builtin.Dict.updateFrom;refine a4x (a5k n ?_);rw[a4A (by decide)];refine a4x (aJ2 (c _ _ hz) y λg t v=>?_);rw[a4A (by rfl)];refine a4x (a4I (a4x (wpAny_pyIter_zip (s:=⟨g,s.gens,s.drawn,t,s.os⟩) (v _ _ (c _ _ hz)) ?_)));refine a4y ⟨a4U mB _,?_⟩;have d:g.DictOf knd s.heap.objs.size []:=let ⟨o,es,ep,x,r⟩:=a;⟨o,es,ep,v _ o x,r⟩
 rw[hs]at d ⊢;have big:h0.objs.size+6<=g.objs.size:=by obtain⟨o,es,ep,x,_⟩:=d;exact a5a x
 have f:∀ {b:Addr} {o:Obj},s.heap.get? b=some o->g.get? b=some o:=λe=>v _ _ (c _ _ e);exact dzl (A:=A.in1) (N:=h0.objs.size) y rfl h j m prs hn hsz z xs.size 0 0 _ [] (a9e _) ⟨λb o e=>f (B b o e),.inl (f hz),f ti,⟨_,_,f to⟩,i1.at λo e=>f e,i2.at λo e=>f e,big⟩ d (a8a _) λh' tk C k=>⟨rfl,q h' tk C k⟩
end
def cA0:List V->Hp->VK->Prop:=λvs H Q=>∃ (p q:Addr) (zs:List Str) (ys:List V),vs=[.ref p,.ref q]/\H p=some (.lst (zs.map V.str))/\H q=some (.lst ys)/\zs.length=ys.length/\zs.length < 4000/\zs.Nodup/\∀ d,H d=none->Q (.ref d) (upd H d (.dK (sR (zs.zip ys))))
theorem cA1{prog:Program}{w:World}:∀ {c:List Str} {ys:List V} {us ws:List Value},bW (c.map V.str) us->bW ys ws->c.length=ys.length->∃ rs:List (Key×Value),KV (sR (c.zip ys)) rs/\rs.length=us.length/\∀ (i:Nat) p,rs[i]? = some p->∃ u,us[i]? = some u/\ws[i]? = some p.2/\(bQ prog w).is p.1 u=true
 | [],[],_,_,.nil,.nil,_=>⟨[],.nil,rfl,λi p h=>by simp at h⟩
 | z::c,y::ys,_,_,.cons a t,.cons b e,h=>by
   obtain⟨rs,f,g,j⟩:=cA1 (prog:=prog) (w:=w) t e (by simpa using h);refine⟨(.inr z,_)::rs,.cons ⟨rfl,b⟩ f,by simp[g],λi p d=>?_⟩;cases i with
   | zero=>simp at d;subst d;exact⟨_,rfl,rfl,cE1 (k:=.inr z) a⟩
   | succ i=>exact j i p (by simpa using d)
def aJ3{X:Cx}(E:X.calm=true):∀ pins s σ H vs us Q,Inv X pins σ H s->bW vs us->cA0 vs H Q ->
  wpAny (model X.prog X.w) X.A (call (.type "zip") us) (λu s1=>wpAny (model X.prog X.w) X.A (call (.type "dict") [u]) (EP X pins σ Q) X.xe s1) X.xe s:=by
 intro pins s σ H vs us Q I F h;obtain⟨p,q,e,ys,rfl,j,G,J,Y,l,k⟩:=h;obtain⟨u,v,rfl,K,m⟩:=F.two;cases K;cases m;obtain⟨Z,c,n1,C,cL8,L⟩:=I.lstM j;obtain⟨z2,d,n2,D,dJ4,M⟩:=I.lstM G;have l1:c.length=e.length:=by rw[← C.length,a3e]
 have l2:d.length=ys.length:=D.length.symm;have f:s.heap.IsList p c.toArray:=⟨_,L,rfl,_,rfl⟩;have g:s.heap.IsList q d.toArray:=⟨_,M,rfl,_,rfl⟩;obtain⟨rs,N,O,P⟩:=cA1 (prog:=X.prog) (w:=X.w) C D J;refine call_zip_2 f g λR o r t x y B S=>?_;refine xN (h0:=s.heap) (s:={s with heap:=R}) (knd:=bQ X.prog X.w) (prs:=rs) (I.ok.hd E) f g (by simp only[List.size_toArray];lia) (by rw[a6a];exact O) (by rw[a6a];lia) (λi p j=>by simpa using P i p j) o r t x y B S λh' tk T U=>?_;have W:((sR (e.zip ys)).map Prod.fst).Nodup:=by
  have:(sR (e.zip ys)).map Prod.fst=e.map Sum.inr:=by
   unfold sR;rw[List.map_map,show((Prod.fst:Key×V->Key) ∘ λ(p:Str×V)=>((Sum.inr p.1:Key),p.2))=Sum.inr ∘ Prod.fst from rfl,← List.map_map,List.map_fst_zip (by lia)]
  rw[this];exact List.Pairwise.map _ (λa b n z=>n (by injection z)) l
 have em:=sQ (sR (e.zip ys)) [] (by simpa using W);rw[List.nil_append]at em;have hm:(rX [] (sR (e.zip ys))).length<=sizeLine:=by
  rw[em,a4P];unfold sR;rw[a3e,List.length_zip];lia
 refine⟨.ref (s.heap.objs.size+5),upd H (s.heap.objs.size+5) (.dK (rX [] (sR (e.zip ys)))),I.laid (t':=tk) U (Nat.le_add_right _ _) (cS0 hm ?_ (N.merge .nil) T),rfl,?_⟩;have:=I.big;exact beq_eq_false_iff_ne.mpr (a9h (a9b this (Nat.le_add_right _ _)));rw[em];exact k _ (I.hok.fresh (Nat.le_add_right _ _))
end L2
namespace Dv
open PySem L2 Mr
noncomputable def aY0:FN:=λds=>match ds with
 | [.lst l,.lst m]=>(uG l).bind λzs=>if zs.length=m.length/\zs.length < 4000/\zs.Nodup then some (.own (.dic l m))else none
 | _=>none
def aY1:dG0 cA0 aY0:=by
 intro H ds vs Q res ow e k;unfold aY0 at e;split at e
 ·rename_i l m;obtain⟨c,o,e⟩:=bind_some e;split at e
  ·rename_i f;cases e;cases ow with
   | cons a t=>
     cases t with
     | cons b t=>
       cases t;obtain⟨xs,h,i⟩:=iD a;obtain⟨ys,q,j⟩:=iD b;have n:=pA o;rw[n]at i;rw[i.strs_inv]at h;have r:c.length=ys.length:=by rw[← j.length];exact f.1
       refine⟨_,_,c,ys,rfl,h,q,r,f.2.1,f.2.2,λd hd=>k _ _ (bE hd) ⟨d,rfl,hd,_,(sR (c.zip ys)).map (·.2),aQ,⟨?_,rfl⟩,?_⟩⟩;rw[n];unfold sR;rw[List.map_map,show((λg:Key×V=>xV g.1) ∘ λ(p:Str×V)=>((Sum.inr p.1:Key),p.2))=D.str ∘ Prod.fst from rfl,← List.map_map,List.map_fst_zip (by lia)];unfold sR;rw[List.map_map,show((λg:Key×V=>g.2) ∘ λ(p:Str×V)=>((Sum.inr p.1:Key),p.2))=Prod.snd from rfl,List.map_snd_zip (by lia)];exact j.mono (.same (bE hd))
  ·cases e
 ·cases e
end Dv
namespace So
open PySem PySem.W PyProof.Rows
structure Cm(M:Model)(A:Around)(s:Shared)(κ:SortKind)(G:Keyed->Prop)(c:Keyed->Keyed->Bool):Prop where
 lt:∀ {x y:Keyed} {E:Value->Shared->Prop} {Q:Bool->Shared->Prop},G x->G y->Q (c x y) s->wpAny M A (keyLt' κ x.1 y.1) Q E s
 ir:∀ x,c x x=false
 tr:∀ {x y z},c x y=true->c y z=true->c x z=true
section
variable{M:Model}{A:Around}{E:Value->Shared->Prop}{s:Shared}{κ:SortKind}{G:Keyed->Prop}{c:Keyed->Keyed->Bool}
def aY2(C:Cm M A s κ G c){x y:Keyed}{st:SortSt}{Q:Option Bool->SortSt->Prop}(a:kindOf st=κ)(b:G x)(d:G y)(q:Q (some (c x y)) st):wpS M A E s (lt' x y) Q st:=by
 rw[lt'_eq];refine wpS_bind (wpS_get (wpS_bind (wpS_lift (a5m ?_))));rw[a];exact C.lt b d ⟨rfl,wpS_pure q⟩
def bV{a:Array Keyed}{i:Nat}{x:Keyed}{st:SortSt}{Q:Keyed->SortSt->Prop}(h:a[i]? = some x)(q:Q x st):wpS M A E s (elem' a i) Q st:=by
 rw[elem'_eq,h];exact wpS_pure q
def nH(C:Cm M A s κ G c){i j:Nat}{x y:Keyed}{st:SortSt}{Q:Option Bool->SortSt->Prop}(a:kindOf st=κ)(hi:(arrOf st)[i]? = some x)(hj:(arrOf st)[j]? = some y)(b:G x)(d:G y)(q:Q (some (c x y)) st):wpS M A E s (ltAt' i j) Q st:=by
 rw[ltAt'_eq];refine wpS_bind (wpS_get ?_);exact wpS_bind (bV hi (wpS_bind (bV hj (aY2 C a b d q))))
noncomputable def zE:Bool->Keyed->Array Keyed->Nat->Nat->Nat->StateT SortSt Sem (Option Nat):=sortPriv% PySem.Builtin.gallop
def aY3(C:Cm M A s κ G c){left:Bool}{m:Keyed}{y:Array Keyed}{base n hint:Nat}{st:SortSt}{Q:Option Nat->SortSt->Prop}(D:kindOf st=κ)(be:Nat->Bool)
  (hb:∀ i,i < n->∃ x,y[base+i]? = some x/\G x/\be i=if left then c x m else !c m x) (F:G m) (hm:∀ i j,i<=j->j < n->be j=true->be i=true) (H:hint < n)
  (q:∀ k,k<=n->(∀ i,i < k->be i=true)->(∀ i,k<=i->i < n->be i=false)->Q (some k) st):wpS M A E s (zE left m y base n hint) Q st:=by
 have p:∀ i j,i<=j->j < n->be i=false->be j=false:=λi j d h b=>by
  cases e:be j with
  | false=>rfl
  | true=>rw[hm i j d h e]at b;cases b
 have t:∀ (i:Nat) (Q:Option Bool->SortSt->Prop),i < n->Q (some (be i)) st->wpS M A E s (do let x ← elem' y (base+i);if left then lt' x m else return (← lt' m x).map (!·)) Q st:=λi Q hi q=>by
  obtain⟨x,e,g,B⟩:=hb i hi;refine wpS_bind (bV e ?_);cases left with
  | true=>exact aY2 C D g F (by simp only[if_true]at B;rw[← B];exact q)
  | false=>exact wpS_bind (aY2 C D F g (wpS_pure (by simp at B;rw[B]at q;exact q)))
 refine wpS_bind (t hint _ H ?_);dsimp only;cases I:be hint with
 | true=>
   rw[a4A rfl];refine wpS_bind (wpS_mono (wpS_forRange (λi (r:Option (Option Nat)×Nat×Nat) st'=>st=st'/\r.1=none/\r.2.1 < r.2.2/\i<=r.2.1/\hint+r.2.1 < n/\be (hint+r.2.1)=true)
    (Q:=λr st'=>st=st'/\r.1=none/\(∀ i,i < hint+r.2.1+1->be i=true)/\(∀ i,hint+min r.2.2 (n-hint)<=i->i < n->be i=false)/\hint+r.2.1+1<=hint+min r.2.2 (n-hint)/\hint+min r.2.2 (n-hint)<=n) ?_ ?_ ⟨rfl,rfl,Nat.zero_lt_one,a8a _,H,I⟩) ?_)
   ·rintro i ⟨o,l,f⟩ st'-hi ⟨rfl,rfl,d,h,b,a⟩;dsimp only at d h b a ⊢;split;refine wpS_pure ⟨rfl,rfl,?_⟩;dsimp only;exact⟨λi hi=>hm i _ (by lia) b a,λi u w=>by lia,by lia,by lia⟩;refine wpS_bind (t (hint+f) _ (by lia) ?_);dsimp only;cases v:be (hint+f)<;>refine wpS_pure ⟨rfl,rfl,?_⟩<;>dsimp only;exact⟨λi hi=>hm i _ (by lia) b a,λi u w=>p (hint+f) i (by lia) w v,by lia,by lia⟩;exact⟨by lia,by lia,by lia,v⟩
   ·rintro⟨o,l,f⟩ st' ⟨rfl,rfl,d,h,b,a⟩;dsimp only at d h b a;lia
   rintro⟨o,l,f⟩ st' ⟨rfl,rfl,d,h,b,a⟩;dsimp only at d h b a ⊢;generalize hint+l+1=lo at d b ⊢;generalize hint+min f (n-hint)=hi at h b a ⊢;refine wpS_bind (wpS_mono (wpS_forRange (λi (r:Option (Option Nat)×Nat×Nat) st'=>st=st'/\r.1=none/\(∀ i,i < r.2.1->be i=true)/\(∀ i,r.2.2<=i->i < n->be i=false)/\r.2.1<=r.2.2/\r.2.2<=n/\r.2.2+i<=n+r.2.1)
    (Q:=λr st'=>st=st'/\r.1=none/\(∀ i,i < r.2.1->be i=true)/\(∀ i,r.2.2<=i->i < n->be i=false)/\r.2.1=r.2.2/\r.2.2<=n) ?_ ?_ ⟨rfl,rfl,d,h,b,a,by dsimp only;lia⟩) ?_)
   ·rintro i ⟨o,l,f⟩ st'-hi ⟨rfl,rfl,d,h,b,a,z⟩;dsimp only at d h b a z ⊢;split;exact wpS_pure ⟨rfl,rfl,d,h,by dsimp only;lia,a⟩;refine wpS_bind (t _ _ (by lia) ?_);dsimp only;cases v:be (l+(f-l) / 2)<;>refine wpS_pure ⟨rfl,rfl,?_⟩<;>dsimp only;exact⟨d,λi u w=>p _ i u w v,by lia,by lia,by lia⟩;exact⟨λi u=>hm i _ (by lia) (by lia) v,h,by lia,a,by lia⟩
   ·rintro⟨o,l,f⟩ st' ⟨rfl,rfl,d,h,b,a,z⟩;exact⟨rfl,rfl,d,h,by dsimp only at b a z ⊢;lia,a⟩
   rintro⟨o,l,f⟩ st' ⟨rfl,rfl,d,h,b,a⟩;dsimp only at d h b a ⊢;subst b;exact wpS_pure (q _ a d h)
 | false=>
   rw[a4z (by decide)];refine wpS_bind (wpS_mono (wpS_forRange (λi (r:Option (Option Nat)×Nat×Nat) st'=>st=st'/\r.1=none/\r.2.1 < r.2.2/\i<=r.2.1/\r.2.1<=hint/\be (hint-r.2.1)=false)
    (Q:=λr st'=>st=st'/\r.1=none/\(∀ i,i < hint+1-min r.2.2 (hint+1)->be i=true)/\(∀ i,hint-r.2.1<=i->i < n->be i=false)/\hint+1-min r.2.2 (hint+1)<=hint-r.2.1/\hint-r.2.1<=n) ?_ ?_ ⟨rfl,rfl,Nat.zero_lt_one,a8a _,a4e _,I⟩) ?_)
   ·rintro i ⟨o,l,f⟩ st'-hi ⟨rfl,rfl,d,h,b,a⟩;dsimp only at d h b a ⊢;split;refine wpS_pure ⟨rfl,rfl,?_⟩;dsimp only;exact⟨λi hi=>by lia,λi u w=>p _ i u w a,by lia,by lia⟩;refine wpS_bind (t (hint-f) _ (by lia) ?_);dsimp only;cases v:be (hint-f)<;>refine wpS_pure ⟨rfl,rfl,?_⟩<;>dsimp only;exact⟨by lia,by lia,by lia,v⟩;exact⟨λi hi=>hm i (hint-f) (by lia) (by lia) v,λi u w=>p _ i u w a,by lia,by lia⟩
   ·rintro⟨o,l,f⟩ st' ⟨rfl,rfl,d,h,b,a⟩;dsimp only at d h b a;lia
   rintro⟨o,l,f⟩ st' ⟨rfl,rfl,d,h,b,a⟩;dsimp only at d h b a ⊢;generalize hint+1-min f (hint+1)=lo at d b ⊢;generalize hint-l=hi at h b a ⊢;refine wpS_bind (wpS_mono (wpS_forRange (λi (r:Option (Option Nat)×Nat×Nat) st'=>st=st'/\r.1=none/\(∀ i,i < r.2.1->be i=true)/\(∀ i,r.2.2<=i->i < n->be i=false)/\r.2.1<=r.2.2/\r.2.2<=n/\r.2.2+i<=n+r.2.1)
    (Q:=λr st'=>st=st'/\r.1=none/\(∀ i,i < r.2.1->be i=true)/\(∀ i,r.2.2<=i->i < n->be i=false)/\r.2.1=r.2.2/\r.2.2<=n) ?_ ?_ ⟨rfl,rfl,d,h,b,a,by dsimp only;lia⟩) ?_)
   ·rintro i ⟨o,l,f⟩ st'-hi ⟨rfl,rfl,d,h,b,a,z⟩;dsimp only at d h b a z ⊢;split;exact wpS_pure ⟨rfl,rfl,d,h,by dsimp only;lia,a⟩;refine wpS_bind (t _ _ (by lia) ?_);dsimp only;cases v:be (l+(f-l) / 2)<;>refine wpS_pure ⟨rfl,rfl,?_⟩<;>dsimp only;exact⟨d,λi u w=>p _ i u w v,by lia,by lia,by lia⟩;exact⟨λi u=>hm i _ (by lia) (by lia) v,h,by lia,a,by lia⟩
   ·rintro⟨o,l,f⟩ st' ⟨rfl,rfl,d,h,b,a,z⟩;exact⟨rfl,rfl,d,h,by dsimp only at b a z ⊢;lia,a⟩
   rintro⟨o,l,f⟩ st' ⟨rfl,rfl,d,h,b,a⟩;dsimp only at d h b a ⊢;subst b;exact wpS_pure (q _ a d h)
end
abbrev Srt(c:Keyed->Keyed->Bool)(l:List Keyed):Prop:=l.Pairwise λx y=>c x y=true
structure Mg(c:Keyed->Keyed->Bool)(la lb out:List Keyed)(i j:Nat):Prop where
 pm:out.Perm (la.take i++lb.take j)
 so:Srt c out
 le:∀ o∈out,∀ x∈la.drop i++lb.drop j,c o x=true
 hi:i<=la.length
 hj:j<=lb.length
def Rs(c:Keyed->Keyed->Bool)(la lb l:List Keyed):Prop:=l.Perm (la++lb)/\Srt c l
section
variable{c:Keyed->Keyed->Bool}{la lb out:List Keyed}{i j:Nat}
def Mg.len(m:Mg c la lb out i j):out.length=i+j:=by
 have:=m.pm.length_eq;have:=m.hi;have:=m.hj;simp at *;lia
theorem Mg.symm(m:Mg c la lb out i j):Mg c lb la out j i:=
 ⟨m.pm.trans List.perm_append_comm,m.so,λo b x a=>m.le o b x (by simp at a ⊢;exact a.symm),m.hj,m.hi⟩
def Mg.left(m:Mg c la lb out i j)(sa:Srt c la){k:Nat}(d:i+k<=la.length)(h:∀ x∈(la.drop i).take k,∀ y∈lb.drop j,c x y=true):Mg c la lb (out++(la.drop i).take k) (i+k) j:=by
 have s1:Srt c ((la.drop i).take k++(la.drop i).drop k):=by rw[List.take_append_drop];exact sa.sublist (List.drop_sublist _ _)
 obtain⟨s2,f,e⟩:=List.pairwise_append.mp s1;refine⟨?_,List.pairwise_append.mpr ⟨m.so,s2,λo a x b=>m.le o a x (a7c.mpr (.inl (a7g b)))⟩,λo a x b=>?_,d,m.hj⟩;rw[List.take_add];refine(m.pm.append_right _).trans ?_;rw[List.append_assoc,List.append_assoc];exact List.Perm.append_left _ List.perm_append_comm;rw[a7c]at b a;rcases a with a | a;refine m.le o a x (a7c.mpr (b.imp (λz=>?_) id));rw[← List.drop_drop]at z;exact List.mem_of_mem_drop z;rcases b with b | b;exact e o a x (by rw[List.drop_drop];exact b);exact h o a x b
def Mg.right(m:Mg c la lb out i j)(sb:Srt c lb){k:Nat}(a:j+k<=lb.length)(h:∀ x∈(lb.drop j).take k,∀ y∈la.drop i,c x y=true):Mg c la lb (out++(lb.drop j).take k) i (j+k):=(m.symm.left sb a h).symm
def Mg.done(m:Mg c la lb out i j)(sa:Srt c la)(sb:Srt c lb)(h:i=la.length\/j=lb.length):Rs c la lb (out++la.drop i++lb.drop j):=by
 rcases h with rfl | rfl;have:=m.right sb (k:=lb.length-j) (by have:=m.hj;lia) (λx _ y a=>by simp at a);have e:(lb.drop j).take (lb.length-j)=lb.drop j:=a2d (by simp);rw[e]at this;refine⟨?_,?_⟩;have p:=this.pm;rw[a2d (l:=lb) (by lia),List.take_length]at p;simpa using p;simpa using this.so;have:=m.left sa (k:=la.length-i) (by have:=m.hi;lia) (λx _ y a=>by simp at a);have e:(la.drop i).take (la.length-i)=la.drop i:=a2d (by simp);rw[e]at this;refine⟨?_,?_⟩;have p:=this.pm;rw[a2d (l:=la) (by lia),List.take_length]at p;simpa using p;simpa using this.so
def Mg.last(m:Mg c la lb out i j)(sa:Srt c la)(sb:Srt c lb)(h:i+1=la.length)(d:∀ x∈la.drop i,∀ y∈lb,c y x=true):Rs c la lb (out++lb.drop j++la.drop i):=by
 have a:=m.right sb (k:=lb.length-j) (by have:=m.hj;lia) (λx f y g=>d y g x (List.mem_of_mem_drop (a7g f)));have e:(lb.drop j).take (lb.length-j)=lb.drop j:=a2d (by simp);rw[e]at a;have b:j+(lb.length-j)=lb.length:=by have:=m.hj;lia
 have:=a.done sa sb (.inr b);rw[b,List.drop_length,a6f]at this;exact this
def jP{l:List Keyed}{i:Nat}{x:Keyed}(h:l[i]? = some x):l.drop i=x::l.drop (i+1):=by
 obtain⟨a,rfl⟩:=a0a.mp h;exact List.drop_eq_getElem_cons a
def mI{l:List Keyed}{i:Nat}{x:Keyed}(h:l[i]? = some x)(s:Srt c l):∀ y∈l.drop i,y=x\/c x y=true:=by
 have:=s.sublist (List.drop_sublist i l);rw[jP h]at this ⊢;exact λy a=>(a2b.mp a).imp id λz=>(a9f.mp this).1 y z
end
section
variable{M:Model}{A:Around}{E:Value->Shared->Prop}{s:Shared}{κ:SortKind}{G:Keyed->Prop}{c:Keyed->Keyed->Bool}
noncomputable def bH5:Array Keyed->Array Keyed->StateT SortSt Sem (Array Keyed):=sortPriv% PySem.Builtin.mergeLo
noncomputable def cJ6:Nat->StateT SortSt Sem Unit:=sortPriv% PySem.Builtin.setMinGallop
structure Like(st st':SortSt):Prop where
 k:kindOf st'=kindOf st
 a:arrOf st'=arrOf st
 p:pendingOf st'=pendingOf st
 f:failedOf st'=failedOf st
def Like.rfl'{st:SortSt}:Like st st:=⟨rfl,rfl,rfl,rfl⟩
theorem Like.trans{a b d:SortSt}(x:Like a b)(y:Like b d):Like a d:=⟨y.k.trans x.k,y.a.trans x.a,y.p.trans x.p,y.f.trans x.f⟩
def mJ{g:Nat}{st:SortSt}{Q:Unit->SortSt->Prop}(q:∀ st',Like st st'->Q () st'):wpS M A E s (cJ6 g) Q st:=wpS_modify (q _ ⟨rfl,rfl,rfl,rfl⟩)
theorem Cm.as(C:Cm M A s κ G c){x y:Keyed}(h:c x y=true):c y x=false:=by
 cases e:c y x with
 | false=>rfl
 | true=>have:=C.tr h e;rw[C.ir]at this;cases this
def rR{a:Array Keyed}{i:Nat}(h:i < a.size):∃ x,a[i]? = some x/\a.toList[i]? = some x/\x∈a.toList:=⟨a[i],by simp[h],by simp[h],by simp⟩
def mK{l:List Keyed}{i k:Nat}{x:Keyed}(h:x∈(l.drop i).take k):∃ j,j < k/\l[i+j]? = some x:=by
 obtain⟨j,hj⟩:=List.getElem?_of_mem h;rw[List.getElem?_take]at hj;split at hj;rename_i a;rw[List.getElem?_drop]at hj;exact⟨j,a,hj⟩;cases hj
def uY{l:List Keyed}{i:Nat}{x:Keyed}(h:x∈l.drop i):∃ j,i<=j/\j < l.length/\l[j]? = some x:=by
 obtain⟨j,hj⟩:=List.getElem?_of_mem h;rw[List.getElem?_drop]at hj;exact⟨i+j,by lia,(a0a.mp hj).1,hj⟩
def zF(C:Cm M A s κ G c){left:Bool}{key:Keyed}{a:Array Keyed}{b n hint:Nat}{L:List Keyed}{st:SortSt}{Q:Option Nat->SortSt->Prop}(w:kindOf st=κ)(z:(a.toList.drop b).take n=L)(hn:L.length=n)(B:∀ x∈L,G x)(D:G key)(F:Srt c L)
  (hd:∀ x∈L,c x key=true\/c key x=true) (H:hint < n) (q:∀ k,k<=n->(∀ x∈L.take k,c x key=true)->(∀ x∈L.drop k,c key x=true)->Q (some k) st):wpS M A E s (zE left key a b n hint) Q st:=by
 have I:∀ x∈L,(if left=true then c x key else !c key x)=c x key:=λx d=>by
  cases left with
  | true=>rfl
  | false=>rcases hd x d with e | e<;>simp[e,C.as e]
 have f:∀ i,i < n->∃ x,a[b+i]? = some x/\L[i]? = some x/\x∈L:=λi hi=>by
  obtain⟨x,d⟩:∃ x,L[i]? = some x:=⟨L[i],by simp[hn,hi]⟩;refine⟨x,?_,d,a6c d⟩;rw[← z,List.getElem?_take,a4A hi,List.getElem?_drop]at d;simpa using d
 refine aY3 C w (λi=>match L[i]? with | some x=>c x key | none=>false) (λi hi=>?_) D (λi j m o g=>?_) H λk m o g=>q k m (λx d=>?_) λx d=>?_
 ·obtain⟨x,u,h,p⟩:=f i hi;exact⟨x,u,B x p,by simp only[h];exact(I x p).symm⟩
 ·obtain⟨x,u,h,p⟩:=f i (by lia);obtain⟨y,P,l,R⟩:=f j o;simp only[h,l]at g ⊢;rcases Nat.eq_or_lt_of_le m with e | e;subst e;rw[h]at l;cases l;exact g;obtain⟨J,K⟩:=a0a.mp h;obtain⟨N,O⟩:=a0a.mp l;have:=List.pairwise_iff_getElem.mp F i j J N e;rw[K,O]at this;exact C.tr this g
 ·obtain⟨j,r,t⟩:=mK (i:=0) (by rw[List.drop_zero];exact d);rw[a9e]at t;have:=o j r;simp only[t]at this;exact this
 ·obtain⟨j,r,t,v⟩:=uY d;have:=g j r (by lia);simp only[v]at this;rcases hd x (a6c v)with e | e;rw[e]at this;cases this;exact e
def aE8(C:Cm M A s κ G c){left:Bool}{d:Keyed}{a:Array Keyed}{b n hint:Nat}{st:SortSt}{Q:Option Nat->SortSt->Prop}(j:kindOf st=κ)(l:∀ x∈a.toList,G x)(m:G d)(sa:Srt c a.toList)
  (hd:∀ x∈a.toList,c x d=true\/c d x=true) (hb:b+n<=a.size) (o:hint < n)
  (q:∀ k,k<=n->(∀ i x,i < k->a.toList[b+i]? = some x->c x d=true)->(∀ i x,k<=i->i < n->a.toList[b+i]? = some x->c d x=true)->Q (some k) st):wpS M A E s (zE left d a b n hint) Q st:=by
 have g:∀ x∈(a.toList.drop b).take n,x∈a.toList:=λx f=>List.mem_of_mem_drop (a7g f);have gt:∀ i x,i < n->a.toList[b+i]? = some x->((a.toList.drop b).take n)[i]? = some x:=λi x h e=>by rw[List.getElem?_take,a4A h,List.getElem?_drop];exact e
 refine zF C j rfl (by simp;lia) (λx f=>l x (g x f)) m (sa.sublist ((List.take_sublist _ _).trans (List.drop_sublist _ _))) (λx f=>hd x (g x f)) o λk p r t=>q k p (λi x hi f=>r x ?_) λi x hi u f=>t x ?_;have:=gt i x (by lia) f;exact a6c (i:=i) (by rw[List.getElem?_take,a4A hi];exact this);have:=gt i x u f;exact a6c (i:=i-k) (by rw[List.getElem?_drop,show k+(i-k)=i by lia];exact this)
def jZ{l:List Keyed}{i:Nat}{x:Keyed}(h:l[i]? = some x):(l.drop i).take 1=[x]:=by rw[jP h];rfl
theorem eC{a:Array Keyed}{i j:Nat}:(a.extract i j).toList=(a.toList.drop i).take (j-i):=by simp[Array.toList_extract,List.extract]
def uZ{a:Array Keyed}{i:Nat}:(a.extract i a.size).toList=a.toList.drop i:=by
 rw[eC];exact a2d (by simp)
def qM{a:Type}{p:Prop}[Decidable p]{m m':StateT SortSt Sem a}{Q:a->SortSt->Prop}{st:SortSt}(h:wpS M A E s m Q st)(h':wpS M A E s m' Q st):wpS M A E s (if p then m else m') Q st:=by
 by_cases e:p;rw[a4A e];exact h;rw[a4z e];exact h'
def aJ4(C:Cm M A s κ G c){a b:Array Keyed}{st:SortSt}{Q:Array Keyed->SortSt->Prop}(hk:kindOf st=κ)(ga:∀ x∈a.toList,G x)(gb:∀ x∈b.toList,G x)(sa:Srt c a.toList)(sb:Srt c b.toList)
  (hd:∀ x∈a.toList,∀ y∈b.toList,c x y=true\/c y x=true) (h1:1<=a.size) (h2:1<=b.size) (hf:∀ y∈b.toList.take 1,∀ x∈a.toList,c y x=true) (hl:∀ x∈a.toList.drop (a.size-1),∀ y∈b.toList,c y x=true)
  (q:∀ r st',Like st st'->Rs c a.toList b.toList r.toList->Q r st'):wpS M A E s (bH5 a b) Q st:=by
 have la:a.toList.length=a.size:=rfl;have lb:b.toList.length=b.size:=rfl;refine wpS_bind (wpS_lift (a4I ⟨rfl,?_⟩));obtain⟨b0,hb0,hb1,hb2⟩:=rR (a:=b) (i:=0) h2;refine wpS_bind (bV hb0 ?_);dsimp only;have t1:b.toList.take 1=[b0]:=by have:=jZ hb1;rwa[List.drop_zero]at this
 have m0:Mg c a.toList b.toList [b0] 0 1:=by
  have:=(Mg.mk (c:=c) (la:=a.toList) (lb:=b.toList) (out:=[]) (i:=0) (j:=0) (by simp) .nil (λ_ h=>by simp at h) (Nat.zero_le _) (Nat.zero_le _)).right sb (k:=1) (by lia) (by rw[List.drop_zero,List.drop_zero];exact hf);rwa[List.drop_zero,t1]at this
 have dn:∀ {o:Array Keyed} {i j:Nat},Mg c a.toList b.toList o.toList i j->(i=a.size\/j=b.size)->Rs c a.toList b.toList (o++a.extract i a.size++b.extract j b.size).toList:=λ{o i j} m h=>by
  rw[Array.toList_append,Array.toList_append,uZ,uZ];exact m.done sa sb h
 have ls:∀ {o:Array Keyed} {i j:Nat},Mg c a.toList b.toList o.toList i j->i+1=a.size->Rs c a.toList b.toList (o++b.extract j b.size++a.extract i a.size).toList:=λ{o i j} m h=>by
  rw[Array.toList_append,Array.toList_append,uZ,uZ];exact m.last sa sb h (by rw[show i=a.size-1 by lia];exact hl)
 have pa:∀ {o:Array Keyed} {i j:Nat} {x:Keyed},Mg c a.toList b.toList o.toList i j->a.toList[i]? = some x->(∀ y∈b.toList.drop j,c x y=true)->Mg c a.toList b.toList (o.push x).toList (i+1) j:=λ{o i j x} m I h=>by
  have:=m.left sa (k:=1) (a0a.mp I).1 (by rw[jZ I];intro z B;cases a1b.mp B;exact h);rwa[jZ I,← a2h]at this
 have pb:∀ {o:Array Keyed} {i j:Nat} {x:Keyed},Mg c a.toList b.toList o.toList i j->b.toList[j]? = some x->(∀ y∈a.toList.drop i,c x y=true)->Mg c a.toList b.toList (o.push x).toList i (j+1):=λ{o i j x} m I h=>by
  have:=m.right sb (k:=1) (a0a.mp I).1 (by rw[jZ I];intro z B;cases a1b.mp B;exact h);rwa[jZ I,← a2h]at this
 by_cases n1:1=b.size;rw[a4A (by rw[← n1];rfl)];exact wpS_pure (q _ _ .rfl' (dn m0 (.inr n1)))
 rw[a4z (by rw[a4B];exact n1)];by_cases n2:0+1=a.size;rw[a4A (by rw[← n2];rfl)];exact wpS_pure (q _ _ .rfl' (ls m0 n2))
 rw[a4z (by rw[a4B];exact n2)];refine wpS_bind (wpS_get ?_);refine wpS_bind (wpS_mono (wpS_forRange (λi (r:Option (Array Keyed)×Array Keyed×Nat×Nat×Nat) st'=>Like st st'/\r.1=none/\Mg c a.toList b.toList r.2.1.toList r.2.2.1 r.2.2.2.1/\r.2.2.1+1 < a.size/\r.2.2.2.1 < b.size/\i+1<=r.2.1.size)
  (Q:=λr st'=>Like st st'/\∃ o,r.1=some o/\Rs c a.toList b.toList o.toList) ?_ ?_ ⟨.rfl',rfl,m0,by dsimp only;lia,by dsimp only;lia,a8a _⟩) ?_)
 ·rintro n ⟨o,out,l,f,m⟩ st1-hn ⟨l1,rfl,mg,p,g,t⟩;dsimp only at mg p g t ⊢;refine wpS_bind (wpS_mono (wpS_forRange (λi (r:Option (Array Keyed)×Array Keyed×Nat×Nat×Nat×Nat) st'=>Like st st'/\r.1=none/\Mg c a.toList b.toList r.2.1.toList r.2.2.1 r.2.2.2.1/\r.2.2.1+1 < a.size/\r.2.2.2.1 < b.size/\n+1+i<=r.2.1.size)
   (Q:=λr st'=>Like st st'/\((r.1=none/\Mg c a.toList b.toList r.2.1.toList r.2.2.1 r.2.2.2.1/\r.2.2.1+1 < a.size/\r.2.2.2.1 < b.size/\n+2<=r.2.1.size)\/∃ o,r.1=some o/\Rs c a.toList b.toList o.toList)) ?_ ?_ ⟨l1,rfl,mg,p,g,by dsimp only;lia⟩) ?_)
  ·rintro i ⟨o,out,l,f,Y,Z⟩ J-hi ⟨l2,rfl,mg,p,g,t⟩;dsimp only at mg p g t ⊢;obtain⟨y,K,L,N⟩:=rR (a:=b) g;obtain⟨x,O,P,R⟩:=rR (a:=a) (show l < a.size by lia);refine wpS_bind (bV K (wpS_bind (bV O (wpS_bind (aY2 C (l2.k.trans hk) (gb y N) (ga x R) ?_)))));dsimp only;cases e:c y x with
   | true=>
     rw[a4A rfl];refine wpS_bind (bV K ?_);have d:=pb mg L (λz B=>(mI P sa z B).elim (λh=>h ▸ e) (C.tr e));by_cases S:f+1=b.size;rw[a4A (a4B.mpr S)];exact wpS_pure ⟨l2,.inr ⟨_,rfl,dn d (.inr S)⟩⟩
     rw[a4z (by rw[a4B];exact S)];by_cases T:Z+1 ≥ m;rw[a4A T];exact wpS_pure ⟨l2,.inl ⟨rfl,d,p,by dsimp only;lia,by dsimp only;rw[Array.size_push];lia⟩⟩;rw[a4z T];exact wpS_pure ⟨l2,rfl,d,p,by dsimp only;lia,by dsimp only;rw[Array.size_push];lia⟩
   | false=>
     rw[a4z (by decide)];have e':c x y=true:=(hd x R y N).resolve_right (by rw[e];decide);refine wpS_bind (bV O ?_);have d:=pa mg P (λz B=>(mI L sb z B).elim (λh=>h ▸ e') (C.tr e'));by_cases S:l+1+1=a.size;rw[a4A (a4B.mpr S)];exact wpS_pure ⟨l2,.inr ⟨_,rfl,ls d S⟩⟩
     rw[a4z (by rw[a4B];exact S)];by_cases T:Y+1 ≥ m;rw[a4A T];exact wpS_pure ⟨l2,.inl ⟨rfl,d,by dsimp only;lia,g,by dsimp only;rw[Array.size_push];lia⟩⟩;rw[a4z T];exact wpS_pure ⟨l2,rfl,d,by dsimp only;lia,g,by dsimp only;rw[Array.size_push];lia⟩
  ·rintro⟨o,out,l,f,Y,Z⟩ J ⟨l2,rfl,mg,p,g,t⟩;have:=mg.len;dsimp only at mg p g t this;simp at this t;lia
  rintro⟨o,out,l,f,Y,Z⟩ J ⟨l2,⟨rfl,mg,p,g,t⟩ | ⟨r,rfl,hr⟩⟩
  case inr=>exact wpS_pure ⟨l2,r,rfl,hr⟩
  dsimp only at mg p g t ⊢;refine wpS_bind (wpS_lift (a4I ⟨rfl,?_⟩));refine wpS_bind (wpS_mono (wpS_forRange (λi (r:Option (Array Keyed)×Array Keyed×Nat×Nat×Nat×Nat×Nat) st'=>Like st st'/\r.1=none/\Mg c a.toList b.toList r.2.1.toList r.2.2.1 r.2.2.2.1/\r.2.2.1+1 < a.size/\r.2.2.2.1 < b.size/\n+2+i<=r.2.1.size)
   (Q:=λr st'=>Like st st'/\((r.1=none/\Mg c a.toList b.toList r.2.1.toList r.2.2.1 r.2.2.2.1/\r.2.2.1+1 < a.size/\r.2.2.2.1 < b.size/\n+2<=r.2.1.size)\/∃ o,r.1=some o/\Rs c a.toList b.toList o.toList)) ?_ ?_ ⟨l2,rfl,mg,p,g,t⟩) ?_)
  ·rintro i ⟨o,out,l,f,m,Y,Z⟩ J-hi ⟨l2,rfl,mg,p,g,t⟩;dsimp only at mg p g t ⊢;obtain⟨y,K,L,N⟩:=rR (a:=b) g;by_cases hm:m > 1
   case' pos=>rw[a4A hm]
   case' neg=>rw[a4z hm]
   all_goals
    refine wpS_bind (mJ λst3 H=>wpS_bind (bV K (wpS_bind (aE8 C ((l2.trans H).k.trans hk) ga (gb y N) sa (λx I=>hd x I y N) (b:=l) (n:=a.size-l) (by lia) (by lia) λk k1 k2 k3=>?_))))
    replace H:=l2.trans H
    dsimp only;have d:Mg c a.toList b.toList (out++a.extract l (l+k)).toList (l+k) f:=by
     rw[Array.toList_append,eC,Nat.add_sub_cancel_left];refine mg.left sa (by lia) λx I z B=>?_;obtain⟨j,j1,j2⟩:=mK I;have:=k2 j x j1 j2;exact(mI L sb z B).elim (λh=>h ▸ this) (C.tr this)
    have f2:∀ z∈a.toList.drop (l+k),c y z=true:=λz B=>by
     obtain⟨j,j1,j2,j3⟩:=uY B;exact k3 (j-l) z (by lia) (by lia) (by rw[show l+(j-l)=j by lia];exact j3)
    have x4:n+2+i<=(out++a.extract l (l+k)).size:=by rw[Array.size_append];lia
    by_cases hk0:k > 0
    case' pos=>
     rw[a4A hk0];generalize out++a.extract l (l+k)=w at d x4 ⊢;generalize l+k=F at d f2 ⊢;by_cases S:F+1=a.size;rw[a4A (a4B.mpr S)];exact wpS_pure ⟨H,.inr ⟨_,rfl,ls d S⟩⟩
     rw[a4z (by rw[a4B];exact S)];by_cases T:F=a.size;rw[a4A (a4B.mpr T)];exact wpS_pure ⟨H,.inr ⟨_,rfl,dn d (.inl T)⟩⟩
     rw[a4z (by rw[a4B];exact T)]
     replace p:F+1 < a.size:=by have:=d.hi;lia
    case' neg=>
     rw[a4z hk0];obtain rfl:k=0:=by lia
     rw[Nat.add_zero]at f2
     replace d:=mg
     replace x4:=t
     generalize out=w at d x4 ⊢;generalize l=F at d f2 p ⊢
    all_goals
     refine wpS_bind (bV K ?_);have V:=pb d L f2;by_cases e4:f+1=b.size;rw[a4A (a4B.mpr e4)];exact wpS_pure ⟨H,.inr ⟨_,rfl,dn V (.inr e4)⟩⟩
     rw[a4z (by rw[a4B];exact e4)];obtain⟨x,O,P,R⟩:=rR (a:=a) (show F < a.size by lia);refine wpS_bind (bV O (wpS_bind (aE8 C (H.k.trans hk) gb (ga x R) sb (λz B=>(hd x R z B).symm) (b:=f+1) (n:=b.size-(f+1)) (by lia) (by lia) λj j1 j2 j3=>?_)));dsimp only;have D:Mg c a.toList b.toList (w.push y++b.extract (f+1) (f+1+j)).toList F (f+1+j):=by
      rw[Array.toList_append,eC,Nat.add_sub_cancel_left];refine V.right sb (by lia) λz B u hu=>?_;obtain⟨v,v1,v2⟩:=mK B;have:=j2 v z v1 v2;exact(mI P sa u hu).elim (λh=>h ▸ this) (C.tr this)
     have f4:∀ z∈b.toList.drop (f+1+j),c x z=true:=λz B=>by
      obtain⟨v,v1,v2,v3⟩:=uY B;exact j3 (v-(f+1)) z (by lia) (by lia) (by rw[show f+1+(v-(f+1))=v by lia];exact v3)
     have x5:n+2+i < (w.push y++b.extract (f+1) (f+1+j)).size:=by rw[Array.size_append,Array.size_push];lia
     by_cases hj0:j > 0
     case' pos=>
      rw[a4A hj0];generalize w.push y++b.extract (f+1) (f+1+j)=U at D x5 ⊢;generalize f+1+j=W at D f4 ⊢;by_cases e5:W=b.size;rw[a4A (a4B.mpr e5)];exact wpS_pure ⟨H,.inr ⟨_,rfl,dn D (.inr e5)⟩⟩
      rw[a4z (by rw[a4B];exact e5)]
      replace g:W < b.size:=by have:=D.hj;lia
     case' neg=>
      rw[a4z hj0];obtain rfl:j=0:=by lia
      rw[Nat.add_zero]at f4
      replace D:=V
      replace x5:n+2+i < (w.push y).size:=by rw[Array.size_push];lia
      replace g:f+1 < b.size:=by lia
      generalize w.push y=U at D x5 ⊢;generalize f+1=W at D f4 g ⊢
     all_goals
      refine wpS_bind (bV O ?_);have X:=pa D P f4;by_cases e6:F+1+1=a.size;rw[a4A (a4B.mpr e6)];exact wpS_pure ⟨H,.inr ⟨_,rfl,ls X e6⟩⟩
      rw[a4z (by rw[a4B];exact e6)];have x6:n+2+(i+1)<=(U.push x).size:=by rw[Array.size_push];lia
      refine qM ?_ ?_;exact wpS_pure ⟨H,.inl ⟨rfl,X,by dsimp only;lia,g,by dsimp only;lia⟩⟩;exact wpS_pure ⟨H,rfl,X,by dsimp only;lia,g,x6⟩
  ·rintro⟨o,out,l,f,m,Y,Z⟩ J ⟨l2,rfl,mg,p,g,t⟩;have:=mg.len;dsimp only at mg p g t this;simp at this t;lia
  rintro⟨o,out,l,f,m,Y,Z⟩ J ⟨l2,⟨rfl,mg,p,g,t⟩ | ⟨r,rfl,hr⟩⟩
  case inr=>exact wpS_pure ⟨l2,r,rfl,hr⟩
  dsimp only at mg p g t ⊢;exact wpS_bind (mJ λst3 H=>wpS_pure ⟨l2.trans H,rfl,mg,p,g,t⟩)
 ·rintro⟨o,out,l,f,m⟩ st1 ⟨l1,rfl,mg,p,g,t⟩;have:=mg.len;dsimp only at mg p g t this;simp at this t;lia
 ·rintro⟨o,out,l,f,m⟩ st1 ⟨l1,r,rfl,hr⟩;exact wpS_pure (q _ _ l1 hr)
end
structure Wh(c:Keyed->Keyed->Bool)(a b out:Array Keyed)(na nb:Nat):Prop where
 m:Mg (λx y=>c y x) b.toList.reverse a.toList.reverse out.toList (b.size-nb) (a.size-na)
 ha:na<=a.size
 hb:nb<=b.size
section
variable{c:Keyed->Keyed->Bool}{a b out:Array Keyed}{na nb:Nat}
theorem Wh.symm(w:Wh c a b out na nb):Wh c b a out nb na:=⟨w.m.symm,w.hb,w.ha⟩
theorem Wh.len(w:Wh c a b out na nb):out.size+na+nb=a.size+b.size:=by
 have:=w.m.len;have:=w.ha;have:=w.hb;simp at *;lia
def qN{l:List Keyed}(h:Srt c l):Srt (λx y=>c y x) l.reverse:=List.pairwise_reverse.mpr h
def cA2{la lb l:List Keyed}(h:Rs (λx y=>c y x) lb.reverse la.reverse l):Rs c la lb l.reverse:=
 ⟨by have:=(List.reverse_perm l).trans h.1;rw[← List.reverse_append]at this;exact this.trans (List.reverse_perm _),List.pairwise_reverse.mpr h.2⟩
def iE{a:Array Keyed}{n:Nat}(h:n<=a.size):a.toList.reverse.drop (a.size-n)=(a.toList.take n).reverse:=by
 rw[List.drop_reverse];congr 2;simp;lia
theorem Wh.done(w:Wh c a b out na nb)(sa:Srt c a.toList)(sb:Srt c b.toList)(h:na=0\/nb=0):Rs c a.toList b.toList (a.extract 0 na++b.extract 0 nb++out.reverse).toList:=by
 have:=cA2 (w.m.done (qN sb) (qN sa) (by simp;have:=w.ha;have:=w.hb;lia));rw[iE w.ha,iE w.hb]at this;simpa[eC]using this
theorem Wh.last(w:Wh c a b out na nb)(sa:Srt c a.toList)(sb:Srt c b.toList)(h:nb=1)(d:∀ y∈b.toList.take 1,∀ x∈a.toList,c y x=true):Rs c a.toList b.toList (b.extract 0 nb++a.extract 0 na++out.reverse).toList:=by
 have:=cA2 (w.m.last (qN sb) (qN sa) (by simp;have:=w.hb;lia) (by rw[iE w.hb,h];intro x e y f;exact d x (List.mem_reverse.mp e) y (List.mem_reverse.mp f)));rw[iE w.ha,iE w.hb]at this;simpa[eC]using this
def xO{a:Array Keyed}{n k:Nat}(h:n<=a.size)(b:k<=n):(a.extract (n-k) n).reverse.toList=(a.toList.reverse.drop (a.size-n)).take k:=by
 rw[iE h,Array.toList_reverse,eC,List.take_reverse,List.drop_take];congr 2;congr 1;simp;lia;simp;lia
def Wh.pa(w:Wh c a b out na nb)(sa:Srt c a.toList){k:Nat}(d:k<=na)(h:∀ i x,na-k<=i->i < na->a.toList[i]? = some x->∀ y∈b.toList.take nb,c y x=true):Wh c a b (out++(a.extract (na-k) na).reverse) (na-k) nb:=by
 have:=w.m.right (qN sa) (k:=k) (by simp;have:=w.ha;lia) (by
  rw[iE w.hb,← xO w.ha d];intro x e y f;rw[Array.toList_reverse,List.mem_reverse,eC]at e;obtain⟨j,l,g⟩:=mK e;exact h _ x (by lia) (by lia) g y (List.mem_reverse.mp f))
 rw[← xO w.ha d,← Array.toList_append,show a.size-na+k=a.size-(na-k) by have:=w.ha;lia]at this;exact⟨this,by have:=w.ha;lia,w.hb⟩
def Wh.to(w:Wh c a b out na nb)(sa:Srt c a.toList){t:Nat}(d:t<=na)(h:∀ i x,t<=i->i < na->a.toList[i]? = some x->∀ y∈b.toList.take nb,c y x=true):Wh c a b (out++(a.extract t na).reverse) t nb:=by
 have e:na-(na-t)=t:=by lia
 have:=w.pa sa (k:=na-t) (by lia) (by rw[e];exact h);rwa[e]at this
theorem Wh.push(w:Wh c a b out na nb)(sa:Srt c a.toList){x:Keyed}(g:1<=na)(d:a.toList[na-1]? = some x)(h:∀ y∈b.toList.take nb,c y x=true):Wh c a b (out.push x) (na-1) nb:=by
 have:=w.pa sa g (λi z j k f=>by rw[show i=na-1 by lia,d]at f;cases f;exact h);have e:out++(a.extract (na-1) na).reverse=out.push x:=by
  apply Array.toList_inj.mp;rw[Array.toList_append,Array.toList_reverse,eC,show na-(na-1)=1 by lia,jZ d];simp
 rwa[e]at this
def kA{l:List Keyed}{i:Nat}{x:Keyed}(h:l[i]? = some x)(s:Srt c l):∀ y∈l.take (i+1),y=x\/c y x=true:=by
 have:=s.sublist (List.take_sublist (i+1) l);obtain⟨a,rfl⟩:=a0a.mp h;rw[List.take_succ_eq_append_getElem a]at this ⊢;intro y b;rcases a7c.mp b with z | z;exact .inr ((List.pairwise_append.mp this).2.2 y z _ (a1b.mpr rfl));exact .inl (a1b.mp z)
end
section
variable{M:Model}{A:Around}{E:Value->Shared->Prop}{s:Shared}{κ:SortKind}{G:Keyed->Prop}{c:Keyed->Keyed->Bool}
noncomputable def bH6:Array Keyed->Array Keyed->StateT SortSt Sem (Array Keyed):=sortPriv% PySem.Builtin.mergeHi
def aJ5(C:Cm M A s κ G c){a b:Array Keyed}{st:SortSt}{Q:Array Keyed->SortSt->Prop}(hk:kindOf st=κ)(ga:∀ x∈a.toList,G x)(gb:∀ x∈b.toList,G x)(sa:Srt c a.toList)(sb:Srt c b.toList)
  (hd:∀ x∈a.toList,∀ y∈b.toList,c x y=true\/c y x=true) (h1:1<=a.size) (h2:1<=b.size) (hf:∀ y∈b.toList.take 1,∀ x∈a.toList,c y x=true) (hl:∀ x∈a.toList.drop (a.size-1),∀ y∈b.toList,c y x=true)
  (q:∀ r st',Like st st'->Rs c a.toList b.toList r.toList->Q r st'):wpS M A E s (bH6 a b) Q st:=by
 have la:a.toList.length=a.size:=rfl;have lb:b.toList.length=b.size:=rfl;refine wpS_bind (wpS_lift (a4I ⟨rfl,?_⟩));obtain⟨a0,ha0,V,ha2⟩:=rR (a:=a) (i:=a.size-1) (by lia);refine wpS_bind (bV ha0 ?_);dsimp only;have w0:Wh c a b #[a0] (a.size-1) b.size:=by
  have:=(Wh.mk (c:=c) (a:=a) (b:=b) (out:=#[]) (na:=a.size) (nb:=b.size) ⟨by simp,.nil,λ_ h=>by simp at h,by simp,by simp⟩ (a8a _) (a8a _)).push sa h1 V
   (by rw[← lb,List.take_length];exact hl a0 (by rw[jP V];exact a9a))
  exact this
 have W:∀ {o:Array Keyed} {i j:Nat},Wh c a b o i j->(i=0\/j=0)->Rs c a.toList b.toList (a.extract 0 i++b.extract 0 j++o.reverse).toList:=λw h=>w.done sa sb h;have ls:∀ {o:Array Keyed} {i j:Nat},Wh c a b o i j->j=1->Rs c a.toList b.toList (b.extract 0 j++a.extract 0 i++o.reverse).toList:=λw h=>w.last sa sb h hf;by_cases n1:a.size-1=0;rw[a4A (a4B.mpr n1)];exact wpS_pure (q _ _ .rfl' (W w0 (.inl n1)))
 rw[a4z (by rw[a4B];exact n1)];by_cases n2:b.size=1;rw[a4A (a4B.mpr n2)];exact wpS_pure (q _ _ .rfl' (ls w0 n2))
 rw[a4z (by rw[a4B];exact n2)];refine wpS_bind (wpS_get ?_);refine wpS_bind (wpS_mono (wpS_forRange (λi (r:Option (Array Keyed)×Nat×Nat×Array Keyed×Nat) st'=>Like st st'/\r.1=none/\Wh c a b r.2.2.2.1 r.2.1 r.2.2.1/\1<=r.2.1/\2<=r.2.2.1/\i+1<=r.2.2.2.1.size)
  (Q:=λr st'=>Like st st'/\∃ o,r.1=some o/\Rs c a.toList b.toList o.toList) ?_ ?_ ⟨.rfl',rfl,w0,by dsimp only;lia,by dsimp only;lia,a8a _⟩) ?_)
 ·rintro n ⟨o,na,nb,out,m⟩ X-hn ⟨l1,rfl,mg,g,f,p⟩;dsimp only at mg g f p ⊢;refine wpS_bind (wpS_mono (wpS_forRange (λi (r:Option (Array Keyed)×Nat×Nat×Array Keyed×Nat×Nat) st'=>Like st st'/\r.1=none/\Wh c a b r.2.2.2.1 r.2.1 r.2.2.1/\1<=r.2.1/\2<=r.2.2.1/\n+1+i<=r.2.2.2.1.size)
   (Q:=λr st'=>Like st st'/\((r.1=none/\Wh c a b r.2.2.2.1 r.2.1 r.2.2.1/\1<=r.2.1/\2<=r.2.2.1/\n+2<=r.2.2.2.1.size)\/∃ o,r.1=some o/\Rs c a.toList b.toList o.toList)) ?_ ?_ ⟨l1,rfl,mg,g,f,by dsimp only;lia⟩) ?_)
  ·rintro i ⟨o,na,nb,out,Y,Z⟩ I-hi ⟨l2,rfl,mg,g,f,p⟩;dsimp only at mg g f p ⊢;have za:=mg.ha;have zb:=mg.hb;obtain⟨y,J,K,L⟩:=rR (a:=b) (show nb-1 < b.size by lia);obtain⟨x,N,O,P⟩:=rR (a:=a) (show na-1 < a.size by lia);have sx:=kA O sa;have sy:=kA K sb;rw[show na-1+1=na by lia]at sx;rw[show nb-1+1=nb by lia]at sy;refine wpS_bind (bV J (wpS_bind (bV N (wpS_bind (aY2 C (l2.k.trans hk) (gb y L) (ga x P) ?_)))));dsimp only;cases e:c y x with
   | true=>
     rw[a4A rfl];refine wpS_bind (bV N ?_);have d:=mg.push sa g O (λz D=>(sy z D).elim (λh=>h ▸ e) λh=>C.tr h e);by_cases H:na-1=0;rw[a4A (a4B.mpr H)];exact wpS_pure ⟨l2,.inr ⟨_,rfl,W d (.inl H)⟩⟩
     rw[a4z (by rw[a4B];exact H)];refine qM ?_ ?_;exact wpS_pure ⟨l2,.inl ⟨rfl,d,by dsimp only;lia,f,by dsimp only;rw[Array.size_push];lia⟩⟩;exact wpS_pure ⟨l2,rfl,d,by dsimp only;lia,f,by dsimp only;rw[Array.size_push];lia⟩
   | false=>
     rw[a4z (by decide)];have e':c x y=true:=(hd x P y L).resolve_right (by rw[e];decide);refine wpS_bind (bV J ?_);have d:=(mg.symm.push sb (by lia) K (λz D=>(sx z D).elim (λh=>h ▸ e') λh=>C.tr h e')).symm;by_cases H:nb-1=1;rw[a4A (a4B.mpr H)];exact wpS_pure ⟨l2,.inr ⟨_,rfl,ls d H⟩⟩
     rw[a4z (by rw[a4B];exact H)];refine qM ?_ ?_;exact wpS_pure ⟨l2,.inl ⟨rfl,d,g,by dsimp only;lia,by dsimp only;rw[Array.size_push];lia⟩⟩;exact wpS_pure ⟨l2,rfl,d,g,by dsimp only;lia,by dsimp only;rw[Array.size_push];lia⟩
  ·rintro⟨o,na,nb,out,Y,Z⟩ I ⟨l2,rfl,mg,g,f,p⟩;have:=mg.len;dsimp only at mg g f p this;lia
  rintro⟨o,na,nb,out,Y,Z⟩ I ⟨l2,⟨rfl,mg,g,f,p⟩ | ⟨r,rfl,hr⟩⟩
  case inr=>exact wpS_pure ⟨l2,r,rfl,hr⟩
  dsimp only at mg g f p ⊢;refine wpS_bind (wpS_lift (a4I ⟨rfl,?_⟩));refine wpS_bind (wpS_mono (wpS_forRange (λi (r:Option (Array Keyed)×Nat×Nat×Array Keyed×Nat×Nat×Nat) st'=>Like st st'/\r.1=none/\Wh c a b r.2.2.2.1 r.2.1 r.2.2.1/\1<=r.2.1/\2<=r.2.2.1/\n+2+i<=r.2.2.2.1.size)
   (Q:=λr st'=>Like st st'/\((r.1=none/\Wh c a b r.2.2.2.1 r.2.1 r.2.2.1/\1<=r.2.1/\2<=r.2.2.1/\n+2<=r.2.2.2.1.size)\/∃ o,r.1=some o/\Rs c a.toList b.toList o.toList)) ?_ ?_ ⟨l2,rfl,mg,g,f,p⟩) ?_)
  ·rintro i ⟨o,na,nb,out,m,Y,Z⟩ I-hi ⟨l2,rfl,mg,g,f,p⟩;dsimp only at mg g f p ⊢;have za:=mg.ha;have zb:=mg.hb;obtain⟨y,J,K,L⟩:=rR (a:=b) (show nb-1 < b.size by lia);have sy:=kA K sb;rw[show nb-1+1=nb by lia]at sy;by_cases hm:m > 1
   case' pos=>rw[a4A hm]
   case' neg=>rw[a4z hm]
   all_goals
    refine wpS_bind (mJ λst3 F=>wpS_bind (bV J (wpS_bind (aE8 C ((l2.trans F).k.trans hk) ga (gb y L) sa (λx hx=>hd x hx y L) (b:=0) (n:=na) (by lia) (by lia) λt k1 k2 k3=>?_))))
    replace F:=l2.trans F
    dsimp only;have d:Wh c a b (out++(a.extract t na).reverse) t nb:=mg.to sa k1 λi x i1 i2 i3 z D=>by
     have:=k3 i x i1 i2 (by rw[a9e];exact i3);exact(sy z D).elim (λh=>h ▸ this) λh=>C.tr h this
    have f2:∀ z∈a.toList.take t,c z y=true:=λz D=>by
     obtain⟨j,hj⟩:=List.getElem?_of_mem D;rw[List.getElem?_take]at hj;split at hj;rename_i h;exact k2 j z h (by rw[a9e];exact hj);cases hj
    have x4:n+2+i<=(out++(a.extract t na).reverse).size:=by rw[Array.size_append];lia
    by_cases hk0:na-t > 0
    case' pos=>
     rw[a4A hk0];generalize out++(a.extract t na).reverse=l at d x4 ⊢;by_cases H:t=0;rw[a4A (a4B.mpr H)];exact wpS_pure ⟨F,.inr ⟨_,rfl,W d (.inl H)⟩⟩
     rw[a4z (by rw[a4B];exact H)]
    case' neg=>
     rw[a4z hk0];obtain rfl:t=na:=by lia
     replace d:=mg
     replace x4:=p
     have H:¬ t=0:=by lia
     generalize out=l at d x4 ⊢
    all_goals
     refine wpS_bind (bV J ?_);have S:=(d.symm.push sb (by lia) K f2).symm;by_cases e4:nb-1=1;rw[a4A (a4B.mpr e4)];exact wpS_pure ⟨F,.inr ⟨_,rfl,ls S e4⟩⟩
     rw[a4z (by rw[a4B];exact e4)];obtain⟨x,N,O,P⟩:=rR (a:=a) (show t-1 < a.size by lia);have sx:=kA O sa;rw[show t-1+1=t by lia]at sx;refine wpS_bind (bV N (wpS_bind (aE8 C (F.k.trans hk) gb (ga x P) sb (λz D=>(hd x P z D).symm) (b:=0) (n:=nb-1) (by lia) (by lia) λj j1 j2 j3=>?_)));dsimp only;have B:Wh c a b (l.push y++(b.extract j (nb-1)).reverse) t j:=(S.symm.to sb j1 λi u i1 i2 i3 z D=>by
      have:=j3 i u i1 i2 (by rw[a9e];exact i3);exact(sx z D).elim (λh=>h ▸ this) λh=>C.tr h this).symm
     have f4:∀ z∈b.toList.take j,c z x=true:=λz D=>by
      obtain⟨v,hv⟩:=List.getElem?_of_mem D;rw[List.getElem?_take]at hv;split at hv;rename_i h;exact j2 v z h (by rw[a9e];exact hv);cases hv
     have x5:n+2+i < (l.push y++(b.extract j (nb-1)).reverse).size:=by rw[Array.size_append,Array.size_push];lia
     by_cases hj0:nb-1-j > 0
     case' pos=>
      rw[a4A hj0];generalize l.push y++(b.extract j (nb-1)).reverse=R at B x5 ⊢;by_cases e5:j=1;rw[a4A (a4B.mpr e5)];exact wpS_pure ⟨F,.inr ⟨_,rfl,ls B e5⟩⟩
      rw[a4z (by rw[a4B];exact e5)];by_cases T:j=0;rw[a4A (a4B.mpr T)];exact wpS_pure ⟨F,.inr ⟨_,rfl,W B (.inr T)⟩⟩
      rw[a4z (by rw[a4B];exact T)]
      replace f:2<=j:=by lia
     case' neg=>
      rw[a4z hj0];obtain rfl:j=nb-1:=by lia
      replace B:=S
      replace x5:n+2+i < (l.push y).size:=by rw[Array.size_push];lia
      replace f:2<=nb-1:=by lia
      generalize l.push y=R at B x5 ⊢;generalize nb-1=j at B f4 f ⊢
     all_goals
      refine wpS_bind (bV N ?_);have U:=B.push sa (by lia) O f4;by_cases T:t-1=0;rw[a4A (a4B.mpr T)];exact wpS_pure ⟨F,.inr ⟨_,rfl,W U (.inl T)⟩⟩
      rw[a4z (by rw[a4B];exact T)];have x6:n+2+(i+1)<=(R.push x).size:=by rw[Array.size_push];lia
      refine qM ?_ ?_;exact wpS_pure ⟨F,.inl ⟨rfl,U,by dsimp only;lia,f,by dsimp only;lia⟩⟩;exact wpS_pure ⟨F,rfl,U,by dsimp only;lia,f,x6⟩
  ·rintro⟨o,na,nb,out,m,Y,Z⟩ I ⟨l2,rfl,mg,g,f,p⟩;have:=mg.len;dsimp only at mg g f p this;lia
  rintro⟨o,na,nb,out,m,Y,Z⟩ I ⟨l2,⟨rfl,mg,g,f,p⟩ | ⟨r,rfl,hr⟩⟩
  case inr=>exact wpS_pure ⟨l2,r,rfl,hr⟩
  dsimp only at mg g f p ⊢;exact wpS_bind (mJ λst3 F=>wpS_pure ⟨l2.trans F,rfl,mg,g,f,p⟩)
 ·rintro⟨o,na,nb,out,m⟩ X ⟨l1,rfl,mg,g,f,p⟩;have:=mg.len;dsimp only at mg g f p this;lia
 ·rintro⟨o,na,nb,out,m⟩ X ⟨l1,r,rfl,hr⟩;exact wpS_pure (q _ _ l1 hr)
end
section
variable{M:Model}{A:Around}{E:Value->Shared->Prop}{s:Shared}{κ:SortKind}{G:Keyed->Prop}{c:Keyed->Keyed->Bool}
def cJ7{σ:Type}{Q:PUnit->σ->Prop}{st st':σ}(h:Q ⟨⟩ st'):wpS M A E s (set st':StateT σ Sem PUnit) Q st:=by
 unfold wpS;rw[StateT.run_set];exact a4y ⟨rfl,h⟩
theorem tD(o:Nat):∀ (m:List Keyed) (k:Nat) (a:Array Keyed),o+k+m.length<=a.size->((m.zipIdx k).foldl (λa (p:Keyed×Nat)=>a.setIfInBounds (o+p.2) p.1) a).toList=a.toList.take (o+k)++m++a.toList.drop (o+k+m.length)
 | [],k,a,h=>by simp
 | x::m,k,a,h=>by
   rw[List.zipIdx_cons,List.foldl_cons,tD o m (k+1) _ (by simp at h ⊢;lia)];simp only[Array.toList_setIfInBounds,List.length_cons];have b:o+k < a.toList.length:=by simp at h ⊢;lia
   rw[show o+(k+1)=o+k+1 by lia,List.take_succ_eq_append_getElem (by simpa using b),List.getElem_set_self,List.take_set_of_le (by lia),List.drop_set_of_lt (by lia)];simp[Nat.add_assoc,Nat.add_comm 1]
def _root_.List.drop_take_comm'{l:List Keyed}{j n:Nat}(h:j<=n):(l.take n).drop j=(l.drop j).take (n-j):=List.drop_take ..
def aJ6(C:Cm M A s κ G c){i sa na pa nb pb sb:Nat}{st:SortSt}{Q:Bool->SortSt->Prop}(B:PyProof.Rows.kindOf st=κ)(T:∀ x∈(arrOf st).toList,G x)(L:failedOf st=none){p q:List Keyed}{X Y:List Keyed}
  (ha:(arrOf st).toList=p++(X++(Y++q))) (l:p.length=sa) (m:X.length=na) (e3:Y.length=nb) (e4:sb=sa+na) (hp:(pendingOf st)[i]? = some (sa,na,pa)) (N:(pendingOf st)[i+1]? = some (sb,nb,pb)) (h1:1<=na) (h2:1<=nb)
  (F:Srt c X) (H:Srt c Y) (hd:∀ x∈X,∀ y∈Y,c x y=true\/c y x=true)
  (k:∀ (st':SortSt) Z,PyProof.Rows.kindOf st'=κ->failedOf st'=none->pendingOf st'=((pendingOf st).setIfInBounds i (sa,na+nb,pa)).eraseIdxIfInBounds (i+1)->(arrOf st').toList=p++(Z++q)->Z.Perm (X++Y)->Srt c Z->Q true st') :
  wpS M A E s (mergeAt' i) Q st:=by
 have O:∀ x∈X,G x:=λx o=>T x (by rw[ha];simp[o]);have P:∀ x∈Y,G x:=λx o=>T x (by rw[ha];simp[o]);subst l m e3 e4;have U:((arrOf st).toList.drop p.length).take X.length=X:=by rw[ha];simp
 have V:((arrOf st).toList.drop (p.length+X.length)).take Y.length=Y:=by rw[ha,← List.append_assoc];simp[List.drop_append,List.take_append]
 refine wpS_bind (wpS_get ?_);rw[hp,N];dsimp only;refine wpS_bind (cJ7 ?_);obtain⟨y,b,rfl⟩:∃ y b,Y=y::b:=by cases Y with | nil=>simp at h2 | cons y b=>exact⟨y,b,rfl⟩
 have yY:∀ z∈y::b,z=y\/c y z=true:=λz d=>(a2b.mp d).imp id λh=>(a9f.mp H).1 z h;refine wpS_bind (bV (x:=y) ?_ ?_)
 ·have:(arrOf st).toList[p.length+X.length]? = some y:=by rw[ha,← List.append_assoc,← a0c];simp
  simpa using this
 refine wpS_bind (zF C B U rfl O (P y a9a) F (λx o=>hd x o y a9a) h1 λj j1 R j3=>?_);dsimp only;have I:=List.pairwise_append.mp (show Srt c (X.take j++X.drop j) by rw[List.take_append_drop];exact F);have w:∀ x,c x y=true->∀ z∈y::b,c x z=true:=λx h z d=>(yY z d).elim (λe=>e ▸ h) (C.tr h);have fin:∀ Z:List Keyed,Z=X++(y::b)->Srt c Z->Q true (SortSt.mk' (PyProof.Rows.kindOf st) (arrOf st) (((pendingOf st).setIfInBounds i (p.length,X.length+(y::b).length,pa)).eraseIdxIfInBounds (i+1)) (gallopOf st) (failedOf st)):=λZ e h=>k _ Z B L rfl (by rw[e,List.append_assoc];exact ha) (by rw[e]) h;by_cases W:X.length-j=0;rw[a4A (a4B.mpr W)];refine wpS_pure (fin _ rfl (List.pairwise_append.mpr ⟨F,H,λx o z d=>w x (R x ?_) z d⟩));rw[a2d (by lia)];exact o
 rw[a4z (by rw[a4B];exact W)];obtain⟨x,o⟩:∃ x,X[X.length-1]? = some x:=⟨X[X.length-1],a1a (by lia)⟩;have xX:∀ z∈X,z=x\/c z x=true:=λz d=>kA o F z (by rw[show X.length-1+1=X.length by lia,List.take_length];exact d);have mx:=a6c o;refine wpS_bind (bV (x:=x) ?_ ?_)
 ·have:(arrOf st).toList[p.length+(X.length-1)]? = some x:=by rw[ha,a4b (by lia),Nat.add_sub_cancel_left,a4c (by lia)];exact o
  rw[show p.length+j+(X.length-j)-1=p.length+(X.length-1) by lia];simpa using this
 refine wpS_bind (zF C B V rfl P (O x mx) H (λz d=>(hd x mx z d).symm) (by simp) λn n1 n2 n3=>?_);dsimp only;by_cases S:n=0;rw[a4A (a4B.mpr S)];subst S;exact wpS_pure (fin _ rfl (List.pairwise_append.mpr ⟨F,H,λz d u g=>(xX z d).elim (λe=>e ▸ n3 u g) λh=>C.tr h (n3 u g)⟩))
 rw[a4z (by rw[a4B];exact S)];have J:=List.pairwise_append.mp (show Srt c ((y::b).take n++(y::b).drop n) by rw[List.take_append_drop];exact H);have l:((arrOf st).extract (p.length+j) (p.length+X.length)).toList=X.drop j:=by
  rw[eC,show p.length+X.length-(p.length+j)=X.length-j by lia,← List.drop_drop,← List.drop_take_comm' j1,U]
 have m:((arrOf st).extract (p.length+X.length) (p.length+X.length+n)).toList=(y::b).take n:=by
  rw[eC,Nat.add_sub_cancel_left,← V,List.take_take,Nat.min_eq_left n1]
 have K:((arrOf st).extract (p.length+j) (p.length+X.length)).size=X.length-j:=by rw[← a8c,l,a3i]
 have z2:((arrOf st).extract (p.length+X.length) (p.length+X.length+n)).size=n:=by rw[← a8c,m,a1g];lia
 have q1:∀ z∈X.drop j,G z:=λz d=>O z (List.mem_of_mem_drop d);have q2:∀ z∈(y::b).take n,G z:=λz d=>P z (a7g d);have q3:∀ z∈X.drop j,∀ u∈(y::b).take n,c z u=true\/c u z=true:=λz d u g=>hd z (List.mem_of_mem_drop d) u (a7g g);have q4:∀ u∈((y::b).take n).take 1,∀ z∈X.drop j,c u z=true:=λu g z d=>by
  rw[List.take_take,show min 1 n=1 by lia]at g;cases a1b.mp g;exact j3 z d
 have q5:∀ z∈(X.drop j).drop (X.length-j-1),∀ u∈(y::b).take n,c u z=true:=λz d u g=>by
  rw[List.drop_drop,show j+(X.length-j-1)=X.length-1 by lia,jP o,show X.length-1+1=X.length by lia,List.drop_length]at d;cases a1b.mp d;exact n2 u g
 by_cases b3:X.length-j<=n
 case' pos=>
  rw[a4A b3];refine wpS_bind (aJ4 C B (by rw[l];exact q1) (by rw[m];exact q2) (by rw[l];exact I.2.1) (by rw[m];exact J.1) (by rw[l,m];exact q3) (a5e (by lia) (Nat.le_of_eq K.symm)) (a5e (by lia) (Nat.le_of_eq z2.symm)) (by rw[l,m];exact q4) (by rw[K,l,m];exact q5) λr t l2 rs=>?_)
 case' neg=>
  rw[a4z b3];refine wpS_bind (aJ5 C B (by rw[l];exact q1) (by rw[m];exact q2) (by rw[l];exact I.2.1) (by rw[m];exact J.1) (by rw[l,m];exact q3) (a5e (by lia) (Nat.le_of_eq K.symm)) (a5e (by lia) (Nat.le_of_eq z2.symm)) (by rw[l,m];exact q4) (by rw[K,l,m];exact q5) λr t l2 rs=>?_)
 all_goals
  rw[l,m]at rs;have rl:r.toList.length=X.length-j+n:=by rw[rs.1.length_eq,a0c,a3i,a1g];lia
  have mr:∀ u∈r.toList,u∈X.drop j\/u∈(y::b).take n:=λu g=>a7c.mp (rs.1.mem_iff.mp g);refine wpS_bind (wpS_modify (wpS_bind (wpS_get (wpS_pure ?_))));show Q (failedOf t).isNone _;rw[show(failedOf t).isNone=true by rw[l2.f];show(failedOf st).isNone=true;rw[L];rfl];refine k _ (X.take j++r.toList++(y::b).drop n) (l2.k.trans B) (l2.f.trans L) l2.p ?_ ?_ (List.pairwise_append.mpr ⟨List.pairwise_append.mpr ⟨I.1,rs.2,λu g v D=>?_⟩,J.2.1,λu g v D=>?_⟩)
  ·have:=tD (p.length+j) r.toList 0 (arrOf t) (by rw[l2.a];show _<=(arrOf st).size;rw[← a8c,ha,rl];simp at n1 ⊢;lia);refine this.trans ?_;rw[l2.a];show(arrOf st).toList.take _++_++(arrOf st).toList.drop _=_;rw[rl,Nat.add_zero,show p.length+j+(X.length-j+n)=p.length+X.length+n by lia,ha];have t1:(p++(X++(y::b++q))).take (p.length+j)=p++X.take j:=by
    rw[List.take_append,a2d (by lia),Nat.add_sub_cancel_left,List.take_append,show j-X.length=0 by lia];simp
   have t2:(p++(X++(y::b++q))).drop (p.length+X.length+n)=(y::b).drop n++q:=by
    rw[← List.append_assoc,← a0c,← List.drop_drop,List.drop_left,List.drop_append_of_le_length n1]
   rw[t1,t2];simp
  ·have:(X.take j++(X.drop j++(y::b).take n)++(y::b).drop n)=X++(y::b):=by
    rw[← List.append_assoc,List.take_append_drop,List.append_assoc,List.take_append_drop]
   exact((rs.1.append_left _).append_right _).trans (by rw[this])
  ·rcases mr v D with h | h;exact I.2.2 u g v h;exact w u (R u g) v (a7g h)
  ·rcases a7c.mp g with h | h;exact w u (R u h) v (List.mem_of_mem_drop D);rcases mr u h with h | h;exact(xX u (List.mem_of_mem_drop h)).elim (λe=>e ▸ n3 v D) λe=>C.tr e (n3 v D);exact J.2.2 u h v D
end
section
variable{M:Model}{A:Around}{E:Value->Shared->Prop}{s:Shared}{κ:SortKind}{G:Keyed->Prop}{c:Keyed->Keyed->Bool}
def Dst(c:Keyed->Keyed->Bool)(l:List Keyed):Prop:=l.Pairwise λx y=>c x y=true\/c y x=true
def Dst.perm{l a:List Keyed}(h:Dst c l)(p:l.Perm a):Dst c a:=p.pairwise h λh=>h.symm
def Dst.two{l:List Keyed}(h:Dst c l){i j:Nat}{x y:Keyed}(a:i < j)(b:l[i]? = some x)(d:l[j]? = some y):c x y=true\/c y x=true:=by
 obtain⟨e,rfl⟩:=a0a.mp b;obtain⟨f,rfl⟩:=a0a.mp d;exact List.pairwise_iff_getElem.mp h i j e f a
def mL{a:Array Keyed}{p R:List Keyed}(ha:a.toList=p++R)(i:Nat):a[p.length+i]? = R[i]?:=by
 rw[← a5b,ha,a4b (by lia),Nat.add_sub_cancel_left]
def oS{l:List Keyed}{i:Nat}(h:i < l.length):∃ x,l[i]? = some x/\x∈l:=⟨l[i],a1a h,a6i h⟩
def qO{l:List Keyed}{n:Nat}{x:Keyed}(h:l[n]? = some x):l.take (n+1)=l.take n++[x]:=by
 obtain⟨a,rfl⟩:=a0a.mp h;exact List.take_succ_eq_append_getElem a
def zG{r:Keyed->Keyed->Prop}(tr:∀ {x y z},r x y->r y z->r x z){l:List Keyed}{n:Nat}{x z:Keyed}(d:1<=n)(hs:(l.take n).Pairwise r)(b:l[n]? = some x)(hz:l[n-1]? = some z)(h:r z x):(l.take (n+1)).Pairwise r:=by
 rw[qO b];obtain⟨m,rfl⟩:∃ m,n=m+1:=⟨n-1,by lia⟩;rw[Nat.add_sub_cancel]at hz;refine List.pairwise_append.mpr ⟨hs,List.pairwise_singleton _ _,λy a u c=>?_⟩;cases a1b.mp c;rw[qO hz]at hs a;rcases a7c.mp a with e | e;exact tr ((List.pairwise_append.mp hs).2.2 y e z (a1b.mpr rfl)) h;cases a1b.mp e;exact h
def zH{a:Array Keyed}{p R:List Keyed}{n:Nat}(ha:a.toList=p++R)(hn:n<=R.length):(mirror a p.length (p.length+n) ((p.length+n-p.length) / 2)).toList=p++((R.take n).reverse++R.drop n):=by
 have sz:a.size=p.length+R.length:=by rw[← a8c,ha,a0c]
 apply a3h;intro k;rw[a5b,getElem?_mirror_all (by lia)];rw[← a5b,← a5b,ha];have b:(R.take n).reverse.length=n:=by simp;lia
 by_cases c:k < p.length;rw[a4z (by lia),a4c c,a4c c];by_cases d:k < p.length+n;rw[a4A (by lia)];refine(a4b (by lia)).trans (Eq.trans ?_ (a4b (by lia)).symm);rw[a4c (by lia),List.getElem?_reverse (by simp at b ⊢;lia),List.getElem?_take,a4A (by simp;lia)];congr 1;simp;lia;rw[a4z (by lia)];refine(a4b (by lia)).trans (Eq.trans ?_ (a4b (by lia)).symm);rw[a4b (by lia),List.getElem?_drop,b];congr 1;lia
def zI{a:Array Keyed}{p R:List Keyed}{k l:Nat}{x:Keyed}(ha:a.toList=p++R)(b:R[k]? = some x)(g:l<=k):(bubble a (p.length+k) (p.length+k-(p.length+l))).toList=p++(R.take l++(x::((R.drop l).take (k-l)++R.drop (k+1)))):=by
 have h:=(a0a.mp b).1;have sz:a.size=p.length+R.length:=by rw[← a8c,ha,a0c]
 apply a3h;intro i;rw[a5b,getElem?_bubble (by lia) _ (by lia),mL ha,b];rw[← a5b,← a5b,ha];have lt:(R.take l).length=l:=by simp;lia
 have l2:((R.drop l).take (k-l)).length=k-l:=by simp;lia
 by_cases c:i < p.length;rw[a4z (by lia),a4z (by lia),a4c c,a4c c];obtain⟨j,rfl⟩:∃ j,i=p.length+j:=⟨i-p.length,by lia⟩;refine Eq.trans ?_ (a4b (by lia)).symm;rw[Nat.add_sub_cancel_left];by_cases d:j < l;rw[a4z (by lia),a4z (by lia)];refine(a4b (by lia)).trans (Eq.trans ?_ (a4c (by lia)).symm);rw[Nat.add_sub_cancel_left,List.getElem?_take,a4A d];refine Eq.trans ?_ (a4b (by lia)).symm;rw[lt];by_cases e:j=l;subst e;rw[a4A (by lia),Nat.sub_self];rfl;rw[a4z (by lia)];obtain⟨u,f⟩:∃ u,j-l=u+1:=⟨j-l-1,by lia⟩;rw[f,a7e];by_cases m:j<=k;rw[a4A (by lia)];refine(a4b (by lia)).trans (Eq.trans ?_ (a4c (by lia)).symm);rw[List.getElem?_take,a4A (by lia),List.getElem?_drop];congr 1;lia;rw[a4z (by lia)];refine(a4b (by lia)).trans (Eq.trans ?_ (a4b (by lia)).symm);rw[List.getElem?_drop,l2];congr 1;lia
def cA3(C:Cm M A s κ G c){p R:List Keyed}{st:SortSt}{a:Nat}{Q:Option (Option Nat)×Nat->SortSt->Prop}{f:Nat->Option (Option Nat)×Nat->StateT SortSt Sem (ForInStep (Option (Option Nat)×Nat))}(ha:(arrOf st).toList=p++R)(h:∀ x∈R,G x)(hD:Dst c R)(t:1<=a)(u:a<=R.length)(hs:Srt c (R.take a))
  (j:∀ i n x z (Q:ForInStep (Option (Option Nat)×Nat)->SortSt->Prop),(arrOf st)[p.length+n]? = some x->(arrOf st)[p.length+n-1]? = some z->G x->G z->(c x z=true->Q (.done (none,n)) st)->(c x z=false->Q (.yield (none,n+1)) st)->wpS M A E s (f i (none,n)) Q st)
  (q:∀ n,a<=n->n<=R.length->Srt c (R.take n)->(n=R.length\/∃ x z,R[n]? = some x/\R[n-1]? = some z/\c x z=true)->Q (none,n) st):wpS M A E s (forIn [a:R.length] (none,a) f) Q st:=by
 refine wpS_forRange (λi (r:Option (Option Nat)×Nat) st'=>st=st'/\r=(none,i)/\Srt c (R.take i)) ?_ ?_ ⟨rfl,rfl,hs⟩;rintro i r st' k l ⟨rfl,rfl,b⟩;obtain⟨x,d,m⟩:=oS l;obtain⟨z,g,o⟩:=oS (show i-1 < R.length by lia);refine j i i x z _ (by rw[mL ha];exact d) (by rw[show p.length+i-1=p.length+(i-1) by lia,mL ha];exact g) (h x m) (h z o) (λe=>q i k (by lia) b (.inr ⟨x,z,d,g,e⟩)) λe=>⟨rfl,rfl,zG (r:=λx y=>c x y=true) C.tr (by lia) b d g ?_⟩;exact(hD.two (show i-1 < i by lia) g d).resolve_right (by rw[e];decide);rintro r st' ⟨rfl,rfl,b⟩;exact q _ (by lia) (by lia) b (.inl (by lia))
def zJ(C:Cm M A s κ G c){p R:List Keyed}{st:SortSt}{Q:Option Nat->SortSt->Prop}(d:PyProof.Rows.kindOf st=κ)(ha:(arrOf st).toList=p++R)(f:∀ x∈R,G x)(hD:Dst c R)(H:1<=R.length)
  (q:∀ n (st':SortSt) g,1<=n->n<=R.length->PyProof.Rows.kindOf st'=κ->pendingOf st'=pendingOf st->failedOf st'=failedOf st->(arrOf st').toList=p++g->g.Perm R->Srt c (g.take n)->Q (some n) st'):wpS M A E s (countRun' p.length R.length) Q st:=by
 refine wpS_bind (cA3 C ha f hD (a8a 1) H (by obtain⟨x,g,rfl⟩:∃ x g,R=x::g:=(by cases R with | nil=>simp at H | cons x g=>exact⟨x,g,rfl⟩);exact List.pairwise_singleton _ _) (λi n x z Q a b u gz v w=>?_) λn I B j N=>?_)
 ·refine wpS_bind (nH C d a b u gz ?_);dsimp only;cases e:c x z with
  | true=>exact wpS_pure (v e)
  | false=>exact wpS_pure (w e)
 dsimp only;by_cases D:n=R.length;rw[a4A (a4B.mpr D)];exact wpS_pure (q n st R I B d rfl rfl ha (.refl _) j)
 rw[a4z (by rw[a4B];exact D)];by_cases J:n > 1
 ·rw[a4A J];obtain⟨x,a,o⟩:=oS (show 0 < R.length by lia);obtain⟨z,b,t⟩:=oS (show n-1 < R.length by lia);refine wpS_bind (nH C d (x:=x) (y:=z) (by have:=mL ha 0;rw[Nat.add_zero]at this;rw[this];exact a) (by rw[show p.length+n-1=p.length+(n-1) by lia,mL ha];exact b) (f x o) (f z t) ?_);have:c x z=true:=by
   obtain⟨X,O⟩:=a0a.mp a;obtain⟨Y,P⟩:=a0a.mp b;have:=List.pairwise_iff_getElem.mp j 0 (n-1) (by simp;lia) (by simp;lia) (by lia);simpa[O,P]using this
  rw[this];exact wpS_pure (q n st R I B d rfl rfl ha (.refl _) j)
 rw[a4z J];obtain rfl:n=1:=by lia
 refine wpS_bind (wpS_lift (a4I ⟨rfl,?_⟩));refine wpS_bind (wpS_mono (wpS_forRange (λi (r:Option (Option Nat)×Nat×Nat) st'=>st=st'/\r=(none,i,0)/\(R.take i).Pairwise (λx y=>c y x=true))
  (Q:=λr st'=>st=st'/\∃ n,r=(none,n,0)/\2<=n/\n<=R.length/\(R.take n).Pairwise (λx y=>c y x=true)) ?_ ?_ ⟨rfl,rfl,?_⟩) ?_)
 ·rintro i r st' B j ⟨rfl,rfl,k⟩;obtain⟨x,a,o⟩:=oS j;obtain⟨z,b,t⟩:=oS (show i-1 < R.length by lia);have K:(arrOf st)[p.length+i]? = some x:=by rw[mL ha];exact a
  have L:(arrOf st)[p.length+i-1]? = some z:=by rw[show p.length+i-1=p.length+(i-1) by lia,mL ha];exact b
  refine wpS_bind (nH C d K L (f x o) (f z t) ?_);dsimp only;cases e:c x z with
  | true=>
    exact wpS_pure ⟨rfl,rfl,zG (r:=λx y=>c y x=true) (λh h'=>C.tr h' h) (by lia) k a b e⟩
  | false=>
    rw[a4z (by decide)];have S:c z x=true:=(hD.two (show i-1 < i by lia) b a).resolve_right (by rw[e];decide);refine wpS_bind (nH C d L K (f z t) (f x o) ?_);rw[S];exact wpS_pure ⟨rfl,i,rfl,by lia,by lia,k⟩
 ·rintro r st' ⟨rfl,rfl,k⟩;exact⟨rfl,_,rfl,by lia,by lia,k⟩
 ·obtain⟨x,z,a,b,e⟩:=N.resolve_left D;exact zG (r:=λx y=>c y x=true) (λh h'=>C.tr h' h) (a8a 1) (by rw[qO b];exact List.pairwise_singleton _ _) a b e
 rintro r st' ⟨rfl,n,rfl,k,F,T⟩;dsimp only;refine wpS_bind (wpS_modify ?_);have l:=zH ha F;have pm:((R.take n).reverse++R.drop n).Perm R:=by
  have:=(List.reverse_perm (R.take n)).append_right (R.drop n);rwa[List.take_append_drop]at this
 have Z:(R.take n).reverse.length=n:=by simp;lia
 have U:Srt c (((R.take n).reverse++R.drop n).take n):=by
  rw[List.take_append_of_le_length (by lia),a2d (by lia)];exact List.pairwise_reverse.mpr T
 rw[← pm.length_eq]at F ⊢;refine wpS_bind (cA3 C l (λx a=>f x (pm.mem_iff.mp a)) (hD.perm pm.symm) (by lia) F U (λi n x z Q a b u gz v w=>?_) λm m1 V W _=>?_)
 ·refine wpS_bind (nH C d a b u gz ?_);dsimp only;cases e:c x z with
  | true=>exact wpS_pure (v e)
  | false=>exact wpS_pure (w e)
 ·exact wpS_pure (q m _ _ (by lia) (by rw[← pm.length_eq];exact V) d rfl rfl l pm W)
def vA(C:Cm M A s κ G c){p R:List Keyed}{n ok:Nat}{st:SortSt}{Q:Bool->SortSt->Prop}(L:PyProof.Rows.kindOf st=κ)(ha:(arrOf st).toList=p++R)(N:∀ x∈R,G x)(hD:Dst c R)(O:1<=ok)(Z:ok<=n)(hn:n<=R.length)(hs:Srt c (R.take ok))
  (q:∀ (st':SortSt) R',PyProof.Rows.kindOf st'=κ->pendingOf st'=pendingOf st->failedOf st'=failedOf st->(arrOf st').toList=p++R'->R'.Perm R->Srt c (R'.take n)->Q true st'):wpS M A E s (binarySort' p.length n ok) Q st:=by
 refine wpS_bind (wpS_mono (wpS_forRange (λk (r:Option Bool×Unit) st'=>r=(none,())/\PyProof.Rows.kindOf st'=κ/\pendingOf st'=pendingOf st/\failedOf st'=failedOf st/\∃ R',(arrOf st').toList=p++R'/\R'.Perm R/\Srt c (R'.take k))
  (Q:=λr st'=>r=(none,())/\PyProof.Rows.kindOf st'=κ/\pendingOf st'=pendingOf st/\failedOf st'=failedOf st/\∃ R',(arrOf st').toList=p++R'/\R'.Perm R/\Srt c (R'.take n)) ?_ ?_ ⟨rfl,L,rfl,rfl,R,ha,.refl _,by rw[Nat.max_eq_left O];exact hs⟩) ?_)
 ·rintro k r b h3 h4 ⟨rfl,j,D,F,a,a1,pm,s1⟩;have lR:=pm.length_eq;obtain⟨x,m,P⟩:=oS (show k < a.length by lia);have I:∀ x∈a,G x:=λx m=>N x (pm.mem_iff.mp m);refine wpS_bind (wpS_mono (wpS_forRange (λi (r:Option Bool×Nat×Nat) st'=>b=st'/\r.1=none/\r.2.1<=r.2.2/\r.2.2<=k/\r.2.2+i<=k+r.2.1/\(∀ z∈a.take r.2.1,c z x=true)/\(∀ z∈(a.take k).drop r.2.2,c x z=true))
   (Q:=λr st'=>b=st'/\r.1=none/\r.2.1<=k/\(∀ z∈a.take r.2.1,c z x=true)/\(∀ z∈(a.take k).drop r.2.1,c x z=true)) ?_ ?_ ⟨rfl,rfl,a4e _,a8a _,by dsimp only;lia,λz f=>by simp at f,λz f=>by simp at f⟩) ?_)
  ·rintro i ⟨o,l,r⟩ H h5 h6 ⟨rfl,rfl,t,d,g,w,y⟩;dsimp only at t d g w y ⊢;by_cases J:l ≥ r
   ·rw[a4A J];obtain rfl:l=r:=by lia
    exact wpS_pure ⟨rfl,rfl,d,w,y⟩
   rw[a4z J];obtain⟨z,f,S⟩:=oS (show(l+r) / 2 < a.length by lia);refine wpS_bind (nH C j (by rw[mL a1];exact m) (by rw[mL a1];exact f) (I x P) (I z S) ?_);dsimp only;have tk:(a.take k)[(l+r) / 2]? = some z:=by rw[List.getElem?_take,a4A (by lia)];exact f
   cases e:c x z with
   | true=>exact wpS_pure ⟨rfl,rfl,by dsimp only;lia,by dsimp only;lia,by dsimp only;lia,w,λu B=>(mI tk s1 u B).elim (λh=>h ▸ e) (C.tr e)⟩
   | false=>
     have K:c z x=true:=((hD.perm pm.symm).two (show(l+r) / 2 < k by lia) f m).resolve_right (by rw[e];decide);refine wpS_pure ⟨rfl,rfl,by dsimp only;lia,by dsimp only;lia,by dsimp only;lia,λu B=>?_,y⟩;have:=kA tk s1 u (by rw[List.take_take,Nat.min_eq_left (by lia)];exact B);exact this.elim (λh=>h ▸ K) λh=>C.tr h K
  ·rintro⟨o,l,r⟩ H ⟨rfl,rfl,t,d,g,w,y⟩;dsimp only at t d g w y;obtain rfl:l=r:=by lia
   exact⟨rfl,rfl,d,w,y⟩
  rintro⟨o,l,r⟩ H ⟨rfl,rfl,t,d,g⟩;dsimp only at t d g ⊢;refine wpS_bind (wpS_modify (wpS_pure ⟨rfl,j,D,F,_,zI a1 m t,?_,?_⟩))
  ·have e:a=a.take l++((a.drop l).take (k-l)++(x::a.drop (k+1))):=by
    rw[← jP m]
    conv=>lhs;rw[← List.take_append_drop l a]
    congr 1
    conv=>lhs;rw[← List.take_append_drop (k-l) (a.drop l)]
    rw[List.drop_drop,show l+(k-l)=k by lia]
   refine List.Perm.trans ?_ pm
   conv=>rhs;rw[e]
   exact List.Perm.append_left _ List.perm_middle.symm
  ·have T:(a.take l).length=l:=by simp;lia
   have t2:((a.drop l).take (k-l)).length=k-l:=by simp;lia
   have U:(a.take l++(x::((a.drop l).take (k-l)++a.drop (k+1)))).take (k+1)=a.take l++(x::(a.drop l).take (k-l)):=by
    rw[List.take_append,a2d (l:=a.take l) (by lia),T,show k+1-l=(k-l)+1 by lia,List.take_succ_cons,List.take_append_of_le_length (by lia),a2d (l:=(a.drop l).take (k-l)) (by lia)]
   rw[U];have s2:Srt c (a.take l++(a.drop l).take (k-l)):=by
    have:a.take k=a.take l++(a.drop l).take (k-l):=by
     conv=>lhs;rw[show k=l+(k-l) by lia,List.take_add]
    rw[← this];exact s1
   rw[List.drop_take]at g;obtain⟨V,W,X⟩:=List.pairwise_append.mp s2;refine List.pairwise_append.mpr ⟨V,a9f.mpr ⟨g,W⟩,λu B v Y=>?_⟩;rcases a2b.mp Y with rfl | h;exact d u B;exact X u B v h
 ·rintro r b ⟨rfl,j,D,F,a,a1,pm,s1⟩;rw[show max (max ok 1) n=n by lia]at s1;exact⟨rfl,j,D,F,a,a1,pm,s1⟩
 rintro r b ⟨rfl,j,D,F,a,a1,pm,s1⟩;exact wpS_pure (q b a j D F a1 pm s1)
end
def Tl(c:Keyed->Keyed->Bool):Nat->List (Nat×Nat×Nat)->List Keyed->Prop
 | _,[],l=>l=[]
 | s,t::r,l=>t.1=s/\1<=t.2.1/\∃ X Y,l=X++Y/\X.length=t.2.1/\Srt c X/\Tl c (s+t.2.1) r Y
section
variable{c:Keyed->Keyed->Bool}
theorem Tl.app:∀ {L b:List (Nat×Nat×Nat)} {s:Nat} {l:List Keyed},Tl c s (L++b) l↔∃ X Y,l=X++Y/\Tl c s L X/\Tl c (s+X.length) b Y
 | [],b,s,l=>⟨λh=>⟨[],l,rfl,rfl,by simpa using h⟩,λ⟨X,Y,e,f,h⟩=>by
   have f:X=[]:=f;subst f;subst e;simpa using h⟩
 | t::L,b,s,l=>by
   constructor;rintro⟨g,i,X,Y,rfl,a,j,k⟩;obtain⟨U,V,rfl,d,m⟩:=Tl.app.mp k;exact⟨X++U,V,by simp,⟨g,i,X,U,rfl,a,j,d⟩,by rw[List.length_append,← Nat.add_assoc,a];exact m⟩;rintro⟨X,Y,rfl,⟨g,i,U,V,rfl,a,j,k⟩,d⟩;refine⟨g,i,U,V++Y,by simp,a,j,Tl.app.mpr ⟨V,Y,rfl,k,?_⟩⟩;rw[a0c,← Nat.add_assoc,a]at d;exact d
theorem Tl.like:∀ {L a:List (Nat×Nat×Nat)} {s:Nat} {l:List Keyed},L.map (λt=>(t.1,t.2.1))=a.map (λt=>(t.1,t.2.1))->Tl c s L l->Tl c s a l
 | [],[],_,_,_,h=>h
 | [],_::_,_,_,e,_=>by simp at e
 | _::_,[],_,_,e,_=>by simp at e
 | t::L,u::a,s,l,e,⟨d,f,X,Y,g,i,j,k⟩=>by
   simp only[List.map_cons,List.cons.injEq,Prod.mk.injEq]at e;obtain⟨⟨m,b⟩,n⟩:=e;exact⟨m ▸ d,b ▸ f,X,Y,g,b ▸ i,j,b ▸ Tl.like n k⟩
theorem Tl.le:∀ {L:List (Nat×Nat×Nat)} {s:Nat} {l:List Keyed},Tl c s L l->L.length<=l.length
 | [],_,_,_=>a4e _
 | t::L,s,l,⟨d,e,X,Y,a,f,g,b⟩=>by
   have:=Tl.le b;subst a;simp;lia
end
section
variable{M:Model}{A:Around}{E:Value->Shared->Prop}{s:Shared}{κ:SortKind}{G:Keyed->Prop}{c:Keyed->Keyed->Bool}
structure Std(κ:SortKind)(c:Keyed->Keyed->Bool)(a₀:List Keyed)(st:SortSt)(D R:List Keyed):Prop where
 k:PyProof.Rows.kindOf st=κ
 f:failedOf st=none
 a:(arrOf st).toList=D++R
 p:(D++R).Perm a₀
 t:Tl c 0 (pendingOf st).toList D
def cA4(C:Cm M A s κ G c){a₀:List Keyed}(F:∀ x∈a₀,G x)(hD:Dst c a₀){st:SortSt}{D R:List Keyed}{i:Nat}{Q:Bool->SortSt->Prop}(h:Std κ c a₀ st D R)(hi:i+1 < (pendingOf st).size)
  (q:∀ st' j,Std κ c a₀ st' j R->(pendingOf st').size+1=(pendingOf st).size->j.length=D.length->Q true st'):wpS M A E s (mergeAt' i) Q st:=by
 obtain⟨L,b⟩:∃ L,(pendingOf st).toList=L:=⟨_,rfl⟩;have H:(pendingOf st).size=L.length:=by rw[← b];rfl
 obtain⟨t,l,-⟩:∃ t,L[i]? = some t/\True:=⟨L[i]'(by lia),a1a (by lia),trivial⟩;obtain⟨u,m,-⟩:∃ t,L[i+1]? = some t/\True:=⟨L[i+1]'(by lia),a1a (by lia),trivial⟩;have e:L=L.take i++(t::u::L.drop (i+1+1)):=by
  conv=>lhs;rw[← List.take_append_drop i L]
  congr 1;obtain⟨I,J⟩:=a0a.mp l;obtain⟨K,O⟩:=a0a.mp m;rw[List.drop_eq_getElem_cons I,List.drop_eq_getElem_cons K,J,O]
 have n:(L.take i).length=i:=by simp;lia
 generalize L.take i=o at e n;generalize L.drop (i+1+1)=L2 at e;have r:=h.t;rw[b,e]at r;obtain⟨P,V,S,T,U⟩:=Tl.app.mp r;obtain⟨a1,a2,X,W,rfl,a3,a4,v,w,Y,Z,rfl,z,b4,d⟩:=U;subst S;have pw:Dst c (P++(X++(Y++(Z++R)))):=hD.perm (by have:=h.p.symm;simpa using this);obtain⟨sa,na,pa⟩:=t;obtain⟨sb,nb,pb⟩:=u;dsimp only at a1 a2 a3 v w z d;rw[a9e]at a1 d v;refine aJ6 (sa:=sa) (na:=na) (nb:=nb) (sb:=sb) (pa:=pa) (pb:=pb) (p:=P) (q:=Z++R) (X:=X) (Y:=Y) C h.k (λx g=>F x (h.p.mem_iff.mp (h.a ▸ g))) h.f (by rw[h.a];simp) a1.symm a3 z (by lia) (by rw[← Array.getElem?_toList,b];exact l) (by rw[← a5b,b];exact m) a2 w a4 b4 (λx g y hy=>?_) λst' N k1 k2 k3 k4 B k6=>?_;have:=(List.pairwise_append.mp (List.pairwise_append.mp pw).2.1).2.2 x g y (by simp[hy]);exact this;have lN:N.length=na+nb:=by rw[B.length_eq,a0c];lia
 have pl:(pendingOf st').toList=o++((sa,na+nb,pa)::L2):=by
  rw[k3];have:((pendingOf st).setIfInBounds i (sa,na+nb,pa)).eraseIdxIfInBounds (i+1)=((pendingOf st).setIfInBounds i (sa,na+nb,pa)).eraseIdx (i+1) (by simpa using hi):=by
   rw[Array.eraseIdxIfInBounds,dif_pos]
  rw[this,Array.toList_eraseIdx,Array.toList_setIfInBounds,b,e,← n];simp[List.set_append_right,List.eraseIdx_append_of_length_le]
 refine q st' (P++(N++Z)) ⟨k1,k2,by rw[k4];simp,?_,?_⟩ ?_ ?_;refine List.Perm.trans ?_ h.p;simp only[List.append_assoc];exact List.Perm.append_left _ (by have:=B.append_right (Z++R);simpa using this);rw[pl];exact Tl.app.mpr ⟨P,N++Z,rfl,T,by lia,by dsimp only;lia,N,Z,rfl,lN,k6,by dsimp only;rw[a9e,← Nat.add_assoc];exact d⟩
 ·have:(pendingOf st').size=(o++((sa,na+nb,pa)::L2)).length:=by rw[← pl];rfl
  rw[this,H,e];simp;lia
 ·simp;lia
end
section
variable{M:Model}{A:Around}{E:Value->Shared->Prop}{s:Shared}{κ:SortKind}{G:Keyed->Prop}{c:Keyed->Keyed->Bool}
theorem _root_.List.map_modify_same{b c:Type}(g:b->c)(f:b->b)(h:∀ a,g (f a)=g a):∀ (l:List b) (i:Nat),(l.modify i f).map g=l.map g
 | [],_=>by simp
 | a::l,0=>by simp[h]
 | a::l,i+1=>by simp[List.map_modify_same g f h l i]
def cY2{P:Prop}[Decidable P]{n:Nat}(h:¬ n<=1):(if P then n-2-1 else n-2)+1 < n:=by split<;>lia
def zK(C:Cm M A s κ G c){st:SortSt}{Q:Unit->SortSt->Prop}(hk:PyProof.Rows.kindOf st=κ)(hp:pendingOf st=#[])(hf:failedOf st=none)(hg:∀ x∈(arrOf st).toList,G x)(hD:Dst c (arrOf st).toList)
  (q:∀ st',failedOf st'=none->(arrOf st').toList.Perm (arrOf st).toList->Srt c (arrOf st').toList->Q () st'):wpS M A E s sortRuns' Q st:=by
 obtain⟨N,hN⟩:∃ N,(arrOf st).size=N:=⟨_,rfl⟩;have lz:(arrOf st).toList.length=N:=hN;have sz:∀ {st' D R},Std κ c (arrOf st).toList st' D R->D.length+R.length=N:=λh=>by have:=h.p.length_eq;rw[a0c]at this;lia
 refine wpS_bind (wpS_get ?_);dsimp only;rw[hN];generalize (sortPriv% PySem.Builtin.minRun) N N 0=S;refine wpS_bind (wpS_mono (wpS_forRange (λi (r:Option Unit×Nat) st'=>r.1=none/\i<=r.2/\∃ D R,Std κ c (arrOf st).toList st' D R/\D.length=r.2)
  (Q:=λr st'=>r.1=none/\∃ D,Std κ c (arrOf st).toList st' D []) ?_ ?_ ⟨rfl,a8a _,[],(arrOf st).toList,⟨hk,hf,rfl,.refl _,by rw[hp];exact rfl⟩,rfl⟩) ?_)
 ·rintro i ⟨o,lo⟩ y-hi ⟨rfl,h1,D,R,v,T⟩;dsimp only at h1 T ⊢;have e1:=sz v;by_cases B:lo ≥ N;rw[a4A B];have:R=[]:=a0e (by lia);subst this;exact wpS_pure ⟨rfl,D,v⟩
  rw[a4z B];subst T;have gR:∀ {F:List Keyed},F.Perm R->∀ x∈F,G x:=λh x hx=>hg x (v.p.mem_iff.mp (a7c.mpr (.inr (h.mem_iff.mp hx))));have dR:∀ {F:List Keyed},F.Perm R->Dst c F:=λh=>(List.pairwise_append.mp (hD.perm v.p.symm)).2.1.perm h.symm λh=>h.symm;rw[show N-D.length=R.length by lia];refine wpS_bind (zJ C v.k v.a (gR (.refl _)) (dR (.refl _)) (by lia) λn g R2 n1 n2 U V W Z z k6=>?_);dsimp only;have nx:∀ (n:Nat) (d:SortSt) (j:List Keyed),1<=n->n<=R.length->PyProof.Rows.kindOf d=κ->pendingOf d=pendingOf y->failedOf d=failedOf y->(arrOf d).toList=D++j->j.Perm R->Srt c (j.take n)->Std κ c (arrOf st).toList d D j:=λn d j n1 n2 U V W Z z k6=>
   ⟨U,W.trans v.f,Z,(z.append_left D).trans v.p,by rw[V];exact v.t⟩
  by_cases b2:n < S
  case' pos=>
   rw[a4A b2];refine wpS_bind (wpS_lift (a4I ⟨rfl,?_⟩));refine wpS_bind (vA C U Z (gR z) (dR z) n1 (by lia) (by rw[z.length_eq];lia) k6 λd j j1 j2 j3 j4 H I=>?_);rw[a4z (by decide)];have m1:1<=min R.length S:=by lia
   have m2:min R.length S<=R.length:=by lia
   generalize min R.length S=n at m1 m2 I ⊢;have J:=nx n d j m1 m2 j1 (j2.trans V) (j3.trans W) j4 (H.trans z) I
   replace H:=H.trans z
  case' neg=>
   rw[a4z b2];have J:=nx n g R2 n1 n2 U V W Z z k6;have m1:=n1;have m2:=n2;have I:=k6;have H:=z;generalize g=d at J ⊢;generalize R2=j at J H I
  all_goals
   refine wpS_bind (wpS_get ?_);have pu:∀ (b l:SortSt) (D4:List Keyed),Std κ c (arrOf st).toList b D4 j->D4.length=D.length->PyProof.Rows.kindOf l=PyProof.Rows.kindOf b->failedOf l=failedOf b->arrOf l=arrOf b->(pendingOf l).toList.map (λt=>(t.1,t.2.1))=(pendingOf b).toList.map (λt=>(t.1,t.2.1))++[(D.length,n)] ->
     (none:Option Unit)=none/\i+1<=D.length+n/\∃ D' F,Std κ c (arrOf st).toList l D' F/\D'.length=D.length+n:=λb l D4 w m K y2 y3 y4=>by
    have lt:(j.take n).length=n:=by rw[a1g,H.length_eq];lia
    have ee:D4++j.take n++j.drop n=D4++j:=by rw[List.append_assoc,List.take_append_drop]
    refine⟨rfl,by lia,D4++j.take n,j.drop n,⟨K.trans w.k,y2.trans w.f,by rw[y3,ee];exact w.a,by rw[ee];exact w.p,Tl.like (L:=(pendingOf b).toList++[(D.length,n,0)]) (by rw[y4,a8i];rfl) (Tl.app.mpr ⟨D4,j.take n,rfl,w.t,by dsimp only;lia,m1,j.take n,[],by simp,lt,I,rfl⟩)⟩,by rw[List.length_append];lia⟩
   cases e:(pendingOf d).back? with
   | none=>
     exact wpS_bind (wpS_modify (wpS_pure (pu d _ D J rfl rfl rfl rfl (by show((pendingOf d).push _).toList.map _=_;rw[a2h,a8i];rfl))))
   | some t=>
     obtain⟨s1,n1,w1⟩:=t;dsimp only;refine wpS_bind (wpS_mono (wpS_forRange (λi (r:Option Unit×Unit) st'=>r=(none,())/\∃ D4,Std κ c (arrOf st).toList st' D4 j/\D4.length=D.length)
      (Q:=λr st'=>r=(none,())/\∃ D4,Std κ c (arrOf st).toList st' D4 j/\D4.length=D.length) ?_ ?_ ⟨rfl,D,J,rfl⟩) ?_)
     ·rintro i r b-hi ⟨rfl,D4,w,m⟩;refine wpS_bind (wpS_get ?_);by_cases b3:(pendingOf b).size > 1;rw[a4A b3,a6b (show(pendingOf b).size-2 < (pendingOf b).size by lia)];dsimp only;refine qM ?_ ?_;exact wpS_pure ⟨rfl,D4,w,m⟩;exact wpS_bind (cA4 C hg hD w (show(pendingOf b).size-2+1 < (pendingOf b).size by lia) λl D5 K _ y3=>by rw[a4z (by decide)];exact wpS_pure ⟨rfl,D5,K,y3.trans m⟩);rw[a4z b3];exact wpS_pure ⟨rfl,D4,w,m⟩
     ·exact λr b h=>h
     ·rintro r b ⟨rfl,D4,w,m⟩;refine wpS_bind (wpS_modify (wpS_bind (wpS_modify (wpS_pure (pu b _ D4 w m rfl rfl rfl ?_)))));show(((pendingOf b).modify _ _).push _).toList.map _=_;rw[a2h,a8i,Array.toList_modify,List.map_modify_same (λt:Nat×Nat×Nat=>(t.1,t.2.1))];rfl;exact λt=>rfl
 ·rintro⟨o,lo⟩ y ⟨rfl,h1,D,R,v,T⟩;have e1:=sz v;dsimp only at h1 T;have:R=[]:=a0e (by lia);subst this;exact⟨rfl,D,v⟩
 ·rintro⟨o,lo⟩ y ⟨rfl,D,v⟩;dsimp only;refine wpS_bind (wpS_mono (wpS_forRange (λi (r:Option Unit×Unit) st'=>r=(none,())/\(pendingOf st').size+i<=N/\∃ D,Std κ c (arrOf st).toList st' D [])
   (Q:=λr st'=>r=(none,())/\(pendingOf st').size<=1/\∃ D,Std κ c (arrOf st).toList st' D []) ?_ ?_ ⟨rfl,by have h5:(pendingOf y).size<=D.length:=v.t.le;have h6:=sz v;rw[List.length_nil]at h6;lia,D,v⟩) ?_)
  ·rintro i r g-hi ⟨rfl,w,O,m⟩;refine wpS_bind (wpS_get ?_);by_cases B:(pendingOf g).size<=1;rw[a4A B];exact wpS_pure ⟨rfl,B,O,m⟩
   rw[a4z B];refine wpS_bind (cA4 C hg hD m (cY2 B) λl D5 K y2 y3=>by rw[a4z (by decide)];exact wpS_pure ⟨rfl,by lia,D5,K⟩)
  ·rintro r g ⟨rfl,w,O,m⟩;exact⟨rfl,by lia,O,m⟩
  ·rintro r g ⟨rfl,w,O,m⟩;refine wpS_pure (q g m.f (by rw[m.a];exact m.p) ?_);rw[m.a,a6f];have t:=m.t;have P:(pendingOf g).toList.length<=1:=w;cases e:(pendingOf g).toList with
   | nil=>rw[e]at t;have t:O=[]:=t;rw[t];exact .nil
   | cons u r=>
     rw[e]at t P;have:r=[]:=a0e (by simpa using P);subst this;obtain⟨_,_,X,Y,rfl,_,sX,hY⟩:=t;have hY:Y=[]:=hY;rw[hY,a6f];exact sX
end
end So
namespace Sx
open PySem PySem.W PyProof.Rows So
section
variable{prog:Program}{w:World}{A:Around}{E:Value->Shared->Prop}{s:Shared}
def cY3{a c:List Int}{a1 a2:Addr}{b:Bool}{Q:Bool->Shared->Prop}(d:kD prog w s.heap a a1)(e:kD prog w s.heap c a2)(q:Q (tlt a c) s):wpAny (model prog w) A (keyLt' (tuples' b) (.ref a1) (.ref a2)) Q E s:=by
 obtain⟨n,f,n1,g,_,h,i⟩:=d;obtain⟨o,j,n2,k,_,l,m⟩:=e;refine kat_lt g h k l ?_;have:=bZ5 (b:=b) (A:=A) 0 (decide (f.toList.length+0 < j.toList.length+0)) i m rfl q;simpa using this
noncomputable def xZ(prog:Program)(w:World)(h:Heap)(x:Keyed):List Int:=Classical.epsilon λk=>∃ a,x.1=.ref a/\kD prog w h k a
def nJ{h:Heap}{x:Keyed}{a:Addr}{k:List Int}(e:x.1=.ref a)(t:kD prog w h k a):xZ prog w h x=k:=by
 obtain⟨d,b,c⟩:=Classical.epsilon_spec (p:=λk=>∃ a,x.1=.ref a/\kD prog w h k a) ⟨k,a,e,t⟩;rw[e]at b;cases b;exact c.inj t
def cY4:Cm (model prog w) A s (tuples' true) (λx=>∃ k a,x.1=.ref a/\kD prog w s.heap k a) (λx y=>tlt (xZ prog w s.heap x) (xZ prog w s.heap y)) where
 lt:=λ{x y E Q} ⟨k,a,e,t⟩ ⟨d,f,b,c⟩ q=>by
  rw[nJ e t,nJ b c]at q;rw[e,b];exact cY3 t c q
 ir:=λx=>sW _
 tr:=aE2
def bH7{h:Heap}{N:Addr->Prop}{ks:List (List Int)}{vs:List Value}{L:List Keyed}(T:gB prog w h N ks vs.toArray)(hn:ks.Nodup)(pm:L.Perm (vs.zip vs))(so:L.Pairwise λx y=>tlt (xZ prog w h x) (xZ prog w h y)=true):gB prog w h N (srt ks) (L.map (·.2)).toArray:=by
 have r:ks.length=vs.length:=by simpa using T.1
 have f:∀ x∈L,∃ a,x.2=.ref a/\kD prog w h (xZ prog w h x) a/\N a:=λx c=>by
  obtain⟨g,j⟩:=mem_zip_self (pm.mem_iff.mp c);obtain⟨i,hi,e⟩:=a2f j;obtain⟨k,a,_,b,d,m⟩:=T.2 i x.1 (by rw[a1c,a1a hi,e]);exact⟨a,g ▸ b,by rw[nJ b d];exact d,m⟩
 have o:(vs.zip vs).map (xZ prog w h)=ks:=by
  refine a3h λi=>?_;rw[a8b];by_cases hi:i < vs.length
  ·have p:(vs.zip vs)[i]? = some (vs[i],vs[i]):=by rw[a1a (by simpa using hi)];simp
   obtain⟨k,a,q,b,d,m⟩:=T.2 i vs[i] (by rw[a1c];exact a1a hi);rw[p,q];exact a4V some (nJ b d)
  ·rw[a0j (l:=ks) (by lia),a0j (by simpa using hi)];rfl
 have e:L.map (xZ prog w h)=srt ks:=aX1 (List.pairwise_map.mpr so) (qK ks) λx=>by
  rw[qJ,← o,(pm.map (xZ prog w h)).mem_iff]
 refine⟨by rw[← e];simp,λi v n=>?_⟩;rw[a1c,a8b]at n;obtain⟨x,c,rfl⟩:=a2c.mp n;obtain⟨a,g,j,b⟩:=f x (a6c c);exact⟨xZ prog w h x,a,by rw[← e,a8b,c];rfl,g,j,b⟩
def aJ7{ks:List (List Int)}{vs:List Value}{N:Addr->Prop}{D n:Nat}{P:PySem.Fin->Shared->Prop}(m:s.heap.get? D=some (seqObj "list" vs.toArray n))(hD:¬ N D)(T:gB prog w s.heap N ks vs.toArray)(hz:vs.length<=sizeLine)(hn:ks.Nodup)(K:2<=vs.length->∀ k∈ks,k≠[])
  (q:∀ h' ws c,gB prog w h' N (srt ks) (List.toArray ws)->h'.get? D=some (seqObj "list" (List.toArray ws) c)->(∀ b ob,b≠D->s.heap.get? b=some ob->h'.get? b=some ob)->P (.done (.ret .none)) {s with heap:=h'}) :
  wpAny (model prog w) A (Builtin.«list.sort» ⟨[.ref D],[]⟩) P E s:=by
 have M:D < s.heap.objs.size:=a5a m;rw[list_sort_plain];refine a4x (listItems_at m rfl (a4x (listUpdate_at m rfl ?_ (by simpa using hz) (a4e _))));obtain⟨g,ho1⟩:∃ g,(s.heap.update D (Obj.mapSeq λ_=>(#[]:Array Value))).get? D=some (seqObj "list" #[] g):=⟨_,get?_update_seq m λ_=>#[]⟩;refine a4x (seqEpoch_at ho1 rfl (a4x (wpAny_newTuple ?_ (by simpa using hz))));refine a4x (wpAny_newList ?_ (a4e _));refine a4C ?_;have kept:∀ b ob,b≠D->s.heap.get? b=some ob->(((s.heap.update D (Obj.mapSeq λ_=>(#[]:Array Value))).push (seqObj "tuple" vs.toArray 0)).push (seqObj "list" #[] 0)).get? b=some ob:=λb ob hb e=>a2a _ (a2a _ ((a1d _ _ (a3d hb)).trans e));have f:(((s.heap.update D (Obj.mapSeq λ_=>(#[]:Array Value))).push (seqObj "tuple" vs.toArray 0)).push (seqObj "list" #[] 0)).get? D=some (seqObj "list" #[] g):=a2a _ (a2a _ ho1);show wpAny (model prog w) A _ P E {s with heap:=((s.heap.update D (Obj.mapSeq λ_=>(#[]:Array Value))).push (seqObj "tuple" vs.toArray 0)).push (seqObj "list" #[] 0)};generalize ((s.heap.update D (Obj.mapSeq λ_=>(#[]:Array Value))).push (seqObj "tuple" vs.toArray 0)).push (seqObj "list" #[] 0)=d at kept f ⊢;have l:gB prog w d N ks vs.toArray:=T.stay λb ob hb e=>kept b ob (λz=>hD (z ▸ hb)) e;dsimp only;have hl:ks.length=vs.length:=by simpa using T.1
 have o:(vs.toArray.zip vs.toArray).toList=vs.zip vs:=by simp
 have fin:∀ (L:List Keyed),L.Perm (vs.zip vs)->(L.Pairwise λx y=>tlt (xZ prog w d x) (xZ prog w d y)=true)->P (.done (.ret .none)) {s with heap:=d.update D (Obj.mapSeq λ_=>(L.map (·.2)).toArray)}:=λL pm so=>by
  obtain⟨p,r⟩:∃ p,(d.update D (Obj.mapSeq λ_=>(L.map (·.2)).toArray)).get? D=some (seqObj "list" (L.map (·.2)).toArray p):=⟨_,get?_update_seq f λ_=>(L.map (·.2)).toArray⟩;have kp:∀ b ob,b≠D->d.get? b=some ob->(d.update D (Obj.mapSeq λ_=>(L.map (·.2)).toArray)).get? b=some ob:=λb ob hb e=>(a1d _ _ (a3d hb)).trans e;exact q _ _ p ((bH7 l hn pm so).stay λb ob hb e=>kp b ob (λz=>hD (z ▸ hb)) e) r λb ob hb e=>kp b ob hb (kept b ob hb e)
 have O:∀ {L:List Keyed},L.Perm (vs.zip vs)->(L.map (·.2)).length=vs.length:=λpm=>by rw[a3e,pm.length_eq];simp
 by_cases h:vs.toArray.size < 2
 ·rw[a4A h,a4A h];refine a4x (a4y ?_);rw[StateT.run_pure];refine a4x (a4y ?_);dsimp only;refine a4x (seqEpoch_at f rfl ?_);have es:(arrOf (SortSt.mk' general' (vs.toArray.zip vs.toArray) #[] 7 none)).map (·.2)=((vs.zip vs).map (·.2)).toArray:=by
   show(vs.toArray.zip vs.toArray).map (·.2)=_;apply Array.toList_inj.mp;simp
  refine a4x (listUpdate_at f rfl ?_ (a4e _) (by rw[es];simp;lia));simp only[bne_self_eq_false,Bool.false_eq_true,if_false];rw[es];refine a4y (fin _ (.refl _) ?_);have:(vs.zip vs).length < 2:=by simpa using h
  match R:vs.zip vs with
  | []=>exact .nil
  | [x]=>exact List.pairwise_singleton _ _
  | _::_::_=>rw[R]at this;simp only[List.length_cons]at this;lia
 ·rw[a4z h,a4z h];have t:2<=vs.length:=by simp at h;lia
  refine a4x (bH2 (s:={s with heap:=d}) l (by lia) (K t) ?_);have C:Cm (model prog w) A {s with heap:=d} (tuples' true) _ _:=cY4 (s:={s with heap:=d});have S:∀ x∈vs.zip vs,∃ k a,x.1=.ref a/\kD prog w d k a:=λx U=>by
   obtain⟨g,u⟩:=mem_zip_self U;obtain⟨i,hi,e⟩:=a2f u;obtain⟨k,a,_,v,V,e5⟩:=l.2 i x.1 (by rw[a1c,a1a hi,e]);exact⟨k,a,v,V⟩
  have W:Dst (λx y=>tlt (xZ prog w d x) (xZ prog w d y)) (vs.zip vs):=by
   refine List.pairwise_iff_getElem.mpr λi j hi hj B=>?_;have F:i < vs.length:=by simpa using hi
   have G:j < vs.length:=by simpa using hj
   obtain⟨H,a1,g,u,v,_⟩:=l.2 i vs[i] (by rw[a1c];exact a1a F);obtain⟨I,a2,X,Y,Z,_⟩:=l.2 j vs[j] (by rw[a1c];exact a1a G);dsimp only;rw[nJ (x:=(vs.zip vs)[i]) (by simp[u]) v,nJ (x:=(vs.zip vs)[j]) (by simp[Y]) Z];have ne:H≠I:=λz=>by
    subst z;obtain⟨g1,g2⟩:=a0a.mp g;obtain⟨g3,g4⟩:=a0a.mp X;exact List.pairwise_iff_getElem.mp (List.nodup_iff_pairwise_ne.mp hn) i j g1 g3 B (g2.trans g4.symm)
   cases q1:tlt H I with
   | true=>exact .inl rfl
   | false=>cases q2:tlt I H with
     | true=>exact .inr rfl
     | false=>exact absurd (zB q1 q2) ne
  have run:=zK (E:=E) C (st:=SortSt.mk' (tuples' true) (vs.toArray.zip vs.toArray) #[] 7 none) (Q:=λ_ st'=>failedOf st'=none/\(arrOf st').toList.Perm (vs.zip vs)/\Srt (λx y=>tlt (xZ prog w d x) (xZ prog w d y)) (arrOf st').toList) rfl rfl rfl (by show ∀ x∈(vs.toArray.zip vs.toArray).toList,_;rw[o];exact S) (by show Dst _ (vs.toArray.zip vs.toArray).toList;rw[o];exact W) λst' z1 J z3=>⟨z1,by have J:(arrOf st').toList.Perm (vs.toArray.zip vs.toArray).toList:=J;rwa[o]at J,z3⟩;refine a4x (a4M run ?_ λ_ _ e=>e);rintro⟨⟨⟩,st'⟩ s' ⟨rfl,hf,pm,so⟩;dsimp only at pm so ⊢;refine a4x (seqEpoch_at f rfl ?_);have es:(arrOf st').map (·.2)=((arrOf st').toList.map (·.2)).toArray:=by apply Array.toList_inj.mp;simp
  rw[es];refine a4x (listUpdate_at f rfl ?_ (a4e _) (by show(List.toArray _).size<=_;rw[a6a,O pm];lia));rw[hf];simp only[bne_self_eq_false,Bool.false_eq_true,if_false];exact a4y (fin _ pm so)
end
end Sx
namespace PySem
open Sx PySem.W PyProof.Rows
section
variable{prog:Program}{w:World}{A:Around}{E:Value->Shared->Prop}{s:Shared}{S:Addr}{N:Addr->Prop}{ks:List (List Int)}{o:Obj}{es:Array (Int×Value)}{ep:Nat}{t:SetTable}
def xP(hh:A.handled=none)(X:mR prog w s.heap S (eZ w) N ks o es ep t)(hN:∀ a,N a->a < s.heap.objs.size)(hz:es.size<=sizeLine)(hk:2<=es.size->∀ k∈ks,k≠[]){l:List (List Int)}(hm:∀ x,x∈ks↔x∈l){Q:Value->Shared->Prop}
  (q:∀ h' tk D vs c,s.heap.objs.size<=D->h'.get? D=some (seqObj "list" (List.toArray vs) c)->gB prog w h' N (srt l) (List.toArray vs)->(∀ b ob,s.heap.get? b=some ob->h'.get? b=some ob)->Q (.ref D) {s with heap:=h',toks:=tk}) :
  wpAny (model prog w) A (call (.builtin "sorted") [.ref S]) Q E s:=by
 -- F keys in F order of F walk
 have pm:=qI (w:=w) (S:=S) (ep:=ep) es;have G:(cD w S ep es).toList.length=es.size:=by have:=pm.length_eq;simpa using this
 have B:∀ e∈(cD w S ep es).toList,∃ k a,k∈ks/\e=(tupleKeyHash (intKind prog w) k,Value.ref a)/\kD prog w s.heap k a/\N a:=λe L=>by
  have:=pm.mem_iff.mp L;obtain⟨i,hi,ei⟩:=Array.getElem_of_mem (by simpa using this:e∈es);obtain⟨k,a,j,n,u,H⟩:=X.it i e (by rw[a6b hi,ei]);exact⟨k,a,a6c j,n,u,H⟩
 -- one key for each
 have M:∃ us:List (List Int),us.Perm ks/\us.length=es.size/\∀ (i:Nat) e,(cD w S ep es).toList[i]? = some e->∃ k a,us[i]? = some k/\e.2=Value.ref a/\kD prog w s.heap k a/\N a:=by
  -- a key for each entry,by its own value
  have f:∀ e:Int×Value,∃ k:List Int,∀ y a,e.2=Value.ref a->kD prog w s.heap y a->y=k:=λe=>by
   by_cases h:∃ y a,e.2=Value.ref a/\kD prog w s.heap y a;obtain⟨y,a,j,n⟩:=h;refine⟨y,λk'' a' r O=>?_⟩;rw[j]at r;cases r;exact O.inj n;exact⟨[],λy a j n=>absurd ⟨y,a,j,n⟩ h⟩
  let g:Int×Value->List Int:=λe=>Classical.choose (f e)
  have Y:∀ e k a,e.2=Value.ref a->kD prog w s.heap k a->k=g e:=λe k a=>Classical.choose_spec (f e) k a;have ge:es.toList.map g=ks:=by
   refine a3h λi=>?_;rw[a8b,a5b];by_cases hi:i < es.size;rw[a6b hi];obtain⟨k,a,j,n,u,_⟩:=X.it i es[i] (a6b hi);rw[j];show some (g es[i])=some k;rw[← Y es[i] k a (by rw[n]) u];rw[Array.getElem?_eq_none (by lia),a0j (by rw[X.len];lia)];rfl
  refine⟨(cD w S ep es).toList.map g,?_,by rw[a3e];exact G,λi e L=>?_⟩;have:=pm.map g;rw[ge]at this;exact this;obtain⟨k,a,j,n,u,H⟩:=B e (a6c L);refine⟨k,a,?_,by rw[n],u,H⟩;rw[a8b,L];show some (g e)=some k;rw[← Y e k a (by rw[n]) u]
 obtain⟨us,up,ul,ui⟩:=M;refine Calls.call_function_entry kind_sorted plain_sorted entry_sorted (args_sorted1 _) ?_;unfold Builtin.«sorted»;refine a4x (m:=checkCount "sorted" 1 1 _) (a4y ?_);refine a4x (xK (A:=A.in1) hh X hz λj I p d=>?_);generalize J:(cD w S ep es).toList.map (·.2)=vs;have P:vs.length=es.size:=by rw[← J,a3e];exact G
 have T1:gB prog w j N us vs.toArray:=by
  refine⟨by rw[ul,a6a];exact P.symm,λi v e=>?_⟩;rw[a1c,← J,a8b]at e;obtain⟨e',ee,rfl⟩:=a2c.mp e;obtain⟨k,a,r,n,u,H⟩:=ui i e' ee;exact⟨k,a,r,n,u.at λob R=>p a ob R,H⟩
 refine a4x (wpAny_newList ?_ (by rw[P];exact hz));have K:(j.push (seqObj "list" vs.toArray 0)).get? j.objs.size=some (seqObj "list" vs.toArray 0):=a7a _ rfl;have up1:∀ b ob,j.get? b=some ob->(j.push (seqObj "list" vs.toArray 0)).get? b=some ob:=λb ob e=>a2a _ e;have T:¬ N j.objs.size:=λz=>absurd (hN _ z) (a5j.mpr (a8g d));have T2:gB prog w (j.push (seqObj "list" vs.toArray 0)) N us vs.toArray:=T1.stay λb ob _ e=>up1 b ob e;have U:2<=vs.length->∀ k∈us,k≠[]:=λh k V=>hk (by lia) k (up.mem_iff.mp V);have nu:us.Nodup:=up.nodup_iff.mpr X.nd;refine a4x (a4C (a4H slot_list_sort ⟨_,K,rfl⟩ entry_list_sort (aJ7 (s:={s with heap:=j.push (seqObj "list" vs.toArray 0),toks:=I}) K T T2 (by rw[P];exact hz) nu U λn ws c Z ho2 C=>⟨_,rfl,?_⟩) (args_list_sort _)));refine a4y ⟨_,rfl,?_⟩;have W:srt us=srt l:=aX1 (qK us) (qK l) λx=>by rw[qJ,qJ,up.mem_iff];exact hm x
 rw[W]at Z;exact q n I j.objs.size ws c (a8g d) ho2 Z λb ob e=>C b ob (λz=>absurd (a5a (z ▸ e)) (a5j.mpr (a8g d))) (up1 b ob (p b ob e))
end
end PySem
namespace L2
open PySem PySem.Spec PyProof.Rows Sx
theorem aE9(k:List Int):∀ l:List (List Int),(aK6 k l).length<=l.length+1
 | []=>by simp[aK6]
 | x::l=>by
   have:=aE9 k l;unfold aK6
   repeat' split
   all_goals (simp;try lia)
theorem aY4:∀ l:List (List Int),(srt l).length<=l.length
 | []=>by simp[srt]
 | x::l=>by
   have:=aY4 l;have:=aE9 x (srt l);show(aK6 x (srt l)).length<=_;simp;lia
def qP:List V->Hp->VK->Prop:=λvs H Q=>∃ (p:Addr) (b:Bool) (ps:List Addr) (ks:List (List Int)),vs=[.ref p]/\eR H p=some (b,ps.map V.ref)/\ps.length=ks.length/\(∀ (i:Nat) a k,ps[i]? = some a->ks[i]? = some k->H a=some (.tup (k.map V.int))) /\
 ks.length < 4000/\(2<=(srt ks).length->∀ k∈ks,k≠[]) /\
 ∀ r (c:List Addr),H r=none->c.length=(srt ks).length->(∀ (i:Nat) a k,c[i]? = some a->(srt ks)[i]? = some k->H a=some (.tup (k.map V.int)))->Q (.ref r) (upd H r (.lst (c.map V.ref)))
def vB{X:Cx}(hc:X.calm=true)(hu:X.A.units+8 < cLine):∀ pins s σ H vs us Q,Inv X pins σ H s->bW vs us->qP vs H Q ->
  wpAny (model X.prog X.w) X.A (call (.type "set") us) (λu s1=>wpAny (model X.prog X.w) X.A (call (.builtin "sorted") [u]) (EP X pins σ Q) X.xe s1) X.xe s:=by
 intro pins s σ H vs us Q I rv h;obtain⟨p,b,ps,ks,rfl,hH,hl,K,hn,L,q⟩:=h;obtain⟨u,rfl,ru⟩:=rv.one;cases ru;obtain⟨its,r,⟨M⟩⟩:=aE4 I hc hH;have B:ps.length=its.length:=by simpa using r.length
 have alive:∀ a∈ps,a < s.heap.objs.size:=λa ha=>by
  obtain⟨i,hi,e⟩:=a2f ha;have n:i < ks.length:=by lia
  obtain⟨o,_,_,ho,_⟩:=zC I (K i a ks[i] (by rw[a1a hi,e]) (a1a n));exact a5a ho
 have T0:gB X.prog X.w s.heap (· ∈ ps) ks its.toArray:=by
  refine⟨by rw[a6a];lia,λi v e=>?_⟩;rw[a1c]at e;have hi:i < ps.length:=by rw[B];exact(a0a.mp e).1
  have n:i < ks.length:=by lia
  obtain⟨v',e',O⟩:=r.get (i:=i) (x:=.ref ps[i]) (by rw[a8b,a1a hi];rfl);rw[e]at e';cases e';cases O;exact⟨ks[i],ps[i],a1a n,rfl,zC I (K i _ _ (a1a hi) (a1a n)),a6i hi⟩
 have nS:¬ s.heap.objs.size∈ps:=λz=>absurd (alive _ z) (a7d _);have nI:¬ s.heap.objs.size+1∈ps:=λz=>absurd (alive _ z) (a5j.mpr (Nat.le_succ _));refine aD2 M (λA' ha hu'=>aW2 (prog:=X.prog) (w:=X.w) (led:=eZ X.w) (N:=(· ∈ ps)) (ks:=ks) (by lia) nS nI (a0d (a2g _)) hn) (λh' hS C=>?_) λh' tk ⟨T1,us,X1,_,hm⟩ d=>?_;refine⟨T0.stay λc ob _ e=>C c ob e,[],⟨_,#[],0,_,hS,⟨rfl,rfl,rfl⟩,rfl,?_,?_,rfl,rfl,rfl,λi e he=>by simp at he,.nil⟩,a8a _,λx=>by simp⟩;refine⟨⟨3,rfl⟩,a8a _,rfl,λi j a b _ e=>by simp[SetTable.fresh]at e,λi j e=>by simp[SetTable.fresh]at e,rfl,by simp[SetTable.fresh],λi h e=>by simp at e⟩;simp[SetTable.fresh];obtain⟨o,es,ep,t,Y⟩:=X1;have y:∀ x,x∈us↔x∈ks:=λx=>by
  rw[hm x,a2d (by rw[a6a];lia)]
 have pl:us.length=(srt ks).length:=((List.perm_ext_iff_of_nodup Y.nd (aX0 (qK ks))).mpr λx=>by rw[y x,qJ]).length_eq;have P:es.size=(srt ks).length:=by rw[← Y.len];exact pl
 have E:s.heap.objs.size < h'.objs.size:=a5a Y.ob;have sl:(srt ks).length<=ks.length:=aY4 ks;have R:es.size<=sizeLine:=by rw[P,a4P];lia
 refine xP (s:={s with heap:=h',toks:=tk}) (I.ok.hd hc) Y (λa ha=>a9g (alive a ha) E) R (λh2 k S=>L (by lia) k ((y k).mp S)) y λh2 T D vs c hD ho2 U m=>?_
 -- the addresses of what is told
 have hq:∃ qs:List Addr,vs=qs.map Value.ref/\qs.length=(srt ks).length/\∀ (i:Nat) a k,qs[i]? = some a->(srt ks)[i]? = some k->H a=some (.tup (k.map V.int)):=by
  have f:∀ v∈vs,∃ a,v=Value.ref a:=λv J=>by
   obtain⟨i,hi,e⟩:=a2f J;obtain⟨_,a,_,W,_⟩:=U.2 i v (by rw[a1c,a1a hi,e]);exact⟨a,W⟩
  have g:∀ vs:List Value,(∀ v∈vs,∃ a,v=Value.ref a)->∃ qs:List Addr,vs=qs.map Value.ref:=by
   intro vs
   induction vs with
   | nil=>intro _;exact⟨[],rfl⟩
   | cons v r Z=>
     intro J;obtain⟨a,rfl⟩:=J v a9a;obtain⟨qs,rfl⟩:=Z λx hx=>J x (a0b _ hx);exact⟨a::qs,rfl⟩
  obtain⟨qs,rfl⟩:=g vs f;have l1:qs.length=(srt ks).length:=by have:=U.1;simpa using this.symm
  refine⟨qs,rfl,l1,λi a k ea ek=>?_⟩;obtain⟨k',a',e1,W,e3,e4⟩:=U.2 i (.ref a) (by rw[a1c,a8b,ea];rfl);rw[ek]at e1;cases e1;cases W;obtain⟨j,hj,ej⟩:=a2f e4;have hj':j < ks.length:=by lia
  have F:=K j a ks[j] (by rw[a1a hj,ej]) (a1a hj');have t1:kD X.prog X.w h2 ks[j] a:=(zC I F).at λob hob=>m a ob (d a ob hob);rw[e3.inj t1];exact F
 obtain⟨qs,rfl,ql,qh⟩:=hq;have G:s.heap.objs.size<=D:=a5e (a8g E) hD;refine⟨.ref D,upd H D (.lst (qs.map V.ref)),?_,rfl,q D qs (I.hok.fresh G) ql qh⟩;refine I.laid (t':=T) (λb ob e=>m b ob (d b ob e)) G ⟨by rw[a3e,ql,a4P];lia,qs.map Value.ref,c,?_,ho2⟩;have vr:∀ l:List Addr,bW (l.map V.ref) (l.map Value.ref):=by
  intro l
  induction l with
  | nil=>exact .nil
  | cons a r Z=>exact .cons rfl Z
 exact vr qs
end L2
namespace Dv
open PySem L2 Mr Sx
open Classical in
noncomputable def vC:FN:=λds=>match ds with
 | [d]=>(bM9 d).bind λx=>(aX4 x.2).bind λks=>if ks.length < 4000/\(2<=(srt ks).length->∀ k∈ks,k≠[])then some (.own (.lst ((srt ks).map tI)))else none
 | _=>none
def xQ:aG4 qP vC:=by
 intro H ds vs Q res vw e k;unfold vC at e;split at e
 ·obtain⟨⟨b,l⟩,j,e⟩:=bind_some e;obtain⟨ks,c,e⟩:=bind_some e;dsimp only at c;split at e
  ·rename_i d;cases e;cases vw with
   | cons a t=>
     cases t;obtain⟨p,xs,rfl,m,f⟩:=bN0 a j;rw[aE5 c]at f;obtain⟨ps,rfl,n,o⟩:=bZ7 f;refine⟨p,b,ps,ks,rfl,m,n,o,d.1,d.2,λr q g s u=>?_⟩;have h:tM H (upd H r (.lst (q.map V.ref))):=bE g;exact k _ _ h ⟨r,rfl,g,_,aQ,aX5 s λi a v w x=>h _ _ (u i a v w x)⟩
  ·cases e
 ·cases e
end Dv
namespace Dv
open PySem L2
noncomputable def dK4:Res->Option (List Key)
 | .val (.tup l)=>yW l
 | _=>none
noncomputable def dK5:List D->Option D
 | [v]=>some v
 | _=>none
noncomputable def cM4(row:Nat)(b:DE)(c:DA):List D->GA0->Sg->Option (GA0×Sg)
 | [],acc,σ=>some (acc,σ)
 | d::r,acc,σ=>(dgN row d σ).bind λa=>(b a).bind λx=>(dK4 x.1).bind λk=>(c x.2).bind λy=>(vals y.1).bind λds=>(dK5 ds).bind λv=>cM4 row b c r (bG6 k v acc) y.2
noncomputable def dK6(acc:GA0):D:=.dic (acc.map λp=>.tup (p.1.map xV)) (acc.map λp=>.lst p.2)
open Classical in
noncomputable def dB3(g row:Nat)(ri:DI)(a:DE)(b:DA):DS:=λσ=>if σ[g]? = some none then(ri (σ.set g (some SG))).bind λx=>
 if x.2.1=none/\x.2.2[g]? = some (some SG)/\x.1.length < 4000 then(cM4 row a b x.1 [] (x.2.2.set g none)).bind λy=>some (.rt (.own (dK6 y.1)) (y.2.set g none))else none else none
def tFQ(t:TE):TE:=λσ H Q=>t σ H λv a=>FQ (Q v) a
def dH1{X:Cx}{e:Expr}{t:TE}(h:PE X e t):PE X e (tFQ t):=λpins s σ H Q I q=>
 thn (h pins s σ H _ I q) λu s1 ⟨v,a,b,d,f⟩=>by
  suffices ∀ a,FQ (Q v) a->Inv X pins σ a s1->∃ v c,Inv X pins σ c s1/\cE v u/\Q v c from this a f b
  intro a q b
  induction q with
  | done q=>exact⟨v,_,b,d,q⟩
  | step g i _ j=>
    obtain⟨o,k⟩:=aO9 b g i;exact j o k
theorem cA5{Q:Hp->Prop}:∀ {ls:List Addr} {H:Hp},(∀ l∈ls,∃ xs,H l=some (.lst xs))->ls.Nodup->(∀ H',(∀ a,a∉ls->H' a=H a)->(∀ l∈ls,∀ xs,H l=some (.lst xs)->∃ o,H' l=some (.frz o (.lst xs)))->Q H')->FQ Q H
 | [],H,_,_,q=>.done (q H (λ_ _=>rfl) λl h=>by simp at h)
 | l::ls,H,h,nd,q=>by
   obtain⟨xs,e⟩:=h l a9a;obtain⟨n1,n2⟩:=a5h.mp nd;have ne:∀ b∈ls,b≠l:=λb hb z=>n1 (z ▸ hb);refine .step e True.intro λo=>cA5 (ls:=ls) (λb hb=>?_) n2 λH' d f=>q H' (λa ha=>?_) λb hb ys c=>?_;obtain⟨ys,c⟩:=h b (a0b _ hb);exact⟨ys,by rw[aK (ne b hb)];exact c⟩;rw[d a λz=>ha (a0b _ z),aK (show a≠l from λz=>ha (by rw[z];exact a9a))];rcases a2b.mp hb with rfl | hb;rw[e]at c;cases c;exact⟨o,by rw[d b n1,aQ]⟩;exact f b hb ys (by rw[aK (ne b hb)];exact c)
theorem Grp.nodup{H:Hp}{n:Nat}:∀ {acc:GA0} {kvs:List (List Key×V)} {ls:List Addr},Grp H n acc kvs ls->ls.Nodup
 | _,_,_,.nil=>.nil
 | _,_,_,.cons _ _ _ h t=>a5h.mpr ⟨h,t.nodup⟩
theorem Grp.rps{H H':Hp}{n:Nat}(x:Ext H H'):∀ {acc:GA0} {kvs:List (List Key×V)} {ls:List Addr},Grp H n acc kvs ls->(∀ l∈ls,∀ xs,H l=some (.lst xs)->∃ o,H' l=some (.frz o (.lst xs)))->Rps H' (acc.map λp=>.lst p.2) (kvs.map (·.2))
 | _,_,_,.nil,_=>.nil
 | _,_,_,.cons a b _ _ t,k=>by
   obtain⟨o,e⟩:=k _ a9a _ a;exact .cons (.lst e (b.mono x)) (t.rps x λl c=>k l (a0b _ c))
theorem bH8{σ:Sg}{g:Nat}{x:Option Sl}(h:σ[g]? = some x):σ.set g x=σ:=by
 apply a3h;intro i;by_cases z:i=g;subst z;rw[h,a3b (a0a.mp h).1];rw[a3a (a3d z)]
def cY5{Γ:Gm}{H:Hp}{σ:Sg}{σV:St}{p:Addr}(ok:StOk Γ H σ σV)(h:H p=none):¬ aA8 σ σV p:=λz=>by
 obtain⟨o,e,_⟩:=ok.mutObj z;rw[h]at e;cases e
def _root_.L2.DTa.keep{H H':Hp}{p:Addr}{kvs:List (List Key×V)}(h:DTa H p kvs)(k:∀ o,H p=some o->H' p=some o):DTa H' p kvs:=h.imp (k _) λh=>⟨k _ h.1,h.2⟩
theorem _root_.L2.DTa.some{H:Hp}{p:Addr}{kvs:List (List Key×V)}(h:DTa H p kvs):∃ o,H p=some o/\Fz o:=h.elim (λh=>⟨_,h,True.intro⟩) λh=>⟨_,h.1,True.intro⟩
def _root_.L2.DTa.isD{H:Hp}{p:Addr}{kvs:List (List Key×V)}(h:DTa H p kvs):IsD H p:=h.elim (λh=>.inr (.inl ⟨_,.inl h⟩)) λh=>.inl ⟨_,.inl h.1⟩
def bH9{Γ:Gm}{E:Ex}{K:W.Frag}{g row:Nat}{ri:DI}{rk:DE}{ra:DA}{D:Ends}{σV:St}{H:Hp}(hne:row≠g)(h:dTS Γ E (dB3 g row ri rk ra) D σV H) :
  cO6 (bA7 aA7 (lB g)) (cO6 (cL4 (dTI Γ ri) (lB row) (aL3 (tBM K "list" mT (dB1 (zV g) (dTE Γ rk) (dA0 cP9)) (dTA Γ ra)))) (cZ8 (tFQ (zV g)))) D σV H:=by
 obtain⟨σ,ok,o,e,k⟩:=h;unfold dB3 at e;split at e
 case isFalse=>cases e
 rename_i hg;obtain⟨⟨items,l,n⟩,e1,e⟩:=bind_some e;dsimp only at e;split at e
 case isFalse=>cases e
 rename_i hz;obtain⟨rfl,O,hz⟩:=hz;obtain⟨⟨acc,A⟩,e2,e⟩:=bind_some e;cases e;intro p hp;have gl:g < σV.length:=by rw[← ok.len];exact(a0a.mp hg).1
 have h0:=ok.dom p hp;have okP:eY σ g=true:=by unfold eY;rw[hg]
 have sm:tM H (upd H p (.dT [])):=bE hp;have ok1:StOk Γ (upd H p (.dT [])) (σ.set g (some SG)) (σV.set g (some (.ref p))):=(ok.same sm).putOwn okP ⟨_,[],aQ,⟨rfl,rfl⟩,.nil⟩ (cY5 ok hp) h0;have st1:Step σ σV H (σ.set g (some SG)) (σV.set g (some (.ref p))) (upd H p (.dT [])):=(Step.same sm).put okP .own (.inr ⟨rfl,λq e=>by cases e;exact hp⟩);have vg:(σV.set g (some (.ref p)))[g]? = some (some (.ref p)):=by rw[a3b gl]
 unfold lB cO6;dsimp only;generalize σV.set g (some (.ref p))=f at ok1 st1 vg ⊢;refine⟨_,ok1,items,none,n,e1,λJ G P oka sta itd stay=>?_⟩;have mp:iU n f p:=⟨g,SG,O,rfl,vg⟩;have dta:DTa G p []:=by
  obtain⟨v,ev,rv⟩:=oka.rel g SG O;rw[vg]at ev;cases ev;obtain⟨_,q,u,ws,hu,du,_⟩:=rv;cases q;cases u with
  | dK kvs=>exact .inr ⟨by rw[hu,List.map_eq_nil_iff.mp du.1.symm],rfl⟩
  | dT kvs=>exact .inl (by rw[hu,List.map_eq_nil_iff.mp du.1.symm])
  | dM kvs=>cases du.1
  | _=>exact du.elim
 have hid0:Hid Γ (n.set g none) f p:=⟨λ⟨i,s,h1,h2,h3⟩=>by
  rcases bH h1 with⟨z,I,_⟩ | ⟨z,I⟩;cases I;exact oka.dis g i SG s p (a3d z) O I rfl h2 vg h3,h0⟩
 have gl1:g < n.length:=(a0a.mp O).1;refine⟨λi m σV2 Q=>m=items.length-i/\i<=items.length/\∃ c a2 kvs ls,cM4 row rk ra (items.drop i) a2 c=some (acc,A)/\StOk Γ Q c σV2/\Step n f G (c.set g (some SG)) σV2 Q/\σV2[g]? = some (some (.ref p))/\DTa Q p kvs/\Grp Q i a2 kvs ls/\p∉ls/\(∀ q,q=p\/q∈ls->Hid Γ c σV2 q)/\(∀ q∈ls,G q=none)/\a2.length<=i,
  ⟨_,rfl,a4e _,n.set g none,[],[],[],by simpa using e2,oka.forget,by rw[List.set_set,bH8 O];exact .refl,vg,dta,.nil,by simp,λq hq=>by rcases hq with rfl | hq;exact hid0;simp at hq,by simp,a8a _⟩,?_⟩
 rintro i m σV2 Q ⟨rfl,hi,c,a2,kvs,ls,ef,ok2,st2,vg2,dt2,gr,pn,hq,hla,al⟩;have hP:P Q:=stay _ σV2 Q st2;by_cases R:i < items.length
 ·have ei:items[i]? = some items[i]:=a1a R;refine .inr ⟨itd.go Q i _ hP ei,λσV3 X=>∃ m',m' < items.length-i/\m'=items.length-(i+1)/\i+1<=items.length/\∃ c a2 kvs ls,cM4 row rk ra (items.drop (i+1)) a2 c=some (acc,A)/\StOk Γ X c σV3/\Step n f G (c.set g (some SG)) σV3 X/\σV3[g]? = some (some (.ref p))/\DTa X p kvs/\Grp X (i+1) a2 kvs ls/\p∉ls/\(∀ q,q=p\/q∈ls->Hid Γ c σV3 q)/\(∀ q∈ls,G q=none)/\a2.length<=i+1,λσ' H' q=>q,λy X hy=>?_⟩;obtain⟨S,ry⟩:=itd.yld Q i _ y X hP ei hy;rw[List.drop_eq_getElem_cons R]at ef;obtain⟨σ3,eg,ef1⟩:=bind_some ef;obtain⟨⟨xk,x⟩,ek,ef2⟩:=bind_some ef1;obtain⟨F,T,ef3⟩:=bind_some ef2;obtain⟨⟨ys,σ5⟩,ea,ef4⟩:=bind_some ef3;obtain⟨ds,evs,ef5⟩:=bind_some ef4;obtain⟨vd,Y,ef6⟩:=bind_some ef5;clear ef ef1 ef2 ef3 ef4 ef5;dsimp only at T ea evs ef6;unfold dgN at eg;split at eg
  case isFalse=>cases eg
  rename_i okr;cases eg;have okr':eY (c.set g (some SG)) row=true:=by unfold eY;rw[a3a (a3d hne)];exact okr
  have M:=(ok2.same S).put okr ry;have Z:=(st2.trans (.same S)).put (v:=y) (d:=items[i]) okr' .val (.inl rfl);rw[List.set_comm _ _ (a3d hne)]at Z;have B:(σV2.set row (some y))[g]? = some (some (.ref p)):=by rw[a3a hne];exact vg2
  have hq3:∀ q,q=p\/q∈ls->Hid Γ (c.set row (some ⟨.val,items[i]⟩)) (σV2.set row (some y)) q:=λq h=>⟨λ⟨j,s,h1,h2,h3⟩=>by
   rcases bH h1 with⟨z,I,_⟩ | ⟨z,I⟩;cases I;exact h2 rfl;exact(hq q h).nv ⟨j,s,I,h2,by rw[a3a (a3d z)]at h3;exact h3⟩,(hq q h).h0⟩
  have gl2:g < (c.set row (some ⟨.val,items[i]⟩)).length:=by rw[M.len];exact(a0a.mp B).1
  unfold aL3;dsimp only;generalize σV2.set row (some y)=σV3 at M Z B hq3 ⊢;generalize c.set row (some ⟨.val,items[i]⟩)=σ3 at M Z hq3 ek gl2;have gr3:Grp X i a2 kvs ls:=gr.keep (.same S) λl _ o e=>S l o e;have dt3:DTa X p kvs:=dt2.keep λo e=>S p o e;refine⟨.ref p,B,p,rfl,dt3.isD,σ3,M,xk,x,ek,λvk H4 U rk4 st4 f4=>⟨a4e _,λl N=>?_⟩⟩;have kp4:∀ q,q=p\/q∈ls->∀ o,X q=some o->H4 q=some o:=λq h o e=>((hq3 q h).step st4 e).2;have hq4:∀ q,q=p\/q∈ls->Hid Γ x σV3 q:=λq h=>by
   have:∃ o,X q=some o:=by
    rcases h with rfl | h;obtain⟨o,e,_⟩:=dt3.some;exact⟨o,e⟩;obtain⟨xs,e⟩:=gr3.soft q h;exact⟨_,e⟩
   obtain⟨o,e⟩:=this;exact((hq3 q h).step st4 e).1
  have st4':Step n f G (x.set g (some SG)) σV3 H4:=Z.trans (st4.wide gl2 (by rw[U.len,M.len]) B B);have ext4:=st4.ext M;have gr4:Grp H4 i a2 kvs ls:=gr3.keep ext4 λl N=>kp4 l (.inr N);have dt4:DTa H4 p kvs:=dt3.keep (kp4 p (.inl rfl));obtain⟨b,rfl,hb⟩:∃ b,vk=.ref b/\H4 b=some (.tup (F.map kV)):=by
   unfold dK4 at T;split at T
   ·have rk4:Rp H4 (.tup _) vk:=rk4;cases rk4 with
    | tup h r=>rw[pE T]at r;rw[uP r]at h;exact⟨_,rfl,h⟩
   ·cases T
  have lp:l≠p:=λz=>by obtain⟨o,e,_⟩:=dt4.some;rw[z,e]at N;cases N
  have lls:l∉ls:=λz=>by obtain⟨xs,e⟩:=gr4.soft l z;rw[e]at N;cases N
  have s5:tM H4 (upd H4 l (.lst [])):=bE N;have hidl:Hid Γ x σV3 l:=⟨cY5 U N,U.dom l N⟩;have hal:G l=none:=st4'.dom l N;have gr5:Grp (upd H4 l (.lst [])) i a2 kvs ls:=gr4.keep (.same s5) λq _ o e=>s5 q o e;have dt5:DTa (upd H4 l (.lst [])) p kvs:=dt4.keep λo e=>s5 p o e;have st5:Step n f G (x.set g (some SG)) σV3 (upd H4 l (.lst [])):=st4'.hid (.inl hal)
  -- behind setdefault
  have fin:∀ (H6:Hp) (a6:GA0) (w:List (List Key×V)) (C:List Addr) (v:V),StOk Γ H6 x σV3->Step n f G (x.set g (some SG)) σV3 H6->DTa H6 p w->Grp H6 i a6 w C->p∉C->(∀ q,q=p\/q∈C->Hid Γ x σV3 q)->(∀ q∈C,G q=none)->mX w F=some v->bG6 F vd a6=bG6 F vd a2->a6.length<=i+1 ->
    tyV K "list" v H6/\dTA Γ ra σV3 H6 λxs H7=>mT v xs H7 λ_ H8=>∃ m',m' < items.length-i/\m'=items.length-(i+1)/\i+1<=items.length/\∃ c a2 kvs ls,cM4 row rk ra (items.drop (i+1)) a2 c=some (acc,A)/\StOk Γ H8 c σV3/\Step n f G (c.set g (some SG)) σV3 H8/\σV3[g]? = some (some (.ref p))/\DTa H8 p kvs/\Grp H8 (i+1) a2 kvs ls/\p∉ls/\(∀ q,q=p\/q∈ls->Hid Γ c σV3 q)/\(∀ q∈ls,G q=none)/\a2.length<=i+1:=by
   intro H6 a6 w C v ok6 st6 dt6 gr6 pn6 hq6 hla6 hv eg6 al6;obtain⟨l6,xs6,rfl,m6,hl6,hx6,_⟩:=gr6.app (d:=vd) (y:=.non) hv;refine⟨.inl ⟨rfl,xs6,SqL.of hl6⟩,x,ok6,ys,σ5,ea,λus H7 ok7 r7 st7 f7=>?_⟩;have ry7:=jW r7 evs;obtain⟨y7,rfl,r1⟩:∃ y7,us=[y7]/\Rp H7 vd y7:=by
    unfold dK5 at Y;split at Y
    ·cases Y;cases ry7 with
     | cons a t=>cases t;exact⟨_,rfl,a⟩
    ·cases Y
   have kp7:∀ q,q=p\/q∈C->∀ o,H6 q=some o->H7 q=some o:=λq h o e=>((hq6 q h).step st7 e).2;have hq7:∀ q,q=p\/q∈C->Hid Γ σ5 σV3 q:=λq h=>by
    have:∃ o,H6 q=some o:=by
     rcases h with rfl | h;obtain⟨o,e,_⟩:=dt6.some;exact⟨o,e⟩;obtain⟨xs,e⟩:=gr6.soft q h;exact⟨_,e⟩
    obtain⟨o,e⟩:=this;exact((hq6 q h).step st7 e).1
   have gr7:Grp H7 i a6 w C:=gr6.keep (st7.ext ok6) λl N=>kp7 l (.inr N);have dt7:DTa H7 p w:=dt6.keep (kp7 p (.inl rfl));obtain⟨l7,xs7,q7,m7,hl7,hx7,app⟩:=gr7.app (d:=vd) (y:=y7) hv;cases q7;have sf:bZ1 H7 l6:=.inr ⟨_,hl7,True.intro⟩;have lp7:l6≠p:=λz=>pn6 (z ▸ m7);have gl4:g < x.length:=by rw[ok6.len];exact(a0a.mp B).1
   refine⟨l6,xs7,y7,rfl,rfl,hl7,Nat.lt_of_le_of_lt hx7 (a9b (a9g R hz) (by decide)),_,by lia,rfl,R,σ5,bG6 F vd a6,w,C,?_,ok7.hid (hq7 l6 (.inr m7)) sf,(st6.trans (st7.wide gl4 (by rw[ok7.len,ok6.len]) B B)).hid (.inl (hla6 l6 m7)),B,dt7.keep λo e=>by rw[aK (a3d lp7)];exact e,app (r1.mono sf.ext) sf.ext,pn6,hq7,hla6,?_⟩;rw[eg6];exact ef6;have:=(app (r1.mono sf.ext) sf.ext).len;have:=gr7.len;lia
  refine⟨kvs,F,b,dt5,rfl,s5 b _ hb,?_,λv hv=>?_,λhv=>?_⟩;have:=gr4.len;exact Nat.lt_of_le_of_lt (by lia) (a9b (a9g R hz) (by decide));exact fin _ a2 kvs ls v (U.same s5) st5 dt5 gr5 pn hq4 hla hv rfl (by lia);have sp:bZ1 (upd H4 l (.lst [])) p:=.inr dt5.some;have kl:∀ q∈ls++[l],q≠p:=λq h z=>by
   rcases a7c.mp h with h | h;exact pn (z ▸ h);exact lp (by rw[← a1b.mp h];exact z)
  refine fin _ (a2++[(F,[])]) (kvs++[(F,.ref l)]) (ls++[l]) (.ref l) ((U.same s5).hid (hq4 p (.inl rfl)) sp) (st5.hid (.inr mp)) (.inl aQ) ((gr5.more aQ lls).keep sp.ext λq h o e=>by rw[aK (kl q h)];exact e) (λz=>kl p z rfl) (λq h=>?_) (λq h=>?_) (aD4 hv) (xD (by rw[← gr4.keys];exact aD3 hv)) (by rw[a0c];exact Nat.succ_le_succ al);rcases h with h | h;exact hq4 q (.inl h);rcases a7c.mp h with h | h;exact hq4 q (.inr h);cases a1b.mp h;exact hidl;rcases a7c.mp h with h | h;exact hla q h;cases a1b.mp h;exact hal
 ·have e0:i=items.length:=by lia
  subst e0;rw[List.drop_length]at ef;cases ef;refine .inl ⟨itd.stop Q hP,_,vg2,cA5 gr.soft gr.nodup λH' k1 k2=>?_⟩;have gL:∀ a,a∈ls->Hid Γ A σV2 a/\bZ1 Q a:=λa h=>by obtain⟨xs,e⟩:=gr.soft a h;exact⟨hq a (.inr h),.inr ⟨_,e,True.intro⟩⟩
  have ex:=uO (L:=(· ∈ ls)) (λa h=>(gL a h).2) k1;have ok':StOk Γ H' (A.set g none) σV2:=(ok2.hids (L:=(· ∈ ls)) gL k1).forget;have st':Step n f G (A.set g (some SG)) σV2 H':=st2.hids (L:=(· ∈ ls)) (λa h=>⟨.inl (hla a h),by obtain⟨xs,e⟩:=gr.soft a h;obtain⟨o,e'⟩:=k2 a h xs e;rw[e'];exact λz=>nomatch z⟩) k1;have st'':Step σ σV H (A.set g none) σV2 H':=by
   have:=(st1.trans sta).trans st';rw[show A.set g (some SG)=(A.set g none).set g (some SG) by rw[List.set_set]]at this;refine this.drop hg λs z=>?_;rcases bH z with⟨_,I,_⟩ | ⟨z1,_⟩;cases I;exact z1 rfl
  refine k (.ref p) σV2 H' ok' ⟨p,rfl,?_,λ⟨j,s,h1,h2,h3⟩=>?_,h0⟩ st''
  ·have rp:=gr.rps ex k2;have dt':DTa H' p kvs:=dt2.keep λo e=>by rw[k1 p pn];exact e
   have kk:acc.map (λp=>Dv.D.tup (p.1.map xV))=kvs.map λkv=>Dv.D.tup (kv.1.map xV):=by
    have:=a4V (List.map λl:List Key=>Dv.D.tup (l.map xV)) gr.keys;simpa[List.map_map,Function.comp_def]using this.symm
   rcases dt' with e | ⟨e,rfl⟩;exact⟨_,_,e,⟨kk,rfl⟩,rp⟩;refine⟨_,[],e,⟨kk,rfl⟩,rp⟩
  ·rcases bH h1 with⟨_,I,_⟩ | ⟨_,I⟩;cases I;exact(hq p (.inl rfl)).nv ⟨j,s,I,h2,h3⟩
def cJ8{X:Cx}{E:Ex}{K:W.Frag}{g row:Nat}{a b c:Stmt}{ri:DI}{e:DE}{f:DA}(d:row≠g)(i:PS X a (bA7 aA7 (lB g)))
  (j:∀ Γ,PS X b (cL4 (dTI Γ ri) (lB row) (aL3 (tBM K "list" mT (dB1 (zV g) (dTE Γ e) (dA0 cP9)) (dTA Γ f))))) (k:PS X c (cZ8 (tFQ (zV g)))):GSs E X [a,b,c] (dB3 g row ri e f):=
 .mk λΓ=>cS1 (tG i (tG (j Γ) (yE k))) λD σV H h=>bH9 d h
end Dv
namespace PySem.SeqAt
open PySem MeetsSeq MeetsSeq2 MeetsSeq3 SeqRoads2
def nK{M:Model}{A:Around}{E:Value->Shared->Prop}{s:Shared}{a:Type}(lo hi:Nat)(f:Nat->a->Sem (ForInStep a))(I:Nat->a->Shared->Prop)(Q:a->Shared->Prop)
  (turn:∀ i b s,lo<=i->i < hi->I i b s->wpAny M A (f i b) (λr s'=>match r with | .yield c=>I (i+1) c s' | .done c=>Q c s') E s)
  (fin:∀ b s,I (max lo hi) b s->Q b s) (b:a) (h:I lo b s):wpAny M A (forIn [lo:hi] b f) Q E s:=by
 rw[Std.Legacy.Range.forIn_eq_forIn_range'];refine wpAny_forIn_list f (λl b s=>∃ i,lo<=i/\i<=max lo hi/\l=List.range' i (max lo hi-i)/\I i b s) Q ?_ ?_ _ b ⟨lo,a8a _,by lia,?_,h⟩
 ·rintro x dD b s ⟨i,g,n,e,d⟩;cases j:max lo hi-i with
  | zero=>rw[j]at e;simp at e
  | succ m=>
    rw[j,List.range'_succ]at e;obtain⟨rfl,rfl⟩:=List.cons.inj e;refine L2.thn (turn x b s g (by lia) d) λr s' k=>?_;cases r with
    | yield c=>exact⟨x+1,by lia,by lia,by rw[show max lo hi-(x+1)=m by lia],k⟩
    | done c=>exact k
 ·rintro b s ⟨i,g,n,e,d⟩;have:i=max lo hi:=by
   have:=a4V List.length e;simp at this;lia
  subst this;exact fin b s d
 ·show List.range' lo ((hi-lo+1-1) / 1) 1=_;rw[Nat.div_one,show hi-lo+1-1=max lo hi-lo by lia]
def tuple_indexAt(l:Addr)(items:Array Value)(n:Nat)(k:Option Addr)(sl:Array (Option Value))(x:Value)(e:Value->Bool)(j:Nat)(hj:j < items.size)(hb:∀ m (hm:m < items.size),m < j->e items[m]=false)(ha:e items[j]=true) :
  Meets (Builtin.«tuple.index» ⟨[.ref l,x],[]⟩)
   (λA R s=>s.heap.get? l=some {cls:=.type "tuple",dict:=k,data:=.seq items n,slots:=sl}/\(∀ y,y∈items->EqAt A.in1 s y x (e y))/\R (.ok (.ret (.int j s.toks))) {s with toks:=s.toks+1}):=
 .of_wp λprog w A R s h=>by
  obtain⟨o,g,d,tk,os⟩:=s;obtain⟨f,p,h⟩:=h
  wp_walk using a4S f,nK _ _ _ (λi (b:Option (PySem.Fin)×PUnit) s'=>s'=⟨o,g,d,tk,os⟩/\b=(none,⟨⟩)/\i<=j) _
  case turn=>
   rintro i b s' _ hi ⟨rfl,rfl,c⟩;have a:i < items.size:=by lia
   rw[a6b a];refine a4x (p _ (Array.getElem_mem a) prog w _ _ ?_);rcases Nat.lt_or_eq_of_le c with l | rfl
   ·rw[hb i a l]
    wp_walk
    exact⟨rfl,rfl,l⟩
   ·rw[ha]
    wp_walk
    exact⟨_,rfl,h⟩
  case fin=>
   rintro b s' ⟨_,_,f⟩;lia
  case h=>exact⟨rfl,rfl,a4e _⟩
end PySem.SeqAt
namespace L2
open PySem PySem.Spec PyProof.Rows Sx
def mM(a b:Value):argsOk "tuple.index" ⟨[a,b],[]⟩:=by
 unfold argsOk;rw[signature?_of (id:="tuple.index") (n:=['x','e','d','n','i']) (o:=['e','l','p','u','t']) (by kernel_rfl) F.owner_tuple];kernel_rfl
def bI0{b:List V}{us:List Value}(h:bW b us){i:Nat}{x:V}(e:b[i]? = some x):∃ u,us[i]? = some u/\cE x u:=by
 induction h generalizing i with
 | nil=>simp at e
 | cons a t c=>
   cases i with
   | zero=>simp at e;subst e;exact⟨_,rfl,a⟩
   | succ i=>exact c (by simpa using e)
def aY5:V->List V->Hp->VK->Prop:=λx vs H Q=>∃ (l:Addr) (a:List Str) (z:Str),x=.ref l/\vs=[.str z]/\H l=some (.tup (a.map V.str))/\z∈a/\Q (.int (a.idxOf z:Nat)) H
def aY6{X:Cx}:MtR X "tuple.index" aY5:=by
 intro pins s σ H x vs v us Q I C D h;obtain⟨l,a,z,rfl,rfl,G,J,q⟩:=h;cases C;obtain⟨u,rfl,K⟩:=D.one;obtain⟨t,rfl⟩:=K;obtain⟨_,its,r,⟨⟨oc,od,L,sl⟩,e,c,n,d⟩,_⟩:=(show cM X.prog X.w H s.heap l (.tup (a.map V.str))from I.hok l _ G);dsimp only at c d;subst c d;have hj:a.idxOf z < a.length:=List.idxOf_lt_length_iff.mpr J;have A:its.length=a.length:=by
  have:=r.length;simpa using this.symm
 have g:∀ m (hm:m < its.toArray.size),∃ (b:m < a.length) (f:Tok),its.toArray[m]=.str a[m] f:=λm hm=>by
  have j:m < its.length:=by simpa using hm
  have b:m < a.length:=by lia
  obtain⟨u,B,M⟩:=bI0 (i:=m) r (by rw[a8b,a1a b];rfl);obtain⟨f,rfl⟩:=M;rw[a1a j]at B;exact⟨b,f,by simpa using a4a B⟩
 refine a5o F.slot_tuple_index ⟨_,e,rfl⟩ F.entry_tuple_index (mM _ _) (SeqAt.tuple_indexAt l its.toArray n od sl (.str z t) (isZ z) (a.idxOf z) (by simp;lia) (λm hm k=>?_) ?_) ⟨e,λy N=>?_,?_⟩;obtain⟨b,f,o⟩:=g m hm;rw[o];show(a[m]==z)=false;have h:=List.not_of_lt_findIdx (p:=(· == z)) (xs:=a) k;simpa using h;obtain⟨b,f,o⟩:=g (a.idxOf z) (by simp;lia);rw[o];show(a[a.idxOf z]==z)=true;simp;obtain⟨O,f,rfl⟩:=aN5 r y (by simpa using N);exact λprog w E Q h=>eqBool_str h;exact⟨.int _,H,I.tok _,⟨_,rfl⟩,q⟩
end L2
namespace Dv
open PySem L2 Mr Sx
noncomputable def dH2:FT:=λl e=>match e with
 | .str z=>(uG l).bind λa=>if z∈a then some (.int (a.idxOf z:Nat))else none
 | _=>none
def bI1:dK3 aY5 dH2:=by
 intro H l xs e p y Q d b r c a k;unfold dH2 at a;split at a;obtain⟨f,g,a⟩:=bind_some a;split at a;rename_i h;cases a;rw[iO c];rw[pA g]at r;rw[r.strs_inv]at b;exact⟨p,f,_,rfl,rfl,b,h,k _ (.int _)⟩;cases a;cases a
end Dv
namespace PySem
structure Zap(z TI TO i j:Addr)(f g:List Addr):Prop where
 a1:TI≠z
 a2:TO≠z
 a3:TI≠TO
 a4:i≠z
 a5:j≠z
 a6:TI≠i
 a7:TI≠j
 a8:TO≠i
 a9:TO≠j
 fz:z∉f
 fo:TO∉f
 fj:j∉f
 gz:z∉g
 go:TO∉g
 gi:i∉g
section
variable{prog:Program}{w:World}{A:Around}{E:Value->Shared->Prop}{s:Shared}{z TI TO i j:Addr}{f g:List Addr}{n:Nat}{P R:Nat->Value->Prop}{S T:Nat->Heap->Prop}
def cJ9{k:Nat}{a b:Value}{Q:Value->Shared->Prop}(D:Zap z TI TO i j f g)(B:Draws prog w A i f n P S)(C:Draws prog w A j g n R T)(O:k < n)
  (hz:IsZip s.heap z TI TO .none) (hI:IsPair s.heap TI (.ref i) (.ref j)) (hO:IsPair s.heap TO a b) (si:S k s.heap) (sj:T k s.heap)
  (q:∀ x y h' tk,P k x->R k y->IsZip h' z TI TO (rawInt s.heap.objs.size)->IsPair h' TO x y->S (k+1) h'->T (k+1) h'->IsPair h' s.heap.objs.size x y ->
   (∀ c o,c≠z->c≠TO->c≠i->c≠j->s.heap.get? c=some o->h'.get? c=some o)->Q (.ref s.heap.objs.size) {s with heap:=h',toks:=tk}) :
  wpAny (model prog w) A (Builtin.«zip.__next__» ⟨[.ref z],[]⟩) (λfin s'=>∃ v,fin=.done (.ret v)/\Q v s') E s:=by
 (show wpAny _ _ (field (.ref z) 2 >>= _) _ _ _;refine a4x (a4G hz rfl (x:=.bool false) rfl ?_))
 (show wpAny _ _ (field (.ref z) 3 >>= _) _ _ _;refine a4x (a4G hz rfl (x:=.ref TI) rfl ?_);refine a4x (a4K hI rfl ?_))
 (show wpAny _ _ (Builtin.SmallTypes.ownedTupleIsFree (.ref z) >>= _) _ _ _;refine a4x ?_;unfold Builtin.SmallTypes.ownedTupleIsFree;refine a4x (a4G hz rfl (x:=.none) rfl (a4y ?_)))
 (simp only[if_true];refine a4x (a4I ?_);refine a4x (a4G hz rfl (x:=.ref TO) rfl ?_);refine a4x (wpAny_setField_rec hz (by simp) λh1 J m=>?_))
 replace J:IsZip h1 z TI TO .ellipsis:=J
 (refine a4x ?_;simp only[List.zipIdx_cons,List.zipIdx_nil,List.forIn_cons,List.forIn_nil];refine a4x (a4x (wpAny_onRaise ?_)))
 (show wpAny _ _ (Builtin.SmallTypes.nextOf (.ref i) >>= _) _ _ _;refine a4x (B.item k _ _ _ O (B.frame _ _ _ si λc d o e=>(m.2 c λz=>D.fz (z ▸ d)).trans e) λx h2 t2 px s2 p=>a4y ?_))
 have U:IsPair h2 TO a b:=(p.2 TO D.a8).trans ((m.2 TO D.a2).trans hO)
 (refine a4x (a4K U rfl ?_);refine a4x (wpAny_updateSeq_pair U λV K r=>?_))
 replace K:IsPair V TO x b:=K
 (refine a4x (wpAny_letGo (a4y ?_));refine a4x (a4x (wpAny_onRaise ?_)))
 have t3:T k V:=C.frame _ _ _ sj λc d o e=>(r.2 c λz=>D.go (z ▸ d)).trans ((p.2 c λz=>D.gi (z ▸ d)).trans ((m.2 c λz=>D.gz (z ▸ d)).trans e))
 (show wpAny _ _ (Builtin.SmallTypes.nextOf (.ref j) >>= _) _ _ _;refine a4x (C.item k _ _ _ O t3 λy h4 t4 py s4 t=>a4y ?_))
 have W:IsPair h4 TO x b:=(t.2 TO D.a9).trans K
 (refine a4x (a4K W rfl ?_);refine a4x (wpAny_updateSeq_pair W λh F u=>?_))
 replace F:IsPair h TO x y:=F
 (refine a4x (wpAny_letGo (a4y (a4y ?_)));refine a4x (a4K F rfl ?_);refine a4x (wpAny_newTuple ?_))
 have sz:h.objs.size=s.heap.objs.size:=by rw[u.1,t.1,r.1,p.1,m.1]
 have X:IsZip h z TI TO .ellipsis:=(u.2 z D.a2.symm).trans ((t.2 z D.a5.symm).trans ((r.2 z D.a2.symm).trans ((p.2 z D.a4.symm).trans J)));have kp:∀ c o,c≠z->c≠TO->c≠i->c≠j->s.heap.get? c=some o->h.get? c=some o:=λc o l G L M e=>(u.2 c G).trans ((t.2 c M).trans ((r.2 c G).trans ((p.2 c L).trans ((m.2 c l).trans e))));have s5:S (k+1) h:=B.frame _ _ _ s2 λc d o e=>(u.2 c λz=>D.fo (z ▸ d)).trans ((t.2 c λz=>D.fj (z ▸ d)).trans ((r.2 c λz=>D.fo (z ▸ d)).trans e));have t5:T (k+1) h:=C.frame _ _ _ s4 λc d o e=>(u.2 c λz=>D.go (z ▸ d)).trans e;have Y:z < h.objs.size:=a5a X
 (show wpAny _ _ (Builtin.SmallTypes.ownedTupleHandOut (.ref z) (.ref h.objs.size) >>= _) _ _ _;refine a4x ?_;unfold Builtin.SmallTypes.ownedTupleHandOut)
 have z6:IsZip (h.push {cls:=.type "tuple",data:=.seq #[x,y]}) z TI TO .ellipsis:=a2a _ X;refine a4x (wpAny_setField_rec z6 (by simp) λh7 N Z=>?_)
 replace N:IsZip h7 z TI TO (rawInt h.objs.size):=N
 refine wpAny_setField_rec N (by simp) λH I b8=>?_
 replace I:IsZip H z TI TO (rawInt h.objs.size):=I
 have up:∀ c o,c≠z->h.get? c=some o->H.get? c=some o:=λc o l e=>(b8.2 c l).trans ((Z.2 c l).trans (a2a _ e));have p8:IsPair H h.objs.size x y:=(b8.2 _ (a9h Y)).trans ((Z.2 _ (a9h Y)).trans (a7a _ rfl))
 (refine a4y ⟨_,rfl,?_⟩;show Q (.ref h.objs.size) _)
 rw[sz]at I p8 ⊢;exact q x y H t4 px py I (up _ _ D.a2 F) (B.frame _ _ _ s5 λc d o e=>up c o (λz=>D.fz (z ▸ d)) e) (C.frame _ _ _ t5 λc d o e=>up c o (λz=>D.gz (z ▸ d)) e) p8 λc o l G L M e=>up c o l (kp c o l G L M e)
def cK0{Q:Fin->Shared->Prop}(D:Zap z TI TO i j f g)(d:Draws prog w A i f n P S)
  (hz:IsZip s.heap z TI TO .none) (t:IsPair s.heap TI (.ref i) (.ref j)) (u:S n s.heap)
  (q:∀ h' e,(∀ c o,c≠z->c≠i->s.heap.get? c=some o->h'.get? c=some o)->(∃ o,h'.get? e=some o/\o.cls=.type "StopIteration")->E (.ref e) {s with heap:=h'}) :
  wpAny (model prog w) A (Builtin.«zip.__next__» ⟨[.ref z],[]⟩) Q E s:=by
 (show wpAny _ _ (field (.ref z) 2 >>= _) _ _ _;refine a4x (a4G hz rfl (x:=.bool false) rfl ?_))
 (show wpAny _ _ (field (.ref z) 3 >>= _) _ _ _;refine a4x (a4G hz rfl (x:=.ref TI) rfl ?_);refine a4x (a4K t rfl ?_))
 (show wpAny _ _ (Builtin.SmallTypes.ownedTupleIsFree (.ref z) >>= _) _ _ _;refine a4x ?_;unfold Builtin.SmallTypes.ownedTupleIsFree;refine a4x (a4G hz rfl (x:=.none) rfl (a4y ?_)))
 (simp only[if_true];refine a4x (a4I ?_);refine a4x (a4G hz rfl (x:=.ref TO) rfl ?_);refine a4x (wpAny_setField_rec hz (by simp) λv a h=>?_))
 replace a:IsZip v z TI TO .ellipsis:=a
 (refine a4x ?_;simp only[List.zipIdx_cons,List.zipIdx_nil,List.forIn_cons,List.forIn_nil];refine a4x (a4x (wpAny_onRaise ?_)))
 (show wpAny _ _ (Builtin.SmallTypes.nextOf (.ref i) >>= _) _ _ _;refine a4x (d.done _ _ _ (d.frame _ _ _ u λc y o e=>(h.2 c λz=>D.fz (z ▸ y)).trans e) λB e k ⟨C,b,l⟩=>?_))
 have m:IsZip B z TI TO .ellipsis:=k _ _ D.a4.symm a;have F:e≠z:=λx=>by subst x;rw[m]at b;cases b;simp at l
 exact wpAny_setField_rec m (by simp) λG _ p=>q G e (λc o r H x=>(p.2 c r).trans (k _ _ H ((h.2 c r).trans x))) ⟨C,(p.2 e F).trans b,l⟩
def cK1{k:Nat}{a b:Value}{Q:Option Value->Shared->Prop}(D:Zap z TI TO i j f g)(e:Draws prog w A.in1 i f n P S)(h:Draws prog w A.in1 j g n R T)(l:k < n)
  (hz:IsZip s.heap z TI TO .none) (m:IsPair s.heap TI (.ref i) (.ref j)) (p:IsPair s.heap TO a b) (r:S k s.heap) (t:T k s.heap)
  (q:∀ x y h' tk,P k x->R k y->IsZip h' z TI TO (rawInt s.heap.objs.size)->IsPair h' TO x y->S (k+1) h'->T (k+1) h'->IsPair h' s.heap.objs.size x y ->
   (∀ c o,c≠z->c≠TO->c≠i->c≠j->s.heap.get? c=some o->h'.get? c=some o)->Q (some (.ref s.heap.objs.size)) {s with heap:=h',toks:=tk}) :
  wpAny (model prog w) A (pyNext (.ref z)) Q E s:=by
 have d:s.TypeIs (.ref z) "zip":=⟨_,hz,rfl⟩;unfold pyNext;exact a4x (a5m (wpAny_callSpecial?_slot (name:=Str.ofString "__next__") d F.slot_zip_next (a4H F.slot_zip_next d F.entry_zip_next (cJ9 D e h l hz m p r t λx y h' tk u v B C G H I J=>a4y (q x y h' tk u v B C G H I J)) (F.args_zip_next_1 _))))
def cK2{Q:Option Value->Shared->Prop}(D:Zap z TI TO i j f g)(d:Draws prog w A.in1 i f n P S)
  (hz:IsZip s.heap z TI TO .none) (h:IsPair s.heap TI (.ref i) (.ref j)) (k:S n s.heap)
  (q:∀ h',(∀ c o,c≠z->c≠i->s.heap.get? c=some o->h'.get? c=some o)->Q none {s with heap:=h'}):wpAny (model prog w) A (pyNext (.ref z)) Q E s:=by
 have a:s.TypeIs (.ref z) "zip":=⟨_,hz,rfl⟩;unfold pyNext
 (refine a4x (a5m (wpAny_callSpecial?_slot (name:=Str.ofString "__next__") a F.slot_zip_next (a4H F.slot_zip_next a F.entry_zip_next (cK0 D d hz h k λh' e l ⟨o,m,p⟩=>?_) (F.args_zip_next_1 _))));refine a4x (wpAny_isInstance (T:="StopIteration") (b:=true) ⟨o,m,p⟩ isSubtype_stop ?_))
 exact a4y (q _ l)
noncomputable abbrev zpH(h:Heap)(l m:Addr):Heap:=((((h.push (bA1 l)).push (bA1 m)).push {cls:=.type "tuple",data:=.seq #[.ref h.objs.size,.ref (h.objs.size+1)]}).push {cls:=.type "tuple",data:=.seq #[.none,.none]}).push
 {cls:=.type "zip",data:=.fields #[.none,.bool false,.bool false,.ref (h.objs.size+2),.ref (h.objs.size+3)]}
def cY6(l m:Addr)(xs ys:Array Value):Meets (Builtin.«zip.__new__» ⟨[.type "zip",.ref l,.ref m],[]⟩) (λ_ R s=>s.heap.IsTuple l xs/\s.heap.IsTuple m ys/\R (.ok (.ret (.ref (s.heap.objs.size+4)))) {s with heap:=zpH s.heap l m}):=
 .of_wp λprog w A R s h=>by
  obtain⟨a,g,d,tk,os⟩:=s;obtain⟨c,e,h⟩:=h;have b:=sub_zip;have f:Heap.IsTuple (Shared.heap ⟨a,g,d,tk,os⟩) l xs:=c;have i:Heap.IsTuple (Shared.heap ⟨a.push (bA1 l),g,d,tk,os⟩) m ys:=Heap.IsTuple.push e _
  wp_walk using a4Q f,a4Q i
  refine⟨_,rfl,?_⟩;simp only[Heap.size_push];exact h
def dO4{h:Heap}{a b c d e:Obj}(f:a.isFreed=false)(g:b.isFreed=false)(i:c.isFreed=false)(j:d.isFreed=false)(k:e.isFreed=false) :
  ∀ h',((((h.push a).push b).push c).push d).push e=h'->h'.get? h.objs.size=some a/\h'.get? (h.objs.size+1)=some b/\h'.get? (h.objs.size+2)=some c/\h'.get? (h.objs.size+3)=some d/\h'.get? (h.objs.size+4)=some e/\∀ x o,h.get? x=some o->h'.get? x=some o:=by
 intro h' l;have up:∀ {c:Addr} {o ob:Obj} {h:Heap},h.get? c=some o->(h.push ob).get? c=some o:=λe=>a2a _ e;have a2:=a7a (h.push a) (o:=b) g;have a3:=a7a ((h.push a).push b) (o:=c) i;have a4:=a7a (((h.push a).push b).push c) (o:=d) j;have a5:=a7a ((((h.push a).push b).push c).push d) (o:=e) k;simp only[Heap.size_push]at a2 a3 a4 a5;rw[← l];exact⟨up (up (up (up (a7a h (o:=a) f)))),up (up (up a2)),up (up a3),up a4,a5,λx o q=>up (up (up (up (up q))))⟩
def cK3{l m:Addr}{xs ys:Array Value}{Q:Value->Shared->Prop}(g:s.heap.IsTuple l xs)(i:s.heap.IsTuple m ys)
  (q:∀ h',IsZip h' (s.heap.objs.size+4) (s.heap.objs.size+2) (s.heap.objs.size+3) .none->IsPair h' (s.heap.objs.size+2) (.ref s.heap.objs.size) (.ref (s.heap.objs.size+1))->IsPair h' (s.heap.objs.size+3) .none .none ->
   h'.IsTupleIter s.heap.objs.size l 0->h'.IsTupleIter (s.heap.objs.size+1) m 0->(∀ c o,s.heap.get? c=some o->h'.get? c=some o)->Q (.ref (s.heap.objs.size+4)) {s with heap:=h'}) :
  wpAny (model prog w) A (call (.type "zip") [.ref l,.ref m]) Q E s:=by
 refine callType_new F.called_zip (by decide) (F.typeCall_zip_2 _ _) (F.newCall_zip_2 _ _) (λobj=>F.args_object_init_3 obj _ _) F.entry_zip_new (cY6 l m xs ys) ⟨g,i,?_⟩;obtain⟨j,k,n,p,f,r⟩:=dO4 (h:=s.heap) (a:=bA1 l) (b:=bA1 m) (c:={cls:=.type "tuple",data:=.seq #[.ref s.heap.objs.size,.ref (s.heap.objs.size+1)]}) (d:={cls:=.type "tuple",data:=.seq #[.none,.none]})
  (e:={cls:=.type "zip",data:=.fields #[.none,.bool false,.bool false,.ref (s.heap.objs.size+2),.ref (s.heap.objs.size+3)]}) rfl rfl rfl rfl rfl _ rfl
 exact⟨⟨_,f,rfl⟩,q _ f n p ⟨_,j,rfl,rfl⟩ ⟨_,k,rfl,rfl⟩ r⟩
end
end PySem
namespace L2
open PySem PyProof.Rows
noncomputable def ItZ(p q:Addr):It:=
 ⟨λi H=>∃ xs ys x y,H p=some (.tup xs)/\H q=some (.tup ys)/\xs.length=ys.length/\xs[i]? = some x/\ys[i]? = some y,
  λi H v H'=>∃ T x y,v=.ref T/\H T=none/\H'=upd H T (.tup [x,y])/\(∀ xs,H p=some (.tup xs)->xs[i]? = some x)/\∀ ys,H q=some (.tup ys)->ys[i]? = some y,
  λi H=>∃ xs ys,H p=some (.tup xs)/\H q=some (.tup ys)/\xs.length=i/\ys.length=i⟩
def ZpS(z TI TO i j p q:Addr)(k:Nat)(h:Heap):Prop:=IsZip h z TI TO .none/\IsPair h TI (.ref i) (.ref j)/\(∃ a b,IsPair h TO a b)/\h.IsTupleIter i p k/\h.IsTupleIter j q k
def cA6{s:Shared}{z TI TO i j p q:Addr}{k:Nat}{xs ys:Array Value}(st:ZpS z TI TO i j p q k s.heap)(E:s.heap.IsTuple p xs)(F:s.heap.IsTuple q ys)(G:TI≠TO)(x:i≠j)(H:p≠TO)(I:q≠TO):Zap z TI TO i j [i,p] [j,q]:=by
 obtain⟨f,t,⟨a,b,u⟩,⟨R,c,m,S⟩,T,d,n,U⟩:=st;obtain⟨V,o,v,_⟩:=E;obtain⟨W,r,w,_⟩:=F;have nt:Value.type "tuple"≠Value.type "zip":=by decide
 have y:Value.type "tuple_iterator"≠Value.type "zip":=by decide
 have g:Value.type "tuple_iterator"≠Value.type "tuple":=by decide
 have A:i≠z:=λe=>by rw[e,f]at c;cases c;exact y m.symm
 have B:j≠z:=λe=>by rw[e,f]at d;cases d;exact y n.symm
 have J:TI≠i:=λe=>by rw[← e,t]at c;cases c;exact g m.symm
 have K:TI≠j:=λe=>by rw[← e,t]at d;cases d;exact g n.symm
 have C:TO≠i:=λe=>by rw[← e,u]at c;cases c;exact g m.symm
 have D:TO≠j:=λe=>by rw[← e,u]at d;cases d;exact g n.symm
 have L:p≠z:=λe=>by rw[e,f]at o;cases o;exact nt v.symm
 have M:q≠z:=λe=>by rw[e,f]at r;cases r;exact nt w.symm
 have N:p≠j:=λe=>by rw[e,d]at o;cases o;rw[n]at v;exact g v
 have O:q≠i:=λe=>by rw[e,c]at r;cases r;rw[m]at w;exact g w
 have P:TI≠z:=λe=>by
  have h:s.heap.get? TI=_:=t;rw[e,f]at h;exact nt (a4V Obj.cls (a4a h)).symm
 have Q:TO≠z:=λe=>by
  have l:s.heap.get? TO=_:=u;rw[e,f]at l;exact nt (a4V Obj.cls (a4a l)).symm
 refine⟨P,Q,G,A,B,J,K,C,D,?_,?_,?_,?_,?_,?_⟩;simp[A.symm,L.symm];simp[C,H.symm];simp[x.symm,N.symm];simp[B.symm,M.symm];simp[D,I.symm];simp[x,O.symm]
def aY7{P:Program}{w:World}{H:Hp}{h:Heap}{T:Addr}{u v:Value}{x y:V}(a:IsPair h T u v)(b:cE x u)(c:cE y v):cM P w (upd H T (.tup [x,y])) h T (.tup [x,y]):=
 ⟨by show 2<=sizeLine;decide,[u,v],.cons b (.cons c .nil),⟨_,a,rfl,_,rfl⟩,⟨_,a,rfl⟩⟩
def cK4{P:Program}{w:World}{K:W.Frag}{B:List Expr}{k:Nat}{pos:Pos}(p q z TI TO i j:Addr)(S:TI≠TO)(d2:i≠j) :
  Turn P w K (.Tuple B k pos) (ItZ p q) [z,TI,TO,i,j] z (ZpS z TI TO i j p q) where
 mem:=by simp
 obj:=λn h st b hb=>by
  obtain⟨M,C,⟨a,c,T⟩,⟨o4,U,c4,e4⟩,o5,V,c5,e5⟩:=st;simp only[List.mem_cons,List.not_mem_nil,or_false]at hb;rcases hb with rfl | rfl | rfl | rfl | rfl;exact⟨_,M,λv e=>by cases e⟩;exact⟨_,C,λv e=>by cases e⟩;exact⟨_,T,λv e=>by cases e⟩;exact⟨_,U,λv e=>by rw[e4]at e;cases e⟩;exact⟨_,V,λv e=>by rw[e5]at e;cases e⟩
 keep:=λn h h' st kp=>by
  obtain⟨M,C,⟨a,c,T⟩,U,V⟩:=st;exact⟨kp z (by simp) _ M,kp TI (by simp) _ C,⟨a,c,kp TO (by simp) _ T⟩,U.at λo e=>kp i (by simp) o e,V.at λo e=>kp j (by simp) o e⟩
 item:=by
  intro X Y Z hK N n pins s σ H E I g st hg;subst Y Z hK;obtain⟨xs,ys,x,y,m,r,hl,O,hy⟩:=hg;obtain⟨its,Q,t1,_⟩:=I.tuple (.inl (.inl m));obtain⟨d,t,t2,_⟩:=I.tuple (.inl (.inl r));obtain⟨u,hu,ru⟩:=Q.get O;obtain⟨v,hv,rv'⟩:=t.get hy;have f:s.heap.IsTuple p its.toArray:=t1;have l:s.heap.IsTuple q d.toArray:=t2;obtain⟨F,G,⟨a,b,z3⟩,R,z5⟩:=id st;have J:H TO=none:=(g TO (by simp)).1;have hi:H i=none:=(g i (by simp)).1;have hj:H j=none:=(g j (by simp)).1;have D:=cA6 st f l S d2 (aY m J) (aY r J);have el:its.toArray.size=d.toArray.size:=by rw[a6a,a6a,← Q.length,← t.length];exact hl
  have hlt:n < its.toArray.size:=by
   have:=(a0a.mp hu).1;simpa using this
  have dj:=Draws.tup (prog:=X.prog) (w:=X.w) (A:=X.A.in1) (I.ok.hd N) j q (aY r hj) d.toArray;rw[← el]at dj;refine cK1 D (Draws.tup (A:=X.A.in1) (I.ok.hd N) i p (aY m hi) its.toArray) dj hlt F G z3 ⟨R,f⟩ ⟨z5,l⟩ λx1 y1 M tk px py g1 g2 g3 g4 g5 g6=>?_;obtain rfl:x1=u:=by
   rw[a1c,hu]at px;exact(a4a px).symm
  obtain rfl:y1=v:=by
   rw[a1c,hv]at py;exact(a4a py).symm
  refine⟨_,rfl,wpAny_letOwnedTupleGo_zip g1 λC k1 L=>?_⟩;have nz:s.heap.objs.size≠z:=λe=>absurd (a5a F) (by rw[← e];exact a7d _);have ha:H s.heap.objs.size=none:=I.hok.fresh (a8a _);have kk:∀ c o,c≠z->c≠TO->c≠i->c≠j->s.heap.get? c=some o->C.get? c=some o:=λc o c1 c2 c3 c4 e=>(L.2 c c1).trans (g6 c o c1 c2 c3 c4 e);refine⟨.ref s.heap.objs.size,upd H s.heap.objs.size (.tup [x,y]),?_,rfl,⟨_,x,y,rfl,ha,rfl,λzs e=>by rw[m]at e;cases e;exact O,λzs e=>by rw[r]at e;cases e;exact hy⟩,⟨k1,kk TI _ D.a1 S D.a6 D.a7 G,⟨_,_,(L.2 TO D.a2).trans g2⟩,g3.1.at λo e=>(L.2 i D.a4).trans e,g4.1.at λo e=>(L.2 j D.a5).trans e⟩,λb hb=>?_⟩;exact I.spun (ch:=[z,TI,TO,i,j]) (t':=tk) g (λb o hb e=>kk b o (λz=>hb (by simp[z])) (λz=>hb (by simp[z])) (λz=>hb (by simp[z])) (λz=>hb (by simp[z])) e) (a8a _) (aY7 ((L.2 _ nz).trans g5) ru rv');rw[aK (λe=>?_)];exact(g b hb).1;obtain⟨o,ho⟩:∃ o,s.heap.get? b=some o:=by
   simp only[List.mem_cons,List.not_mem_nil,or_false]at hb;rcases hb with rfl | rfl | rfl | rfl | rfl;exact⟨_,F⟩;exact⟨_,G⟩;exact⟨_,z3⟩;exact R.imp λ_ q=>q.1;exact z5.imp λ_ q=>q.1
  exact absurd (a5a ho) (by rw[e];exact a7d _)
 done:=by
  intro X Y Z hK N n pins s σ H E I g st hg;subst Y Z hK;obtain⟨xs,ys,m,r,O,hy⟩:=hg;obtain⟨its,Q,t1,_⟩:=I.tuple (.inl (.inl m));obtain⟨d,t,t2,_⟩:=I.tuple (.inl (.inl r));have f:s.heap.IsTuple p its.toArray:=t1;have l:s.heap.IsTuple q d.toArray:=t2;have J:H TO=none:=(g TO (by simp)).1;have hi:H i=none:=(g i (by simp)).1;obtain⟨F,G,⟨a,b,z3⟩,R,z5⟩:=id st;have hl:its.toArray.size=n:=by rw[a6a,← Q.length];exact O
  refine cK2 (cA6 st f l S d2 (aY m J) (aY r J)) (Draws.tup (A:=X.A.in1) (I.ok.hd N) i p (aY m hi) its.toArray) F G ⟨by rw[hl];exact R,f⟩ λh' kp=>⟨rfl,I.spun0 (ch:=[z,TI,TO,i,j]) (t':=s.toks) g λb o hb e=>kp b o (λz=>hb (by simp[z])) (λz=>hb (by simp[z])) e⟩
 self:=λ_ _ _ _ _ st h=>wpAny_pyIter_zip st.1 h
section
variable{X:Cx}
def dK7(a:TA):TI:=λσ H R=>a σ H λvs H1=>∃ p q xs ys,vs=[.ref p,.ref q]/\H1 p=some (.tup xs)/\H1 q=some (.tup ys)/\xs.length=ys.length/\R (ItZ p q) H1
def cY7{d:List Expr}{k:Nat}{f:Pos}{a b:Expr}{o:TA}{p pos:Pos}(t:Gl X "zip")(hm:X.mg "zip"=none)(l:bootBuiltins "zip"=some (.type "zip"))(ha:PA X [a,b] o)
  (hs:starEach [a,b] X.env=(false,eval a X.env)::starEach [b] X.env:=by rfl) (m:(backTo pos (starEach [b] X.env)).any (·.1)=false:=by rfl):PI X (.Tuple d k f) (.Call (.Name "zip" p) [a,b] [] pos) (dK7 o):=by
 intro pins s σ H R I h;refine Call_ (gK I t hm l (a2e (thn (ha pos pins s σ H _ I h) λus s1 Z0=>?_) hs m));obtain⟨vs,w,g,x,y⟩:=Z0;obtain⟨p,q,xs,ys,rfl,z,A,M,k⟩:=y;obtain⟨u,v,rfl,B,C⟩:=x.two;cases B;cases C;obtain⟨its,_,D,_⟩:=g.tuple (.inl (.inl z));obtain⟨n,_,E,_⟩:=g.tuple (.inl (.inl A));have i:∀ c,c∈[s1.heap.objs.size+4,s1.heap.objs.size+2,s1.heap.objs.size+3,s1.heap.objs.size,s1.heap.objs.size+1]->s1.heap.objs.size<=c:=λc j=>by
  simp only[List.mem_cons,List.not_mem_nil,or_false]at j;lia
 refine cK3 (show s1.heap.IsTuple p its.toArray from D) (show s1.heap.IsTuple q n.toArray from E) λh' r F G J K L=>wpAny_pyIter_zip r ?_;exact⟨_,[s1.heap.objs.size+4,s1.heap.objs.size+2,s1.heap.objs.size+3,s1.heap.objs.size,s1.heap.objs.size+1],_,_,w,rfl,g.kept (t':=s1.toks) L,cK4 p q (s1.heap.objs.size+4) (s1.heap.objs.size+2) (s1.heap.objs.size+3) s1.heap.objs.size (s1.heap.objs.size+1) (λe=>absurd (Nat.add_left_cancel e) (by decide)) (λe=>absurd e.symm (Nat.succ_ne_self _)),⟨r,F,⟨_,_,G⟩,J,K⟩,λc j=>g.fpOk (i c j) (g.hok.fresh (i c j)),k⟩
end
end L2
namespace Dv
open PySem L2
noncomputable def aY8:List D->List D->List D
 | x::xs,y::ys=>.tup [x,y]::aY8 xs ys
 | _,_=>[]
theorem vD:∀ {l m:List D} {i:Nat} {d:D},(aY8 l m)[i]? = some d->∃ x y,l[i]? = some x/\m[i]? = some y/\d=.tup [x,y]
 | [],_,_,_,h=>by simp[aY8]at h
 | _::_,[],_,_,h=>by simp[aY8]at h
 | x::l,y::m,0,d,h=>by simp[aY8]at h;exact⟨x,y,rfl,rfl,h.symm⟩
 | x::l,y::m,i+1,d,h=>by
   obtain⟨a,b,c,e,f⟩:=vD (l:=l) (m:=m) (i:=i) (d:=d) (by simpa[aY8]using h);exact⟨a,b,by simpa using c,by simpa using e,f⟩
theorem kS:∀ {l m:List D},l.length=m.length->(aY8 l m).length=l.length
 | [],_,_=>by simp[aY8]
 | _::_,[],h=>by simp at h
 | _::l,_::m,h=>by simp[aY8];exact kS (by simpa using h)
def cK5{p q:Addr}{xs ys:List V}{l m:List D}(g:l.length=m.length):ItD (ItZ p q) (aY8 l m) (λH=>(H p=some (.tup xs)/\Rps H l xs)/\H q=some (.tup ys)/\Rps H m ys) where
 go:=λH i d ⟨⟨c,a⟩,f,b⟩ e=>by
  obtain⟨x,y,h,j,_⟩:=vD e;obtain⟨u,k,_⟩:=a.get h;obtain⟨v,n,_⟩:=b.get j;exact⟨xs,ys,u,v,c,f,by rw[← a.length,← b.length];exact g,k,n⟩
 yld:=λH i d v H' ⟨⟨c,a⟩,f,b⟩ e ⟨T,x,y,r,o,s,t,z⟩=>by
  obtain⟨C,E,h,j,rfl⟩:=vD e;obtain⟨u,k,A⟩:=a.get h;obtain⟨w,n,B⟩:=b.get j;have a1:=t xs c;rw[k]at a1;cases a1;have a2:=z ys f;rw[n]at a2;cases a2;subst r s;exact⟨bE o,.tup aQ (.cons (A.mono (Ext.same (bE o))) (.cons (B.mono (Ext.same (bE o))) .nil))⟩
 stop:=λH ⟨⟨c,a⟩,f,b⟩=>⟨xs,ys,c,f,by rw[kS g,a.length],by rw[kS g,g,b.length]⟩
noncomputable def dK8(rs:List Res):Option (List D):=match rs with
 | [.val (.tup l),.val (.tup m)]=>if l.length=m.length then some (aY8 l m)else none
 | _=>none
noncomputable def dK9(a:DA):DI:=λσ=>(a σ).bind λx=>(dK8 x.1).bind λl=>some (l,none,x.2)
def cY8{X:Cx}{tg e:Expr}{j:DA}(h:∀ Γ,PI X tg e (dK7 (dTA Γ j))):GI X tg e (dK9 j):=.mk λΓ=>piW (h Γ) λσV H R ⟨σ,ok,items,l,w,e,k⟩=>by
 obtain⟨⟨x,f⟩,y,e⟩:=bind_some e;obtain⟨its,c,e⟩:=bind_some e;cases e;refine⟨σ,ok,x,f,y,λvs z d A g C=>?_⟩;unfold dK8 at c;split at c
 ·rename_i l m n;split at c
  ·rename_i o;cases c;dsimp only at n;subst n;cases A with
   | cons a t _=>cases t with
     | cons b t _=>
       cases t;obtain⟨p,xs,rfl,r,s⟩:=dE (.inl a);obtain⟨q,ys,rfl,u,hs⟩:=dE (.inl b);refine⟨p,q,xs,ys,rfl,r,u,by rw[← s.length,← hs.length];exact o,k _ z _ d g (cK5 (xs:=xs) (ys:=ys) o) λB v D i=>?_⟩;have ext:=i.ext (Γ:=Γ) d.lendO;exact⟨⟨ext.tup _ _ r,s.mono ext⟩,ext.tup _ _ u,hs.mono ext⟩
  ·cases c
 ·cases c
end Dv
namespace L2
open PySem PySem.Spec PyProof.Rows
def cY9:R2:=λx y H Q=>∃ (l:Addr) (k:Int) (xs:List V),x=.ref l/\y=.int k/\eR H l=some (true,xs)/\0<=k/\k<=1000/\xs.length<=1000/\∀ r,H r=none->Q (.ref r) (upd H r (.lst (List.replicate k.toNat xs).flatten))
def cK6{X:Cx}:OpR X (binaryOp .Mult) cY9:=by
 intro pins s σ H x y v u Q I B C h;obtain⟨l,k,xs,rfl,rfl,D,J,K,E,q⟩:=h;cases B;obtain⟨t,rfl⟩:=C;obtain⟨its,r,⟨⟨c,d,L,sl⟩,n,e,w,z,A⟩,M⟩:=I.list (fT D);simp only at w z A;subst w z A;have G:=r.length;have hm:xs.length*k.toNat<=1000*1000:=Nat.mul_le_mul E (by lia);have f:its.toArray.size*k.toNat<=sizeLine:=by rw[a6a,← G,a4P];lia
 have g:¬ its.toArray.size*k.toNat > (2 ^ 63-1) / 8:=by
  have:(sizeLine:Nat)<=(2 ^ 63-1) / 8:=by decide
  lia
 have i:¬ (!Builtin.List.listFitsIndex k)=true:=by
  rw[fitsIndex_both (by lia) (by lia)];exact a9c
 have b:¬ Builtin.List.listTooLong (its.toArray.size*k.toNat)=true:=by
  rw[tL f];exact a9c
 have j:List.foldl (λo p=>o++p) #[] (List.replicate (if its.toArray.isEmpty=true then 0 else k.toNat) its.toArray)=(List.replicate k.toNat its).flatten.toArray:=by
  rw[show ∀ m:Nat,List.foldl (λo p=>o++p) #[] (List.replicate m its.toArray)=(List.replicate m its).flatten.toArray from λm=>by simpa using vX its m []];cases its with
  | nil=>simp
  | cons a N=>rw[a4z (by simp)]
 refine wpAny_binaryOp_repeat_ref (T:="list") (U:="int") (by decide) ⟨_,e,rfl⟩ (λs'=>typeIs_int s' k t) noFill_list_mul F.fills_int_mul F.slot_int_rmul repeat_list F.slot_int_index.lookup
  (a5o F.slot_int_rmul (typeIs_int s k t) F.entry_int_rmul (F.args_int_rmul_2 _ _) (lm_int_rmul_list_any k t l its.toArray n none sl)
   ⟨e,rfl,⟨_,e,rfl⟩,a5o F.slot_list_mul ⟨_,e,rfl⟩ F.entry_list_mul (F.args_list_mul_2 _ _) (lm_list_mul_any l its.toArray n none sl k t i g b) ⟨e,?_⟩⟩)
 rw[j];exact⟨.ref _,_,I.lnew (t':=s.toks) (r.rep k.toNat) (by rw[cC4,a0i,a4P];lia),rfl,q _ I.fresh⟩
end L2
namespace Dv
open PySem L2 Mr
noncomputable def dH3:F2:=λd e=>match d,e with
 | .lst l,.int i=>if 0<=i/\i<=1000/\l.length<=1000 then some (.own (.lst (List.replicate i.toNat l).flatten))else none
 | _,_=>none
theorem Rps.rep{H:Hp}{l:List D}{xs:List V}(h:Rps H l xs):∀ k:Nat,Rps H (List.replicate k l).flatten (List.replicate k xs).flatten
 | 0=>.nil
 | k+1=>by
   rw[List.replicate_succ,List.replicate_succ,List.flatten_cons,List.flatten_cons];exact h.append (h.rep k)
def bI2:kB cY9 dH3:=by
 intro H h i x y Q res d f e k;unfold dH3 at e;split at e;split at e;rename_i a;cases e;obtain⟨p,xs,rfl,g,b⟩:=fD d;obtain rfl:=cC f;exact⟨p,_,xs,rfl,rfl,g,a.1,a.2.1,by rw[← b.length];exact a.2.2,λr c=>k _ _ (bE c) (yR c (b.rep _))⟩;cases e;cases e
open Sx
def aG4.of{a:List V->Hp->L2.VK->Prop}{f g:FN}(h:aG4 a f)(b:∀ ds r,g ds=some r->f ds=some r):aG4 a g:=λH ds vs Q res vw e k=>h H ds vs Q res vw (b _ _ e) k
def kB.of{a:R2}{f g:F2}(h:kB a f)(b:∀ d e r,g d e=some r->f d e=some r):kB a g:=λH d e x y Q res c i q k=>h H d e x y Q res c i (b _ _ _ q) k
def dH4{X:Cx}{E:Ex}{st:Stmt}{r a:DS}(h:GS E X st a)(b:∀ σ o,r σ=some o->a σ=some o):GS E X st r:=.mk λΓ=>psW (h.to Γ) λ_ _ _ ⟨σ,ok,o,e,k⟩=>⟨σ,ok,o,b _ _ e,k⟩
def cZ0{X:Cx}{E:Ex}{st:List Stmt}{r a:DS}(h:GSs E X st a)(b:∀ σ o,r σ=some o->a σ=some o):GSs E X st r:=.mk λΓ=>cS1 (h.to Γ) λ_ _ _ ⟨σ,ok,o,e,k⟩=>⟨σ,ok,o,b _ _ e,k⟩
noncomputable def vE:FN:=λds=>match ds with
 | [d]=>(bM9 d).bind λx=>(aX4 x.2).bind λks=>if(decide (ks.length < 4000)&&(decide ((srt ks).length < 2)||ks.all λk=>!k.isEmpty))=true then some (.own (.lst ((srt ks).map tI)))else none
 | _=>none
def xR:aG4 qP vE:=xQ.of λds r e=>by
 unfold vE at e;split at e
 ·obtain⟨x,b,e⟩:=bind_some e;obtain⟨ks,c,e⟩:=bind_some e;split at e;rename_i a;cases e;unfold vC;show((bM9 _).bind _)=_;rw[b];show((aX4 _).bind _)=_;rw[c];show(if _ then _ else _)=_;rw[a3c,a4E,Bool.or_eq_true,a4E]at a;refine a4A ⟨a.1,λf k d=>?_⟩;rcases a.2 with z | z;lia;have:=a5i.mp z k d;intro q;subst q;cases this;cases e
 ·cases e
noncomputable def bI3:F2:=λd e=>match d,e with
 | .int i,.int j=>if(decide (i.natAbs < 1000000)&&decide (j.natAbs < 1000000))=true then some (.val (.int (i*j)))else none
 | _,_=>none
def tE{i:Int}(h:i.natAbs < 1000000):Builtin.Int.intBits i<=2 ^ 20:=by
 unfold Builtin.Int.intBits;split;lia;have:i.natAbs.log2<=i.natAbs:=a1j (Nat.lt_succ_of_le (Nat.log2_le_self _));lia
def iF:kB cF6 bI3:=iB.of λd e r q=>by
 unfold bI3 at q;split at q;split at q;rename_i a;cases q;rw[a3c,a4E,a4E]at a;unfold aK5;exact a4A (.inr ⟨tE a.1,tE a.2⟩);cases q;cases q
noncomputable def dB4:D->Bool
 | .non=>true
 | _=>false
noncomputable def isC(neg:Bool):F2:=λd e=>match e with
 | .non=>some (.val (.bl (if neg then !dB4 d else dB4 d)))
 | .bl b=>(match d with | .bl a=>some (.val (.bl (if neg then !decide (a=b)else decide (a=b)))) | _=>none)
 | _=>none
def zL{neg:Bool}:kB (dA2 neg) (isC neg):=cT9.of λd e r q=>by
 unfold isC at q;unfold isD;split at q
 ·have:decide (d=.non)=dB4 d:=by cases d<;>simp[dB4]
  rw[this];exact q
 ·exact q
 ·cases q
noncomputable def isN:Option (Option Sl)->Bool
 | some none=>true
 | _=>false
noncomputable def isG:Option (Option Sl)->Bool
 | some (some ⟨.own,.dic [] []⟩)=>true
 | _=>false
noncomputable def isO:Option Nat->Bool
 | none=>true
 | _=>false
noncomputable def cK7(g row:Nat)(ri:DI)(a:DE)(b:DA):DS:=λσ=>if isN (σ[g]?)=true then(ri (σ.set g (some SG))).bind λx=>
 if(isO x.2.1&&isG (x.2.2[g]?)&&decide (x.1.length < 4000))=true then(cM4 row a b x.1 [] (x.2.2.set g none)).bind λy=>some (.rt (.own (dK6 y.1)) (y.2.set g none))else none else none
def bI4{X:Cx}{E:Ex}{K:W.Frag}{g row:Nat}{a b c:Stmt}{ri:DI}{i:DE}{j:DA}(f:row≠g)(k:PS X a (bA7 aA7 (lB g)))
  (l:∀ Γ,PS X b (cL4 (dTI Γ ri) (lB row) (aL3 (tBM K "list" mT (dB1 (zV g) (dTE Γ i) (dA0 cP9)) (dTA Γ j))))) (m:PS X c (cZ8 (tFQ (zV g)))):GSs E X [a,b,c] (cK7 g row ri i j):=
 cZ0 (cJ8 f k l m) λσ o e=>by
  unfold cK7 at e;unfold dB3;split at e
  ·rename_i hn;have h:σ[g]? = some none:=by
    unfold isN at hn;split at hn;rename_i q;exact q;cases hn
   rw[a4A h];obtain⟨x,n,e⟩:=bind_some e;rw[n,Option.bind_some];split at e
   ·rename_i d;rw[a3c,a3c,a4E]at d;have p:x.2.1=none:=by
     have:=d.1.1;unfold isO at this;split at this;rename_i q;exact q;cases this
    have r:x.2.2[g]? = some (some SG):=by
     have:=d.1.2;unfold isG at this;split at this;rename_i q;exact q;cases this
    have s:x.2.1=none/\x.2.2[g]? = some (some SG)/\x.1.length < 4000:=⟨p,r,d.2⟩;rw[a4A s];exact e
   ·cases e
  ·cases e
theorem nM{c:DT}{b:DS}:∀ {n m:Nat} {σ:Sg} {o:Out},lL c b n σ=some o->n<=m->lL c b m σ=some o
 | 0,_,_,_,e,_=>by cases e
 | n+1,0,_,_,_,h=>absurd h (Nat.not_succ_le_zero _)
 | n+1,m+1,σ,o,e,h=>by
   unfold lL at e ⊢;obtain⟨x,g,e⟩:=bind_some e;rw[g];show(if _ then _ else _)=_;split at e
   ·rename_i d;rw[a4A d];obtain⟨y,i,e⟩:=bind_some e;rw[i];show(match y with | .nx a=>_ | .ct a=>_ | .bk a=>_ | .rt r a=>_ | .ex c f a=>_)=_;cases y with
    | nx a=>exact nM (n:=n) (m:=m) e (by lia)
    | ct a=>exact nM (n:=n) (m:=m) e (by lia)
    | bk a=>exact e
    | rt r a=>exact e
    | ex c f a=>exact e
   ·rename_i d;rw[a4z d];exact e
noncomputable def aY9(c:DT)(b:DS):DS:=λσ=>lL c b 64 σ
def aZ0{X:Cx}{E:Ex}{st:Stmt}{c:DT}{b:DS}(h:∀ Γ,PS X st (zW (dTT Γ c) (dTS Γ E b))):GS E X st (aY9 c b):=dH4 (bE8 h) λσ o e=>nM e (a5e (by decide) cE9)
noncomputable def dB5:F2:=ii λi j=>.int (i+j)
noncomputable def dL0(i:Nat)(f:F2)(a:DE):DS:=fA i (aU f (aF i) a)
def bI5:kB (ipI λi j=>i+j) dB5:=by
 intro H c d x y Q res a b e k;unfold dB5 ii at e;split at e;cases e;obtain rfl:=cC a;obtain rfl:=cC b;exact⟨_,_,rfl,rfl,k _ H (.refl _) (.int _)⟩;cases e
def cK8{X:Cx}{E:Ex}{i:Nat}{st:Stmt}{a:DE}(h:∀ Γ,PS X st (dI2 i (dTE Γ a) (ipI λi j=>i+j))):GS E X st (dL0 i dB5 a):=.mk λΓ=>psW (h Γ) λD σV H q=>by
 obtain⟨σ,ok,res,σ',e,k⟩:=hX bI5 (tW q);unfold aF at e;split at e;rename_i s hs;cases e;obtain⟨v,b,r⟩:=ok.rel i s hs;refine⟨v,b,k v H ok ?_ .refl (by split<;>exact λ_ _ e=>nomatch e)⟩;by_cases hm:s.m=.val;rw[a4A hm];obtain⟨m,d⟩:=s;cases hm;exact r;rw[a4z hm];exact⟨b,s,hs⟩;cases e
end Dv
namespace L2
open PySem PySem.Spec PyProof.Rows
def cZ1(i j k:Nat)(a:TA):TS:=λD σ H=>a σ H λvs b=>∃ u v w,vs=[u,v,w]/\D.nx (((σ.set k (some w)).set j (some v)).set i (some u)) b
def cK9{X:Cx}{i j k:Nat}{x y z:Str}{a b c:Expr}{F:TA}{f g l pt pos:Pos}{kt m d}(L:X.calm=true)(n:X.N.Nodup)(hi:X.N[i]? = some x)(hj:X.N[j]? = some y)(M:X.N[k]? = some z)
  (G:X.env.scope.names.lookup x=some .local) (J:X.env.scope.names.lookup y=some .local) (hz:X.env.scope.names.lookup z=some .local) (ha:PA X [a,b,c] F)
  (O:swappedStores [.Tuple [.Name x f,.Name y g,.Name z l] kt pt] (.Tuple [a,b,c] m d) X.env=pure (some [x,y,z]))
  (hs:swapsWithSole [.Tuple [.Name x f,.Name y g,.Name z l] kt pt] (.Tuple [a,b,c] m d) pos.line X.env=pure false:=by rfl) :
  PS X (.Assign [.Tuple [.Name x f,.Name y g,.Name z l] kt pt] (.Tuple [a,b,c] m d) pos) (cZ1 i j k F):=by
 intro pins s σ H D I h;rw[exec_Assign_arm];refine a4x (a5r ?_);rw[hs];refine a4x (a4y ?_);rw[a4z (by decide)];refine a4x (Tuple_ (thn (ha _ pins s σ H _ I h) λus s1 Z0=>?_));obtain⟨vs,K,P,p,q⟩:=Z0;obtain⟨u,v,w,rfl,q⟩:=q;cases p with
 | @cons _ r _ _ p t=>cases t with
   | @cons _ B _ _ Q t=>cases t with
     | @cons _ C _ _ R t=>
       cases t;refine a4J ?_ (by show 3<=sizeLine;decide);have S:Inv X pins σ K {s1 with heap:=s1.heap.push {cls:=.type "tuple",data:=.seq [r,B,C].toArray}}:=P.kept (t':=s1.toks) λb o e=>a2a _ e;rw[O];refine a4x (a4y ?_);show wpAny (model X.prog X.w) X.A (do rule "assign.swapped-stores";let items ← unpackItems (.ref s1.heap.objs.size) 3 none;assignInOrder [λv=>bindName X.env z v,λv=>bindName X.env y v,λv=>bindName X.env x v] items.reverse;pure Flow.next) _ _ _;refine a4x (a4I (a4x (unpackItems_tuple (items:=#[r,B,C]) (I.ok.hd L) (IsTup.new s1.heap _) λh' E=>?_)));have T:=S.kept (h':=h') (t':=s1.toks) λb o e=>E b o (a0d (a5a e)) e;show wpAny _ _ (assignInOrder [λv=>bindName X.env z v,λv=>bindName X.env y v,λv=>bindName X.env x v] [C,B,r] >>= λ_=>pure Flow.next) _ _ _;refine a4x (assignInOrder_cons (wpAny_bindName (jU T n M (.inl hz) R (λs2 U=>?_) (.inr hz))));refine assignInOrder_cons (wpAny_bindName (jU U n hj (.inl J) Q (λY V=>?_) (.inr J)));exact assignInOrder_cons (wpAny_bindName (jU V n hi (.inl G) p (λZ W=>assignInOrder_nil (a4y ⟨_,K,W,q⟩)) (.inr G)))
end L2
namespace Dv
open PySem L2
noncomputable def dL1(i j k:Nat)(σ:Sg):List D->Option Sg
 | [d,e,f]=>if eY σ k=true then(let a:=σ.set k (some ⟨.val,f⟩);if eY a j=true then(let b:=a.set j (some ⟨.val,e⟩);if eY b i=true then some (b.set i (some ⟨.val,d⟩))else none)else none)else none
 | _=>none
noncomputable def cZ2(i j k:Nat)(a:DA):DS:=λσ=>(a σ).bind λx=>(vals x.1).bind λds=>(dL1 i j k x.2 ds).bind λb=>some (.nx b)
def cL0{X:Cx}{E:Ex}{i j k:Nat}{st:Stmt}{p:DA}(h:∀ Γ,PS X st (cZ1 i j k (dTA Γ p))):GS E X st (cZ2 i j k p):=.mk λΓ=>psW (h Γ) λD σV H ⟨σ,ok,o,e,u⟩=>by
 obtain⟨⟨x,l⟩,v,e⟩:=bind_some e;obtain⟨ds,w,e⟩:=bind_some e;obtain⟨C,g,e⟩:=bind_some e;cases e;refine⟨σ,ok,x,l,v,λvs F m y n G=>?_⟩;have z:=jW y w;dsimp only at g;unfold dL1 at g;split at g
 ·split at g
  ·rename_i d e f q;dsimp only at g;split at g
   ·rename_i r;split at g
    ·rename_i s;cases g;cases z with
     | cons a t=>cases t with
       | cons b t=>cases t with
         | cons c t=>
           cases t;have A:=m.put q c;have B:=A.put r b;exact⟨_,_,_,rfl,u _ _ (B.put s a) (((n.put q .val (.inl rfl)).put r .val (.inl rfl)).put s .val (.inl rfl))⟩
    ·cases g
   ·cases g
  ·cases g
 ·cases g
end Dv
namespace Mr
open PySem L2 Dv
noncomputable def fH:DS:=(cN (qX (fO (aU gtI (aU ixD (aF 0) (dC (.int 0))) (dC (.int 0)))) (cN (fA 2 (aU bA0 (aU ixD (aF 0) (dC (.int 0))) (aF 1)))
 (cN (cT8 0 (dC (.int 0)) (aU dA7 (aU ixD (aF 0) (dC (.int 0))) (aF 1)))
 (fQ (aF 2)))) gM)
 (cN (fA 3 (aU bA0 (aU aK5 (aU ixD (aF 0) (dC (.int 1))) (dC (.int 69623))) (dC (.int 2147483647))))
 (cN (cT8 0 (dC (.int 1)) (aU vM (aU bA0 (aU vM (aU aK5 (aF 3) (dC (.int 48271))) (dC (.int 30103))) (dC (.int 2147483629))) (dC (.int 1))))
 (fQ (aU bA0 (aU dA7 (aU vM (aU aK5 (aF 3) (dC (.int 2147483647))) (aU ixD (aF 0) (dC (.int 1)))) (dC (.int 8191))) (aF 1))))))
noncomputable def eN:Dv.Run:=iX 4 fH
noncomputable def gW:DS:=(cN (fA 2 (aU vM (aU aK5 (dC (.int 7919)) (aF 1)) (dC (.int 11))))
 (cN (qX (fO (aU ltA (aF 1) (dCB nD (aC (aF 0) aR)))) (fA 2 (aU ixD (aF 0) (aF 1))) (qX (fO (aU gtI (dCB nD (aC (aF 0) aR)) (dC (.int 0)))) (fA 2 (aU vM (aF 2) (aU aK5 (aU bA0 (aU ixD (aF 0) (aU bA0 (aF 1) (dCB nD (aC (aF 0) aR)))) (dC (.int 2147483629))) (dC (.int 69623))))) gM))
 (cN (fA 3 (aU vM (aU bA0 (aU vM (aU aK5 (aU bA0 (aF 2) (dC (.int 2147483629))) (dC (.int 48271))) (aU aK5 (dC (.int 40692)) (aF 1))) (dC (.int 2147483629))) (dC (.int 1))))
 (fQ (qW (aC (dFz (aU aK5 (aF 2) (dCB cT5 (aC (aU geI (aF 2) (aU dF1 (dC (.int 10)) (dC (.int 18)))) aR)))) (aC (dFz (aF 3)) aR)))))))
noncomputable def fJ:Dv.Run:=iX 4 gW
noncomputable def zM:DS:=(cN (fA 1 (dCB aG9 (aC (aU vM (dJ [3] (bE5 (aC (aF 0) aR)) (dgN 3) fR (iV (aC (dC (.int 0)) (aC (dFz (aF 3)) aR)))) (dJ [3] (bE5 (aC (dC (.int 1)) (aC (aF 0) aR))) (dgN 3) fR (iV (aC (dFz (aF 3)) (aC (dC (.int 0)) aR))))) aR)))
 (cN (fA 2 (iV (aC (iV (aC (dC (.str "r")) (aC (iV (aC (dC (.str "a")) (aC (dC (.str "b")) aR))) aR))) (aC (iV (aC (dC (.str "s")) (aC (iV (aC (dC (.str "b")) (aC (dC (.str "c")) aR))) aR))) (aC (iV (aC (dC (.str "t")) (aC (iV (aC (dC (.str "c")) (aC (dC (.str "a")) aR))) aR))) aR)))))
 (fQ (iV (aC (dFz (aF 2)) (aC (iV (aC (dFz (aF 1)) (aC (dFz (aF 1)) (aC (dFz (aF 1)) aR)))) aR))))))
noncomputable def iG:Dv.Run:=iX 4 zM
noncomputable def nN:DS:=(fQ (tR (wE leI leI (dC (.int 1)) (dCB nD (aC (aF 0) aR)) (dC (.int 6))) (dCB cF8 (aC (dJ [1] (dIt (aF 0)) (dgN 1) fR (aU (inD false) (aF 1) (dC (.str "abcdefghijklmnopqrstuvwxyz")))) aR))))
noncomputable def fK:Dv.Run:=iX 2 nN
noncomputable def cZ:DS:=(fQ (tR (aU (eqD false) (dCB uX (aC (aF 0) aR)) (dCB nD (aC (aF 0) aR))) (dCB cF8 (aC (dJ [1] (dIt (aF 0)) (dgN 1) fR (dFz (bI 1 fK (aC (aF 1) aR)))) aR))))
noncomputable def cR:Dv.Run:=iX 2 cZ
noncomputable def dW:DS:=(fQ (tR (bI 1 fK (aC (aF 0) aR)) (tR (wE leI leI (dC (.int 1)) (dCB nD (aC (aF 1) aR)) (dC (.int 4))) (bI 1 cR (aC (aF 1) aR)))))
noncomputable def dN:Dv.Run:=iX 2 dW
noncomputable def kU:DS:=(fQ (dJ [1,2] (dIt (aF 0)) (lK 2 (cB (dgN 1) (cB (dgN 2) kP))) fR (dFz (aF 1))))
noncomputable def eO:Dv.Run:=iX 3 kU
noncomputable def iH:DS:=(cN (fA 1 (qW aR))
 (cN (rF (dIt (aF 0)) (lK 2 (cB (dgN 2) (cB (dgN 3) kP)))
 (tV (aG7 "list" 1 cM2 (aC (dJ [4] (dIt (aF 3)) (dgN 4) (fO (aU (inD true) (aF 4) (aF 1))) (dFz (aF 4))) aR))))
 (fQ (dCB aG9 (aC (aF 1) aR)))))
noncomputable def bC:Dv.Run:=iX 5 iH
noncomputable def dO:DS:=(cN (qX (dOr (aK2 (fO (bI 2 dN (aC (aF 1) (aC (aF 2) aR))))) (fO (aU (inD false) (aF 1) (bI 1 eO (aC (aF 0) aR))))) (fQ (dC (.bl false))) gM)
 (fQ (aU leI (dCB nD (aC (bI 1 bC (aC (aU vM (aF 0) (iV (aC (iV (aC (dFz (aF 1)) (aC (dFz (aF 2)) aR))) aR))) aR)) aR)) (dC (.int 6)))))
noncomputable def dA:Dv.Run:=iX 3 dO
noncomputable def zN:DS:=(cN (qX (fO (aU (eqD false) (dCB nD (aC (aF 0) aR)) (dC (.int 0)))) aU0 gM)
 (cN (rF (aT3 (aF 0)) (lK 2 (cB (dgN 1) (cB (dgN 2) kP)))
 (qX (dOr (fO (aU (eqD false) (aF 1) (dC (.int 6)))) (aK2 (fO (bI 3 dA (aC (dSl (aF 0) dA5 (dP (aF 1))) (aC (aU ixD (aF 2) (dC (.int 0))) (aC (aU ixD (aF 2) (dC (.int 1))) aR))))))) aU0 gM))
 (fQ (dC (.bl true)))))
noncomputable def vF:Dv.Run:=iX 3 zN
noncomputable def kW:DS:=(fQ (tR (bM8 (bN4 "int") (aF 0)) (tR (cS4 (bM8 (bN4 "bool") (aF 0))) (wE leI leI (dC (.int 0)) (aF 0) (dC (.int 999))))))
noncomputable def jQ:Dv.Run:=iX 1 kW
noncomputable def qQ:DS:=(fQ (tR (aU (eqD false) (dCB nD (aC (aF 1) aR)) (aF 0)) (dCB cF8 (aC (dJ [2] (dIt (aF 1)) (dgN 2) fR (dFz (bI 1 jQ (aC (aF 2) aR)))) aR))))
noncomputable def nO:Dv.Run:=iX 3 qQ
noncomputable def dQ:DS:=(cN (rF (aT3 (aF 1)) (lK 2 (cB (dgN 2) (cB (dgN 3) kP)))
 (cN (qX (aK2 (fO (bI 2 nO (aC (aF 0) (aC (aF 3) aR))))) (fQ (aF 2)) gM)
 (qX (dJ0 (fO (aU gtI (aF 2) (dC (.int 0)))) (aK2 (fO (aU ltA (aU ixD (aF 1) (aU aK4 (aF 2) (dC (.int 1)))) (aF 3))))) (fQ (aF 2)) gM)))
 (fQ (dC .non)))
noncomputable def dB:Dv.Run:=iX 4 dQ
noncomputable def iI:DS:=(cN (rF (aT3 (aF 0)) (lK 2 (cB (dgN 2) (cB (dgN 3) kP)))
 (qX (dOr (fO (aU geI (aF 2) (dCB nD (aC (aF 1) aR)))) (fO (aU (isC true) (bI 2 dB (aC (dCB nD (aC (aU ixD (aF 3) (dC (.int 1))) aR)) (aC (aU ixD (aF 1) (aF 2)) aR))) (dC .non)))) aU0 gM))
 (cN (qX (fO (aU gtI (dCB nD (aC (aF 1) aR)) (dCB nD (aC (aF 0) aR)))) aU0 gM)
 (fQ (dC (.bl true)))))
noncomputable def gF:Dv.Run:=iX 4 iI
noncomputable def iJ:DS:=(cN (qX (dOr (aK2 (fO (bM8 (bN4 "tuple") (aF 0)))) (dOr (fO (aU (isC true) (bI 1 vF (aC (aF 0) aR)) (dC (.bl true)))) (fO (aU (isC true) (bI 2 gF (aC (aF 0) (aC (aF 1) aR))) (dC (.bl true)))))) (fQ (dC (.bl false))) gM)
 (cN (fA 3 (dJ [5,6] (dIt (aF 0)) (lK 2 (cB (dgN 5) (cB (dgN 6) kP))) fR (dFz (aF 6))))
 (cN (qX (dOr (fO (aU (eqD true) (dJ [6] (dIt (aF 3)) (dgN 6) fR (dCB nD (aC (aF 6) aR))) (qW (aC (dC (.int 2)) (aC (dC (.int 2)) (aC (dC (.int 2)) aR)))))) (fO (aU (eqD true) (dJ [7] (dIt (aF 1)) (dgN 7) fR (dCB nD (aC (aF 7) aR))) (aU dH3 (qW (aC (aU aK4 (aU bI3 (dC (.int 2)) (aF 2)) (dC (.int 1))) aR)) (dC (.int 3)))))) (fQ (dC (.bl false))) gM)
 (cN (fA 4 (dJ [8] (bE5 (aC (dC (.int 3)) aR)) (dgN 8) fR (dFz (dJ [9] (dIt (aU ixD (aF 3) (aF 8))) (dgN 9) (fO (aU (inD false) (aF 9) (aU ixD (aF 3) (aU aK4 (aF 8) (dC (.int 1)))))) (dFz (aF 9))))))
 (fQ (tR (aU (eqD false) (dJ [6] (dIt (aF 4)) (dgN 6) fR (dCB nD (aC (aF 6) aR))) (qW (aC (dC (.int 1)) (aC (dC (.int 1)) (aC (dC (.int 1)) aR))))) (aU (eqD false) (dCB nD (aC (bI 1 bC (aC (aF 0) aR)) aR)) (dC (.int 3)))))))))
noncomputable def aW:Dv.Run:=iX 10 iJ
noncomputable def jR:DS:=(fQ (dJ [2,3] (dK9 (aC (aF 0) (aC (aF 1) aR))) (lK 2 (cB (dgN 2) (cB (dgN 3) kP))) fR (iV (aC (aU ixD (aF 2) (dC (.int 1))) (aC (dFz (aF 3)) aR)))))
noncomputable def dS:Dv.Run:=iX 4 jR
noncomputable def fL:DS:=(fQ (dCO aY0 (aC (bI 1 eO (aC (aF 0) aR)) (aC (bI 2 dS (aC (aF 0) (aC (aF 1) aR))) aR))))
noncomputable def eT:Dv.Run:=iX 2 fL
noncomputable def kX:DS:=(cN (fA 1 (qW aR))
 (cN (fA 2 (qW (aC (dFz (aF 0)) aR)))
 (cN (aY9 (dI9 (aF 2))
 (cN (fA 3 (cE4 "list" 2 dF6))
 (qX (aK2 (fO (bM8 (bN4 "str") (aF 3)))) (cN (tV (aG6 "list" 1 cM1 (aC (dFz (aF 3)) aR)))
 (tV (aG7 "list" 2 cM2 (aC (qW (aC (aU ixD (aF 3) (dC (.int 0))) (aC (aU ixD (aF 3) (dC (.int 1))) aR))) aR)))) gM)))
 (fQ (dCO dA9 (aC (aF 1) aR))))))
noncomputable def jS:Dv.Run:=iX 4 kX
noncomputable def dZ:DS:=(fQ (dJ [2] (dIt (aU ixD (aF 0) (dC (.int 0)))) (dgN 2) (fO (aU (inD false) (aF 2) (aU ixD (aF 1) (dC (.int 0))))) (dFz (aF 2))))
noncomputable def dU:Dv.Run:=iX 3 dZ
noncomputable def qR:DS:=(fQ (dCB aG9 (aC (dJ [2] (dIt (aF 1)) (dgN 2) fR (aU ixD (aF 0) (aF 2))) aR)))
noncomputable def cI:Dv.Run:=iX 3 qR
noncomputable def jT:DS:=(fQ (dJ [2] (dIt (aF 1)) (dgN 2) fR (dFz (dMT dH2 (aF 0) (aF 2)))))
noncomputable def bL:Dv.Run:=iX 3 jT
noncomputable def nP:DS:=(cN (fA 3 (bI 2 bL (aC (aU ixD (aF 0) (dC (.int 0))) (aC (aF 1) aR))))
 (cN (fA 4 (bI 2 bL (aC (aU ixD (aF 0) (dC (.int 0))) (aC (aF 2) aR))))
 (cK7 5 6 (dIt (aU ixD (aF 0) (dC (.int 1)))) (bI 2 cI (aC (aF 6) (aC (aF 3) aR))) (aC (dFz (bI 2 cI (aC (aF 6) (aC (aF 4) aR)))) aR))))
noncomputable def fM:Dv.Run:=iX 7 nP
noncomputable def kY:DS:=(fQ (iV (aC (dCB aG9 (aC (aF 0) aR)) (aC (dCB aG9 (aC (dCB vE (aC (aF 1) aR)) aR)) aR))))
noncomputable def eP:Dv.Run:=iX 2 kY
noncomputable def qS:DS:=(cN (fA 2 (bI 2 dU (aC (aF 0) (aC (aF 1) aR))))
 (cN (fA 3 (dJ [8] (dIt (aU ixD (aF 1) (dC (.int 0)))) (dgN 8) (fO (aU (inD true) (aF 8) (aU ixD (aF 0) (dC (.int 0))))) (dFz (aF 8))))
 (cN (fA 4 (bI 3 fM (aC (aF 1) (aC (aF 2) (aC (aF 3) aR)))))
 (cN (fA 5 (bI 2 bL (aC (aU ixD (aF 0) (dC (.int 0))) (aC (aF 2) aR))))
 (cN (fA 6 (qW aR))
 (cN (rF (dIt (aU ixD (aF 0) (dC (.int 1)))) (dgN 7)
 (tV (aG7 "list" 6 cM2 (aC (dJ [9] (dIt (cX0 (aF 4) (bI 2 cI (aC (aF 7) (aC (aF 5) aR))) (qW aR))) (dgN 9) fR (dFz (aU vM (aF 7) (aF 9)))) aR))))
 (fQ (bI 2 eP (aC (aU vM (aU ixD (aF 0) (dC (.int 0))) (dCB aG9 (aC (aF 3) aR))) (aC (aF 6) aR))))))))))
noncomputable def nQ:Dv.Run:=iX 10 qS
noncomputable def aZ1:DS:=(cN (fA 2 (bI 2 bL (aC (aU ixD (aF 0) (dC (.int 0))) (aC (aF 1) aR))))
 (fQ (bI 2 eP (aC (aF 1) (aC (dJ [3] (dIt (aU ixD (aF 0) (dC (.int 1)))) (dgN 3) fR (dFz (bI 2 cI (aC (aF 3) (aC (aF 2) aR))))) aR)))))
noncomputable def kZ:Dv.Run:=iX 4 aZ1
noncomputable def nR:DS:=(cN (fA 3 (bI 2 eT (aC (aF 0) (aC (aF 1) aR))))
 (cN (fA 4 (qW aR))
 (cN (rF (dIt (bI 1 jS (aC (aF 2) aR))) (dgN 5)
 (cN (cX3 3 (aF 5) (dFz (bI 2 nQ (aC (aU cI0 (aF 3) (aU ixD (aF 5) (dC (.int 0)))) (aC (aU cI0 (aF 3) (aU ixD (aF 5) (dC (.int 1)))) aR)))))
 (tV (aG6 "list" 4 cM1 (aC (dCB nD (aC (aU ixD (aU cI0 (aF 3) (aF 5)) (dC (.int 1))) aR)) aR)))))
 (fQ (iV (aC (aU ixD (bI 2 kZ (aC (aU cI0 (aF 3) (aF 2)) (aC (bI 1 bC (aC (aF 0) aR)) aR))) (dC (.int 1))) (aC (dCB aG9 (aC (aF 4) aR)) aR)))))))
noncomputable def eA:Dv.Run:=iX 6 nR
noncomputable def fN:DS:=(cN (fA 3 (dJ [11,12] (dIt (aF 0)) (lK 2 (cB (dgN 11) (cB (dgN 12) kP))) fR (dFz (aF 11))))
 (cN (fA 4 (aU ixD (bI 3 eA (aC (aF 0) (aC (aF 1) (aC (iV (aC (iV (aC (aU ixD (aF 3) (dC (.int 0))) (aC (aU ixD (aF 3) (dC (.int 1))) aR))) (aC (aU ixD (aF 3) (dC (.int 2))) aR))) aR)))) (dC (.int 0))))
 (cN (rF (bE5 (aC (dC (.int 3)) aR)) (dgN 5)
 (cN (cZ2 6 7 8 (aC (aU ixD (aF 3) (aF 5)) (aC (aU ixD (aF 3) (aU aK4 (aF 5) (dC (.int 1)))) (aC (aU ixD (aF 3) (aU aK4 (aF 5) (dC (.int 2)))) aR))))
 (rF (dIt (qW (aC (iV (aC (dFz (aF 6)) (aC (dFz (aF 7)) aR))) (aC (iV (aC (dFz (aF 7)) (aC (dFz (aF 6)) aR))) aR)))) (dgN 9)
 (rF (dIt (qW (aC (iV (aC (dFz (aF 9)) (aC (dFz (aF 8)) aR))) (aC (iV (aC (dFz (aF 8)) (aC (dFz (aF 9)) aR))) aR)))) (dgN 10)
 (qX (fO (aU (eqD true) (bI 3 eA (aC (aF 0) (aC (aF 1) (aC (aF 10) aR)))) (iV (aC (dFz (aF 4)) (aC (iV (aC (aU aK4 (aU vM (aU bI3 (aF 2) (aF 2)) (aF 2)) (dC (.int 1))) (aC (aU aK4 (aU bI3 (dC (.int 3)) (aF 2)) (dC (.int 2))) aR))) aR))))) (fQ (dC (.bl false))) gM)))))
 (fQ (aU (eqD false) (dCB nD (aC (aF 4) aR)) (aU aK4 (aU bI3 (dC (.int 3)) (aF 2)) (dC (.int 2))))))))
noncomputable def aP:Dv.Run:=iX 13 fN
noncomputable def iK:DS:=(fQ (dIf (fO (dCB cF8 (aC (dJ [1] (dIt (aF 0)) (dgN 1) fR (aU gtI (dCB nD (aC (aF 1) aR)) (dC (.int 0)))) aR))) (qW (aC (iV aR) aR)) (qW aR)))
noncomputable def gG:Dv.Run:=iX 2 iK
noncomputable def iL:DS:=(cN (fA 3 (qW aR))
 (cN (rF (dIt (aF 0)) (dgN 4)
 (qX (fO (aU (inD false) (aF 2) (aU ixD (aF 4) (dC (.int 0))))) (cN (fA 5 (dCB aG9 (aC (dJ [7] (dIt (aF 1)) (dgN 7) (fO (aU (inD false) (aF 7) (aU ixD (aF 4) (dC (.int 0))))) (dFz (aF 7))) aR)))
 (cN (fA 6 (bI 3 fM (aC (bI 2 kZ (aC (aF 4) (aC (aU vM (aF 5) (iV (aC (dFz (aF 2)) aR))) aR))) (aC (aF 5) (aC (iV (aC (dFz (aF 2)) aR)) aR)))))
 (tV (aG6 "list" 3 cM1 (aC (iV (aC (dFz (bI 2 bL (aC (aF 1) (aC (aF 5) aR)))) (aC (dFz (aF 6)) aR))) aR))))) gM))
 (fQ (aF 3))))
noncomputable def gH:Dv.Run:=iX 8 iL
noncomputable def qT:DS:=(fQ (dCB cF8 (aC (dJ [2] (dIt (aF 1)) (dgN 2) fR (aU (inD false) (aF 0) (aF 2))) aR)))
noncomputable def nT:Dv.Run:=iX 3 qT
noncomputable def iM:DS:=(cN (fA 3 (bI 2 dS (aC (aF 0) (aC (aF 1) aR))))
 (cN (fA 4 (bI 1 gG (aC (aF 1) aR)))
 (cN (fA 5 (qW aR))
 (cN (fA 6 (dC (.int 0)))
 (cN (rF (aT3 (aF 2)) (lK 2 (cB (dgN 7) (cB (dgN 8) kP)))
 (cN (fA 9 (bI 3 gH (aC (aF 3) (aC (dSl (aF 2) dA5 (dP (aF 7))) (aC (aF 8) aR)))))
 (cN (fA 10 (qW aR))
 (cN (rF (dIt (aF 4)) (dgN 11)
 (cN (fA 12 (dJ [14,15] (dIt (aF 9)) (lK 2 (cB (dgN 14) (cB (dgN 15) kP))) fR (aU dB2 (aF 15) (bI 2 cI (aC (aF 11) (aC (aF 14) aR))))))
 (cN (fA 13 (dCB cJ4 (aC (aF 12) aR)))
 (cN (dL0 6 dB5 (aU bI3 (dCB nD (aC (aF 13) aR)) (dCB nD (aC (aF 12) aR))))
 (tV (aG7 "list" 10 cM2 (aC (dJ [16] (dIt (aF 13)) (dgN 16) (fO (bI 2 nT (aC (aF 16) (aC (aF 12) aR)))) (dFz (aU vM (aF 11) (aF 16)))) aR)))))))
 (cN (fA 4 (dFz (aF 10)))
 (tV (aG6 "list" 5 cM1 (aC (dCB nD (aC (aF 4) aR)) aR))))))))
 (fQ (iV (aC (aU ixD (bI 2 kZ (aC (iV (aC (dFz (aF 2)) (aC (dFz (aF 4)) aR))) (aC (bI 1 bC (aC (aF 0) aR)) aR))) (dC (.int 1))) (aC (dCB aG9 (aC (aF 5) aR)) (aC (dFz (aF 6)) aR))))))))))
noncomputable def gJ:Dv.Run:=iX 17 iM
noncomputable def eU:DS:=(cN (fA 3 (bI 1 bC (aC (aF 0) aR)))
 (cN (fA 4 (aU ixD (bI 3 eA (aC (aF 0) (aC (aF 1) (aC (iV (aC (iV (aC (aU ixD (aU ixD (aF 0) (dC (.int 0))) (dC (.int 0))) (aC (aU ixD (aU ixD (aF 0) (dC (.int 1))) (dC (.int 0))) aR))) (aC (aU ixD (aU ixD (aF 0) (dC (.int 2))) (dC (.int 0))) aR))) aR)))) (dC (.int 0))))
 (cN (rF (dIt (aF 3)) (dgN 5)
 (rF (dIt (aF 3)) (dgN 6)
 (rF (dIt (aF 3)) (dgN 7)
 (qX (fO (aU (eqD false) (dCB uX (aC (qW (aC (dFz (aF 5)) (aC (dFz (aF 6)) (aC (dFz (aF 7)) aR)))) aR)) (dC (.int 3)))) (cN (cS7 (lK 3 (cB (dgN 8) (cB (dgN 9) (cB (dgN 10) kP)))) (dFz (bI 3 gJ (aC (aF 0) (aC (aF 1) (aC (iV (aC (dFz (aF 5)) (aC (dFz (aF 6)) (aC (dFz (aF 7)) aR)))) aR))))))
 (qX (dOr (fO (aU (eqD true) (aF 8) (aF 4))) (dOr (fO (aU gtI (dCB cJ5 (aC (aF 9) aR)) (aU aK4 (aU bI3 (dC (.int 3)) (aF 2)) (dC (.int 2))))) (fO (aU (eqD true) (aU ixD (aF 9) (bM8 dF2 (dC (.int 1)))) (aU aK4 (aU bI3 (dC (.int 3)) (aF 2)) (dC (.int 2))))))) (fQ (dC (.bl false))) gM)) gM))))
 (fQ (dC (.bl true))))))
noncomputable def aN:Dv.Run:=iX 11 eU
noncomputable def xS:DS:=(cN (rF (bE5 (aC (dC (.int 2)) aR)) (dgN 1)
 (cN (fA 2 (aU vM (dC (.int 1)) (bI 2 eN (aC (bI 2 fJ (aC (aF 0) (aC (aF 1) aR))) (aC (dC (.int 7)) aR)))))
 (cN (cS7 (lK 2 (cB (dgN 3) (cB (dgN 4) kP))) (dFz (bI 1 iG (aC (aF 2) aR))))
 (cN (qX (dOr (aK2 (fO (bI 3 aW (aC (aF 3) (aC (aF 4) (aC (aF 2) aR)))))) (aK2 (fO (bI 3 aP (aC (aF 3) (aC (aF 4) (aC (aF 2) aR))))))) (fQ (dC (.bl false))) gM)
 (qX (dOr (aK2 (fO (bI 3 aN (aC (aF 3) (aC (aF 4) (aC (aF 2) aR)))))) (fO (aU (eqD true) (bI 1 iG (aC (aF 2) aR)) (iV (aC (dFz (aF 3)) (aC (dFz (aF 4)) aR)))))) (fQ (dC (.bl false))) gM)))))
 (fQ (dC (.bl true))))
noncomputable def nU:Dv.Run:=iX 5 xS
section
variable{P:Program}{w:World}{K:W.Frag}{mg:Str->Option Value}{base:Heap}{a:Adr}
def zO(T:Txt K mg a):FnOk P w K mg base CX0 1 a.a2P a.a1R ["_law_box_here","_law_many"] (dsp 2 eN):=by
 refine aZ T.a2F pV (by decide) fH (λcdv A outer s H E b=>?_);have nd:=pV.nd;unfold fH;exact(aE (iA (cA aF2 nB (bM (aB (pv 0)) ge_int (λ_ _=>rfl)) ge_int (bZ _)) (aE (aV (i:=2) nd rfl (Or.inl rfl) (aT nX jH (bM (aB (pv 0)) ge_int (λ_ _=>rfl)) (aB (pv 1))))
  (aE (bN5 (k:=0) (λΓ=>vO (gE (aT aB6 aQ2 (bM (aB (pv 0)) ge_int (λ_ _=>rfl)) (aB (pv 1))) Γ) (aL5 (pv 0) (gE ge_int Γ) aA0)))
  (aG (bG (aB (pv 2)))))) cK)
  (aE (aV (i:=3) nd rfl (Or.inl rfl) (aT nX jH (aT cY iB (bM (aB (pv 0)) ge_int (λ_ _=>rfl)) ge_int) ge_int))
  (aE (bN5 (k:=0) (λΓ=>vO (gE (aT cW cX (aT nX jH (aT cW cX (aT cY iB (aB (pv 3)) ge_int) ge_int) ge_int) ge_int) Γ) (aL5 (pv 0) (gE ge_int Γ) aA0)))
  (aG (bG (aT nX jH (aT aB6 aQ2 (aT cW cX (aT cY iB (aB (pv 3)) ge_int) (bM (aB (pv 0)) ge_int (λ_ _=>rfl))) ge_int) (aB (pv 1))))))))
def aJ8(T:Txt K mg a):FnOk P w K mg base CX0 1 a.a3n a.a2u ["_law_script","_law_k"] (dsp 2 fJ):=by
 refine aZ T.a2V sJ (by decide) gW (λcdv A outer s H E b=>?_);have nd:=sJ.nd;unfold gW;exact(aE (aV (i:=2) nd rfl (Or.inl rfl) (aT cW cX (aT cY iB ge_int (aB (pv 1))) ge_int))
  (aE (iA (cA (bZ6 b.units0) aX6 (aB (pv 1)) (bY bU (λΓ=>aS aX (by rfl) T.a0Z bB (gA (aA (aB (pv 0)) aD) Γ))) (bZ _)) (aG (aV (i:=2) nd rfl (Or.inl rfl) (bM (aB (pv 0)) (aB (pv 1)) (λ_ _=>rfl)))) (aG (iA (cA aF2 nB (bY bU (λΓ=>aS aX (by rfl) T.a0Z bB (gA (aA (aB (pv 0)) aD) Γ))) ge_int (bZ _)) (aG (aV (i:=2) nd rfl (Or.inl rfl) (aT cW cX (aB (pv 2)) (aT cY iB (aT nX jH (bM (aB (pv 0)) (aT nX jH (aB (pv 1)) (bY bU (λΓ=>aS aX (by rfl) T.a0Z bB (gA (aA (aB (pv 0)) aD) Γ)))) (λ_ _=>rfl)) ge_int) ge_int)))) cK)))
  (aE (aV (i:=3) nd rfl (Or.inl rfl) (aT cW cX (aT nX jH (aT cW cX (aT cY iB (aT nX jH (aB (pv 2)) ge_int) ge_int) (aT cY iB ge_int (aB (pv 1)))) ge_int) ge_int))
  (aG (bG (dI (aA (bJ (aT cY iB (aB (pv 2)) (bY cF9 (λΓ=>cS aM2 (by rfl) T.a4l aC9 (gA (aA (kJ cP7 aP7 (aB (pv 2)) (aT cP5 cF3 ge_int ge_int) (bZ _)) aD) Γ))))) (aA (bJ (aB (pv 3))) aD))))))))
def cL1(T:Txt K mg a):FnOk P w K mg base CX0 1 a.hard a.a3s ["m"] (dsp 1 iG):=by
 refine aZ T.a3F aT7 (by decide) zM (λcdv A outer s H E b=>?_);have nd:=aT7.nd;unfold zM;exact(aE (aV (i:=1) nd rfl (Or.inl rfl) (bY iC (λΓ=>cS dG (by rfl) T.a1I cH (gA (aA (aT cW cX (bT (ow:=[3]) (aI (by decide)) (λΓ=>bR (csc [3] (by kernel_rfl)) (gI (tZ (λΓ=>lC (by rfl) T.a2T (gA (aA (aB (pv 0)) aD) Γ)) cL8) Γ) (λ_ _ _ _=>(aH (i:=3) nd rfl (Or.inl rfl) (.inr rfl))) (aO (by decide)) (λ_ _ _ _=>bO) (λ_ _ _ _=>gE (bN (aA ge_int (aA (bJ (aB (pv 3))) aD))) Γ))) (bT (ow:=[3]) (aI (by decide)) (λΓ=>bR (csc [3] (by kernel_rfl)) (gI (cE8 (λΓ=>aL9 (by rfl) T.a2T (gA (aA ge_int (aA (aB (pv 0)) aD)) Γ)) dJ4) Γ) (λ_ _ _ _=>(aH (i:=3) nd rfl (Or.inl rfl) (.inr rfl))) (aO (by decide)) (λ_ _ _ _=>bO) (λ_ _ _ _=>gE (bN (aA (bJ (aB (pv 3))) (aA ge_int aD))) Γ)))) aD) Γ))))
  (aE (aV (i:=2) nd rfl (Or.inl rfl) (bN (aA (bN (aA lG (aA (bN (aA lG (aA lG aD))) aD))) (aA (bN (aA lG (aA (bN (aA lG (aA lG aD))) aD))) (aA (bN (aA lG (aA (bN (aA lG (aA lG aD))) aD))) aD)))))
  (aG (bG (bN (aA (bJ (aB (pv 2))) (aA (bN (aA (bJ (aB (pv 1))) (aA (bJ (aB (pv 1))) (aA (bJ (aB (pv 1))) aD)))) aD)))))))
def aJ9(T:Txt K mg a):FnOk P w K mg base CX0 1 a.a0W a.a1O ["text"] (dsp 1 fK):=by
 refine aZ T.a2D sK (by decide) nN (λcdv A outer s H E b=>?_);have nd:=sK.nd;unfold nN;exact(aG (bG (oC (tS yF kR yF kR ge_int (bY bU (λΓ=>aS aX (by rfl) T.a0Z bB (gA (aA (aB (pv 0)) aD) Γ))) (lH (by rfl) T.a3M)) (rY (bY pQ (λΓ=>aS (jI K (by rfl) (by rfl)) (by rfl) T.a3Q lQ (gA (aA (bT (ow:=[1]) (aI (by decide)) (λΓ=>bR (csc [1] (by kernel_rfl)) (gI (bP K (by rfl) (aB (pv 0))) Γ) (λ_ _ _ _=>(aH (i:=1) nd rfl (Or.inl rfl) (.inr rfl))) (aO (by decide)) (λ_ _ _ _=>bO) (λ_ _ _ _=>gE (kJ (pS b.units) (lO (neg:=false)) (aB (pv 1)) (bD9 (by rfl) T.a3P) (by with_unfolding_all rfl)) Γ))) aD) Γ)))))))
def lA(T:Txt K mg a)(b:FnOk P w K mg base CX0 1 a.a0W a.a1O ["text"] (dsp 1 fK)):FnOk P w K mg base CX0 2 a.a0k a.a0A ["texts"] (dsp 1 cR):=by
 refine aZ T.a0O fF (by decide) cZ (λcdv A outer s H E c=>?_);have nd:=fF.nd;unfold cZ;exact(aG (bG (oC (kJ (oG c.units) (fV (neg:=false)) (bY sZ (λΓ=>uW (id:="len") (U:="set") (qL rfl) (by rfl) T.a0Z bB (by rfl) T.a4k uK (gA (aA (aB (pv 0)) aD) Γ))) (bY bU (λΓ=>aS aX (by rfl) T.a0Z bB (gA (aA (aB (pv 0)) aD) Γ))) (bZ _)) (rY (bY pQ (λΓ=>aS (jI K (by rfl) (by rfl)) (by rfl) T.a3Q lQ (gA (aA (bT (ow:=[1]) (aI (by decide)) (λΓ=>bR (csc [1] (by kernel_rfl)) (gI (bP K (by rfl) (aB (pv 0))) Γ) (λ_ _ _ _=>(aH (i:=1) nd rfl (Or.inl rfl) (.inr rfl))) (aO (by decide)) (λ_ _ _ _=>bO) (λ_ _ _ _=>gE (bJ (aM (λΓ=>aL b (c.mono (by decide)) (by rfl) T.a3A T.a2D.kp (wT T) .nil bK (gA (aA (aB (pv 1)) aD) Γ)))) Γ))) aD) Γ)))))))
def nV(T:Txt K mg a)(b:FnOk P w K mg base CX0 1 a.a0W a.a1O ["text"] (dsp 1 fK))(c:FnOk P w K mg base CX0 2 a.a0k a.a0A ["texts"] (dsp 1 cR)):FnOk P w K mg base CX0 3 a.a0p a.a0J ["name","columns"] (dsp 2 dN):=by
 refine aZ T.a1p gQ (by decide) dW (λcdv A outer s H E d=>?_);have nd:=gQ.nd;unfold dW;exact(aG (bG (oC (aM (λΓ=>aL b (d.mono (by decide)) (by rfl) T.a3A T.a2D.kp (wT T) .nil bK (gA (aA (aB (pv 0)) aD) Γ))) (oC (tS yF kR yF kR ge_int (bY bU (λΓ=>aS aX (by rfl) T.a0Z bB (gA (aA (aB (pv 1)) aD) Γ))) (lH (by rfl) T.a3V)) (rY (aM (λΓ=>aL c (d.mono (by decide)) (by rfl) T.a2E T.a0O.kp (lY T) .nil bK (gA (aA (aB (pv 1)) aD) Γ))))))))
def zP(T:Txt K mg a):FnOk P w K mg base CX0 1 a.a0H a.a1y ["question"] (dsp 1 eO):=by
 refine aZ T.a2w pW (by decide) kU (λcdv A outer s H E b=>?_);have nd:=pW.nd;unfold kU;exact(aG (bG (bT (ow:=[1,2]) (iP (bF (aI (by decide)) (bF (aI (by decide)) eS))) (λΓ=>bR (csc [1,2] (by kernel_rfl)) (gI (bP K (by rfl) (aB (pv 0))) Γ) (λ_ _ _ _=>(cU (n:=2) K rfl rfl (bD (aH (i:=1) nd rfl (Or.inl rfl) (.inr rfl)) (bD (aH (i:=2) nd rfl (Or.inl rfl) (.inr rfl)) eQ)))) (jB (cF (aO (by decide)) (cF (aO (by decide)) jA cG) cG)) (λ_ _ _ _=>bO) (λ_ _ _ _=>gE (bJ (aB (pv 1))) Γ)))))
def vG(T:Txt K mg a):FnOk P w K mg base CX0 1 a.a0q a.a0y ["question"] (dsp 1 bC):=by
 refine aZ T.a0E lS (by decide) iH (λcdv A outer s H E b=>?_);have nd:=lS.nd;unfold iH;exact(aE (aV (i:=1) nd rfl (Or.inr rfl) (dI aD))
  (aE (eV (own:=[2,3]) (iP (bF (aI (by decide)) (bF (aI (by decide)) eS))) (λΓ=>eE a9d rfl (gI (bP K (by rfl) (aB (pv 0))) Γ) (cU (n:=2) K rfl rfl (bD (aH (i:=2) nd rfl (Or.inl rfl)) (bD (aH (i:=3) nd rfl (Or.inl rfl)) eQ)))
  (gSs (aG (jD (tU uD (λΓ=>lF K (by rfl) a1e F.slot_list_extend F.type_list_extend uC (pv 1) (gA (aA (bT (ow:=[4]) (aI (by decide)) (λΓ=>bR (csc [4] (by kernel_rfl)) (gI (bP K (by rfl) (aB (pv 3))) Γ) (λ_ _ _ _=>(aH (i:=4) nd rfl (Or.inl rfl) (.inr rfl))) (aO (by decide)) (λ_ _ _ _=>(jX (cA (wJ b.units) (lO (neg:=true)) (aB (pv 4)) (aB (pv 1)) (by with_unfolding_all rfl)))) (λ_ _ _ _=>gE (bJ (aB (pv 4))) Γ))) aD) Γ))))) Γ)))
  (aG (bG (bY iC (λΓ=>cS dG (by rfl) T.a1I cH (gA (aA (aB (pv 1)) aD) Γ)))))))
def mO(T:Txt K mg a)(c:FnOk P w K mg base CX0 3 a.a0p a.a0J ["name","columns"] (dsp 2 dN))(d:FnOk P w K mg base CX0 1 a.a0H a.a1y ["question"] (dsp 1 eO))(e:FnOk P w K mg base CX0 1 a.a0q a.a0y ["question"] (dsp 1 bC)):FnOk P w K mg base CX0 4 a.a0l a.a0C ["ahead","name","columns"] (dsp 3 dA):=by
 refine aZ T.a0T fX (by decide) dO (λcdv A outer s H E b=>?_);have nd:=fX.nd;unfold dO;exact(aE (iA (GW.gt (rE (lI (kK (aM (λΓ=>aL c (b.mono (by decide)) (by rfl) T.a2N T.a1p.kp (oU T) .nil bK (gA (aA (aB (pv 1)) (aA (aB (pv 2)) aD)) Γ))))) (oB (cA (pS b.units) (lO (neg:=false)) (aB (pv 1)) (aM (λΓ=>aL d (b.mono (by decide)) (by rfl) T.a2Z T.a2w.kp (sO T) .nil bK (gA (aA (aB (pv 0)) aD) Γ))) (by with_unfolding_all rfl))))) (aG (bG mY)) cK)
  (aG (bG (kJ yF kR (bY bU (λΓ=>aS aX (by rfl) T.a0Z bB (gA (aA (aM (λΓ=>aL e (b.mono (by decide)) (by rfl) T.a1l T.a0E.kp (eM T) .nil bK (gA (aA (aT cW cX (aB (pv 0)) (bN (aA (bN (aA (bJ (aB (pv 1))) (aA (bJ (aB (pv 2))) aD))) aD))) aD) Γ))) aD) Γ))) (lH (by rfl) T.a2W) (bZ _)))))
def cL2(T:Txt K mg a)(b:FnOk P w K mg base CX0 4 a.a0l a.a0C ["ahead","name","columns"] (dsp 3 dA)):FnOk P w K mg base CX0 5 a.look a.a3r ["question"] (dsp 1 vF):=by
 refine aZ T.a3O aT8 (by decide) zN (λcdv A outer s H E c=>?_);have nd:=aT8.nd;unfold zN;exact(aE (iA (cA (oG c.units) (fV (neg:=false)) (bY bU (λΓ=>aS aX (by rfl) T.a0Z bB (gA (aA (aB (pv 0)) aD) Γ))) ge_int (bZ _)) (aG uL) cK)
  (aE (eV (own:=[1,2]) (iP (bF (aI (by decide)) (bF (aI (by decide)) eS))) (λΓ=>eE a9d rfl (gI (uI K (λΓ=>uH K (by rfl) (by rfl) T.a1W eB (gA (aA (aB (pv 0)) aD) Γ))) Γ) (cU (n:=2) K rfl rfl (bD (aH (i:=1) nd rfl (Or.inl rfl)) (bD (aH (i:=2) nd rfl (Or.inl rfl)) eQ)))
  (gSs (aG (iA (GW.gt (rE (cA (oG c.units) (fV (neg:=false)) (aB (pv 1)) (lH (by rfl) T.a3o) (bZ _)) (oB (lI (kK (aM (λΓ=>aL b (c.mono (by decide)) (by rfl) T.a2M T.a0T.kp (nE T) .nil bK (gA (aA (aB4 (aB (pv 0)) aQ0 (aQ1 (aB (pv 1)))) (aA (bM (aB (pv 2)) ge_int (λ_ _=>rfl)) (aA (bM (aB (pv 2)) ge_int (λ_ _=>rfl)) aD))) Γ)))))))) (aG uL) cK)) Γ)))
  (aG (bG mY))))
def zQ(T:Txt K mg a):FnOk P w K mg base CX0 1 a.a0M a.a1T ["number"] (dsp 1 jQ):=by
 refine aZ T.a2K pX (by decide) kW (λcdv A outer s H E b=>?_);have nd:=pX.nd;unfold kW;exact(aG (bG (oC (aB8 (c:="int") K (by decide) (λΓ=>aS (lP K (by rfl)) (by rfl) T.a1F dL (hC (gE (aB (pv 0)) Γ) (hC (tF (v:=.ty "int") (by rfl) T.a4l aC9 rfl) rT)))) (oC (cS5 (aB8 (c:="bool") K (by decide) (λΓ=>aS (lP K (by rfl)) (by rfl) T.a1F dL (hC (gE (aB (pv 0)) Γ) (hC (tF (v:=.ty "bool") (by rfl) T.a4q aT4 rfl) rT))))) (rY (tS yF kR yF kR ge_int (aB (pv 0)) (lH (by rfl) T.a3I)))))))
def aZ2(T:Txt K mg a)(b:FnOk P w K mg base CX0 1 a.a0M a.a1T ["number"] (dsp 1 jQ)):FnOk P w K mg base CX0 2 a.a1X a.a2A ["width","row"] (dsp 2 nO):=by
 refine aZ T.a3m wP (by decide) qQ (λcdv A outer s H E c=>?_);have nd:=wP.nd;unfold qQ;exact(aG (bG (oC (kJ (oG c.units) (fV (neg:=false)) (bY bU (λΓ=>aS aX (by rfl) T.a0Z bB (gA (aA (aB (pv 1)) aD) Γ))) (aB (pv 0)) (bZ _)) (rY (bY pQ (λΓ=>aS (jI K (by rfl) (by rfl)) (by rfl) T.a3Q lQ (gA (aA (bT (ow:=[2]) (aI (by decide)) (λΓ=>bR (csc [2] (by kernel_rfl)) (gI (bP K (by rfl) (aB (pv 1))) Γ) (λ_ _ _ _=>(aH (i:=2) nd rfl (Or.inl rfl) (.inr rfl))) (aO (by decide)) (λ_ _ _ _=>bO) (λ_ _ _ _=>gE (bJ (aM (λΓ=>aL b (c.mono (by decide)) (by rfl) T.a3G T.a2K.kp (aH7 T) .nil bK (gA (aA (aB (pv 2)) aD) Γ)))) Γ))) aD) Γ)))))))
def mP(T:Txt K mg a)(b:FnOk P w K mg base CX0 2 a.a1X a.a2A ["width","row"] (dsp 2 nO)):FnOk P w K mg base CX0 3 a.a0m a.a0B ["width","rows"] (dsp 2 dB):=by
 refine aZ T.a0Y fY (by decide) dQ (λcdv A outer s H E c=>?_);have nd:=fY.nd;unfold dQ;exact(aE (eV (own:=[2,3]) (iP (bF (aI (by decide)) (bF (aI (by decide)) eS))) (λΓ=>eE a9d rfl (gI (uI K (λΓ=>uH K (by rfl) (by rfl) T.a1W eB (gA (aA (aB (pv 1)) aD) Γ))) Γ) (cU (n:=2) K rfl rfl (bD (aH (i:=2) nd rfl (Or.inl rfl)) (bD (aH (i:=3) nd rfl (Or.inl rfl)) eQ)))
  (gSs (aE (iA (lI (kK (aM (λΓ=>aL b (c.mono (by decide)) (by rfl) T.a3U T.a3m.kp (bF7 T) .nil bK (gA (aA (aB (pv 0)) (aA (aB (pv 3)) aD)) Γ))))) (aG (bG (aB (pv 2)))) cK)
  (aG (iA (GW.gt (cS3 (cA aF2 nB (aB (pv 2)) ge_int (bZ _)) (cE3 (lI (cA (bZ6 c.units0) aX6 (bM (aB (pv 1)) (aT kI gD (aB (pv 2)) ge_int) (λ_ _=>rfl)) (aB (pv 3)) (bZ _)))))) (aG (bG (aB (pv 2)))) cK))) Γ)))
  (aG (bG bM7)))
def vH(T:Txt K mg a)(b:FnOk P w K mg base CX0 3 a.a0m a.a0B ["width","rows"] (dsp 2 dB)):FnOk P w K mg base CX0 4 a.a0v a.a1s ["question","house"] (dsp 2 gF):=by
 refine aZ T.a2s lT (by decide) iI (λcdv A outer s H E c=>?_);have nd:=lT.nd;unfold iI;exact(aE (eV (own:=[2,3]) (iP (bF (aI (by decide)) (bF (aI (by decide)) eS))) (λΓ=>eE a9d rfl (gI (uI K (λΓ=>uH K (by rfl) (by rfl) T.a1W eB (gA (aA (aB (pv 0)) aD) Γ))) Γ) (cU (n:=2) K rfl rfl (bD (aH (i:=2) nd rfl (Or.inl rfl)) (bD (aH (i:=3) nd rfl (Or.inl rfl)) eQ)))
  (gSs (aG (iA (GW.gt (rE (cA cP7 aP7 (aB (pv 2)) (bY bU (λΓ=>aS aX (by rfl) T.a0Z bB (gA (aA (aB (pv 1)) aD) Γ))) (bZ _)) (oB (cA yM (zL (neg:=true)) (aM (λΓ=>aL b (c.mono (by decide)) (by rfl) T.a2I T.a0Y.kp (nF T) .nil bK (gA (aA (bY bU (λΓ=>aS aX (by rfl) T.a0Z bB (gA (aA (bM (aB (pv 3)) ge_int (λ_ _=>rfl)) aD) Γ))) (aA (bM (aB (pv 1)) (aB (pv 2)) (λ_ _=>rfl)) aD)) Γ))) bM7 (bZ _))))) (aG uL) cK)) Γ)))
  (aE (iA (cA aF2 nB (bY bU (λΓ=>aS aX (by rfl) T.a0Z bB (gA (aA (aB (pv 1)) aD) Γ))) (bY bU (λΓ=>aS aX (by rfl) T.a0Z bB (gA (aA (aB (pv 0)) aD) Γ))) (bZ _)) (aG uL) cK)
  (aG (bG mY))))
def vI(T:Txt K mg a)(d:FnOk P w K mg base CX0 5 a.look a.a3r ["question"] (dsp 1 vF))(e:FnOk P w K mg base CX0 4 a.a0v a.a1s ["question","house"] (dsp 2 gF))(f:FnOk P w K mg base CX0 1 a.a0q a.a0y ["question"] (dsp 1 bC)):FnOk P w K mg base CX0 6 a.a2x a.a1q ["_law_question","_law_house","_law_m"] (dsp 3 aW):=by
 refine aZ T.a2m lU (by decide) iJ (λcdv A outer s H E b=>?_);have nd:=lU.nd;unfold iJ;exact(aE (iA (GW.gt (rE (lI (kK (aB8 (c:="tuple") K (by decide) (λΓ=>aS (lP K (by rfl)) (by rfl) T.a1F dL (hC (gE (aB (pv 0)) Γ) (hC (tF (v:=.ty "tuple") (by rfl) T.a1I cH rfl) rT)))))) (rE (cA yM (zL (neg:=true)) (aM (λΓ=>aL d (b.mono (by decide)) (by rfl) T.a4m T.a3O.kp (cW0 T) .nil bK (gA (aA (aB (pv 0)) aD) Γ))) mY (bZ _)) (oB (cA yM (zL (neg:=true)) (aM (λΓ=>aL e (b.mono (by decide)) (by rfl) T.a3D T.a2s.kp (wU T) .nil bK (gA (aA (aB (pv 0)) (aA (aB (pv 1)) aD)) Γ))) mY (bZ _)))))) (aG (bG mY)) cK)
  (aE (aV (i:=3) nd rfl (Or.inr rfl) (bT (ow:=[5,6]) (iP (bF (aI (by decide)) (bF (aI (by decide)) eS))) (λΓ=>bR (csc [5,6] (by kernel_rfl)) (gI (bP K (by rfl) (aB (pv 0))) Γ) (λ_ _ _ _=>(cU (n:=2) K rfl rfl (bD (aH (i:=5) nd rfl (Or.inl rfl) (.inr rfl)) (bD (aH (i:=6) nd rfl (Or.inl rfl) (.inr rfl)) eQ)))) (jB (cF (aO (by decide)) (cF (aO (by decide)) jA cG) cG)) (λ_ _ _ _=>bO) (λ_ _ _ _=>gE (bJ (aB (pv 6))) Γ))))
  (aE (iA (GW.gt (rE (cA (sD b.units) (fV (neg:=true)) (bT (ow:=[6]) (aI (by decide)) (λΓ=>bR (csc [6] (by kernel_rfl)) (gI (bP K (by rfl) (aB (pv 3))) Γ) (λ_ _ _ _=>(aH (i:=6) nd rfl (Or.inl rfl) (.inr rfl))) (aO (by decide)) (λ_ _ _ _=>bO) (λ_ _ _ _=>gE (bY bU (λΓ=>aS aX (by rfl) T.a0Z bB (gA (aA (aB (pv 6)) aD) Γ))) Γ))) (dI (aA ge_int (aA ge_int (aA ge_int aD)))) (bZ _)) (oB (cA (sD b.units) (fV (neg:=true)) (bT (ow:=[7]) (aI (by decide)) (λΓ=>bR (csc [7] (by kernel_rfl)) (gI (bP K (by rfl) (aB (pv 1))) Γ) (λ_ _ _ _=>(aH (i:=7) nd rfl (Or.inl rfl) (.inr rfl))) (aO (by decide)) (λ_ _ _ _=>bO) (λ_ _ _ _=>gE (bY bU (λΓ=>aS aX (by rfl) T.a0Z bB (gA (aA (aB (pv 7)) aD) Γ))) Γ))) (aT cK6 bI2 (dI (aA (aT kI gD (aT cY iF ge_int (aB (pv 2))) ge_int) aD)) ge_int) (bZ _))))) (aG (bG mY)) cK)
  (aE (mZ (ow:=[8]) (i:=4) (aI (by decide)) (λΓ=>mW (i:=4) nd rfl rfl (csc [8] (by kernel_rfl)) (gI (tZ (λΓ=>lC (by rfl) T.a2T (gA (aA ge_int aD) Γ)) cL8) Γ) (λ_ _ _ _=>(aH (i:=8) nd rfl (Or.inr rfl) (.inl rfl))) (aO (by decide)) (λ_ _ _ _=>bO) (λ_ _ _ _=>gE (bJ (bT (ow:=[9]) (aI (by decide)) (λΓ=>bR (csc [9] (by kernel_rfl)) (gI (bP K (by rfl) (bM (aB (pv 3)) (aB (pv 8)) (λ_ _=>rfl))) Γ) (λ_ _ _ _=>(aH (i:=9) nd rfl (Or.inl rfl) (.inr rfl))) (aO (by decide)) (λ_ _ _ _=>(jX (cA (pS b.units) (lO (neg:=false)) (aB (pv 9)) (bM (aB (pv 3)) (aT kI gD (aB (pv 8)) ge_int) (λ_ _=>rfl)) (by with_unfolding_all rfl)))) (λ_ _ _ _=>gE (bJ (aB (pv 9))) Γ)))) Γ) rfl))
  (aG (bG (oC (kJ (oG b.units) (fV (neg:=false)) (bT (ow:=[6]) (aI (by decide)) (λΓ=>bR (csc [6] (by kernel_rfl)) (gI (bP K (by rfl) (aB (pv 4))) Γ) (λ_ _ _ _=>(aH (i:=6) nd rfl (Or.inl rfl) (.inr rfl))) (aO (by decide)) (λ_ _ _ _=>bO) (λ_ _ _ _=>gE (bY bU (λΓ=>aS aX (by rfl) T.a0Z bB (gA (aA (aB (pv 6)) aD) Γ))) Γ))) (dI (aA ge_int (aA ge_int (aA ge_int aD)))) (bZ _)) (rY (kJ (oG b.units) (fV (neg:=false)) (bY bU (λΓ=>aS aX (by rfl) T.a0Z bB (gA (aA (aM (λΓ=>aL f (b.mono (by decide)) (by rfl) T.a1l T.a0E.kp (eM T) .nil bK (gA (aA (aB (pv 0)) aD) Γ))) aD) Γ))) ge_int (bZ _))))))))))
def xT(T:Txt K mg a):FnOk P w K mg base CX0 1 a.a0z a.a1k ["question","house"] (dsp 2 dS):=by
 refine aZ T.a1V oP (by decide) jR (λcdv A outer s H E b=>?_);have nd:=oP.nd;unfold jR;exact(aG (bG (bT (ow:=[2,3]) (iP (bF (aI (by decide)) (bF (aI (by decide)) eS))) (λΓ=>bR (csc [2,3] (by kernel_rfl)) (gI (cY8 (λΓ=>cY7 (by rfl) T.a4n aD0 (gA (aA (aB (pv 0)) (aA (aB (pv 1)) aD)) Γ))) Γ) (λ_ _ _ _=>(cU (n:=2) K rfl rfl (bD (aH (i:=2) nd rfl (Or.inl rfl) (.inr rfl)) (bD (aH (i:=3) nd rfl (Or.inl rfl) (.inr rfl)) eQ)))) (jB (cF (aO (by decide)) (cF (aO (by decide)) jA cG) cG)) (λ_ _ _ _=>bO) (λ_ _ _ _=>gE (bN (aA (bM (aB (pv 2)) ge_int (λ_ _=>rfl)) (aA (bJ (aB (pv 3))) aD))) Γ)))))
def qU(T:Txt K mg a)(b:FnOk P w K mg base CX0 1 a.a0z a.a1k ["question","house"] (dsp 2 dS))(c:FnOk P w K mg base CX0 1 a.a0H a.a1y ["question"] (dsp 1 eO)):FnOk P w K mg base CX0 2 a.a0r a.a0R ["question","house"] (dsp 2 eT):=by
 refine aZ T.a1L jM (by decide) fL (λcdv A outer s H E d=>?_);have nd:=jM.nd;unfold fL;exact(aG (bG (cV6 aY1 (λΓ=>aN9 (T:="dict") (U:="zip") (aJ3 rfl) (by rfl) T.a4p aT5 (by rfl) T.a4n aD0 (gA (aA (aM (λΓ=>aL c (d.mono (by decide)) (by rfl) T.a2Z T.a2w.kp (sO T) .nil bK (gA (aA (aB (pv 0)) aD) Γ))) (aA (aM (λΓ=>aL b (d.mono (by decide)) (by rfl) T.a2Q T.a1V.kp (qA T) .nil bK (gA (aA (aB (pv 0)) (aA (aB (pv 1)) aD)) Γ))) aD)) Γ)))))
def zR(T:Txt K mg a):FnOk P w K mg base CX0 1 a.a0K a.a1U ["tree"] (dsp 1 jS):=by
 refine aZ T.a2L pY (by decide) kX (λcdv A outer s H E b=>?_);have nd:=pY.nd;unfold kX;exact(aE (aV (i:=1) nd rfl (Or.inl rfl) (dI aD))
  (aE (aV (i:=2) nd rfl (Or.inl rfl) (dI (aA (bJ (aB (pv 0))) aD)))
  (aE (aZ0 (λΓ=>bA8 a9d (gT (bE0 (aB (pv 2)) (λ_=>rfl)) Γ)
  (gSs (aE (aV (i:=3) nd rfl (Or.inl rfl) (cE6 cG0 (cD9 K (by rfl) a1e F.slot_list_pop F.type_list_pop cR0 (pv 2))))
  (aG (iA (lI (kK (aB8 (c:="str") K (by decide) (λΓ=>aS (lP K (by rfl)) (by rfl) T.a1F dL (hC (gE (aB (pv 3)) Γ) (hC (tF (v:=.ty "str") (by rfl) T.a4t bF6 rfl) rT)))))) (aE (jD (tT uB (λΓ=>lF K (by rfl) a1e a5g a6g iY (pv 1) (gA (aA (bJ (aB (pv 3))) aD) Γ))))
  (aG (jD (tU uD (λΓ=>lF K (by rfl) a1e F.slot_list_extend F.type_list_extend uC (pv 2) (gA (aA (dI (aA (bM (aB (pv 3)) ge_int (λ_ _=>rfl)) (aA (bM (aB (pv 3)) ge_int (λ_ _=>rfl)) aD))) aD) Γ)))))) cK))) Γ)))
  (aG (bG (cV6 cG7 (λΓ=>aN9 (T:="list") (U:="reversed") (bD3 rfl) (by rfl) T.a4o aT6 (by rfl) T.a3H uJ (gA (aA (aB (pv 1)) aD) Γ))))))))
def nW(T:Txt K mg a):FnOk P w K mg base CX0 1 a.a0o a.a0I ["one","other"] (dsp 2 dU):=by
 refine aZ T.a1m gU (by decide) dZ (λcdv A outer s H E b=>?_);have nd:=gU.nd;unfold dZ;exact(aG (bG (bT (ow:=[2]) (aI (by decide)) (λΓ=>bR (csc [2] (by kernel_rfl)) (gI (bP K (by rfl) (bM (aB (pv 0)) ge_int (λ_ _=>rfl))) Γ) (λ_ _ _ _=>(aH (i:=2) nd rfl (Or.inl rfl) (.inr rfl))) (aO (by decide)) (λ_ _ _ _=>(jX (cA (pS b.units) (lO (neg:=false)) (aB (pv 2)) (bM (aB (pv 1)) ge_int (λ_ _=>rfl)) (by with_unfolding_all rfl)))) (λ_ _ _ _=>gE (bJ (aB (pv 2))) Γ)))))
def aZ3(T:Txt K mg a):FnOk P w K mg base CX0 1 a.picked a.a1B ["row","places"] (dsp 2 cI):=by
 refine aZ T.a1S wQ (by decide) qR (λcdv A outer s H E b=>?_);have nd:=wQ.nd;unfold qR;exact(aG (bG (bY iC (λΓ=>cS dG (by rfl) T.a1I cH (gA (aA (bT (ow:=[2]) (aI (by decide)) (λΓ=>bR (csc [2] (by kernel_rfl)) (gI (bP K (by rfl) (aB (pv 1))) Γ) (λ_ _ _ _=>(aH (i:=2) nd rfl (Or.inl rfl) (.inr rfl))) (aO (by decide)) (λ_ _ _ _=>bO) (λ_ _ _ _=>gE (bM (aB (pv 0)) (aB (pv 2)) (λ_ _=>rfl)) Γ))) aD) Γ)))))
def xU(T:Txt K mg a):FnOk P w K mg base CX0 1 a.a0t a.a0D ["columns","some"] (dsp 2 bL):=by
 refine aZ T.a0N oQ (by decide) jT (λcdv A outer s H E b=>?_);have nd:=oQ.nd;unfold jT;exact(aG (bG (bT (ow:=[2]) (aI (by decide)) (λΓ=>bR (csc [2] (by kernel_rfl)) (gI (bP K (by rfl) (aB (pv 1))) Γ) (λ_ _ _ _=>(aH (i:=2) nd rfl (Or.inl rfl) (.inr rfl))) (aO (by decide)) (λ_ _ _ _=>bO) (λ_ _ _ _=>gE (bJ (dH0 bI1 (λΓ=>cX7 F.slot_tuple_index F.type_tuple_index aY6 (gE (aB (pv 0)) Γ) (gA (aA (aB (pv 2)) aD) Γ)))) Γ)))))
def aK0(T:Txt K mg a)(b:FnOk P w K mg base CX0 1 a.picked a.a1B ["row","places"] (dsp 2 cI))(c:FnOk P w K mg base CX0 1 a.a0t a.a0D ["columns","some"] (dsp 2 bL)):FnOk P w K mg base CX0 2 a.grouped a.a1N ["table","columns","others"] (dsp 3 fM):=by
 refine aZ T.a2y sM (by decide) nP (λcdv A outer s H E d=>?_);have nd:=sM.nd;unfold nP;exact(aE (aV (i:=3) nd rfl (Or.inl rfl) (aM (λΓ=>aL c (d.mono (by decide)) (by rfl) T.a1D T.a0N.kp (fG T) .nil bK (gA (aA (bM (aB (pv 0)) ge_int (λ_ _=>rfl)) (aA (aB (pv 1)) aD)) Γ))))
  (aE (aV (i:=4) nd rfl (Or.inl rfl) (aM (λΓ=>aL c (d.mono (by decide)) (by rfl) T.a1D T.a0N.kp (fG T) .nil bK (gA (aA (bM (aB (pv 0)) ge_int (λ_ _=>rfl)) (aA (aB (pv 2)) aD)) Γ))))
  (bI4 (K:=K) (g:=5) (row:=6) (by decide) (bL7 (i:=5) nd rfl (Or.inl rfl) bD6) (λΓ=>eE a9d rfl (gI (bP K (by rfl) (bM (aB (pv 0)) ge_int (λ_ _=>rfl))) Γ) (aH (i:=6) nd rfl (Or.inl rfl)) (yE (aL4 (lF K (by rfl) a1e a5g a6g iY (cW6 (cC6 d) (pv 5) (gE (aM (λΓ=>aL b (d.mono (by decide)) (by rfl) T.a2C T.a1S.kp (lZ T) .nil bK (gA (aA (aB (pv 6)) (aA (aB (pv 3)) aD)) Γ))) Γ) (bL9 rT) ⟨rfl,rfl,rfl,rfl⟩) (gA (aA (bJ (aM (λΓ=>aL b (d.mono (by decide)) (by rfl) T.a2C T.a1S.kp (lZ T) .nil bK (gA (aA (aB (pv 6)) (aA (aB (pv 4)) aD)) Γ)))) aD) Γ))))) (bL6 (dH1 (pv 5))))))
def zS(T:Txt K mg a):FnOk P w K mg base CX0 1 a.a0G a.a1z ["columns","rows"] (dsp 2 eP):=by
 refine aZ T.a2v pZ (by decide) kY (λcdv A outer s H E b=>?_);have nd:=pZ.nd;unfold kY;exact(aG (bG (bN (aA (bY iC (λΓ=>cS dG (by rfl) T.a1I cH (gA (aA (aB (pv 0)) aD) Γ))) (aA (bY iC (λΓ=>cS dG (by rfl) T.a1I cH (gA (aA (bY xR (λΓ=>uW (id:="sorted") (U:="set") (vB rfl (cX8 b)) (by rfl) T.a3S yT (by rfl) T.a4k uK (gA (aA (aB (pv 1)) aD) Γ))) aD) Γ))) aD)))))
def aZ4(T:Txt K mg a)(c:FnOk P w K mg base CX0 1 a.a0o a.a0I ["one","other"] (dsp 2 dU))(d:FnOk P w K mg base CX0 2 a.grouped a.a1N ["table","columns","others"] (dsp 3 fM))(e:FnOk P w K mg base CX0 1 a.a0t a.a0D ["columns","some"] (dsp 2 bL))(f:FnOk P w K mg base CX0 1 a.picked a.a1B ["row","places"] (dsp 2 cI))(g:FnOk P w K mg base CX0 1 a.a0G a.a1z ["columns","rows"] (dsp 2 eP)):FnOk P w K mg base CX0 3 a.joined a.a2z ["one","other"] (dsp 2 nQ):=by
 refine aZ T.a3q wR (by decide) qS (λcdv A outer s H E b=>?_);have nd:=wR.nd;unfold qS;exact(aE (aV (i:=2) nd rfl (Or.inl rfl) (aM (λΓ=>aL c (b.mono (by decide)) (by rfl) T.a2O T.a1m.kp (oV T) .nil bK (gA (aA (aB (pv 0)) (aA (aB (pv 1)) aD)) Γ))))
  (aE (mZ (ow:=[8]) (i:=3) (aI (by decide)) (λΓ=>mW (i:=3) nd rfl rfl (csc [8] (by kernel_rfl)) (gI (bP K (by rfl) (bM (aB (pv 1)) ge_int (λ_ _=>rfl))) Γ) (λ_ _ _ _=>(aH (i:=8) nd rfl (Or.inl rfl) (.inr rfl))) (aO (by decide)) (λ_ _ _ _=>(jX (cA (wJ b.units) (lO (neg:=true)) (aB (pv 8)) (bM (aB (pv 0)) ge_int (λ_ _=>rfl)) (by with_unfolding_all rfl)))) (λ_ _ _ _=>gE (bJ (aB (pv 8))) Γ) rfl))
  (aE (aV (i:=4) nd rfl (Or.inl rfl) (aM (λΓ=>aL d (b.mono (by decide)) (by rfl) T.a3z T.a2y.kp (wW T) .nil bK (gA (aA (aB (pv 1)) (aA (aB (pv 2)) (aA (aB (pv 3)) aD))) Γ))))
  (aE (aV (i:=5) nd rfl (Or.inl rfl) (aM (λΓ=>aL e (b.mono (by decide)) (by rfl) T.a1D T.a0N.kp (fG T) .nil bK (gA (aA (bM (aB (pv 0)) ge_int (λ_ _=>rfl)) (aA (aB (pv 2)) aD)) Γ))))
  (aE (aV (i:=6) nd rfl (Or.inl rfl) (dI aD))
  (aE (eV (own:=[7]) (aI (by decide)) (λΓ=>eE a9d rfl (gI (bP K (by rfl) (bM (aB (pv 0)) ge_int (λ_ _=>rfl))) Γ) (aH (i:=7) nd rfl (Or.inr rfl))
  (gSs (aG (jD (tU uD (λΓ=>lF K (by rfl) a1e F.slot_list_extend F.type_list_extend uC (pv 6) (gA (aA (bT (ow:=[9]) (aI (by decide)) (λΓ=>bR (csc [9] (by kernel_rfl)) (gI (bP K (by rfl) (cH6 (cC6 b) (aB (pv 4)) (aM (λΓ=>aL f (b.mono (by decide)) (by rfl) T.a2C T.a1S.kp (lZ T) .nil bK (gA (aA (aB (pv 7)) (aA (aB (pv 5)) aD)) Γ))) (dI aD) ⟨rfl,rfl,rfl,rfl⟩)) Γ) (λ_ _ _ _=>(aH (i:=9) nd rfl (Or.inl rfl) (.inr rfl))) (aO (by decide)) (λ_ _ _ _=>bO) (λ_ _ _ _=>gE (bJ (aT cW cX (aB (pv 7)) (aB (pv 9)))) Γ))) aD) Γ))))) Γ)))
  (aG (bG (aM (λΓ=>aL g (b.mono (by decide)) (by rfl) T.a3k T.a2v.kp (sP T) .nil bK (gA (aA (aT cW cX (bM (aB (pv 0)) ge_int (λ_ _=>rfl)) (bY iC (λΓ=>cS dG (by rfl) T.a1I cH (gA (aA (aB (pv 3)) aD) Γ)))) (aA (aB (pv 6)) aD)) Γ)))))))))))
def cZ3(T:Txt K mg a)(b:FnOk P w K mg base CX0 1 a.a0t a.a0D ["columns","some"] (dsp 2 bL))(c:FnOk P w K mg base CX0 1 a.a0G a.a1z ["columns","rows"] (dsp 2 eP))(d:FnOk P w K mg base CX0 1 a.picked a.a1B ["row","places"] (dsp 2 cI)):FnOk P w K mg base CX0 2 a.cut a.a3l ["table","columns"] (dsp 2 kZ):=by
 refine aZ T.a3R bY5 (by decide) aZ1 (λcdv A outer s H E e=>?_);have nd:=bY5.nd;unfold aZ1;exact(aE (aV (i:=2) nd rfl (Or.inr rfl) (aM (λΓ=>aL b (e.mono (by decide)) (by rfl) T.a1D T.a0N.kp (fG T) .nil bK (gA (aA (bM (aB (pv 0)) ge_int (λ_ _=>rfl)) (aA (aB (pv 1)) aD)) Γ))))
  (aG (bG (aM (λΓ=>aL c (e.mono (by decide)) (by rfl) T.a3k T.a2v.kp (sP T) .nil bK (gA (aA (aB (pv 1)) (aA (bT (ow:=[3]) (aI (by decide)) (λΓ=>bR (csc [3] (by kernel_rfl)) (gI (bP K (by rfl) (bM (aB (pv 0)) ge_int (λ_ _=>rfl))) Γ) (λ_ _ _ _=>(aH (i:=3) nd rfl (Or.inl rfl) (.inr rfl))) (aO (by decide)) (λ_ _ _ _=>bO) (λ_ _ _ _=>gE (bJ (aM (λΓ=>aL d (e.mono (by decide)) (by rfl) T.a2C T.a1S.kp (lZ T) .nil bK (gA (aA (aB (pv 3)) (aA (aB (pv 2)) aD)) Γ)))) Γ))) aD)) Γ))))))
def aK1(T:Txt K mg a)(c:FnOk P w K mg base CX0 2 a.a0r a.a0R ["question","house"] (dsp 2 eT))(d:FnOk P w K mg base CX0 1 a.a0K a.a1U ["tree"] (dsp 1 jS))(e:FnOk P w K mg base CX0 3 a.joined a.a2z ["one","other"] (dsp 2 nQ))(f:FnOk P w K mg base CX0 2 a.cut a.a3l ["table","columns"] (dsp 2 kZ))(g:FnOk P w K mg base CX0 1 a.a0q a.a0y ["question"] (dsp 1 bC)):FnOk P w K mg base CX0 4 a.a0U a.a1P ["question","house","tree"] (dsp 3 eA):=by
 refine aZ T.a2t sN (by decide) nR (λcdv A outer s H E b=>?_);have nd:=sN.nd;unfold nR;exact(aE (aV (i:=3) nd rfl (Or.inl rfl) (aM (λΓ=>aL c (b.mono (by decide)) (by rfl) T.a2X T.a1L.kp (rK T) .nil bK (gA (aA (aB (pv 0)) (aA (aB (pv 1)) aD)) Γ))))
  (aE (aV (i:=4) nd rfl (Or.inl rfl) (dI aD))
  (aE (eV (own:=[5]) (aI (by decide)) (λΓ=>eE a9d rfl (gI (bP K (by rfl) (aM (λΓ=>aL d (b.mono (by decide)) (by rfl) T.a3K T.a2L.kp (aH8 T) .nil bK (gA (aA (aB (pv 2)) aD) Γ)))) Γ) (aH (i:=5) nd rfl (Or.inl rfl))
  (gSs (aE (cI1 (k:=3) (λΓ=>vO (gE (bJ (aM (λΓ=>aL e (b.mono (by decide)) (by rfl) T.a3T T.a3q.kp (bF8 T) .nil bK (gA (aA (uR b.units (aB (pv 3)) (bM (aB (pv 5)) ge_int (λ_ _=>rfl)) (λ_ _=>rfl)) (aA (uR b.units (aB (pv 3)) (bM (aB (pv 5)) ge_int (λ_ _=>rfl)) (λ_ _=>rfl)) aD)) Γ)))) Γ) (aL5 (pv 3) (gE (aB (pv 5)) Γ) (cH3 b.units))))
  (aG (jD (tT uB (λΓ=>lF K (by rfl) a1e a5g a6g iY (pv 4) (gA (aA (bY bU (λΓ=>aS aX (by rfl) T.a0Z bB (gA (aA (bM (uR b.units (aB (pv 3)) (aB (pv 5)) (λ_ _=>rfl)) ge_int (λ_ _=>rfl)) aD) Γ))) aD) Γ)))))) Γ)))
  (aG (bG (bN (aA (bM (aM (λΓ=>aL f (b.mono (by decide)) (by rfl) T.a3Z T.a3R.kp (cG8 T) .nil bK (gA (aA (uR b.units (aB (pv 3)) (aB (pv 2)) (λ_ _=>rfl)) (aA (aM (λΓ=>aL g (b.mono (by decide)) (by rfl) T.a1l T.a0E.kp (eM T) .nil bK (gA (aA (aB (pv 0)) aD) Γ))) aD)) Γ))) ge_int (λ_ _=>rfl)) (aA (bY iC (λΓ=>cS dG (by rfl) T.a1I cH (gA (aA (aB (pv 4)) aD) Γ))) aD))))))))
def qV(T:Txt K mg a)(b:FnOk P w K mg base CX0 4 a.a0U a.a1P ["question","house","tree"] (dsp 3 eA)):FnOk P w K mg base CX0 5 a.a1G a.a0Q ["_law_question","_law_house","_law_m"] (dsp 3 aP):=by
 refine aZ T.a1H jN (by decide) fN (λcdv A outer s H E c=>?_);have nd:=jN.nd;unfold fN;exact(aE (mZ (ow:=[11,12]) (i:=3) (iP (bF (aI (by decide)) (bF (aI (by decide)) eS))) (λΓ=>mW (i:=3) nd rfl rfl (csc [11,12] (by kernel_rfl)) (gI (bP K (by rfl) (aB (pv 0))) Γ) (λ_ _ _ _=>(cU (n:=2) K rfl rfl (bD (aH (i:=11) nd rfl (Or.inl rfl) (.inr rfl)) (bD (aH (i:=12) nd rfl (Or.inl rfl) (.inr rfl)) eQ)))) (jB (cF (aO (by decide)) (cF (aO (by decide)) jA cG) cG)) (λ_ _ _ _=>bO) (λ_ _ _ _=>gE (bJ (aB (pv 11))) Γ) rfl))
  (aE (aV (i:=4) nd rfl (Or.inl rfl) (bM (aM (λΓ=>aL b (c.mono (by decide)) (by rfl) T.a2U T.a2t.kp (qB T) .nil bK (gA (aA (aB (pv 0)) (aA (aB (pv 1)) (aA (bN (aA (bN (aA (bM (aB (pv 3)) ge_int (λ_ _=>rfl)) (aA (bM (aB (pv 3)) ge_int (λ_ _=>rfl)) aD))) (aA (bM (aB (pv 3)) ge_int (λ_ _=>rfl)) aD))) aD))) Γ))) ge_int (λ_ _=>rfl)))
  (aE (eV (own:=[5]) (aI (by decide)) (λΓ=>eE a9d rfl (gI (tZ (λΓ=>lC (by rfl) T.a2T (gA (aA ge_int aD) Γ)) cL8) Γ) (aH (i:=5) nd rfl (Or.inl rfl))
  (gSs (aE (cL0 (i:=6) (j:=7) (k:=8) (λΓ=>cK9 (i:=6) (j:=7) (k:=8) rfl nd rfl rfl rfl rfl rfl rfl (gA (aA (bM (aB (pv 3)) (aB (pv 5)) (λ_ _=>rfl)) (aA (bM (aB (pv 3)) (aT kI gD (aB (pv 5)) ge_int) (λ_ _=>rfl)) (aA (bM (aB (pv 3)) (aT kI gD (aB (pv 5)) ge_int) (λ_ _=>rfl)) aD))) Γ) rfl))
  (aG (eV (own:=[9]) (aI (by decide)) (λΓ=>eE a9d rfl (gI (bP K (by rfl) (dI (aA (bN (aA (bJ (aB (pv 6))) (aA (bJ (aB (pv 7))) aD))) (aA (bN (aA (bJ (aB (pv 7))) (aA (bJ (aB (pv 6))) aD))) aD)))) Γ) (aH (i:=9) nd rfl (Or.inl rfl))
  (gSs (aG (eV (own:=[10]) (aI (by decide)) (λΓ=>eE a9d rfl (gI (bP K (by rfl) (dI (aA (bN (aA (bJ (aB (pv 9))) (aA (bJ (aB (pv 8))) aD))) (aA (bN (aA (bJ (aB (pv 8))) (aA (bJ (aB (pv 9))) aD))) aD)))) Γ) (aH (i:=10) nd rfl (Or.inl rfl))
  (gSs (aG (iA (cA (sD c.units) (fV (neg:=true)) (aM (λΓ=>aL b (c.mono (by decide)) (by rfl) T.a2U T.a2t.kp (qB T) .nil bK (gA (aA (aB (pv 0)) (aA (aB (pv 1)) (aA (aB (pv 10)) aD))) Γ))) (bN (aA (bJ (aB (pv 4))) (aA (bN (aA (aT kI gD (aT cW cX (aT cY iF (aB (pv 2)) (aB (pv 2))) (aB (pv 2))) ge_int) (aA (aT kI gD (aT cY iF ge_int (aB (pv 2))) ge_int) aD))) aD))) (bZ _)) (aG (bG mY)) cK)) Γ)))) Γ))))) Γ)))
  (aG (bG (kJ (oG c.units) (fV (neg:=false)) (bY bU (λΓ=>aS aX (by rfl) T.a0Z bB (gA (aA (aB (pv 4)) aD) Γ))) (aT kI gD (aT cY iF ge_int (aB (pv 2))) ge_int) (bZ _)))))))
def vJ(T:Txt K mg a):FnOk P w K mg base CX0 1 a.a0x a.a1r ["house"] (dsp 1 gG):=by
 refine aZ T.a2o lV (by decide) iK (λcdv A outer s H E b=>?_);have nd:=lV.nd;unfold iK;exact(aG (bG (dE7 (kK (bY pQ (λΓ=>aS (jI K (by rfl) (by rfl)) (by rfl) T.a3Q lQ (gA (aA (bT (ow:=[1]) (aI (by decide)) (λΓ=>bR (csc [1] (by kernel_rfl)) (gI (bP K (by rfl) (aB (pv 0))) Γ) (λ_ _ _ _=>(aH (i:=1) nd rfl (Or.inl rfl) (.inr rfl))) (aO (by decide)) (λ_ _ _ _=>bO) (λ_ _ _ _=>gE (kJ aF2 nB (bY bU (λΓ=>aS aX (by rfl) T.a0Z bB (gA (aA (aB (pv 1)) aD) Γ))) ge_int (bZ _)) Γ))) aD) Γ)))) (dI (aA (bN aD) aD)) (dI aD))))
def vK(T:Txt K mg a)(c:FnOk P w K mg base CX0 2 a.grouped a.a1N ["table","columns","others"] (dsp 3 fM))(d:FnOk P w K mg base CX0 2 a.cut a.a3l ["table","columns"] (dsp 2 kZ))(e:FnOk P w K mg base CX0 1 a.a0t a.a0D ["columns","some"] (dsp 2 bL)):FnOk P w K mg base CX0 3 a.a0u a.a1u ["tables","gone","column"] (dsp 3 gH):=by
 refine aZ T.a2q lW (by decide) iL (λcdv A outer s H E b=>?_);have nd:=lW.nd;unfold iL;exact(aE (aV (i:=3) nd rfl (Or.inl rfl) (dI aD))
  (aE (eV (own:=[4]) (aI (by decide)) (λΓ=>eE a9d rfl (gI (bP K (by rfl) (aB (pv 0))) Γ) (aH (i:=4) nd rfl (Or.inr rfl))
  (gSs (aG (iA (cA (pS b.units) (lO (neg:=false)) (aB (pv 2)) (bM (aB (pv 4)) ge_int (λ_ _=>rfl)) (by with_unfolding_all rfl)) (aE (aV (i:=5) nd rfl (Or.inl rfl) (bY iC (λΓ=>cS dG (by rfl) T.a1I cH (gA (aA (bT (ow:=[7]) (aI (by decide)) (λΓ=>bR (csc [7] (by kernel_rfl)) (gI (bP K (by rfl) (aB (pv 1))) Γ) (λ_ _ _ _=>(aH (i:=7) nd rfl (Or.inl rfl) (.inr rfl))) (aO (by decide)) (λ_ _ _ _=>(jX (cA (pS b.units) (lO (neg:=false)) (aB (pv 7)) (bM (aB (pv 4)) ge_int (λ_ _=>rfl)) (by with_unfolding_all rfl)))) (λ_ _ _ _=>gE (bJ (aB (pv 7))) Γ))) aD) Γ))))
  (aE (aV (i:=6) nd rfl (Or.inl rfl) (aM (λΓ=>aL c (b.mono (by decide)) (by rfl) T.a3z T.a2y.kp (wW T) .nil bK (gA (aA (aM (λΓ=>aL d (b.mono (by decide)) (by rfl) T.a3Z T.a3R.kp (cG8 T) .nil bK (gA (aA (aB (pv 4)) (aA (aT cW cX (aB (pv 5)) (bN (aA (bJ (aB (pv 2))) aD))) aD)) Γ))) (aA (aB (pv 5)) (aA (bN (aA (bJ (aB (pv 2))) aD)) aD))) Γ))))
  (aG (jD (tT uB (λΓ=>lF K (by rfl) a1e a5g a6g iY (pv 3) (gA (aA (bN (aA (bJ (aM (λΓ=>aL e (b.mono (by decide)) (by rfl) T.a1D T.a0N.kp (fG T) .nil bK (gA (aA (aB (pv 1)) (aA (aB (pv 5)) aD)) Γ)))) (aA (bJ (aB (pv 6))) aD))) aD) Γ))))))) cK)) Γ)))
  (aG (bG (aB (pv 3))))))
def aZ5(T:Txt K mg a):FnOk P w K mg base CX0 1 a.a1Y a.a2B ["end","lists"] (dsp 2 nT):=by
 refine aZ T.a3p wS (by decide) qT (λcdv A outer s H E b=>?_);have nd:=wS.nd;unfold qT;exact(aG (bG (bY pQ (λΓ=>aS (jI K (by rfl) (by rfl)) (by rfl) T.a3Q lQ (gA (aA (bT (ow:=[2]) (aI (by decide)) (λΓ=>bR (csc [2] (by kernel_rfl)) (gI (bP K (by rfl) (aB (pv 1))) Γ) (λ_ _ _ _=>(aH (i:=2) nd rfl (Or.inl rfl) (.inr rfl))) (aO (by decide)) (λ_ _ _ _=>bO) (λ_ _ _ _=>gE (kJ (pS b.units) (lO (neg:=false)) (aB (pv 0)) (aB (pv 2)) (by with_unfolding_all rfl)) Γ))) aD) Γ)))))
def vL(T:Txt K mg a)(c:FnOk P w K mg base CX0 1 a.a0z a.a1k ["question","house"] (dsp 2 dS))(d:FnOk P w K mg base CX0 1 a.a0x a.a1r ["house"] (dsp 1 gG))(e:FnOk P w K mg base CX0 3 a.a0u a.a1u ["tables","gone","column"] (dsp 3 gH))(f:FnOk P w K mg base CX0 1 a.picked a.a1B ["row","places"] (dsp 2 cI))(g:FnOk P w K mg base CX0 1 a.a1Y a.a2B ["end","lists"] (dsp 2 nT))(h:FnOk P w K mg base CX0 2 a.cut a.a3l ["table","columns"] (dsp 2 kZ))(j:FnOk P w K mg base CX0 1 a.a0q a.a0y ["question"] (dsp 1 bC)):FnOk P w K mg base CX0 4 a.a0w a.a1t ["question","house","order"] (dsp 3 gJ):=by
 refine aZ T.a1Z lX (by decide) iM (λcdv A outer s H E b=>?_);have nd:=lX.nd;unfold iM;exact(aE (aV (i:=3) nd rfl (Or.inl rfl) (aM (λΓ=>aL c (b.mono (by decide)) (by rfl) T.a2Q T.a1V.kp (qA T) .nil bK (gA (aA (aB (pv 0)) (aA (aB (pv 1)) aD)) Γ))))
  (aE (aV (i:=4) nd rfl (Or.inl rfl) (aM (λΓ=>aL d (b.mono (by decide)) (by rfl) T.a3x T.a2o.kp (wX T) .nil bK (gA (aA (aB (pv 1)) aD) Γ))))
  (aE (aV (i:=5) nd rfl (Or.inl rfl) (dI aD))
  (aE (aV (i:=6) nd rfl (Or.inl rfl) ge_int)
  (aE (eV (own:=[7,8]) (iP (bF (aI (by decide)) (bF (aI (by decide)) eS))) (λΓ=>eE a9d rfl (gI (uI K (λΓ=>uH K (by rfl) (by rfl) T.a1W eB (gA (aA (aB (pv 2)) aD) Γ))) Γ) (cU (n:=2) K rfl rfl (bD (aH (i:=7) nd rfl (Or.inl rfl)) (bD (aH (i:=8) nd rfl (Or.inl rfl)) eQ)))
  (gSs (aE (aV (i:=9) nd rfl (Or.inl rfl) (aM (λΓ=>aL e (b.mono (by decide)) (by rfl) T.a3y T.a2q.kp (wY T) .nil bK (gA (aA (aB (pv 3)) (aA (aB4 (aB (pv 2)) aQ0 (aQ1 (aB (pv 7)))) (aA (aB (pv 8)) aD))) Γ))))
  (aE (aV (i:=10) nd rfl (Or.inl rfl) (dI aD))
  (aE (eV (own:=[11]) (aI (by decide)) (λΓ=>eE a9d rfl (gI (bP K (by rfl) (aB (pv 4))) Γ) (aH (i:=11) nd rfl (Or.inr rfl))
  (gSs (aE (aV (i:=12) nd rfl (Or.inr rfl) (bT (ow:=[14,15]) (iP (bF (aI (by decide)) (bF (aI (by decide)) eS))) (λΓ=>bR (csc [14,15] (by kernel_rfl)) (gI (bP K (by rfl) (aB (pv 9))) Γ) (λ_ _ _ _=>(cU (n:=2) K rfl rfl (bD (aH (i:=14) nd rfl (Or.inl rfl) (.inr rfl)) (bD (aH (i:=15) nd rfl (Or.inl rfl) (.inr rfl)) eQ)))) (jB (cF (aO (by decide)) (cF (aO (by decide)) jA cG) cG)) (λ_ _ _ _=>bO) (λ_ _ _ _=>gE (cI2 (cC6 b) (aB (pv 15)) (aM (λΓ=>aL f (b.mono (by decide)) (by rfl) T.a2C T.a1S.kp (lZ T) .nil bK (gA (aA (aB (pv 11)) (aA (aB (pv 14)) aD)) Γ))) (λ_ _=>rfl)) Γ))))
  (aE (aV (i:=13) nd rfl (Or.inl rfl) (bY bH3 (λΓ=>cJ3 (by rfl) (by rfl) T.a4s bF5 (by rfl) T.a0Z bB (gA (aA (aB (pv 12)) aD) Γ))))
  (aE (cK8 (i:=6) (λΓ=>cO8 (i:=6) nd rfl (Or.inl rfl) (gE (aT cY iF (bY bU (λΓ=>aS aX (by rfl) T.a0Z bB (gA (aA (aB (pv 13)) aD) Γ))) (bY bU (λΓ=>aS aX (by rfl) T.a0Z bB (gA (aA (aB (pv 12)) aD) Γ)))) Γ) cO9))
  (aG (jD (tU uD (λΓ=>lF K (by rfl) a1e F.slot_list_extend F.type_list_extend uC (pv 10) (gA (aA (bT (ow:=[16]) (aI (by decide)) (λΓ=>bR (csc [16] (by kernel_rfl)) (gI (bP K (by rfl) (aB (pv 13))) Γ) (λ_ _ _ _=>(aH (i:=16) nd rfl (Or.inl rfl) (.inr rfl))) (aO (by decide)) (λ_ _ _ _=>(jX (kK (aM (λΓ=>aL g (b.mono (by decide)) (by rfl) T.a3W T.a3p.kp (bF9 T) .nil bK (gA (aA (aB (pv 16)) (aA (aB (pv 12)) aD)) Γ)))))) (λ_ _ _ _=>gE (bJ (aT cW cX (aB (pv 11)) (aB (pv 16)))) Γ))) aD) Γ)))))))) Γ)))
  (aE (aV (i:=4) nd rfl (Or.inl rfl) (bJ (aB (pv 10))))
  (aG (jD (tT uB (λΓ=>lF K (by rfl) a1e a5g a6g iY (pv 5) (gA (aA (bY bU (λΓ=>aS aX (by rfl) T.a0Z bB (gA (aA (aB (pv 4)) aD) Γ))) aD) Γ))))))))) Γ)))
  (aG (bG (bN (aA (bM (aM (λΓ=>aL h (b.mono (by decide)) (by rfl) T.a3Z T.a3R.kp (cG8 T) .nil bK (gA (aA (bN (aA (bJ (aB (pv 2))) (aA (bJ (aB (pv 4))) aD))) (aA (aM (λΓ=>aL j (b.mono (by decide)) (by rfl) T.a1l T.a0E.kp (eM T) .nil bK (gA (aA (aB (pv 0)) aD) Γ))) aD)) Γ))) ge_int (λ_ _=>rfl)) (aA (bY iC (λΓ=>cS dG (by rfl) T.a1I cH (gA (aA (aB (pv 5)) aD) Γ))) (aA (bJ (aB (pv 6))) aD)))))))))))
def oW(T:Txt K mg a)(c:FnOk P w K mg base CX0 1 a.a0q a.a0y ["question"] (dsp 1 bC))(d:FnOk P w K mg base CX0 4 a.a0U a.a1P ["question","house","tree"] (dsp 3 eA))(e:FnOk P w K mg base CX0 4 a.a0w a.a1t ["question","house","order"] (dsp 3 gJ)):FnOk P w K mg base CX0 5 a.a1v a.a0L ["_law_question","_law_house","_law_m"] (dsp 3 aN):=by
 refine aZ T.a1E iS (by decide) eU (λcdv A outer s H E b=>?_);have nd:=iS.nd;unfold eU;exact(aE (aV (i:=3) nd rfl (Or.inl rfl) (aM (λΓ=>aL c (b.mono (by decide)) (by rfl) T.a1l T.a0E.kp (eM T) .nil bK (gA (aA (aB (pv 0)) aD) Γ))))
  (aE (aV (i:=4) nd rfl (Or.inl rfl) (bM (aM (λΓ=>aL d (b.mono (by decide)) (by rfl) T.a2U T.a2t.kp (qB T) .nil bK (gA (aA (aB (pv 0)) (aA (aB (pv 1)) (aA (bN (aA (bN (aA (bM (bM (aB (pv 0)) ge_int (λ_ _=>rfl)) ge_int (λ_ _=>rfl)) (aA (bM (bM (aB (pv 0)) ge_int (λ_ _=>rfl)) ge_int (λ_ _=>rfl)) aD))) (aA (bM (bM (aB (pv 0)) ge_int (λ_ _=>rfl)) ge_int (λ_ _=>rfl)) aD))) aD))) Γ))) ge_int (λ_ _=>rfl)))
  (aE (eV (own:=[5]) (aI (by decide)) (λΓ=>eE a9d rfl (gI (bP K (by rfl) (aB (pv 3))) Γ) (aH (i:=5) nd rfl (Or.inl rfl))
  (gSs (aG (eV (own:=[6]) (aI (by decide)) (λΓ=>eE a9d rfl (gI (bP K (by rfl) (aB (pv 3))) Γ) (aH (i:=6) nd rfl (Or.inl rfl))
  (gSs (aG (eV (own:=[7]) (aI (by decide)) (λΓ=>eE a9d rfl (gI (bP K (by rfl) (aB (pv 3))) Γ) (aH (i:=7) nd rfl (Or.inl rfl))
  (gSs (aG (iA (cA (oG b.units) (fV (neg:=false)) (bY sZ (λΓ=>uW (id:="len") (U:="set") (qL rfl) (by rfl) T.a0Z bB (by rfl) T.a4k uK (gA (aA (dI (aA (bJ (aB (pv 5))) (aA (bJ (aB (pv 6))) (aA (bJ (aB (pv 7))) aD)))) aD) Γ))) ge_int (bZ _)) (aE (bN1 (own:=[8,9,10]) (iP (bF (aI (by decide)) (bF (aI (by decide)) (bF (aI (by decide)) eS)))) (λΓ=>vO (gE (bJ (aM (λΓ=>aL e (b.mono (by decide)) (by rfl) T.a3C T.a1Z.kp (wZ T) .nil bK (gA (aA (aB (pv 0)) (aA (aB (pv 1)) (aA (bN (aA (bJ (aB (pv 5))) (aA (bJ (aB (pv 6))) (aA (bJ (aB (pv 7))) aD)))) aD))) Γ)))) Γ) (cU (n:=3) K rfl rfl (bD (aH (i:=8) nd rfl (Or.inl rfl)) (bD (aH (i:=9) nd rfl (Or.inl rfl)) (bD (aH (i:=10) nd rfl (Or.inl rfl)) eQ))))))
  (aG (iA (GW.gt (rE (cA (sD b.units) (fV (neg:=true)) (aB (pv 8)) (aB (pv 4)) (bZ _)) (rE (cA aF2 nB (bY bH4 (λΓ=>aS (aX8 (by rfl)) (by rfl) T.a4r bF4 (gA (aA (aB (pv 9)) aD) Γ))) (aT kI gD (aT cY iF ge_int (aB (pv 2))) ge_int) (bZ _)) (oB (cA (sD b.units) (fV (neg:=true)) (bM (aB (pv 9)) (dE6 cP6 cF4 ge_int) (λ_ _=>rfl)) (aT kI gD (aT cY iF ge_int (aB (pv 2))) ge_int) (bZ _)))))) (aG (bG mY)) cK))) cK)) Γ)))) Γ)))) Γ)))
  (aG (bG mY)))))
def cZ4(T:Txt K mg a)(d:FnOk P w K mg base CX0 1 a.a2P a.a1R ["_law_box_here","_law_many"] (dsp 2 eN))(e:FnOk P w K mg base CX0 1 a.a3n a.a2u ["_law_script","_law_k"] (dsp 2 fJ))(c:FnOk P w K mg base CX0 1 a.hard a.a3s ["m"] (dsp 1 iG))(f:FnOk P w K mg base CX0 6 a.a2x a.a1q ["_law_question","_law_house","_law_m"] (dsp 3 aW))(g:FnOk P w K mg base CX0 5 a.a1G a.a0Q ["_law_question","_law_house","_law_m"] (dsp 3 aP))(h:FnOk P w K mg base CX0 5 a.a1v a.a0L ["_law_question","_law_house","_law_m"] (dsp 3 aN)):FnOk P w K mg base CX0 7 a.law a.a3X ["_law_script"] (dsp 1 nU):=by
 refine aZ T.a4w bY6 (by decide) xS (λcdv A outer s H E b=>?_);have nd:=bY6.nd;unfold xS;exact(aE (eV (own:=[1]) (aI (by decide)) (λΓ=>eE a9d rfl (gI (tZ (λΓ=>lC (by rfl) T.a2T (gA (aA ge_int aD) Γ)) cL8) Γ) (aH (i:=1) nd rfl (Or.inl rfl))
  (gSs (aE (aV (i:=2) nd rfl (Or.inl rfl) (aT cW cX ge_int (aM (λΓ=>aL d (b.mono (by decide)) (by rfl) T.a3J T.a2F.kp (aH6 T) .nil bK (gA (aA (aM (λΓ=>aL e (b.mono (by decide)) (by rfl) T.a3L T.a2V.kp (aT9 T) .nil bK (gA (aA (aB (pv 0)) (aA (aB (pv 1)) aD)) Γ))) (aA ge_int aD)) Γ)))))
  (aE (bN1 (own:=[3,4]) (iP (bF (aI (by decide)) (bF (aI (by decide)) eS))) (λΓ=>vO (gE (bJ (aM (λΓ=>aL c (b.mono (by decide)) (by rfl) T.a3Y T.a3F.kp (bY7 T) .nil bK (gA (aA (aB (pv 2)) aD) Γ)))) Γ) (cU (n:=2) K rfl rfl (bD (aH (i:=3) nd rfl (Or.inl rfl)) (bD (aH (i:=4) nd rfl (Or.inl rfl)) eQ)))))
  (aE (iA (GW.gt (rE (lI (kK (aM (λΓ=>aL f (b.mono (by decide)) (by rfl) T.a3B T.a2m.kp (wV T) .nil bK (gA (aA (aB (pv 3)) (aA (aB (pv 4)) (aA (aB (pv 2)) aD))) Γ))))) (oB (lI (kK (aM (λΓ=>aL g (b.mono (by decide)) (by rfl) T.a2Y T.a1H.kp (rL T) .nil bK (gA (aA (aB (pv 3)) (aA (aB (pv 4)) (aA (aB (pv 2)) aD))) Γ)))))))) (aG (bG mY)) cK)
  (aG (iA (GW.gt (rE (lI (kK (aM (λΓ=>aL h (b.mono (by decide)) (by rfl) T.a2S T.a1E.kp (qC T) .nil bK (gA (aA (aB (pv 3)) (aA (aB (pv 4)) (aA (aB (pv 2)) aD))) Γ))))) (oB (cA (sD b.units) (fV (neg:=true)) (aM (λΓ=>aL c (b.mono (by decide)) (by rfl) T.a3Y T.a3F.kp (bY7 T) .nil bK (gA (aA (aB (pv 2)) aD) Γ))) (bN (aA (bJ (aB (pv 3))) (aA (bJ (aB (pv 4))) aD))) (bZ _))))) (aG (bG mY)) cK))))) Γ)))
  (aG (bG mY)))
end
local macro_rules | `(tactic| walk_at "dx")=>do
 let l:=("dJ6 bN6 bN7 bN8 bN9 bO0 bO1 bO2 bO3 bO4 bO5 bO6 bO7 bO8 bO9 cU3 bP0 aQ7 bP1 bP2 aQ8 aQ9 aR0 bP3 bP4 cU4 bP5 bP6 cU5 bP7 bP8 bP9 bQ0 bQ1 aR1 aR2 bQ2 bQ3 bQ4 bQ5 bQ6 bQ7 aR3 bQ8 bQ9 bR0 bR1 bR2 bR3 bR4 bR5 bR6 bR7 bR8 bR9 bS0 bS1 bS2 bS3 bS4 cU6 aR4 aC0 aR5 bS5 aR6 bT7 bT8 bT9 bU0 bU1 bU2 bU3 bU4 aU5 bU5 aS5 bZ8 bX5 bX6 bX7 bX8 bX9 bY0 bY1 bY2 bU6 bU7 bU8 bU9 bV0 bV1 cV0 cV1 cV2 cV3 bV2 bV4 aS6 aS7 bV5 aS8 bV6 bV7 aS9 aC2 bV8 aT0 bV3 bV9 bW0 bW1 bW2 bW3 bW4 cQ bW5 bW6 bW7 bW8 bS6 bS7 bS8 bS9 bT0 bT1 bT2 bT3 aR8 aR9 aS0 bT4 bT5 bT6 reduceIte".splitOn " ").toArray.map fun s=>Lean.mkIdent s.toName
 let m:=("bW9 bX0 bX1 cG5 cV4 Int.reducePow Int.reduceNeg Int.reduceLT Int.reduceLE Nat.reducePow Nat.reduceLT Int.reduceToNat Nat.reduceLeDiff bX4 bX2 cV5 bX3 aS1 aS2 aS3 aS4 List.set_cons_zero List.set_cons_succ eW bF0 List.length_cons List.length_nil Nat.reduceAdd Nat.zero_add true_and and_true and_self Bool.not_false Bool.not_true Bool.false_eq_true Bool.true_and Bool.and_true Bool.or_false decide_eq_true_eq".splitOn " ").toArray.map fun s=>Lean.mkIdent s.toName
 `(tactic| simp only[$[↓$l:ident],*,$[$m:ident],*])
def sl2:(2<=sizeLine):=by decide
def cL3{a b m:Int}(h:0 < m)(c:m < 18446744073709551616){K:Res->List Sl->Prop}(k:∀ d e f,0<=d->d < m->K (.val (.int d)) [⟨.par,.lst [.int e,.int f]⟩,⟨.val,.int m⟩]):CK eN [⟨.par,.lst [.int a,.int b]⟩,⟨.val,.int m⟩] K:=by
 unfold eN;rw[aR7];show RS fH [_,_,none,none] _;unfold fH;walk_at "dx";rw[cG5 h c];split;exact⟨h,True.intro,k _ _ _ (Int.emod_nonneg _ (by lia)) (a4j _ h)⟩;exact⟨h,k _ _ _ (Int.emod_nonneg _ (by lia)) (a4j _ h)⟩
def aZ6{ns:List Int}{i:Int}(h0:0<=i)(a:i < (ns.length:Int)):∃ c,atI (ns.map D.int) i=some (.int c):=by
 obtain⟨c,b⟩:=cR6 (ys:=ns) h0 a;exact⟨c,by rw[cD1,b];rfl⟩
def cZ5{ns:List Int}{n:Int}(h0:0<=n)(e:n < 1000){K:Res->List Sl->Prop}(k:∀ a b,K (.own (.lst [.int a,.int b])) [⟨.val,.lst (ns.map D.int)⟩,⟨.val,.int n⟩]):CK fJ [⟨.val,.lst (ns.map D.int)⟩,⟨.val,.int n⟩] K:=by
 unfold fJ;rw[aR7];show RS gW [_,_,none,none] _;unfold gW;walk_at "dx";split;rename_i d;obtain⟨c,d⟩:=aZ6 (ns:=ns) h0 (by simpa using d);rw[d];walk_at "dx";exact⟨sl2,k _ _⟩;split;rename_i d;refine⟨d,?_⟩;obtain⟨c,d⟩:=aZ6 (ns:=ns) (i:=n % ((ns.map D.int).length:Int)) (Int.emod_nonneg _ (by lia)) (by have:=a4j n d;simpa using this);rw[d];walk_at "dx";exact⟨sl2,k _ _⟩;exact⟨sl2,k _ _⟩
def bI6{lo:Int}{n i:Nat}{d:D}(h:(aZ9 lo n)[i]? = some d):i < n/\d=.int (lo+i):=by
 unfold aZ9 at h;rw[a8b]at h;cases e:(List.range n)[i]? with
 | none=>rw[e]at h;cases h
 | some k=>
   rw[e]at h;obtain⟨hi,a⟩:=a0a.mp e;rw[List.length_range]at hi;rw[List.getElem_range]at a;subst a;exact⟨hi,(a4a h).symm⟩
noncomputable def qD:D:=.tup [.tup [.str "r",.tup [.str "a",.str "b"]],.tup [.str "s",.tup [.str "b",.str "c"]],.tup [.str "t",.tup [.str "c",.str "a"]]]
noncomputable def rD(m:Int):D:=.tup ((List.range m.toNat).map (λv=>.tup [.int 0,.int v])++(List.range (m.toNat-1)).map λv=>.tup [.int (1+v),.int 0])
noncomputable def hD(m:Int):D:=.tup [rD m,rD m,rD m]
structure Hard(m:Int):Prop where
 hard:iG [⟨.val,.int m⟩]=some (.val (.tup [qD,hD m]),[⟨.val,.int m⟩])
 formed:aW [⟨.val,qD⟩,⟨.val,hD m⟩,⟨.val,.int m⟩]=some (.val (.bl true),[⟨.val,qD⟩,⟨.val,hD m⟩,⟨.val,.int m⟩])
 trees:aP [⟨.val,qD⟩,⟨.val,hD m⟩,⟨.val,.int m⟩]=some (.val (.bl true),[⟨.val,qD⟩,⟨.val,hD m⟩,⟨.val,.int m⟩])
 orders:aN [⟨.val,qD⟩,⟨.val,hD m⟩,⟨.val,.int m⟩]=some (.val (.bl true),[⟨.val,qD⟩,⟨.val,hD m⟩,⟨.val,.int m⟩])
 same:eqD true (.tup [qD,hD m]) (.tup [qD,hD m])=some (.val (.bl false))
def hf1:aW [⟨.val,qD⟩,⟨.val,hD 1⟩,⟨.val,.int 1⟩]=some (.val (.bl true),[⟨.val,qD⟩,⟨.val,hD 1⟩,⟨.val,.int 1⟩]):=by kernel_rfl
def ht1:aP [⟨.val,qD⟩,⟨.val,hD 1⟩,⟨.val,.int 1⟩]=some (.val (.bl true),[⟨.val,qD⟩,⟨.val,hD 1⟩,⟨.val,.int 1⟩]):=by kernel_rfl
def ho1:aN [⟨.val,qD⟩,⟨.val,hD 1⟩,⟨.val,.int 1⟩]=some (.val (.bl true),[⟨.val,qD⟩,⟨.val,hD 1⟩,⟨.val,.int 1⟩]):=by kernel_rfl
def dH5:Hard 1:=⟨by kernel_rfl,hf1,ht1,ho1,by kernel_rfl⟩
def hf2:aW [⟨.val,qD⟩,⟨.val,hD 2⟩,⟨.val,.int 2⟩]=some (.val (.bl true),[⟨.val,qD⟩,⟨.val,hD 2⟩,⟨.val,.int 2⟩]):=by kernel_rfl
def ht2:aP [⟨.val,qD⟩,⟨.val,hD 2⟩,⟨.val,.int 2⟩]=some (.val (.bl true),[⟨.val,qD⟩,⟨.val,hD 2⟩,⟨.val,.int 2⟩]):=by kernel_rfl
def ho2:aN [⟨.val,qD⟩,⟨.val,hD 2⟩,⟨.val,.int 2⟩]=some (.val (.bl true),[⟨.val,qD⟩,⟨.val,hD 2⟩,⟨.val,.int 2⟩]):=by kernel_rfl
def dH6:Hard 2:=⟨by kernel_rfl,hf2,ht2,ho2,by kernel_rfl⟩
def hf3:aW [⟨.val,qD⟩,⟨.val,hD 3⟩,⟨.val,.int 3⟩]=some (.val (.bl true),[⟨.val,qD⟩,⟨.val,hD 3⟩,⟨.val,.int 3⟩]):=by kernel_rfl
def ht3:aP [⟨.val,qD⟩,⟨.val,hD 3⟩,⟨.val,.int 3⟩]=some (.val (.bl true),[⟨.val,qD⟩,⟨.val,hD 3⟩,⟨.val,.int 3⟩]):=by kernel_rfl
def ho3:aN [⟨.val,qD⟩,⟨.val,hD 3⟩,⟨.val,.int 3⟩]=some (.val (.bl true),[⟨.val,qD⟩,⟨.val,hD 3⟩,⟨.val,.int 3⟩]):=by kernel_rfl
def dH7:Hard 3:=⟨by kernel_rfl,hf3,ht3,ho3,by kernel_rfl⟩
def hf4:aW [⟨.val,qD⟩,⟨.val,hD 4⟩,⟨.val,.int 4⟩]=some (.val (.bl true),[⟨.val,qD⟩,⟨.val,hD 4⟩,⟨.val,.int 4⟩]):=by kernel_rfl
def ht4:aP [⟨.val,qD⟩,⟨.val,hD 4⟩,⟨.val,.int 4⟩]=some (.val (.bl true),[⟨.val,qD⟩,⟨.val,hD 4⟩,⟨.val,.int 4⟩]):=by kernel_rfl
def ho4:aN [⟨.val,qD⟩,⟨.val,hD 4⟩,⟨.val,.int 4⟩]=some (.val (.bl true),[⟨.val,qD⟩,⟨.val,hD 4⟩,⟨.val,.int 4⟩]):=by kernel_rfl
def dH8:Hard 4:=⟨by kernel_rfl,hf4,ht4,ho4,by kernel_rfl⟩
def hf5:aW [⟨.val,qD⟩,⟨.val,hD 5⟩,⟨.val,.int 5⟩]=some (.val (.bl true),[⟨.val,qD⟩,⟨.val,hD 5⟩,⟨.val,.int 5⟩]):=by kernel_rfl
def ht5:aP [⟨.val,qD⟩,⟨.val,hD 5⟩,⟨.val,.int 5⟩]=some (.val (.bl true),[⟨.val,qD⟩,⟨.val,hD 5⟩,⟨.val,.int 5⟩]):=by kernel_rfl
def ho5:aN [⟨.val,qD⟩,⟨.val,hD 5⟩,⟨.val,.int 5⟩]=some (.val (.bl true),[⟨.val,qD⟩,⟨.val,hD 5⟩,⟨.val,.int 5⟩]):=by kernel_rfl
def dH9:Hard 5:=⟨by kernel_rfl,hf5,ht5,ho5,by kernel_rfl⟩
def hf6:aW [⟨.val,qD⟩,⟨.val,hD 6⟩,⟨.val,.int 6⟩]=some (.val (.bl true),[⟨.val,qD⟩,⟨.val,hD 6⟩,⟨.val,.int 6⟩]):=by kernel_rfl
def ht6:aP [⟨.val,qD⟩,⟨.val,hD 6⟩,⟨.val,.int 6⟩]=some (.val (.bl true),[⟨.val,qD⟩,⟨.val,hD 6⟩,⟨.val,.int 6⟩]):=by kernel_rfl
def ho6:aN [⟨.val,qD⟩,⟨.val,hD 6⟩,⟨.val,.int 6⟩]=some (.val (.bl true),[⟨.val,qD⟩,⟨.val,hD 6⟩,⟨.val,.int 6⟩]):=by kernel_rfl
def dI0:Hard 6:=⟨by kernel_rfl,hf6,ht6,ho6,by kernel_rfl⟩
def hf7:aW [⟨.val,qD⟩,⟨.val,hD 7⟩,⟨.val,.int 7⟩]=some (.val (.bl true),[⟨.val,qD⟩,⟨.val,hD 7⟩,⟨.val,.int 7⟩]):=by kernel_rfl
def ht7:aP [⟨.val,qD⟩,⟨.val,hD 7⟩,⟨.val,.int 7⟩]=some (.val (.bl true),[⟨.val,qD⟩,⟨.val,hD 7⟩,⟨.val,.int 7⟩]):=by kernel_rfl
def ho7:aN [⟨.val,qD⟩,⟨.val,hD 7⟩,⟨.val,.int 7⟩]=some (.val (.bl true),[⟨.val,qD⟩,⟨.val,hD 7⟩,⟨.val,.int 7⟩]):=by kernel_rfl
def dI1:Hard 7:=⟨by kernel_rfl,hf7,ht7,ho7,by kernel_rfl⟩
noncomputable def ov(b:Bool)(d:D):Option Sl:=if b=true then some ⟨.val,d⟩else none
theorem cZ6{b:Bool}{d:D}{r:Sg}{s:Sl}{K:Sg->Prop}:Dv.PK 0 (ov b d::r) s K=K (some s::r):=by cases b<;>rfl
local macro_rules | `(tactic| walk_at "dx")=>do
 let l:=("cZ6 dJ6 bN6 bN7 bN8 bN9 bO0 bO1 bO2 bO3 bO4 bO5 bO6 bO7 bO8 bO9 cU3 bP0 aQ7 bP1 bP2 aQ8 aQ9 aR0 bP3 bP4 cU4 bP5 bP6 cU5 bP7 bP8 bP9 bQ0 bQ1 aR1 aR2 bQ2 bQ3 bQ4 bQ5 bQ6 bQ7 aR3 bQ8 bQ9 bR0 bR1 bR2 bR3 bR4 bR5 bR6 bR7 bR8 bR9 bS0 bS1 bS2 bS3 bS4 cU6 aR4 aC0 aR5 bS5 aR6 bT7 bT8 bT9 bU0 bU1 bU2 bU3 bU4 aU5 bU5 aS5 bZ8 bX5 bX6 bX7 bX8 bX9 bY0 bY1 bY2 bU6 bU7 bU8 bU9 bV0 bV1 cV0 cV1 cV2 cV3 bV2 bV4 aS6 aS7 bV5 aS8 bV6 bV7 aS9 aC2 bV8 aT0 bV3 bV9 bW0 bW1 bW2 bW3 bW4 cQ bW5 bW6 bW7 bW8 bS6 bS7 bS8 bS9 bT0 bT1 bT2 bT3 aR8 aR9 aS0 bT4 bT5 bT6 reduceIte".splitOn " ").toArray.map fun s=>Lean.mkIdent s.toName
 let m:=("bW9 bX0 bX1 cG5 cV4 Int.reducePow Int.reduceNeg Int.reduceLT Int.reduceLE Nat.reducePow Nat.reduceLT Int.reduceToNat Nat.reduceLeDiff bX4 bX2 cV5 bX3 aS1 aS2 aS3 aS4 List.set_cons_zero List.set_cons_succ eW bF0 List.length_cons List.length_nil Nat.reduceAdd Nat.zero_add true_and and_true and_self Bool.not_false Bool.not_true Bool.false_eq_true Bool.true_and Bool.and_true Bool.or_false decide_eq_true_eq".splitOn " ").toArray.map fun s=>Lean.mkIdent s.toName
 `(tactic| simp only[$[↓$l:ident],*,$[$m:ident],*])
def mQ{d:Int}(h0:0<=d)(a:d < 7):Hard (1+d):=by
 have:d=0\/d=1\/d=2\/d=3\/d=4\/d=5\/d=6:=by lia
 rcases this with rfl | rfl | rfl | rfl | rfl | rfl | rfl;exact dH5;exact dH6;exact dH7;exact dH8;exact dH9;exact dI0;exact dI1
def aZ7{run:Dv.Run}{as:List Sl}{r:Res}{as':List Sl}{K:Res->List Sl->Prop}(e:run as=some (r,as'))(k:K r as'):CK run as K:=aB9.mpr ⟨_,e,k⟩
def bI7(ns:List Int)(hn:ns.length<=63):∃ as',nU [⟨.val,.lst (ns.map D.int)⟩]=some (.val (.bl true),as'):=by
 suffices CK nU [⟨.val,.lst (ns.map D.int)⟩] λr as'=>r=.val (.bl true) by
  obtain⟨⟨r,as'⟩,e,rfl⟩:=aB9.mp this;exact⟨as',e⟩
 unfold nU;rw[aR7];show RS xS [_,none,none,none,none] _;unfold xS;have g:∀ d:Int,0<=d->d < 7->iG [⟨.val,.int (1+d)⟩]=some (.val (.tup [qD,hD (1+d)]),[⟨.val,.int (1+d)⟩]):=λd a b=>(mQ a b).hard;have h:∀ d:Int,0<=d->d < 7->aW [⟨.val,qD⟩,⟨.val,hD (1+d)⟩,⟨.val,.int (1+d)⟩]=some (.val (.bl true),[⟨.val,qD⟩,⟨.val,hD (1+d)⟩,⟨.val,.int (1+d)⟩]):=λd a b=>(mQ a b).formed;have j:∀ d:Int,0<=d->d < 7->aP [⟨.val,qD⟩,⟨.val,hD (1+d)⟩,⟨.val,.int (1+d)⟩]=some (.val (.bl true),[⟨.val,qD⟩,⟨.val,hD (1+d)⟩,⟨.val,.int (1+d)⟩]):=λd a b=>(mQ a b).trees;have k:∀ d:Int,0<=d->d < 7->aN [⟨.val,qD⟩,⟨.val,hD (1+d)⟩,⟨.val,.int (1+d)⟩]=some (.val (.bl true),[⟨.val,qD⟩,⟨.val,hD (1+d)⟩,⟨.val,.int (1+d)⟩]):=λd a b=>(mQ a b).orders;have hs:∀ d:Int,0<=d->d < 7->eqD true (.tup [qD,hD (1+d)]) (.tup [qD,hD (1+d)])=some (.val (.bl false)):=λd a b=>(mQ a b).same;generalize iG=w at g ⊢;generalize aW=x at h ⊢;generalize aP=rt at j ⊢;generalize aN=y at k ⊢;generalize qD=q at g h j k hs;generalize hD=z at g h j k hs;walk_at "dx";refine cG9 (λi v=>∃ (l m n o:Bool) (p s t u:D),v=[some ⟨.val,.lst (ns.map D.int)⟩,ov l p,ov m s,ov n t,ov o u]) ⟨false,false,false,false,.non,.non,.non,.non,rfl⟩ ?_ ?_;rintro i d v hd ⟨l,m,n,o,p,s,t,u,rfl⟩;obtain⟨hi,rfl⟩:=bI6 hd;walk_at "dx";refine cZ5 (by lia) (by lia) λa b=>?_;walk_at "dx";refine cL3 (by decide) (by decide) λd A B c f=>?_;walk_at "dx";refine aZ7 (g d c f) ?_;walk_at "dx";refine aZ7 (h d c f) ?_;walk_at "dx";refine aZ7 (j d c f) ?_;walk_at "dx";refine aZ7 (k d c f) ?_;walk_at "dx";refine aZ7 (g d c f) ?_;walk_at "dx";rw[hs d c f];walk_at "dx";exact⟨sl2,_,.inl rfl,true,true,true,true,_,_,_,_,rfl⟩;rintro σ' ⟨l,m,n,o,p,s,t,u,rfl⟩;walk_at "dx"
noncomputable def adr:Adr:=⟨236,Hd.bL2,229,Hd.bL1,19,Hd.cM5,75,Hd.cM6,80,Hd.cM7,97,Hd.cN0,85,Hd.cM8,90,Hd.cM9,104,Hd.bJ0,111,Hd.bJ1,118,Hd.bJ2,123,Hd.bJ3,130,Hd.bJ4,176,Hd.bK2,241,Hd.bL3,181,Hd.bK3,188,Hd.bK4,215,Hd.bK9,157,Hd.bJ9,147,Hd.bJ7,142,Hd.bJ6,164,Hd.bK0,137,Hd.bJ5,169,Hd.bK1,152,Hd.bJ8,222,Hd.bL0,246,Hd.bL4,193,Hd.bK5,198,Hd.bK6,203,Hd.bK7,208,Hd.bK8,253,Hd.bL5,260,Hd.zT⟩
def kH{K:W.Frag}{x q:Str}{s:Stmt}{f:Addr}{fd:FuncData}(m:Value)(c:Addr)(e:fd=W.fnOf x q (yI s) (mU s) (aJ s) .none .none .none m none (.ref c) .none)(l:K.lookup f=some ⟨.type "function",none,.func fd,#[]⟩)(d:W.codeIn K (.ref c) q=true)(k:W.keepIn K (.ref f)=true):Fun K x q s f fd:=⟨⟨_,_,_,_,_,_,_,_,_,e,l,d⟩,k⟩
def txt{P:Params}{h:Heap}{mg:Str->Option Value}(X:(Hd.KF P).In h)(G:h.Ns mainGlobals mg):Txt (Hd.KF P) mg adr:=⟨a7b X G (by kernel_rfl),
kH (.str "law_mostrows_k43_hard_houses" 485) 235 (by kernel_rfl) (by kernel_rfl) (by kernel_rfl) (by kernel_rfl),
a7b X G (by kernel_rfl),
kH (.str "law_mostrows_k43_hard_houses" 485) 228 (by kernel_rfl) (by kernel_rfl) (by kernel_rfl) (by kernel_rfl),
a7b X G (by kernel_rfl),
kH (.str "mostrows.hard" 187) 18 (by kernel_rfl) (by kernel_rfl) (by kernel_rfl) (by kernel_rfl),
a7b X G (by kernel_rfl),
kH (.str "mostrows.names" 265) 74 (by kernel_rfl) (by kernel_rfl) (by kernel_rfl) (by kernel_rfl),
a7b X G (by kernel_rfl),
kH (.str "mostrows.names" 265) 79 (by kernel_rfl) (by kernel_rfl) (by kernel_rfl) (by kernel_rfl),
a7b X G (by kernel_rfl),
kH (.str "mostrows.questions" 283) 96 (by kernel_rfl) (by kernel_rfl) (by kernel_rfl) (by kernel_rfl),
a7b X G (by kernel_rfl),
kH (.str "mostrows.questions" 283) 84 (by kernel_rfl) (by kernel_rfl) (by kernel_rfl) (by kernel_rfl),
a7b X G (by kernel_rfl),
kH (.str "mostrows.questions" 283) 89 (by kernel_rfl) (by kernel_rfl) (by kernel_rfl) (by kernel_rfl),
a7b X G (by kernel_rfl),
kH (.str "mostrows.questions" 283) 103 (by kernel_rfl) (by kernel_rfl) (by kernel_rfl) (by kernel_rfl),
a7b X G (by kernel_rfl),
kH (.str "mostrows.questions" 283) 110 (by kernel_rfl) (by kernel_rfl) (by kernel_rfl) (by kernel_rfl),
a7b X G (by kernel_rfl),
kH (.str "mostrows.tables" 329) 117 (by kernel_rfl) (by kernel_rfl) (by kernel_rfl) (by kernel_rfl),
a7b X G (by kernel_rfl),
kH (.str "mostrows.tables" 329) 122 (by kernel_rfl) (by kernel_rfl) (by kernel_rfl) (by kernel_rfl),
a7b X G (by kernel_rfl),
kH (.str "mostrows.tables" 329) 129 (by kernel_rfl) (by kernel_rfl) (by kernel_rfl) (by kernel_rfl),
a7b X G (by kernel_rfl),
kH (.str "mostrows.houses" 407) 175 (by kernel_rfl) (by kernel_rfl) (by kernel_rfl) (by kernel_rfl),
a7b X G (by kernel_rfl),
kH (.str "law_mostrows_k43_hard_houses" 485) 240 (by kernel_rfl) (by kernel_rfl) (by kernel_rfl) (by kernel_rfl),
a7b X G (by kernel_rfl),
kH (.str "mostrows.houses" 407) 180 (by kernel_rfl) (by kernel_rfl) (by kernel_rfl) (by kernel_rfl),
a7b X G (by kernel_rfl),
kH (.str "mostrows.houses" 407) 187 (by kernel_rfl) (by kernel_rfl) (by kernel_rfl) (by kernel_rfl),
a7b X G (by kernel_rfl),
kH (.str "mostrows.trees" 459) 214 (by kernel_rfl) (by kernel_rfl) (by kernel_rfl) (by kernel_rfl),
a7b X G (by kernel_rfl),
kH (.str "mostrows.tables" 329) 156 (by kernel_rfl) (by kernel_rfl) (by kernel_rfl) (by kernel_rfl),
a7b X G (by kernel_rfl),
kH (.str "mostrows.tables" 329) 146 (by kernel_rfl) (by kernel_rfl) (by kernel_rfl) (by kernel_rfl),
a7b X G (by kernel_rfl),
kH (.str "mostrows.tables" 329) 141 (by kernel_rfl) (by kernel_rfl) (by kernel_rfl) (by kernel_rfl),
a7b X G (by kernel_rfl),
kH (.str "mostrows.tables" 329) 163 (by kernel_rfl) (by kernel_rfl) (by kernel_rfl) (by kernel_rfl),
a7b X G (by kernel_rfl),
kH (.str "mostrows.tables" 329) 136 (by kernel_rfl) (by kernel_rfl) (by kernel_rfl) (by kernel_rfl),
a7b X G (by kernel_rfl),
kH (.str "mostrows.tables" 329) 168 (by kernel_rfl) (by kernel_rfl) (by kernel_rfl) (by kernel_rfl),
a7b X G (by kernel_rfl),
kH (.str "mostrows.tables" 329) 151 (by kernel_rfl) (by kernel_rfl) (by kernel_rfl) (by kernel_rfl),
a7b X G (by kernel_rfl),
kH (.str "mostrows.treewise" 471) 221 (by kernel_rfl) (by kernel_rfl) (by kernel_rfl) (by kernel_rfl),
a7b X G (by kernel_rfl),
kH (.str "law_mostrows_k43_hard_houses" 485) 245 (by kernel_rfl) (by kernel_rfl) (by kernel_rfl) (by kernel_rfl),
a7b X G (by kernel_rfl),
kH (.str "mostrows.columnwise" 433) 192 (by kernel_rfl) (by kernel_rfl) (by kernel_rfl) (by kernel_rfl),
a7b X G (by kernel_rfl),
kH (.str "mostrows.columnwise" 433) 197 (by kernel_rfl) (by kernel_rfl) (by kernel_rfl) (by kernel_rfl),
a7b X G (by kernel_rfl),
kH (.str "mostrows.columnwise" 433) 202 (by kernel_rfl) (by kernel_rfl) (by kernel_rfl) (by kernel_rfl),
a7b X G (by kernel_rfl),
kH (.str "mostrows.columnwise" 433) 207 (by kernel_rfl) (by kernel_rfl) (by kernel_rfl) (by kernel_rfl),
a7b X G (by kernel_rfl),
kH (.str "law_mostrows_k43_hard_houses" 485) 252 (by kernel_rfl) (by kernel_rfl) (by kernel_rfl) (by kernel_rfl),
a7b X G (by kernel_rfl),
kH (.str "law_mostrows_k43_hard_houses" 485) 259 (by kernel_rfl) (by kernel_rfl) (by kernel_rfl) (by kernel_rfl),
a4d X G (by kernel_rfl),
a4d X G (by kernel_rfl),
a4d X G (by kernel_rfl),
a4d X G (by kernel_rfl),
a4d X G (by kernel_rfl),
a4d X G (by kernel_rfl),
a4d X G (by kernel_rfl),
a4d X G (by kernel_rfl),
a4d X G (by kernel_rfl),
a4d X G (by kernel_rfl),
a4d X G (by kernel_rfl),
a4d X G (by kernel_rfl),
a4d X G (by kernel_rfl),
a4d X G (by kernel_rfl),
a4d X G (by kernel_rfl),
a4d X G (by kernel_rfl),
a4d X G (by kernel_rfl),
⟨331,a7b X G (by kernel_rfl)⟩,
⟨267,a7b X G (by kernel_rfl)⟩,
⟨269,a7b X G (by kernel_rfl)⟩,
⟨287,a7b X G (by kernel_rfl)⟩,
⟨285,a7b X G (by kernel_rfl)⟩,
⟨289,a7b X G (by kernel_rfl)⟩⟩
def cZ7{P:Program}{w:World}{mg:Str->Option Value}{base:Heap}(T:Txt (Hd.KF w.params) mg adr):FnOk P w (Hd.KF w.params) mg base CX0 7 260 Hd.zT ["_law_script"] (dsp 1 nU):=by
 have k:=zO (P:=P) (w:=w) (base:=base) T;have l:=aJ8 (P:=P) (w:=w) (base:=base) T;have m:=cL1 (P:=P) (w:=w) (base:=base) T;have e:=aJ9 (P:=P) (w:=w) (base:=base) T;have n:=lA (P:=P) (w:=w) (base:=base) T e;have o:=nV (P:=P) (w:=w) (base:=base) T e n;have f:=zP (P:=P) (w:=w) (base:=base) T;have a:=vG (P:=P) (w:=w) (base:=base) T;have p:=mO (P:=P) (w:=w) (base:=base) T o f a;have q:=cL2 (P:=P) (w:=w) (base:=base) T p;have r:=zQ (P:=P) (w:=w) (base:=base) T;have s:=aZ2 (P:=P) (w:=w) (base:=base) T r;have t:=mP (P:=P) (w:=w) (base:=base) T s;have u:=vH (P:=P) (w:=w) (base:=base) T t;have v:=vI (P:=P) (w:=w) (base:=base) T q u a;have g:=xT (P:=P) (w:=w) (base:=base) T;have x:=qU (P:=P) (w:=w) (base:=base) T g f;have y:=zR (P:=P) (w:=w) (base:=base) T;have z:=nW (P:=P) (w:=w) (base:=base) T;have b:=aZ3 (P:=P) (w:=w) (base:=base) T;have c:=xU (P:=P) (w:=w) (base:=base) T;have h:=aK0 (P:=P) (w:=w) (base:=base) T b c;have i:=zS (P:=P) (w:=w) (base:=base) T;have A:=aZ4 (P:=P) (w:=w) (base:=base) T z h c b i;have d:=cZ3 (P:=P) (w:=w) (base:=base) T c i b;have j:=aK1 (P:=P) (w:=w) (base:=base) T x y A d a;have B:=qV (P:=P) (w:=w) (base:=base) T j;have C:=vJ (P:=P) (w:=w) (base:=base) T;have D:=vK (P:=P) (w:=w) (base:=base) T h d c;have E:=aZ5 (P:=P) (w:=w) (base:=base) T;have F:=vL (P:=P) (w:=w) (base:=base) T g C D b E d a;have G:=oW (P:=P) (w:=w) (base:=base) T a j F;have H:=cZ4 (P:=P) (w:=w) (base:=base) T k l m v B G;exact H
def bI8:W.WalkO Hd.Vw [] (W.XL Hd.Vw []) (W.InK Hd.KF) PySem.Challenge.rw_mostrows_k43_hard_houses.row.toRowW Hd.dB6 [] (λf vs=>PySem.call f vs):=by
 refine L2.cC5 (l:=PySem.Challenge.rw_mostrows_k43_hard_houses) (K:=Hd.KF) (n:=63) (k:=7) (x:="_law_script") (CX:=λ_=>CX0) (sp:=λw=>dsp 1 nU) rfl (by decide) (by kernel_rfl) ⟨rfl,by decide,by decide⟩ (λw h Y=>Y) (λw mg i h X G e=>?_) (λw _ a ns b c d=>aQ4 (by kernel_rfl) c d (bI7 ns b)) λ_ _ _ _ _ z=>z;have T:=txt X G;have g:=T.a4u.symm.trans e;cases g;exact⟨Hd.zT,λs v=>.of_eq (by kernel_rfl),λbase _ _=>cZ7 T⟩
end Mr
open PySem PySem.W PyProof.Rows
theorem PySem.Challenge.cw_mostrows_k43_hard_houses_holds : PySem.Challenge.rw_mostrows_k43_hard_houses.Holds :=
 Hd.dL3 Mr.bI8
#print axioms PySem.Challenge.cw_mostrows_k43_hard_houses_holds
